import PyProof.Rows.All
import Wide.All
import OpenK.AllK
import Wide.FinOn
import Lean
import PyProof.EqAt
import PyProof.EqKinds
import PyProof.TupleCall
import PyProof.NeKinds
import PyProof.Rows.Range3
import PyProof.FitsBits
import PyProof.StationsW
import PyProof.NsDelKeeps
import PyProof.Rows.CatchOwn
import KE.KTryMore
import PyProof.ExcArgsOwn
import PyProof.ExcAttrAll.ValueError
import OpenK.KOwn
import PyProof.ZipIter
import PyProof.WalksEnum
import PyProof.EnumMake
import KE.KIntText
import PyProof.Conv_int
import PyProof.StrWalks
import PyProof.StrLawsFirst
import KE.KLam
import KE.KNestM
import KE.KRevIter
import PyProof.ListRange
import PyProof.Rows.SortWalk
import PyProof.Rows.SetFrom
import PyProof.FactsAll.set
import PySem.Challenge.RW_mendfield_k17_kernel_found
open Array renaming length_toList→ie,getElem?_eq_getElem→qK,append_assoc→u4,getD→yZ,getElem?_toList→CQ,getElem?_eq_some_iff→LL,getElem?_eq_none→Ma,toList_append→Uy,toList_push→UG
open Bool renaming and_eq_true→du,false_ne_true→ig,or_true→kJ,and_true→mR,true_and→og,or_false→qw,eq_iff_iff→qD,false_and→u6,false_eq_true→vn,not_false→y9,not_true→za,true_or→zb,false_or→zc
open Classical renaming byContradiction→Up
open False renaming elim→eE
open ForInStep renaming yield→Cp
open Int renaming toNat_natCast→dR,natAbs_natCast→gH,emod_nonneg→iX,emod_lt_of_pos→iY,natCast_emod→qG,natCast_mul→vo,toNat_of_nonneg→yS,toNat→yT,natCast_add→CF,natCast_nonneg→LD,zero_add→LV,fdiv_eq_ediv_of_nonneg→Uh
open List renaming getElem?_eq_getElem→aN,getD_eq_getElem?_getD→aQ,range→aR,replicate→aT,length_map→bO,mem_map→bP,mem_cons→bU,mem_append→cx,getElem?_map→cy,length_range→cV,size_toArray→dq,all_eq_true→dy,map_map→dG,mem_range→dO,mem_append_right→dQ,map_cons→dW,all_cons→dX,append_assoc→dY,getElem_mem→eF,mem_append_left→e7,mem_singleton→e8,lookup_cons→fc,length_append→fB,getElem_of_mem→fC,zipWith→fE,mem_cons_of_mem→fQ,nodup_cons→ij,not_mem_nil→ik,getElem?_eq_none→iq,set_cons_zero→ir,set_cons_succ→iu,getElem?_eq_some_iff→iW,length_cons→jh,length_replicate→jj,map_append→jQ,lookup→kB,append_nil→kC,length_take→kD,mem_cons_self→mF,map_nil→mI,length_drop→mJ,length_set→mM,perm_append_comm→mP,getElem?_range→mQ,mem_of_getElem?→n6,replicate_succ→n8,cons.inj→oh,all_map→oi,getElem?_zipWith→om,getElem?_cons_zero→oq,getElem?_cons_succ→ou,filterMap_cons→qq,getElem?_set_ne→qt,flatten_cons→qA,nil_append→qB,all_nil→qE,map_congr_left→qF,ext_getElem→qH,getElem_map→qI,length_zipWith→qJ,mem_filter→u5,getElem?_append_right→u7,getElem?_replicate→u9,getElem?_append_left→va,foldl_cons→vd,cons_append→vg,pairwise_cons→vk,of_mem_zip→yG,take_add_one→yM,take_of_length_le→yN,mem_of_mem_take→yO,getElem?_mapIdx→yP,foldl_append→yU,pairwise_iff_getElem→yX,length_nil→y7,cons.injEq→y8,getElem?_set_self→Cf,length→Cg,reverse_cons→Cj,append_eq_nil_iff→Ct,append_inj→Cu,mem_of_mem_drop→Cy,ext_getElem?→Cz,map→CA,map_zipWith→CB,any_eq_true→CC,mem_map_of_mem→CG,zip→CH,length_zip→CI,contains_iff_mem→CK,getElem_range→CN,Perm.refl→CO,length_filter_le→CW,getElem?_eq_none_iff→LC,Pairwise.nil→LG,take_length→LN,Sublist.refl→LO,set_set→LP,mem_replicate→LQ,map_drop→LR,map_take→LS,drop_eq_nil_of_le→LU,zipWith_map→LW,mem_or_eq_of_mem_set→LX,map_id→LZ,map_replicate→L0,findIdx_lt_length_of_exists→L4,range_succ→L5,findIdx?_eq_some_iff_getElem→L6,findIdx?_eq_none_iff→L7,mem_filterMap→Ug,length_reverse→Uj,set_eq_of_length_le→Ur,eq_nil_iff_forall_not_mem→Us,filter_eq_self→Ut,filter_append→Uu,range_succ_eq_map→Uv,mem_of_find?_eq_some→Uw,getElem?_take→Ux,zip_cons_cons→Uz,sublist_cons_self→UA,Pairwise.filter→UC,countP_eq_length_filter→UD,pairwise_lt_range→UE,take_append_drop→UJ,length_eq_zero_iff→UK,length_eraseIdx→UL,mem_erase_of_ne→UO,length_erase_of_mem→UP
open Nat renaming le_refl→aZ,lt_of_lt_of_le→cG,ne_of_lt→cR,le_trans→dP,lt_irrefl→fP,zero_le→ji,shiftLeft_eq→jk,xor_zero→jP,mul_comm→kF,testBit_xor→kG,lt_of_le_of_lt→kH,not_lt→kI,zero_xor→mO,le_of_lt→nZ,pow_succ→n9,xor_assoc→oa,mod_lt→oj,lt_succ_self→qv,mul_assoc→qC,two_pow_pos→ve,mul_mod→vh,lt_succ_of_lt→vi,lt_or_ge→vj,succ.inj→vm,ne_of_gt→yC,le_of_eq→yE,le_succ→yF,le_of_not_lt→yH,pow_le_pow_right→yI,eq_of_testBit_eq→yJ,testBit_zero→yK,xor_self→yL,sub_self→yQ,mod_eq_of_lt→yR,not_lt_zero→yV,le_of_succ_le→yW,testBit_lt_two_pow→Cm,testBit_succ→Cn,strongRecOn→Co,min_self→Cv,mod_add_mod→CD,add_sub_cancel_left→CJ,lt_trichotomy→CM,one_shiftLeft→CV,xor_comm→LH,testBit_and→LJ,mod_mod→LY,testBit_eq_decide_div_mod_eq→Uk,shiftLeft_xor_distrib→Ul,mul_lt_mul_right→Um,testBit_shiftLeft→Uo,shiftRight_eq_div_pow→Uq,exists_eq_add_of_le→UB
open Ne renaming symm→dF
open Option renaming some.inj→cM,some.injEq→mS,getD_none→qy,getD_some→vf,map_some→y0,map_none→y6,none→Ck,map_eq_some_iff→Cw,isSome_iff_exists→Ui
open Or renaming inl→aq,inr→bh
open PyProof renaming Rows.callWith_type1→yD,Rows.F.plain_set_update_loop→L9
open PySem renaming Heap.lt_size→br,Heap.get?_push_of_some→cm,Heap.get?_push_size→dn,Value.ref→eD,SetTable.below→eX,PassesOwn.never→fF,Value.int→gG,Value.none→ib,Heap.size_push→jO,Heap.get?_update_other→kE,Value.type→mE,Builtin.bitAnd→mG,Builtin.bitXor→mH,Obj.mapSeq→mL,Heap.SameBut→n5,F.called_set→oo,SetTable.grown→qL,Heap.get?_update_self→vb,SetTable.below.go→yY,Value.bool→Ce,SeqAt.EqAt→Ci,Obj.data_mapFields→Cq,Value.type.inj→Cr,Builtin.Str.strSliceIndices→Cs,NameKind.cell→CL,Around.under_plainId→CP,Str.ofString→CS,F.slot_set_iter→CT,Builtin.Frozenset.sizeOf→CU,Value.isInt_shape→LB,Builtin.List.listTooLong→LF,Obj.isFreed_of_fields→LK,Heap.MadeExcOf→LM,SetTable.probe.go→L8,Calls.Name_function_global→Ue,Builtin.List.listLengthHint→UI,Builtin.List.listExtendWith→UM,Builtin.List.listSameRef→UN
open String renaming splitOnAux→UH
open Sum renaming inl→qo,inr→qp
open True renaming intro→qu
set_option Elab.async false
set_option linter.all false
set_option maxRecDepth 100000
namespace L2
open PySem PySem.Spec PyProof.Rows
noncomputable abbrev Key:=Sum Int Str
noncomputable def Mb:Key->Value->Bool
 | .inl k,v=>Value.isInt k v
 | .inr x,v=>Value.isStrOf x v
noncomputable def UQ(w:World):Key->Int
 | .inl k=>hashInt k
 | .inr x=>hashStr w x
theorem kK:∀{k:Key} {v:Value},Mb k v=true->(∃i t,k=qo i/\v=gG i t)\/(∃x t,k=qp x/\v=Value.str x t)
 | .inl i,v,h=>by
  obtain⟨t,e⟩:=LB (k:=i) (v:=v) h
  exact .inl ⟨i,t,rfl,e⟩
 | .inr x,v,h=>by
  obtain⟨t,e⟩:=Value.isStrOf_shape (x:=x) (v:=v) h
  exact .inr ⟨x,t,rfl,e⟩
theorem UR(a b:Int):decide ((qo a:Key)=qo b)=(a==b):=by
 by_cases e:a=b
 ·subst e;simp
 ·have h:¬ (qo a:Key)=qo b:=λq=>e (Sum.inl.inj q)
  rw[decide_eq_false h]
  exact(beq_eq_false_iff_ne.mpr e).symm
theorem US(a b:Str):decide ((qp a:Key)=qp b)=decide (a=b):=by
 by_cases e:a=b
 ·subst e;simp
 ·have h:¬ (qp a:Key)=qp b:=λq=>e (Sum.inr.inj q)
  rw[decide_eq_false h,decide_eq_false e]
theorem UT(a:Int)(b:Str):decide ((qo a:Key)=qp b)=false:=decide_eq_false (λq=>nomatch q)
theorem UU(a:Str)(b:Int):decide ((qp a:Key)=qo b)=false:=decide_eq_false (λq=>nomatch q)
noncomputable def Mc(prog:Program)(w:World):PySem.KeyKind prog w Key where
 is:=Mb
 hash:=UQ w
 inj:=λv a b ha hb=>by
  rcases kK ha with⟨i,t,rfl,rfl⟩ | ⟨x,t,rfl,rfl⟩
  ·rcases kK hb with⟨j,u,rfl,e⟩ | ⟨y,u,rfl,e⟩
   ·injection e with e1 _;rw[e1]
   ·exact nomatch e
  ·rcases kK hb with⟨j,u,rfl,e⟩ | ⟨y,u,rfl,e⟩
   ·exact nomatch e
   ·injection e with e1 _;rw[e1]
 byValue:=λk v h=>by
  rcases kK h with⟨i,t,rfl,rfl⟩ | ⟨x,t,rfl,rfl⟩<;>rfl
 pyHash:=λhv h=>by
  rcases kK hv with⟨i,t,rfl,rfl⟩ | ⟨x,t,rfl,rfl⟩
  ·exact wpAny_pyHash_int h
  ·exact wpAny_pyHash_str h
 eqBool:=λhu hv h=>by
  rcases kK hu with⟨i,t,rfl,rfl⟩ | ⟨x,t,rfl,rfl⟩
  ·rcases kK hv with⟨j,u,rfl,rfl⟩ | ⟨y,u,rfl,rfl⟩
   ·rw[UR]at h;exact wpAny_eqBool_int h
   ·rw[UT]at h;exact SeqAt.EqAt.int_str i t y u _ _ _ _ h
  ·rcases kK hv with⟨j,u,rfl,rfl⟩ | ⟨y,u,rfl,rfl⟩
   ·rw[UU]at h;exact SeqAt.EqAt.str_int x t j u _ _ _ _ h
   ·rw[US]at h;exact wpAny_eqBool_str h
 «strs»:=λk x t v h=>by
  rcases kK h with⟨i,u,rfl,e⟩ | ⟨y,u,rfl,e⟩
  ·exact nomatch e
  ·injection e with e1 _
   subst e1
   cases v<;>rfl
end L2
namespace L2
open PySem PySem.Spec PyProof.Rows
inductive V where
 | ak | bl (b:Bool) | int (i:Int) | str (x:Str) | zd (b:Array UInt8) | oy (b:UInt64) | ref (a:Addr) | ty (n:String)
 deriving DecidableEq
noncomputable def RelV:V->Value->Prop
 | .ak,u=>u=ib
 | .bl b,u=>u=Ce b
 | .int i,u=>∃t,u=gG i t
 | .str x,u=>∃t,u=Value.str x t
 | .zd b,u=>∃t,u=Value.bytes b t
 | .oy b,u=>∃t,u=Value.float b t
 | .ref a,u=>u=eD a
 | .ty n,u=>u=mE n
noncomputable abbrev Vals:List V->List Value->Prop:=Paired RelV
theorem Vals.length{xs:List V}{us:List Value}(r:Vals xs us):xs.length=us.length:=Paired.length r
theorem Vals.get:∀{xs:List V} {us:List Value} {i:Nat} {x:V},Vals xs us->xs[i]?=some x->∃u,us[i]?=some u/\RelV x u
 | _,_,_,_,.nil,e=>by simp at e
 | _,_,0,_,.cons r _,e=>by simp at e;subst e;exact⟨_,rfl,r⟩
 | _,_,i+1,x,.cons _ t,e=>by
  obtain⟨u,h1,h2⟩:=Vals.get (i:=i) (x:=x) t (by simpa using e)
  exact⟨u,by simpa using h1,h2⟩
theorem Vals.set{x:V}{u:Value}(r:RelV x u):∀{xs:List V} {us:List Value} (i:Nat),Vals xs us->Vals (xs.set i x) (us.set i u)
 | _,_,_,.nil=>.nil
 | _,_,0,.cons _ t=>.cons r t
 | _,_,i+1,.cons q t=>.cons q (Vals.set r i t)
theorem Vals.append:∀{xs ys:List V} {us ws:List Value},Vals xs us->Vals ys ws->Vals (xs++ys) (us++ws)
 | _,_,_,_,.nil,s=>s
 | _,_,_,_,.cons r t,s=>.cons r (Vals.append t s)
theorem Vals.take:∀{xs:List V} {us:List Value} (n:Nat),Vals xs us->Vals (xs.take n) (us.take n)
 | _,_,0,_=>.nil
 | _,_,_+1,.nil=>.nil
 | _,_,n+1,.cons r t=>.cons r (Vals.take n t)
theorem Vals.drop:∀{xs:List V} {us:List Value} (n:Nat),Vals xs us->Vals (xs.drop n) (us.drop n)
 | _,_,0,r=>r
 | _,_,_+1,.nil=>.nil
 | _,_,n+1,.cons _ t=>Vals.drop n t
theorem Vals.none_of:∀{xs:List V} {us:List Value} {i:Nat},Vals xs us->xs[i]?=none->us[i]?=none:=λ{xs us i} r e=>by
 have h1:=r.length
 have h2:xs.length<=i:=LC.mp e
 exact LC.mpr (by omega)
noncomputable def jR:Option V->Option Value->Prop
 | some v,some u=>RelV v u
 | none,none=>True
 | _,_=>False
noncomputable def KV{κ:Type}:List (κ × V)->List (κ × Value)->Prop:=Paired λ(p:κ × V) (q:κ × Value)=>p.1=q.1/\RelV p.2 q.2
noncomputable def kV:Key->V
 | .inl i=>.int i
 | .inr x=>.str x
inductive HO where
 | lst (xs:List V)
 | tup (xs:List V)
 | dK (cS:List (Key × V)) | dT (cS:List (List Key × V))
 | set (S:Int->Bool) (n:Nat)
 | ins (C dx:Addr) (fs:List (Str × V))
 | own (x:Addr)
 | xd (fs:List (Str × V))
 | met (f x:Addr)
 | vp (lo hi:Int)
 | bQ (o:Obj) (u:HO)
 | cP (ps:Array Value)
 | ext (φ:Heap->Prop)
noncomputable abbrev Hp:=Addr->Option HO
noncomputable def upd(H:Hp)(a:Addr)(o:HO):Hp:=λb=>if b=a then some o else H b
theorem bW{H:Hp}{a:Addr}{o:HO}:upd H a o a=some o:=by unfold upd;rw[if_pos rfl]
theorem aP{H:Hp}{a b:Addr}{o:HO}(h:b≠a):upd H a o b=H b:=by unfold upd;rw[if_neg h]
theorem dZ{H:Hp}{a b:Addr}{o:HO}(h:H a=some o)(h':H b=none):a≠b:=by
 intro e;subst e;rw[h]at h';cases h'
section
variable(P:Program)(w:World)
noncomputable def cW(H:Hp)(h:Heap)(a:Addr):HO->Prop
 | .lst xs=>xs.length<=sizeLine/\∃(its:List Value) (n:Nat),Vals xs its/\h.get? a=some { cls:=.type "list",data:=.seq its.toArray n }
 | .tup xs=>xs.length<=sizeLine/\∃its:List Value,Vals xs its/\IsTup h a its.toArray
 | .dK cS=>cS.length<=sizeLine/\(a==sysModules)=false/\∃vs,KV cS vs/\h.DictOf (Mc P w) a vs
 | .dT cS=>cS.length<=sizeLine/\(a==sysModules)=false/\∃xs:List (List Key × Addr × Value),
   Paired (λ(p:List Key × V) (q:List Key × Addr × Value)=>p.1=q.1/\H q.2.1=some (.tup (p.1.map kV))/\RelV p.2 q.2.2) cS xs /\
   ∃o es ep,h.get? a=some o/\o.ExactDict/\o.data=.dict es ep/\es.toList=xs.map (entryOfKey (tupleKind (Mc P w)))/\(xs.map (·.1)).Nodup
 | .set S n=>h.SetOf (intKind P w) a S n
 | .ins C dx fs=>H dx=some (.own a)/\fs.length<=1000/\dx≠a/\h.get? a=some (PySem.W.instObj C dx) /\
   ∃mA,h.Ns1 dx mA/\(∀f,jR (fs.lookup f) (mA f))/\PySem.Within mA (fs.map (·.1))
 | .own _=>∃o,h.get? a=some o
 | .xd fs=>∃mA,h.Ns1 a mA/\∀f,jR (fs.lookup f) (mA f)
 | .vp lo hi=>∃t u v,h.get? a=some { cls:=.type "range",data:=.fields #[.int lo t,.int hi u,.int 1 v] }
 | .bQ o u=>h.get? a=some o/\cW H h a u
 | .cP ps=>h.get? a=some { cls:=.none,data:=.fields ps }/\TriplesOk ps.toList/\∀pos cv,codeAmong pos ps.toList=some cv->∃c φ,cv=.ref c/\H c=some (.ext φ)/\∀h',φ h'->∃q,h'.CodeRec (.ref c) q
 | .met f x=>h.get? a=some (PySem.W.methodObj (.ref f) (.ref x))
 | .ext φ=>φ h/\(∃o,h.get? a=some o)/\∀h1 h2:Heap,φ h1->(∀b o,(b=a\/H b=some (.own a))->h1.get? b=some o->h2.get? b=some o)->φ h2
noncomputable def cn(H:Hp)(h:Heap):Prop:=∀a o,H a=some o->cW P w H h a o
end
section
variable{P:Program}{w:World}{H H':Hp}{h h':Heap}{a:Addr}{o:HO}
theorem cW.lt(x:cW P w H h a o):a<h.objs.size:=by
 cases o with
 | lst xs=>obtain⟨_,_,_,_,e⟩:=x;exact br e
 | tup xs=>obtain⟨_,_,_,p⟩:=x;exact p.lt
 | dK cS=>obtain⟨_,_,_,_,o,_,_,e,_⟩:=x;exact br e
 | dT cS=>obtain⟨_,_,_,_,o,_,_,e,_⟩:=x;exact br e
 | set S n=>obtain⟨o,_,_,_,e,_⟩:=x;exact br e
 | ins C dx fs=>obtain⟨_,_,_,e,_⟩:=x;exact br e
 | own y=>obtain⟨_,e⟩:=x;exact br e
 | xd fs=>obtain⟨_,⟨_,_,_,e,_⟩,_⟩:=x;exact br e
 | vp lo hi=>obtain⟨_,_,_,e⟩:=x;exact br e
 | bQ ob u=>obtain⟨e,_⟩:=x;exact br e
 | cP ps=>exact br (show h.get? a=some _ from x.1)
 | met f y=>exact br (show h.get? a=some _ from x)
 | ext φ=>obtain⟨_,⟨_,e⟩,_⟩:=x;exact br e
theorem Paired.CY{α β:Type}{F G:α->β->Prop}:∀{l₁:List α} {l₂:List β},Paired F l₁ l₂->(∀a b,F a b->G a b)->Paired G l₁ l₂
 | _,_,.nil,_=>.nil
 | _,_,.cons r t,f=>.cons (f _ _ r) (Paired.CY t f)
theorem cW.iZ(x:cW P w H h a o)(k:∀b u,(b=a\/H b=some (.own a))->h.get? b=some u->h'.get? b=some u)
  (ho:∀b,H b=some (.own a)->H' b=some (.own a)) (ht:∀b xs,H b=some (.tup xs)->H' b=some (.tup xs)) (hx:∀b φ,H b=some (.ext φ)->H' b=some (.ext φ)):cW P w H' h' a o:=by
 induction o with
 | lst xs=>obtain⟨z,its,n,r,e⟩:=x;exact⟨z,its,n,r,k _ _ (.inl rfl) e⟩
 | tup xs=>obtain⟨z,its,r,ob,e,c⟩:=x;exact⟨z,its,r,ob,k _ _ (.inl rfl) e,c⟩
 | dK cS=>obtain⟨z,y,vs,r,ob,es,ep,e,c⟩:=x;exact⟨z,y,vs,r,ob,es,ep,k _ _ (.inl rfl) e,c⟩
 | dT cS =>
  obtain⟨z,y,xs,r,ob,es,ep,e,c⟩:=x
  exact⟨z,y,xs,Paired.CY r λp q z=>⟨z.1,ht _ _ z.2.1,z.2.2⟩,ob,es,ep,k _ _ (.inl rfl) e,c⟩
 | set S n=>obtain⟨ob,es,ep,t,e,c⟩:=x;exact⟨ob,es,ep,t,k _ _ (.inl rfl) e,c⟩
 | ins C dx fs =>
  obtain⟨d,z,ne,e,mA,⟨od,es,ep,e2,c⟩,r⟩:=x
  exact⟨ho _ d,z,ne,k _ _ (.inl rfl) e,mA,⟨od,es,ep,k _ _ (.inr d) e2,c⟩,r⟩
 | own y=>obtain⟨ob,e⟩:=x;exact⟨ob,k _ _ (.inl rfl) e⟩
 | xd fs=>obtain⟨mA,⟨od,es,ep,e,c⟩,r⟩:=x;exact⟨mA,⟨od,es,ep,k _ _ (.inl rfl) e,c⟩,r⟩
 | vp lo hi=>obtain⟨t,u,v,e⟩:=x;exact⟨t,u,v,k _ _ (.inl rfl) e⟩
 | bQ ob u ih=>obtain⟨e,q⟩:=x;exact⟨k _ _ (.inl rfl) e,ih q⟩
 | cP ps =>
  obtain⟨e,t,c⟩:=x
  refine⟨k a _ (.inl rfl) e,t,λpos cv q=>?_⟩
  obtain⟨d,φ,e1,e2,e3⟩:=c pos cv q
  exact⟨d,φ,e1,hx _ _ e2,e3⟩
 | met f y =>
  have e:h.get? a=some (PySem.W.methodObj (.ref f) (.ref y)):=x
  show h'.get? a=some (PySem.W.methodObj (.ref f) (.ref y))
  exact k a _ (.inl rfl) e
 | ext φ=>obtain⟨p,⟨o,e⟩,st⟩:=x;exact⟨st _ _ p λb o hb q=>k _ _ hb q,⟨o,k _ _ (.inl rfl) e⟩,λh1 h2 p1 kk=>st h1 h2 p1 λb o hb q=>kk b o (hb.imp id (ho b)) q⟩
theorem cn.lt(x:cn P w H h)(e:H a=some o):a<h.objs.size:=(x a o e).lt
theorem cn.fresh(x:cn P w H h)(e:h.objs.size<=a):H a=none:=by
 cases q:H a with
 | none=>rfl
 | some u=>exact absurd (cG (x.lt q) e) (fP _)
theorem cn.kept(x:cn P w H h)(k:∀b u,h.get? b=some u->h'.get? b=some u):cn P w H h':=λa o e =>
 (x a o e).iZ (λb u _ q=>k b u q) (λ_ q=>q) (λ_ _ q=>q) λ_ _ q=>q
theorem cn.laid(x:cn P w H h)(k:∀b u,h.get? b=some u->h'.get? b=some u)(hp:h.objs.size<=a)(new:cW P w (upd H a o) h' a o):cn P w (upd H a o) h':=λb u e=>by
 have hn:=x.fresh hp
 by_cases hb:b=a
 ·subst hb;rw[bW]at e;cases e;exact new
 ·rw[aP hb]at e
  exact(x b u e).iZ (λc v _ q=>k c v q) (λc q=>by rw[aP (dZ q hn)];exact q) (λc xs q=>by rw[aP (dZ q hn)];exact q) λc xs q=>by rw[aP (dZ q hn)];exact q
end
noncomputable def Rd(H:Hp)(a:Addr)(u:HO):Prop:=H a=some u\/∃o,H a=some (.bQ o u)
theorem Rd.of{H:Hp}{a:Addr}{u:HO}(h:H a=some u):Rd H a u:=.inl h
theorem Rd.ok{P:Program}{w:World}{H:Hp}{h:Heap}{a:Addr}{u:HO}(r:Rd H a u)(x:cn P w H h):cW P w H h a u:=by
 rcases r with r | ⟨o,r⟩
 ·exact x a u r
 ·obtain⟨_,q⟩:=x a _ r
  exact q
noncomputable def ze:Option HO->Prop
 | some (.lst _)=>True
 | some (.dK _)=>True
 | some (.dT _)=>True
 | some (.set _ _)=>True
 | some (.ins _ _ _)=>True
 | _=>False
section
variable{P:Program}{w:World}{H:Hp}{h h':Heap}{x e:Addr}{o':HO}
theorem cn.write(ok:cn P w H h)(mu:ze (H x))(he:e=x\/H e=some (.own x))(k:∀b u,b≠e->h.get? b=some u->h'.get? b=some u)(qM:∃u,h'.get? e=some u)
  (new:cW P w (upd H x o') h' x o'):cn P w (upd H x o') h':=λb u q=>by
 have Md:∀c y,H c=some (.own y)->c≠x:=λc y r z=>by subst z;rw[r]at mu;exact mu
 have UW:∀c xs,H c=some (.tup xs)->c≠x:=λc xs r z=>by subst z;rw[r]at mu;exact mu
 by_cases hb:b=x
 ·subst hb;rw[bW]at q;cases q;exact new
 ·rw[aP hb]at q
  by_cases oA:b=e
  ·have q':H b=some (.own x):=by
    rcases he with z | z
    ·exact absurd (oA.trans z) hb
    ·rw[oA];exact z
   rw[q]at q';cases q'
   obtain⟨v,hv⟩:=qM
   exact⟨v,by rw[oA];exact hv⟩
  ·refine(ok b u q).iZ (λc v hc r=>k c v ?_ r) (λc r=>by rw[aP (Md c b r)];exact r) (λc xs r=>by rw[aP (UW c xs r)];exact r) λc φ r=>by rw[aP (λz=>by rw[z]at r;rw[r]at mu;exact mu)];exact r
   rcases hc with rfl | hc
   ·exact oA
   ·rintro rfl
    rcases he with z | z
    ·exact Md c b hc z
    ·rw[hc]at z;cases z;exact hb rfl
end
structure Un(fs ex:List Addr)(H H':Hp)(h h':Heap):Prop where
 keep:∀b o,h.get? b=some o->H b=none->b ∉ fs->b ∉ ex->h'.get? b=some o
 slot:∀b o,h.get? b=some o->H b=none->b∈fs->b ∉ ex->∃sl,h'.get? b=some { o with slots:=sl }
 free:∀b o,h.get? b=some o->H b=none->b ∉ ex->H' b=none
 there:∀b o,h.get? b=some o->b ∉ ex->∃o',h'.get? b=some o'
 fG:∀b xs,H b=some (.tup xs)->H' b=some (.tup xs)
 fe:∀b o u,H b=some (.bQ o u)->H' b=some (.bQ o u)
 eP:∀b ps,H b=some (.cP ps)->∃more,H' b=some (.cP (ps++more))
section
variable{fs CZ ex Me:List Addr}{H H1 H2:Hp}{h h1 h2 h':Heap}{a x e:Addr}{o:HO}
theorem Un.any(u:Un fs ex H H1 h h1){b:Addr}{ob:Obj}(q:h.get? b=some ob)(n:H b=none)(hx:b ∉ ex):∃sl,h1.get? b=some { ob with slots:=sl }:=by
 by_cases hb:b∈fs
 ·exact u.slot b ob q n hb hx
 ·exact⟨ob.slots,u.keep b ob q n hb hx⟩
theorem Un.trans(a:Un fs ex H H1 h h1)(b:Un fs ex H1 H2 h1 h2):Un fs ex H H2 h h2 where
 keep:=λc ob q n hc hx=>b.keep c ob (a.keep c ob q n hc hx) (a.free c ob q n hx) hc hx
 slot:=λc ob q n hc hx=>by
  obtain⟨sl,e1⟩:=a.slot c ob q n hc hx
  obtain⟨vq,e2⟩:=b.slot c _ e1 (a.free c ob q n hx) hc hx
  exact⟨vq,e2⟩
 free:=λc ob q n hx=>by
  obtain⟨o',e1⟩:=a.there c ob q hx
  exact b.free c o' e1 (a.free c ob q n hx) hx
 there:=λc ob q hx=>by
  obtain⟨o',e1⟩:=a.there c ob q hx
  exact b.there c o' e1 hx
 fG:=λc xs q=>b.fG c xs (a.fG c xs q)
 fe:=λc ob xs q=>b.fe c ob xs (a.fe c ob xs q)
 eP:=λc ps q=>by
  obtain⟨m1,e1⟩:=a.eP c ps q
  obtain⟨m2,e2⟩:=b.eP c _ e1
  exact⟨m1++m2,by rw[e2,u4]⟩
theorem Un.kept(k:∀b u,h.get? b=some u->h'.get? b=some u):Un fs ex H H h h' :=
 ⟨λb ob q _ _ _=>k b ob q,λb ob q _ _ _=>⟨ob.slots,k b ob q⟩,λ_ _ _ n _=>n,λb ob q _=>⟨ob,k b ob q⟩,λ_ _ q=>q,λ_ _ _ q=>q,λ_ ps q=>⟨#[],by rw[q];simp⟩⟩
theorem Un.refl:Un fs ex H H h h:=Un.kept λ_ _ q=>q
theorem Un.laid(k:∀b u,h.get? b=some u->h'.get? b=some u)(hp:h.objs.size<=a)(hn:H a=none):Un fs ex H (upd H a o) h h' where
 keep:=λb u q _ _ _=>k b u q
 slot:=λb u q _ _ _=>⟨u.slots,k b u q⟩
 free:=λb u q n _=>by rw[aP (cR (cG (br q) hp))];exact n
 there:=λb u q _=>⟨u,k b u q⟩
 fG:=λb xs q=>by rw[aP (dZ q hn)];exact q
 fe:=λb u xs q=>by rw[aP (dZ q hn)];exact q
 eP:=λb ps q=>⟨#[],by rw[aP (dZ q hn),q];simp⟩
theorem Un.write(mu:ze (H x))(he:e=x\/H e=some (.own x))(k:∀b u,b≠e->h.get? b=some u->h'.get? b=some u)(qM:∃u,h'.get? e=some u):Un fs ex H (upd H x o) h h':=by
 have hx:∀b,H b=none->b≠x:=λb n z=>by subst z;rw[n]at mu;exact mu
 have hb:∀b,H b=none->b≠e:=λb n z=>by
  subst z
  rcases he with r | r
  ·exact hx b n r
  ·rw[n]at r;cases r
 have hm:∀b u,H b=some u->¬ ze (some u)->b≠x:=λb u q nm z=>by subst z;rw[q]at mu;exact nm mu
 refine⟨λb u q n _ _=>k b u (hb b n) q,λb u q n _ _=>⟨u.slots,k b u (hb b n) q⟩,λb u q n _=>by rw[aP (hx b n)];exact n,λb u q _=>?_,
  λb xs q=>by rw[aP (hm b _ q λz=>z)];exact q,λb u xs q=>by rw[aP (hm b _ q λz=>z)];exact q,λb ps q=>⟨#[],by rw[aP (hm b _ q λz=>z),q];simp⟩⟩
 by_cases oA:b=e
 ·subst oA;exact qM
 ·exact⟨u,k b u oA q⟩
theorem Un.mono(u:Un fs ex H H1 h h1)(hs:∀b∈fs,b∈CZ)(hx:∀b∈ex,b∈Me):Un CZ Me H H1 h h1 :=
 ⟨λb ob q n hb he=>u.keep b ob q n (λz=>hb (hs b z)) λz=>he (hx b z),λ_ _ q n _ he=>u.any q n λz=>he (hx _ z),λb ob q n he=>u.free b ob q n λz=>he (hx b z),λb ob q he=>u.there b ob q λz=>he (hx b z),u.fG,u.fe,u.eP⟩
end
noncomputable def zi(h:Heap)(H:Hp):List Addr:=(aR h.objs.size).filter λa=>(H a).isSome
noncomputable def jS(h:Heap)(H:Hp):Heap:=PySem.W.hideAll h (zi h H)
theorem UX(h:Heap)(H:Hp):(jS h H).objs.size=h.objs.size:=PySem.W.hideAll_size _ _
theorem UY{h:Heap}{H:Hp}{b:Addr}{o:Obj}(e:h.get? b=some o)(n:H b=none):(jS h H).get? b=some o :=
 PySem.W.hideAll_get _ e λhm=>by
  have q:(H b).isSome=true:=(u5.mp hm).2
  rw[n]at q;simp at q
theorem UZ{h:Heap}{H:Hp}{b:Addr}{o:Obj}(e:(jS h H).get? b=some o):h.get? b=some o/\H b=none:=by
 have e':h.get? b=some o:=PySem.W.of_hideAll (zi h H) e
 refine⟨e',?_⟩
 cases q:H b with
 | none=>rfl
 | some x =>
  have hm:b∈zi h H:=u5.mpr ⟨dO.mpr (br e'),by simp[q]⟩
  have z:(jS h H).get? b=none:=PySem.W.hideAll_none (zi h H) hm
  rw[z]at e;cases e
noncomputable def U0(g h:Heap)(L:Addr):List (Addr × Obj):=(aR h.objs.size).filterMap λa=>if a=L\/(g.get? a).isSome=true then none else(h.get? a).map λo=>(a,o)
noncomputable def eQ(g h:Heap)(L d:Addr):List (Addr × Obj):=(U0 g h L).filter λp=>decide (p.1≠d)
end L2
namespace L2
open PySem PySem.Spec PyProof.Rows
structure Mod(K:PySem.W.Frag)(mg:Str->Option Value)(base:Heap):Prop where
 kL:K.In base
 glob:base.Ns mainGlobals mg
 blt:∃mb,base.Ns builtinsNs mb/\∀x:Str,x≠"__name__"->mb x=bootBuiltins x
 nolimit:base.NoLimit
structure Cx where
 prog:Program
 w:World
 K:PySem.W.Frag
 mg:Str->Option Value
 base:Heap
 A:Around
 N:List Str
 bY:Shared
 jl:Hp
 env:Env
 outer:List Env
 stack:List Env
 ex:List Addr
 fn:Str->Bool
 calm:Bool
 pn:List (Addr × Obj)
 xe:Value->Shared->Prop
noncomputable def cT(l:List Env):List Addr:=l.filterMap (·.frame)
noncomputable abbrev Cx.fs(X:Cx):List Addr:=cT X.outer
noncomputable def jT(sc:Scope)(x:Str):Prop:=sc.names.lookup x=some .local\/sc.names.lookup x=some .cell\/sc.names.lookup x=some .free
noncomputable def Loc(sc:Scope)(x:Str):Prop:=sc.names.lookup x=some .local\/sc.names.lookup x=some .cell
noncomputable def U1(env:Env)(h:Heap)(m:Str->Option Value)(x:Str)(u:Value):Prop :=
 (env.kindOf x=some .local/\m x=some u)\/((env.kindOf x=some .cell\/env.kindOf x=some .free)/\∃c,env.cells.lookup x=some c/\h.IsCell c (some u))
structure Cx.Ok(X:Cx):Prop where
 mod:Mod X.K X.mg X.base
 kind:X.env.scope.kind=.function
 glob:X.env.globals=mainGlobals
 blt:X.env.builtins=builtinsNs
 above:X.bY.heap.objs.size<=X.env.locals
 inj:∀x y c,X.env.cells.lookup x=some c->X.env.cells.lookup y=some c->x=y
 has:∀x,(X.env.kindOf x=some .cell\/X.env.kindOf x=some .free)->∃c,X.env.cells.lookup x=some c
 oB:∀x c,X.fn x=true->X.env.cells.lookup x=some c->X.bY.heap.objs.size<=c
 hd:X.calm=true->X.A.handled=none
 frames:X.A.frames=some X.stack
 vt:X.stack=X.outer\/(X.stack=X.env::X.outer/\X.env.frame=some X.env.locals)
 vv:∀b∈X.ex,b≠X.env.locals/\∀x c,X.env.cells.lookup x=some c->c≠b
 bs:∀b o,X.base.get? b=some o->X.bY.heap.get? b=some o/\X.jl b=none
 gI:X.base.objs.size<=X.bY.heap.objs.size
 qN:∀b o,X.base.get? b=some o->b ∉ X.ex
 qO:∀b∈X.ex,b ∉ X.fs
 ff:X.bY.heap.FunFrames X.base X.outer
 iy:∀b∈X.fs,X.jl b=none
structure Inv(X:Cx)(pins:List (Addr × Obj))(σ:List (Option V))(H:Hp)(s:Shared):Prop where
 ok:X.Ok
 os:s.os=X.bY.os
 bare:AllBare s.gens
 base:Un X.fs X.ex X.jl H X.bY.heap s.heap
 loc:∃m,s.heap.Ns X.env.locals m/\∀(i:Nat) (x:Str) (v:V),X.N[i]?=some x->σ[i]?=some (some v)->jT X.env.scope x->∃u,RelV v u/\U1 X.env s.heap m x u
 cell:∀x c,X.env.cells.lookup x=some c->∃v,s.heap.IsCell c v
 free:H X.env.locals=none
 gn:∀x c,X.env.cells.lookup x=some c->H c=none
 pin:∀p∈X.pn++pins,s.heap.get? p.1=some p.2/\H p.1=none/\p.1≠X.env.locals/\p.1 ∉ X.fs/\∀v,p.2.data≠.cell v
 aA:cn X.prog X.w H s.heap
 len:σ.length=X.N.length
section
variable{X:Cx}{pins:List (Addr × Obj)}{σ:List (Option V)}{H H':Hp}{s:Shared}{h':Heap}
theorem Cx.Ok.U2(ok:X.Ok){b:Addr}{o:Obj}(e:X.base.get? b=some o):b ∉ X.fs:=λhb=>by
 have:=(ok.ff.mem hb).1
 rw[e]at this;cases this
theorem Inv.bs(I:Inv X pins σ H s):∀b o,X.base.get? b=some o->s.heap.get? b=some o/\H b=none:=λb o e =>
 ⟨I.base.keep b o (I.ok.bs b o e).1 (I.ok.bs b o e).2 (I.ok.U2 e) (I.ok.qN b o e),I.base.free b o (I.ok.bs b o e).1 (I.ok.bs b o e).2 (I.ok.qN b o e)⟩
theorem Inv.bk(I:Inv X pins σ H s):∀b o,X.base.get? b=some o->s.heap.get? b=some o:=λb o e=>(I.bs b o e).1
theorem Inv.mod(I:Inv X pins σ H s):Mod X.K X.mg X.base:=I.ok.mod
theorem Inv.cN(I:Inv X pins σ H s):X.K.In s.heap:=I.ok.mod.kL.keeps I.bk
theorem Inv.nolimit(I:Inv X pins σ H s):s.heap.NoLimit:=I.ok.mod.nolimit.keeps I.bk
theorem Inv.fr(I:Inv X pins σ H s):∃m,Fr X.base X.env.locals s.heap m :=
 let⟨m,hn,_⟩:=I.loc
 ⟨m,hn,I.bk,dP I.ok.gI I.ok.above⟩
theorem Inv.lt(I:Inv X pins σ H s):X.env.locals<s.heap.objs.size:=let⟨_,hn,_⟩:=I.loc;hn.lt
theorem Inv.sz(I:Inv X pins σ H s):X.bY.heap.objs.size<=s.heap.objs.size:=dP I.ok.above (nZ I.lt)
theorem Inv.Mg(I:Inv X pins σ H s){a:Addr}(h:s.heap.objs.size<=a):a ∉ X.fs:=λhb=>by
 obtain⟨_,o,ho,_⟩:=I.ok.ff.mem hb
 exact absurd (cG (br ho) (dP I.sz h)) (fP _)
theorem Inv.mT(I:Inv X pins σ H s):∀x c,X.env.cells.lookup x=some c->c≠X.env.locals:=λx c e z=>by
 obtain⟨v,o,ho,hd⟩:=I.cell x c e
 obtain⟨m,⟨o',es,ep,jm,vw,_⟩,_⟩:=I.loc
 rw[z,jm]at ho;cases ho;rw[vw]at hd;cases hd
theorem Inv.ff(I:Inv X pins σ H s):s.heap.FunFrames X.base X.outer:=by
 have all:∀(l:List Env),(∀b∈cT l,b∈X.fs)->X.bY.heap.FunFrames X.base l->s.heap.FunFrames X.base l:=by
  intro l
  induction l with
  | nil=>intro _ _;trivial
  | cons env r ih =>
   intro hs hl
   obtain⟨hk,⟨L,o,hf,hn,ho,hd⟩,hr⟩:=hl
   have hL:L∈X.fs:=hs L (by unfold cT;rw[qq,hf];exact mF)
   obtain⟨sl,e⟩:=I.base.slot L o ho (I.ok.iy L hL) hL λz=>I.ok.qO L z hL
   exact⟨hk,⟨L,_,hf,hn,e,hd⟩,ih (λb hb=>hs b (by unfold cT;rw[qq,hf];exact fQ _ hb)) hr⟩
 exact all X.outer (λ_ hb=>hb) I.ok.ff
theorem Inv.stack(I:Inv X pins σ H s):s.heap.FunFrames X.base X.stack:=by
 rcases I.ok.vt with e | ⟨e,hf⟩
 ·rw[e];exact I.ff
 ·rw[e]
  obtain⟨m,hn,_⟩:=I.loc
  refine .cons (by rw[I.ok.kind];decide) hf hn ?_ I.ff
  exact Heap.get?_none_of_le (dP I.ok.gI I.ok.above)
theorem Inv.vx(I:Inv X pins σ H s):∀b∈cT X.stack,b∈X.env.locals::X.fs:=λb hb=>by
 rcases I.ok.vt with e | ⟨e,hf⟩
 ·rw[e]at hb;exact fQ _ hb
 ·rw[e]at hb
  unfold cT at hb
  rw[qq,hf]at hb
  exact hb
theorem Inv.zj(I:Inv X pins σ H s):∀b∈cT X.stack,H b=none:=λb hb=>by
 rcases bU.mp (I.vx b hb)with e | hb
 ·rw[e];exact I.free
 ·obtain⟨_,o,ho,_⟩:=I.ok.ff.mem hb
  exact I.base.free b o ho (I.ok.iy b hb) λz=>I.ok.qO b z hb
theorem Inv.step{g':Array GenState}{t':Nat}{d':Drawn}{ch:List Addr}(I:Inv X pins σ H s)
  (jU:∀b∈ch,(b∈X.ex\/X.bY.heap.objs.size<=b)/\b≠X.env.locals/\(∀x c,X.env.cells.lookup x=some c->c≠b)/\∀p∈X.pn++pins,p.1≠b)
  (keep:∀b o,b≠X.env.locals->b ∉ X.fs->b ∉ ch->s.heap.get? b=some o->H b=none->h'.get? b=some o)
  (slot:∀b o,b≠X.env.locals->b∈X.fs->b ∉ ch->s.heap.get? b=some o->H b=none->∃sl,h'.get? b=some { o with slots:=sl }) (free:∀b o,b ∉ ch->s.heap.get? b=some o->H b=none->H' b=none)
  (there:∀b o,b ∉ ch->s.heap.get? b=some o->∃o',h'.get? b=some o')
  (fG:∀b xs,H b=some (.tup xs)->H' b=some (.tup xs)) (fe:∀b o u,H b=some (.bQ o u)->H' b=some (.bQ o u)) (eP:∀b ps,H b=some (.cP ps)->∃more,H' b=some (.cP (ps++more)))
  (ns:∀m,s.heap.Ns X.env.locals m->h'.Ns X.env.locals m) (aA:cn X.prog X.w H' h') (hg:AllBare g') :
  Inv X pins σ H' { s with heap:=h',gens:=g',drawn:=d',toks:=t' }:=by
 have qP:∀b o,X.bY.heap.get? b=some o->b≠X.env.locals:=λb o e=>cR (cG (br e) I.ok.above)
 have qQ:∀b o,X.bY.heap.get? b=some o->b ∉ X.ex->b ∉ ch:=λb o e hx hb=>by
  rcases(jU b hb).1 with z | z
  ·exact hx z
  ·exact absurd (cG (br e) z) (fP _)
 have cellK:∀x c,X.env.cells.lookup x=some c->∀v,s.heap.IsCell c v->h'.IsCell c v:=λx c e v ⟨o,ho,hd⟩=>by
  have vy:c ∉ ch:=λz=>(jU c z).2.2.1 x c e rfl
  by_cases hc:c∈X.fs
  ·obtain⟨sl,q⟩:=slot c o (I.mT x c e) hc vy ho (I.gn x c e)
   exact⟨_,q,hd⟩
  ·exact⟨o,keep c o (I.mT x c e) hc vy ho (I.gn x c e),hd⟩
 refine⟨I.ok,I.os,hg,⟨λb o e n hb hx=>?_,λb o e n hb hx=>?_,λb o e n hx=>?_,λb o e hx=>?_,λb xs e=>fG b xs (I.base.fG b xs e),λb o xs e=>fe b o xs (I.base.fe b o xs e),λb ps e=>?_⟩,?_,λx c e=>?_,?_,λx c e=>?_,λp hp=>?_,aA,I.len⟩
 ·exact keep b o (qP b o e) hb (qQ b o e hx) (I.base.keep b o e n hb hx) (I.base.free b o e n hx)
 ·obtain⟨sl,e1⟩:=I.base.slot b o e n hb hx
  obtain⟨vq,e2⟩:=slot b _ (qP b o e) hb (qQ b o e hx) e1 (I.base.free b o e n hx)
  exact⟨vq,e2⟩
 ·obtain⟨o',e1⟩:=I.base.there b o e hx
  exact free b o' (qQ b o e hx) e1 (I.base.free b o e n hx)
 ·obtain⟨o',e1⟩:=I.base.there b o e hx
  exact there b o' (qQ b o e hx) e1
 ·obtain⟨m1,e1⟩:=I.base.eP b ps e
  obtain⟨m2,e2⟩:=eP b _ e1
  exact⟨m1++m2,by rw[e2,u4]⟩
 ·obtain⟨m,hn,hl⟩:=I.loc
  refine⟨m,ns m hn,λi x v e1 e2 e3=>?_⟩
  obtain⟨u,r,l⟩:=hl i x v e1 e2 e3
  refine⟨u,r,?_⟩
  rcases l with l | ⟨k,c,e,z⟩
  ·exact .inl l
  ·exact .inr ⟨k,c,e,cellK x c e _ z⟩
 ·obtain⟨v,z⟩:=I.cell x c e
  exact⟨v,cellK x c e v z⟩
 ·obtain⟨m,⟨o,_,_,ho,_⟩,_⟩:=I.loc
  exact free _ o (λz=>(jU _ z).2.1 rfl) ho I.free
 ·obtain⟨v,o,ho,hd⟩:=I.cell x c e
  exact free c o (λz=>(jU c z).2.2.1 x c e rfl) ho (I.gn x c e)
 ·obtain⟨e,n,ne,nf,d⟩:=I.pin p hp
  have vy:p.1 ∉ ch:=λz=>(jU p.1 z).2.2.2 p hp rfl
  exact⟨keep p.1 p.2 ne nf vy e n,free p.1 p.2 vy e n,ne,nf,d⟩
theorem Inv.un{t':Nat}(I:Inv X pins σ H s)(u:Un X.fs [] H H' s.heap h')(aA:cn X.prog X.w H' h'):Inv X pins σ H' { s with heap:=h',toks:=t' }:=by
 obtain⟨m,⟨o,es,ep,ho,r⟩,_⟩:=id I.loc
 obtain⟨sl,hL⟩:=u.any ho I.free (by simp)
 exact I.step (g':=s.gens) (d':=s.drawn) (ch:=[]) (λ_ z=>nomatch z) (λb o _ hb _ e n=>u.keep b o e n hb (by simp)) (λb o _ hb _ e n=>u.slot b o e n hb (by simp)) (λb o _ e n=>u.free b o e n (by simp)) (λb o _ e=>u.there b o e (by simp)) u.fG u.fe u.eP (λm' hm=>by
  obtain⟨o',C2,C3,jm,r'⟩:=hm
  rw[ho]at jm;cases jm
  exact⟨_,C2,C3,hL,r'⟩) aA I.bare
theorem Inv.call{g':Array GenState}{t':Nat}{d':Drawn}{ch:List Addr}(I:Inv X pins σ H s)(u:Un (cT X.stack) ch H H' s.heap h')(aA:cn X.prog X.w H' h')(hg:AllBare g')
  (jU:∀b∈ch,(b∈X.ex\/X.bY.heap.objs.size<=b)/\b≠X.env.locals/\(∀x c,X.env.cells.lookup x=some c->c≠b)/\∀p∈X.pn++pins,p.1≠b) :
  Inv X pins σ H' { s with heap:=h',gens:=g',drawn:=d',toks:=t' }:=by
 obtain⟨m,⟨o,es,ep,ho,r⟩,_⟩:=id I.loc
 obtain⟨sl,hL⟩:=u.any ho I.free λz=>(jU _ z).2.1 rfl
 exact I.step (ch:=ch) jU (λb o hL hb hc e n=>u.keep b o e n (λz=>(bU.mp (I.vx b z)).elim hL hb) hc) (λb o _ _ hc e n=>u.any e n hc) (λb o hc e n=>u.free b o e n hc) (λb o hc e=>u.there b o e hc) u.fG u.fe u.eP (λm' hm=>by
  obtain⟨o',C2,C3,jm,r'⟩:=hm
  rw[ho]at jm;cases jm
  exact⟨_,C2,C3,hL,r'⟩) aA hg
theorem Inv.turned{t':Nat}{it:Addr}(I:Inv X pins σ H s)(k:∀b o,b≠it->s.heap.get? b=some o->h'.get? b=some o)(hn:H it=none)(hL:it≠X.env.locals)
  (h1:it∈X.ex\/X.bY.heap.objs.size<=it) (h2:∀x c,X.env.cells.lookup x=some c->c≠it) (h3:∀p∈X.pn++pins,p.1≠it):Inv X pins σ H { s with heap:=h',toks:=t' }:=by
 have mU:∀b u,H b=some u->b≠it:=λb u e z=>by rw[z,hn]at e;cases e
 refine I.step (g':=s.gens) (d':=s.drawn) (ch:=[it]) (λb hb=>?_) (λb o _ _ hc e _=>k b o (λz=>hc (by simp[z])) e) (λb o _ _ hc e _=>⟨o.slots,k b o (λz=>hc (by simp[z])) e⟩) (λ_ _ _ _ n=>n)
  (λb o hc e=>⟨o,k b o (λz=>hc (by simp[z])) e⟩) (λ_ _ e=>e) (λ_ _ _ e=>e) (λb ps e=>⟨#[],by rw[e];simp⟩) (λm hm=>?_) (λb u e=>?_) I.bare
 ·have e:b=it:=by simpa using hb
  subst e
  exact⟨h1,hL,h2,h3⟩
 ·obtain⟨o,es,ep,ho,r⟩:=hm
  exact⟨o,es,ep,k _ o (dF hL) ho,r⟩
 ·refine(I.aA b u e).iZ (λc v hc q=>k c v ?_ q) (λ_ q=>q) (λ_ _ q=>q) λ_ _ q=>q
  rcases hc with z | z
  ·rw[z];exact mU b u e
  ·exact mU c _ z
theorem Inv.tok(I:Inv X pins σ H s)(t:Nat):Inv X pins σ H { s with toks:=t }:=I.un (h':=s.heap) (t':=t) Un.refl I.aA
theorem Inv.kept{t':Nat}(I:Inv X pins σ H s)(k:∀b u,s.heap.get? b=some u->h'.get? b=some u):Inv X pins σ H { s with heap:=h',toks:=t' }:=I.un (Un.kept k) (I.aA.kept k)
theorem Inv.laid{a:Addr}{o:HO}{t':Nat}(I:Inv X pins σ H s)(k:∀b u,s.heap.get? b=some u->h'.get? b=some u)(hp:s.heap.objs.size<=a)(new:cW X.prog X.w (upd H a o) h' a o) :
  Inv X pins σ (upd H a o) { s with heap:=h',toks:=t' }:=I.un (Un.laid k hp (I.aA.fresh hp)) (I.aA.laid k hp new)
theorem Inv.write{x e:Addr}{o:HO}{t':Nat}(I:Inv X pins σ H s)(mu:ze (H x))(he:e=x\/H e=some (.own x))(k:∀b u,b≠e->s.heap.get? b=some u->h'.get? b=some u)(qM:∃u,h'.get? e=some u)
  (new:cW X.prog X.w (upd H x o) h' x o):Inv X pins σ (upd H x o) { s with heap:=h',toks:=t' }:=I.un (Un.write mu he k qM) (I.aA.write mu he k qM new)
theorem Inv.weak{ax:List (Option V)}(I:Inv X pins σ H s)(hl:ax.length=σ.length)(w:∀(i:Nat) v,ax[i]?=some (some v)->σ[i]?=some (some v)):Inv X pins ax H s :=
 ⟨I.ok,I.os,I.bare,I.base,let⟨m,hn,qR⟩:=I.loc;⟨m,hn,λi x v e1 e2 e3=>qR i x v e1 (w i v e2) e3⟩,I.cell,I.free,I.gn,I.pin,I.aA,hl.trans I.len⟩
theorem Inv.Mh{C4:List (Addr × Obj)}(I:Inv X pins σ H s)(h:∀p∈C4,s.heap.get? p.1=some p.2/\H p.1=none/\p.1≠X.env.locals/\p.1 ∉ X.fs/\∀v,p.2.data≠.cell v):Inv X C4 σ H s :=
 ⟨I.ok,I.os,I.bare,I.base,I.loc,I.cell,I.free,I.gn,λp hp=>(cx.mp hp).elim (λz=>I.pin p (e7 _ z)) (h p),I.aA,I.len⟩
theorem Mi{N:List Str}(hN:N.Nodup){i j:Nat}{x:Str}(a:N[i]?=some x)(b:N[j]?=some x):i=j:=by
 obtain⟨h1,e1⟩:=iW.mp a
 obtain⟨h2,e2⟩:=iW.mp b
 exact(List.getElem_inj hN).mp (e1.trans e2.symm)
theorem U3{M:Model}{A:Around}{E:Value->Shared->Prop}{i:Nat}{x:Str}{v:V}{u:Value}{Q:Unit->Shared->Prop}(I:Inv X pins σ H s)(hN:X.N.Nodup)(hi:X.N[i]?=some x)(hx:Loc X.env.scope x)(r:RelV v u)
  (h:∀s',Inv X pins (σ.set i (some v)) H s'->(∃a,n5 a s.heap s'.heap/\(a=X.env.locals\/X.env.cells.lookup x=some a))->Q () s') (hf:X.fn x=true\/X.env.scope.names.lookup x=some .local:=by first | exact .inl rfl | exact .inr rfl | assumption):wpAny M A (storeName X.env x u) Q E s:=by
 obtain⟨m,hn,hl⟩:=id I.loc
 have U4:(X.env.scope.kind==.class||(X.env.scope.kind==.module&&X.env.locals != X.env.globals))=false:=by rw[I.ok.kind];rfl
 have Mj:i<σ.length:=by rw[I.len];exact(iW.mp hi).1
 have mT:=I.mT
 have tracked:∀{a:Addr} {h':Heap},(∃o,s.heap.get? a=some o/\H a=none)->n5 a s.heap h'->cn X.prog X.w H h':=λ{a h'} ha hs b ob e=>by
  obtain⟨_,_,Ml⟩:=ha
  refine(I.aA b ob e).iZ (λc w' hc q=>(hs.2 c ?_).trans q) (λ_ q=>q) (λ_ _ q=>q) λ_ _ q=>q
  rintro rfl
  rcases hc with rfl | hc
  ·rw[Ml]at e;cases e
  ·rw[Ml]at hc;cases hc
 rcases hx with hk | hk
 ·refine wpAny_storeName_local hk hn (λh' U5 hs=>?_) U4
  obtain⟨oL,_,_,vz,_⟩:=id hn
  refine h _ ⟨I.ok,I.os,I.bare,⟨λb o e n hb hx=>?_,λb o e n hb hx=>?_,I.base.free,λb o e hx=>?_,I.base.fG,I.base.fe,I.base.eP⟩,⟨_,U5,λj y v' e1 e2 e3=>?_⟩,λy c e=>?_,I.free,I.gn,λp hp=>?_,tracked ⟨oL,vz,I.free⟩ hs,by simpa using I.len⟩ ⟨_,hs,.inl rfl⟩
  ·exact(hs.2 b (cR (cG (br e) I.ok.above))).trans (I.base.keep b o e n hb hx)
  ·obtain⟨sl,e1⟩:=I.base.slot b o e n hb hx
   exact⟨sl,(hs.2 b (cR (cG (br e) I.ok.above))).trans e1⟩
  ·obtain⟨o',e1⟩:=I.base.there b o e hx
   exact⟨o',(hs.2 b (cR (cG (br e) I.ok.above))).trans e1⟩
  ·by_cases hj:j=i
   ·subst hj
    rw[hi]at e1;cases e1
    rw[Cf Mj]at e2
    cases e2
    exact⟨u,r,.inl ⟨hk,by simp⟩⟩
   ·rw[qt (dF hj)]at e2
    obtain⟨u',r',q⟩:=hl j y v' e1 e2 e3
    refine⟨u',r',?_⟩
    rcases q with⟨k,e⟩ | ⟨k,c,e,z⟩
    ·refine .inl ⟨k,?_⟩
     have:y≠x:=λe=>hj (Mi hN e1 (e ▸ hi))
     simp[this,e]
    ·exact .inr ⟨k,c,e,z.sameBut hs (mT y c e)⟩
  ·obtain⟨w',z⟩:=I.cell y c e
   exact⟨w',z.sameBut hs (mT y c e)⟩
  ·obtain⟨e,n,ne,nf,d⟩:=I.pin p hp
   exact⟨(hs.2 p.1 ne).trans e,n,ne,nf,d⟩
 ·have vA:X.fn x=true:=by
   rcases hf with z | z
   ·exact z
   ·rw[z]at hk;cases hk
  obtain⟨c,hc⟩:=I.ok.has x (.inl hk)
  obtain⟨w',z⟩:=I.cell x c hc
  refine wpAny_storeName_cell I.ok.kind hk hc z (λh' vB hs=>?_)
  obtain⟨oc,gJ,U6⟩:=id z
  refine h { s with heap:=h' } ⟨I.ok,I.os,I.bare,⟨λb o e n hb hx=>?_,λb o e n hb hx=>?_,I.base.free,λb o e hx=>?_,I.base.fG,I.base.fe,I.base.eP⟩,⟨m,hn.sameBut hs (dF (mT x c hc)),λj y v' e1 e2 e3=>?_⟩,λy c' e=>?_,I.free,I.gn,λp hp=>?_,tracked ⟨oc,gJ,I.gn x c hc⟩ hs,by simpa using I.len⟩ ⟨c,hs,.inr hc⟩
  ·exact(hs.2 b (cR (cG (br e) (I.ok.oB x c vA hc)))).trans (I.base.keep b o e n hb hx)
  ·obtain⟨sl,e1⟩:=I.base.slot b o e n hb hx
   exact⟨sl,(hs.2 b (cR (cG (br e) (I.ok.oB x c vA hc)))).trans e1⟩
  ·obtain⟨o',e1⟩:=I.base.there b o e hx
   exact⟨o',(hs.2 b (cR (cG (br e) (I.ok.oB x c vA hc)))).trans e1⟩
  ·by_cases hj:j=i
   ·subst hj
    rw[hi]at e1;cases e1
    rw[Cf Mj]at e2
    cases e2
    exact⟨u,r,.inr ⟨.inl hk,c,hc,vB⟩⟩
   ·rw[qt (dF hj)]at e2
    obtain⟨u',r',q⟩:=hl j y v' e1 e2 e3
    refine⟨u',r',?_⟩
    rcases q with q | ⟨k,c',e,z'⟩
    ·exact .inl q
    ·refine .inr ⟨k,c',e,z'.sameBut hs ?_⟩
     rintro rfl
     exact hj (Mi hN e1 (I.ok.inj _ _ _ e hc ▸ hi))
  ·by_cases Mm:c'=c
   ·subst Mm;exact⟨_,vB⟩
   ·obtain⟨w2,z2⟩:=I.cell y c' e
    exact⟨w2,z2.sameBut hs Mm⟩
  ·obtain⟨e,n,ne,nf,d⟩:=I.pin p hp
   refine⟨(hs.2 p.1 ?_).trans e,n,ne,nf,d⟩
   intro q
   rw[q,gJ]at e
   have q':oc=p.2:=cM e
   exact d w' (by rw[<-q'];exact U6)
theorem C5{M:Model}{A:Around}{E:Value->Shared->Prop}{i:Nat}{x:Str}{v:V}{u:Value}{Q:Unit->Shared->Prop}(I:Inv X pins σ H s)(hN:X.N.Nodup)(hi:X.N[i]?=some x)(hx:Loc X.env.scope x)(r:RelV v u)
  (h:∀s',Inv X pins (σ.set i (some v)) H s'->Q () s') (hf:X.fn x=true\/X.env.scope.names.lookup x=some .local:=by first | exact .inl rfl | exact .inr rfl | assumption):wpAny M A (storeName X.env x u) Q E s :=
 U3 I hN hi hx r (λs' I' _=>h s' I') hf
theorem Inv.U7{s':Shared}{ch:List Addr}(I:Inv X pins σ H s)(ho:s'.os=s.os)(u:Un (cT X.stack) ch H H' s.heap s'.heap)(aA:cn X.prog X.w H' s'.heap)(hg:AllBare s'.gens)
  (jU:∀b∈ch,(b∈X.ex\/X.bY.heap.objs.size<=b)/\b≠X.env.locals/\(∀x c,X.env.cells.lookup x=some c->c≠b)/\∀p∈X.pn++pins,p.1≠b):Inv X pins σ H' s':=by
 obtain⟨h',g',d',t',o'⟩:=s'
 have e:o'=s.os:=ho
 subst e
 exact I.call (g':=g') (t':=t') (d':=d') u aA hg jU
end
noncomputable abbrev XK:=Value->Option Addr->Hp->Prop
noncomputable abbrev St:=List (Option V)
noncomputable abbrev VK:=V->Hp->Prop
noncomputable abbrev TE:=St->Hp->VK->Prop
noncomputable abbrev TT:=St->Hp->(Bool->Hp->Prop)->Prop
noncomputable abbrev TA:=St->Hp->(List V->Hp->Prop)->Prop
structure Ends where
 nx:St->Hp->Prop
 rt:VK
 bk:St->Hp->Prop:=λ_ _=>False
 ct:St->Hp->Prop:=λ_ _=>False
noncomputable abbrev TS:=Ends->St->Hp->Prop
noncomputable def EP(X:Cx)(pins:List (Addr × Obj))(σ:St)(Q:VK)(u:Value)(s':Shared):Prop:=∃v H',Inv X pins σ H' s'/\RelV v u/\Q v H'
noncomputable def TP(X:Cx)(pins:List (Addr × Obj))(σ:St)(Q:Bool->Hp->Prop)(b:Bool)(s':Shared):Prop:=∃H',Inv X pins σ H' s'/\Q b H'
noncomputable def AP(X:Cx)(pins:List (Addr × Obj))(σ:St)(Q:List V->Hp->Prop)(us:List Value)(s':Shared):Prop:=∃vs H',Inv X pins σ H' s'/\Vals vs us/\Q vs H'
noncomputable def SP(X:Cx)(pins:List (Addr × Obj))(D:Ends)(f:Flow)(s':Shared):Prop :=
 match f with
 | .next=>∃ax H',Inv X pins ax H' s'/\D.nx ax H'
 | .brk=>∃ax H',Inv X pins ax H' s'/\D.bk ax H'
 | .cont=>∃ax H',Inv X pins ax H' s'/\D.ct ax H'
 | .ret u=>∃v ax H',Inv X pins ax H' s'/\RelV v u/\D.rt v H'
noncomputable def PE(X:Cx)(e:Expr)(t:TE):Prop :=
 ∀(pins:List (Addr × Obj)) (s:Shared) (σ:St) (H:Hp) (Q:VK),Inv X pins σ H s->t σ H Q->wpAny (model X.prog X.w) X.A (eval e X.env) (EP X pins σ Q) X.xe s
noncomputable def PT(X:Cx)(e:Expr)(t:TT):Prop :=
 ∀(pins:List (Addr × Obj)) (s:Shared) (σ:St) (H:Hp) (Q:Bool->Hp->Prop),Inv X pins σ H s->t σ H Q->wpAny (model X.prog X.w) X.A (isTrue e X.env (eval e X.env)) (TP X pins σ Q) X.xe s
noncomputable def PW(X:Cx)(e:Expr)(t:TT):Prop :=
 ∀(whole:Sem Value) (pins:List (Addr × Obj)) (s:Shared) (σ:St) (H:Hp) (Q:Bool->Hp->Prop),Inv X pins σ H s->t σ H Q->wpAny (model X.prog X.w) X.A (isTrue e X.env whole) (TP X pins σ Q) X.xe s
theorem PW.pt{X:Cx}{e:Expr}{t:TT}(h:PW X e t):PT X e t:=h _
noncomputable def PA(X:Cx)(es:List Expr)(t:TA):Prop :=
 ∀(pos:Pos) (pins:List (Addr × Obj)) (s:Shared) (σ:St) (H:Hp) (Q:List V->Hp->Prop),Inv X pins σ H s->t σ H Q->wpAny (model X.prog X.w) X.A (spliced (backTo pos (starEach es X.env))) (AP X pins σ Q) X.xe s
noncomputable def PS(X:Cx)(st:Stmt)(t:TS):Prop :=
 ∀(pins:List (Addr × Obj)) (s:Shared) (σ:St) (H:Hp) (D:Ends),Inv X pins σ H s->t D σ H->wpAny (model X.prog X.w) X.A (exec st X.env) (SP X pins D) X.xe s
noncomputable def PSs(X:Cx)(st:List Stmt)(t:TS):Prop :=
 ∀(pins:List (Addr × Obj)) (s:Shared) (σ:St) (H:Hp) (D:Ends),Inv X pins σ H s->t D σ H->wpAny (model X.prog X.w) X.A (execs st X.env) (SP X pins D) X.xe s
theorem aK{α:Type}{t:Sem α}{Q Q':α->Shared->Prop}{M:Model}{A:Around}{E:Value->Shared->Prop}{s:Shared}(h:wpAny M A t Q E s)(hQ:∀a s,Q a s->Q' a s):wpAny M A t Q' E s:=wpAny_mono h hQ λ_ _ x=>x
end L2
namespace L2
open PySem PySem.Spec PyProof.Rows
section
variable{X:Cx}
noncomputable def Mn(i:Nat):TE:=λσ H Q=>∃v,σ[i]?=some (some v)/\Q v H
noncomputable def tC(v:V):TE:=λ_ H Q=>Q v H
theorem oE{i:Nat}{x:Str}{pos:Pos}(hN:X.N[i]?=some x)(hv:jT X.env.scope x)(hd:(x==("__debug__":Str))=false:=by decide)(cA:(x==("__classdict__":Str))=false:=by decide):PE X (.Name x pos) (Mn i):=by
 intro pins s σ H Q I h
 obtain⟨v,e,h⟩:=h
 obtain⟨m,hn,hl⟩:=I.loc
 obtain⟨u,r,l⟩:=hl i x v hN e hv
 have fin:EP X pins σ Q u s:=⟨v,H,I,r,h⟩
 rcases l with⟨hk,hm⟩ | ⟨hk,c,hc,zk⟩
 ·exact wpAny_Name (wpAny_loadName_local I.ok.kind hk hn hm fin) hd
 ·rcases hk with hk | hk
  ·exact wpAny_Name (wpAny_loadName_cell I.ok.kind hk hc zk fin) hd
  ·exact wpAny_Name (wpAny_loadName_free I.ok.kind hk hc zk fin cA) hd
theorem vC{i j pos}:PE X (.Constant (.int i) j pos) (tC (.int i)):=λ_ _ _ H _ I h=>wpAny_Constant_int ⟨.int i,H,I.tok _,⟨_,rfl⟩,h⟩
theorem U8{b j pos}:PE X (.Constant (.bool b) j pos) (tC (.bl b)):=λ_ _ _ H _ I h=>Constant_bool ⟨.bl b,H,I,rfl,h⟩
theorem U9{j pos}:PE X (.Constant .none j pos) (tC .ak):=λ_ _ _ H _ I h=>Constant_none ⟨.ak,H,I,rfl,h⟩
theorem Va{x j pos}:PE X (.Constant (.str x) j pos) (tC (.str x)):=λ_ _ _ H _ I h=>Calls.Constant_str ⟨.str x,H,I.tok _,⟨_,rfl⟩,h⟩
noncomputable def Gl(X:Cx)(x:Str):Prop:=X.env.kindOf x=some .globalImplicit
theorem zo{E:Value->Shared->Prop}{pins:List (Addr × Obj)}{s:Shared}{σ:St}{H:Hp}{x:Str}{u:Value}{pos:Pos}{Q:Value->Shared->Prop}(I:Inv X pins σ H s)(hg:Gl X x)(hm:X.mg x=some u)(h:Q u s)
  (hd:(x==("__debug__":Str))=false:=by decide):wpAny (model X.prog X.w) X.A (eval (.Name x pos) X.env) Q E s :=
 Ue I.ok.kind hg (Calls.loadGlobal_global (by rw[I.ok.glob];exact I.mod.glob.keeps I.bk) hm h) hd
theorem oF{E:Value->Shared->Prop}{pins:List (Addr × Obj)}{s:Shared}{σ:St}{H:Hp}{x:Str}{u:Value}{pos:Pos}{Q:Value->Shared->Prop}(I:Inv X pins σ H s)(hg:Gl X x)(hm:X.mg x=none)(hv:bootBuiltins x=some u)(h:Q u s)
  (hn:x≠"__name__":=by decide) (hd:(x==("__debug__":Str))=false:=by decide):wpAny (model X.prog X.w) X.A (eval (.Name x pos) X.env) Q E s:=by
 obtain⟨mb,h1,h2⟩:=I.mod.blt
 exact Ue I.ok.kind hg (Calls.loadGlobal_builtin (by rw[I.ok.glob];exact I.mod.glob.keeps I.bk) hm (by rw[I.ok.blt];exact h1.keeps I.bk) ((h2 x hn).trans hv) h) hd
theorem Vb{x:Str}{v:V}{u:Value}{pos:Pos}(hg:Gl X x)(hm:X.mg x=none)(hv:bootBuiltins x=some u)(r:RelV v u)(hn:x≠"__name__":=by decide)(hd:(x==("__debug__":Str))=false:=by decide):PE X (.Name x pos) (tC v) :=
 λ_ _ _ H _ I h=>oF I hg hm hv ⟨v,H,I,r,h⟩ hn hd
variable{a b:Expr}{ta tb:TE}{pos:Pos}
noncomputable def tB(t:TE):TT:=λσ H Q=>t σ H λx H1=>∃c,x=.bl c/\Q c H1
theorem C6{e:Expr}{t:TE}(h:PE X e t)(he:∀whole,isTrue e X.env whole=(do let v<-whole;standAt e.pos;holding [v] (truthy v)):=by intro _;rfl):PT X e (tB t):=by
 intro pins s σ H Q I hw
 refine isTrue_plain (aK (h pins s σ H _ I hw) λv s1 ⟨x,H1,I1,r1,q1⟩=>?_) (he _)
 obtain⟨d,rfl,q⟩:=q1
 cases r1
 exact wpAny_truthy_bool ⟨H1,I1,q⟩
variable{tA Mo:TT}{eQ:List Expr}
noncomputable def Vc(t u:TT):TT:=λσ H Q=>t σ H λc H1=>if c=true then Q true H1 else u σ H1 Q
noncomputable def Vd(t:TT):TT:=λσ H Q=>t σ H λc H1=>Q (!c) H1
theorem vD(ha:PT X a tA):PW X (.BoolOp .Or [a] pos) tA:=by
 intro wh pins s σ H Q I h
 refine isTrue_or (aK (ha pins s σ H Q I h) λc s1 e=>?_)
 cases c with
 | false=>exact isTrue_or_nil e
 | true=>exact e
theorem Ve(ha:PT X a tA)(hb:PW X (.BoolOp .Or (b::eQ) pos) Mo):PW X (.BoolOp .Or (a::b::eQ) pos) (Vc tA Mo):=by
 intro wh pins s σ H Q I h
 refine isTrue_or (aK (ha pins s σ H _ I h) λc s1 ⟨H1,I1,q1⟩=>?_)
 cases c with
 | true=>exact⟨H1,I1,q1⟩
 | false=>exact hb wh pins s1 σ H1 Q I1 q1
theorem C7(ha:PT X a tA):PT X (.UnaryOp .Not a pos) (Vd tA):=by
 intro pins s σ H Q I h
 exact isTrue_not (ha pins s σ H (λc H1=>Q (!c) H1) I h)
noncomputable def Vf(ta tb:TE):TE:=λσ H Q=>ta σ H λx H1=>∃c,x=.bl c/\if c=true then tb σ H1 Q else Q (.bl false) H1
noncomputable def Vg(ta:TE):TE:=λσ H Q=>ta σ H λx H1=>∃c,x=.bl c/\Q (.bl (!c)) H1
theorem vE{op}{t:TE}(h:PE X a t):PE X (.BoolOp op [a] pos) t:=λpins s σ H Q I hw=>BoolOp_one (h pins s σ H Q I hw)
theorem Vh(ha:PE X a ta)(hb:PE X (.BoolOp .And (b::eQ) pos) tb):PE X (.BoolOp .And (a::b::eQ) pos) (Vf ta tb):=by
 intro pins s σ H Q I h
 refine BoolOp_and (aK (ha pins s σ H _ I h) λv s1 ⟨x,H1,I1,r1,q1⟩=>?_)
 obtain⟨c,rfl,q1⟩:=q1
 cases r1
 refine wpAny_truthy_bool ?_
 cases c with
 | true=>exact hb pins s1 σ H1 Q I1 q1
 | false=>exact⟨.bl false,H1,I1,rfl,q1⟩
theorem Vi(ha:PE X a ta):PE X (.UnaryOp .Not a pos) (Vg ta):=by
 intro pins s σ H Q I h
 refine UnaryOp_ (aK (ha pins s σ H _ I h) λv s1 ⟨x,H1,I1,r1,q1⟩=>?_)
 obtain⟨c,rfl,q1⟩:=q1
 cases r1
 exact not_of (wpAny_truthy_bool ⟨.bl (!c),H1,I1,rfl,q1⟩)
noncomputable def Vj(t:TT)(ta tb:TE):TE:=λσ H Q=>t σ H λc H1=>if c=true then ta σ H1 Q else tb σ H1 Q
theorem Vk{c:Expr}(hc:PT X c tA)(ha:PE X a ta)(hb:PE X b tb):PE X (.IfExp c a b pos) (Vj tA ta tb):=by
 intro pins s σ H Q I h
 refine wpAny_IfExp (aK (hc pins s σ H _ I h) λd s1 ⟨H1,I1,q1⟩=>?_)
 cases d with
 | true=>exact ha pins s1 σ H1 Q I1 q1
 | false=>exact hb pins s1 σ H1 Q I1 q1
end
end L2
namespace L2
open PySem PySem.Spec PyProof.Rows
noncomputable def bu(K:PySem.W.Frag)(H:Hp)(a:Addr)(xs:List V):Prop :=
 Rd H a (.lst xs) \/
  ∃(o:Obj) (its:Array Value) (n:Nat),K.lookup a=some o/\o.cls=.type "list"/\o.dict=none/\o.data=.seq its n/\its.size<=sizeLine/\Vals xs its.toList
noncomputable def eY(K:PySem.W.Frag)(H:Hp)(a:Addr)(xs:List V):Prop :=
 Rd H a (.tup xs) \/
  ∃(o:Obj) (its:Array Value) (n:Nat),K.lookup a=some o/\o.cls=.type "tuple"/\o.data=.seq its n/\its.size<=sizeLine/\Vals xs its.toList
noncomputable def Vl:Value->Option V
 | .none=>some .ak
 | .bool b=>some (.bl b)
 | .int i _=>some (.int i)
 | .str x _=>some (.str x)
 | .bytes b _=>some (.zd b)
 | .float b _=>some (.oy b)
 | .ref a=>some (.ref a)
 | .type n=>some (.ty n)
 | _=>none
theorem RelV.abs{x:V}{u:Value}(r:RelV x u):Vl u=some x:=by
 cases x with
 | ak=>cases r;rfl
 | bl _=>cases r;rfl
 | int _=>obtain⟨t,rfl⟩:=r;rfl
 | str _=>obtain⟨t,rfl⟩:=r;rfl
 | zd _=>obtain⟨t,rfl⟩:=r;rfl
 | oy _=>obtain⟨t,rfl⟩:=r;rfl
 | ref _=>cases r;rfl
 | ty _=>cases r;rfl
theorem RelV.inj{x y:V}{u:Value}(r:RelV x u)(q:RelV y u):x=y:=cM (r.abs.symm.trans q.abs)
theorem Vals.inj:∀{xs ys:List V} {us:List Value},Vals xs us->Vals ys us->xs=ys
 | _,_,_,.nil,.nil=>rfl
 | _,_,_,.cons r t,.cons r' t'=>by rw[r.inj r',Vals.inj t t']
section
variable{X:Cx}{pins:List (Addr × Obj)}{σ:St}{H:Hp}{s:Shared}{a:Addr}{xs ys:List V}
theorem bu.of{K:PySem.W.Frag}(h:H a=some (.lst xs)):bu K H a xs:=.inl (.inl h)
theorem eY.of{K:PySem.W.Frag}(h:H a=some (.tup xs)):eY K H a xs:=.inl (.inl h)
theorem Inv.list(I:Inv X pins σ H s)(h:bu X.K H a xs):∃its:List Value,Vals xs its/\PlainL s.heap a its.toArray/\xs.length<=sizeLine:=by
 rcases h with h | ⟨o,its,n,hk,hc,hd,hs,hz,r⟩
 ·obtain⟨z,its,n,r,e⟩:=h.ok I.aA
  exact⟨its,r,⟨_,n,e,rfl,rfl,rfl⟩,z⟩
 ·refine⟨its.toList,r,⟨o,n,I.cN a o hk,hc,hd,by simpa using hs⟩,?_⟩
  have e:=r.length
  simp only[ie]at e
  omega
theorem Inv.tuple(I:Inv X pins σ H s)(h:eY X.K H a xs):∃its:List Value,Vals xs its/\IsTup s.heap a its.toArray/\xs.length<=sizeLine:=by
 rcases h with h | ⟨o,its,n,hk,hc,hs,hz,r⟩
 ·obtain⟨z,its,r,p⟩:=h.ok I.aA
  exact⟨its,r,p,z⟩
 ·refine⟨its.toList,r,⟨o,I.cN a o hk,hc,n,by simpa using hs⟩,?_⟩
  have e:=r.length
  simp only[ie]at e
  omega
theorem Inv.zr(I:Inv X pins σ H s)(h:bu X.K H a xs)(h':bu X.K H a ys):xs=ys:=by
 obtain⟨its,r,⟨o,n,e,_,_,d⟩,_⟩:=I.list h
 obtain⟨its',r',⟨o',n',e',_,_,d'⟩,_⟩:=I.list h'
 rw[e]at e';cases e'
 rw[d]at d'
 injection d' with d1 _
 have:its=its':=by simpa using congrArg Array.toList d1
 subst this
 exact r.inj r'
end
noncomputable abbrev Cx.iz(X:Cx)(E:Value->Shared->Prop):Cx:={ X with xe:=E }
noncomputable abbrev Cx.eZ(X:Cx):Cx:=X.iz λ_ _=>False
theorem Cx.Ok.iz{X:Cx}(ok:X.Ok)(E:Value->Shared->Prop):(X.iz E).Ok :=
 ⟨ok.mod,ok.kind,ok.glob,ok.blt,ok.above,ok.inj,ok.has,ok.oB,ok.hd,ok.frames,ok.vt,ok.vv,ok.bs,ok.gI,ok.qN,ok.qO,ok.ff,ok.iy⟩
theorem Cx.Ok.jn{X:Cx}{E:Value->Shared->Prop}(ok:(X.iz E).Ok):X.Ok :=
 ⟨ok.mod,ok.kind,ok.glob,ok.blt,ok.above,ok.inj,ok.has,ok.oB,ok.hd,ok.frames,ok.vt,ok.vv,ok.bs,ok.gI,ok.qN,ok.qO,ok.ff,ok.iy⟩
section
variable{X:Cx}{pins:List (Addr × Obj)}{σ:St}{H:Hp}{s:Shared}{E:Value->Shared->Prop}
theorem Inv.iz(I:Inv X pins σ H s)(E:Value->Shared->Prop):Inv (X.iz E) pins σ H s:=⟨I.ok.iz E,I.os,I.bare,I.base,I.loc,I.cell,I.free,I.gn,I.pin,I.aA,I.len⟩
theorem Inv.jn(I:Inv (X.iz E) pins σ H s):Inv X pins σ H s:=⟨I.ok.jn,I.os,I.bare,I.base,I.loc,I.cell,I.free,I.gn,I.pin,I.aA,I.len⟩
theorem SP.jn{D:Ends}{f:Flow}{s':Shared}(h:SP (X.iz E) pins D f s'):SP X pins D f s':=by
 cases f with
 | next=>obtain⟨ax,H',I,q⟩:=h;exact⟨ax,H',I.jn,q⟩
 | brk=>obtain⟨ax,H',I,q⟩:=h;exact⟨ax,H',I.jn,q⟩
 | cont=>obtain⟨ax,H',I,q⟩:=h;exact⟨ax,H',I.jn,q⟩
 | ret u=>obtain⟨v,ax,H',I,r,q⟩:=h;exact⟨v,ax,H',I.jn,r,q⟩
theorem PE.eZ{e:Expr}{t:TE}(h:PE X.eZ e t):PE X e t:=λpins s σ H Q I hw =>
 wpAny_mono (h pins s σ H Q (I.iz _) hw) (λ_ _ ⟨v,H',I',r,q⟩=>⟨v,H',I'.jn,r,q⟩) λ_ _ z=>eE z
theorem PT.eZ{e:Expr}{t:TT}(h:PT X.eZ e t):PT X e t:=λpins s σ H Q I hw =>
 wpAny_mono (h pins s σ H Q (I.iz _) hw) (λ_ _ ⟨H',I',q⟩=>⟨H',I'.jn,q⟩) λ_ _ z=>eE z
theorem PSs.eZ{st:List Stmt}{t:TS}(h:PSs X.eZ st t):PSs X st t:=λpins s σ H D I hw =>
 wpAny_mono (h pins s σ H D (I.iz _) hw) (λ_ _ q=>q.jn) λ_ _ z=>eE z
end
section
variable{X:Cx}{st:Stmt}{eQ:List Stmt}{t u:TS}{e:Expr}{te:TE}{pos:Pos}
noncomputable def Vm:TS:=λD σ H=>D.nx σ H
noncomputable def Vn(t u:TS):TS:=λD σ H=>t { D with nx:=u D } σ H
theorem C8:PSs X [] Vm:=λ_ _ σ H _ I h=>wpAny_execs_nil ⟨σ,H,I,h⟩
theorem jo(h1:PS X st t)(h2:PSs X eQ u):PSs X (st::eQ) (Vn t u):=by
 intro pins s σ H D I h
 refine wpAny_execs_cons (aK (h1 pins s σ H { D with nx:=u D } I h) λf s1 q=>?_)
 cases f with
 | next =>
  obtain⟨ax,H',I',q⟩:=q
  exact h2 pins s1 ax H' D I' q
 | ret v=>exact q
 | brk=>exact q
 | cont=>exact q
theorem qS(h1:PS X st t):PSs X [st] t:=by
 intro pins s σ H D I h
 refine wpAny_execs_cons (aK (h1 pins s σ H D I h) λf s1 q=>?_)
 cases f with
 | next=>exact wpAny_execs_nil q
 | ret v=>exact q
 | brk=>exact q
 | cont=>exact q
theorem Inv.quiet{pins:List (Addr × Obj)}{σ:St}{H:Hp}{s:Shared}(I:Inv X pins σ H s):interactive X.env=false:=by simp[interactive,I.ok.kind]
noncomputable def Vo(te:TE):TS:=λD σ H=>te σ H λ_ H1=>D.nx σ H1
theorem zt(he:PE X e te)(hs:swapsWith e none pos.line X.env=pure false:=by rfl):PS X (.Expr e pos) (Vo te):=by
 intro pins s σ H D I h
 exact wpAny_Expr_any (aK (he pins s σ H _ I h) λv s1 ⟨x,H1,I1,r1,q1⟩=>⟨σ,H1,I1,q1⟩) I.quiet hs
noncomputable def Vp(te:TE):TS:=λD σ H=>te σ H D.rt
theorem Vq(he:PE X e te):PS X (.Return (some e) pos) (Vp te):=by
 intro pins s σ H D I h
 exact wpAny_Return_some (aK (he pins s σ H _ I h) λv s1 ⟨x,H1,I1,r1,q1⟩=>⟨x,σ,H1,I1,r1,q1⟩)
noncomputable def Vr(c:TT)(t u:TS):TS:=λD σ H=>c σ H λb H1=>if b=true then t D σ H1 else u D σ H1
theorem C9{c:Expr}{a b:List Stmt}{tc:TT}(hc:PT X c tc)(ha:PSs X a t)(hb:PSs X b u):PS X (.If c a b pos) (Vr tc t u):=by
 intro pins s σ H D I h
 refine wpAny_If (aK (hc pins s σ H _ I h) λd s1 ⟨H1,I1,q1⟩=>?_)
 cases d with
 | true=>exact ha pins s1 σ H1 D I1 q1
 | false=>exact hb pins s1 σ H1 D I1 q1
noncomputable def Vs:TS:=λ_ _ _=>False
theorem Mp:PS X st Vs:=λ_ _ _ _ _ _ h=>h.elim
end
noncomputable abbrev TG:=V->St->Hp->(St->Hp->Prop)->Prop
noncomputable abbrev oG:=List V->St->Hp->(St->Hp->Prop)->Prop
noncomputable def PG(X:Cx)(target:Expr)(t:TG):Prop :=
 ∀(pins:List (Addr × Obj)) (s:Shared) (σ:St) (H:Hp) (v:V) (u:Value) (Q:St->Hp->Prop),Inv X pins σ H s->RelV v u->t v σ H Q ->
  wpAny (model X.prog X.w) X.A (assign target X.env u) (λ_ s'=>∃ax H',Inv X pins ax H' s'/\Q ax H') X.xe s
noncomputable def zu(X:Cx)(ts:List Expr)(t:oG):Prop :=
 ∀(pins:List (Addr × Obj)) (s:Shared) (σ:St) (H:Hp) (vs:List V) (us:List Value) (Q:St->Hp->Prop),Inv X pins σ H s->Vals vs us->t vs σ H Q ->
  wpAny (model X.prog X.w) X.A (assignInOrder ((assignEach ts X.env).map (·.2)) us) (λ_ s'=>∃ax H',Inv X pins ax H' s'/\Q ax H') X.xe s
noncomputable abbrev Dc:=V->V->V->Hp->(Hp->Prop)->Prop
noncomputable def Mq(X:Cx)(t:Dc):Prop :=
 ∀(pins:List (Addr × Obj)) (s:Shared) (σ:St) (H:Hp) (o i v:V) (ov iv u:Value) (Q:Hp->Prop),Inv X pins σ H s->RelV o ov->RelV i iv->RelV v u->t o i v H Q ->
  wpAny (model X.prog X.w) X.A (setItem ov iv u) (λ_ s'=>∃H',Inv X pins σ H' s'/\Q H') X.xe s
noncomputable abbrev De:=V->V->Hp->VK->Prop
noncomputable def Vt(X:Cx)(op:Operator)(t:De):Prop :=
 ∀(pins:List (Addr × Obj)) (s:Shared) (σ:St) (H:Hp) (x y:V) (v u:Value) (Q:VK),Inv X pins σ H s->RelV x v->RelV y u->t x y H Q ->
  wpAny (model X.prog X.w) X.A (inplaceOp op v u) (EP X pins σ Q) X.xe s
section
variable{X:Cx}{pos:Pos}
noncomputable def zw(i:Nat):TG:=λv σ H Q=>Q (σ.set i (some v)) H
theorem zx{i:Nat}{x:Str}(hN:X.N.Nodup)(hi:X.N[i]?=some x)(hx:Loc X.env.scope x)(hf:X.fn x=true\/X.env.scope.names.lookup x=some .local:=by first | exact .inl rfl | exact .inr rfl | assumption):PG X (.Name x pos) (zw i):=by
 intro pins s σ H v u Q I r h
 exact wpAny_assign_Name (C5 I hN hi hx r (λs' I'=>⟨_,H,I',h⟩) hf)
noncomputable def Vu:oG:=λvs σ H Q=>vs=[]/\Q σ H
noncomputable def Vv(t:TG)(u:oG):oG:=λvs σ H Q=>∃v r,vs=v::r/\t v σ H λax H'=>u r ax H' Q
theorem Vw:zu X [] Vu:=by
 intro pins s σ H vs us Q I r h
 obtain⟨e,h⟩:=h
 subst e
 cases r
 exact assignInOrder_nil ⟨σ,H,I,h⟩
theorem Mr{e:Expr}{es:List Expr}{t:TG}{u:oG}(h1:PG X e t)(h2:zu X es u)
  (hs:(assignEach (e::es) X.env).map (·.2)=assign e X.env::(assignEach es X.env).map (·.2):=by rfl):zu X (e::es) (Vv t u):=by
 intro pins s σ H vs us Q I r h
 obtain⟨v,vr,e1,h⟩:=h
 subst e1
 cases r with
 | cons r rr =>
  rw[hs]
  refine assignInOrder_cons (aK (h1 pins s σ H _ _ _ I r h) λ_ s1 ⟨fH,H1,I1,q1⟩=>?_)
  exact h2 pins s1 fH H1 _ _ Q I1 rr q1
noncomputable def Vx(K:PySem.W.Frag)(n:Nat)(t:oG):TG:=λv σ H Q=>∃a xs,v=.ref a/\eY K H a xs/\xs.length=n/\t xs σ H Q
theorem Vy{es:List Expr}{k:Nat}{t:oG}{n:Nat}(hc:X.calm=true)(h:zu X es t)
  (hn:(assignEach es X.env).length=n:=by rfl) (cH:(assignEach es X.env).findIdx? (·.1)=none:=by rfl):PG X (.Tuple es k pos) (Vx X.K n t):=by
 intro pins s σ H v u Q I r hw
 obtain⟨a,xs,e1,hq,hl,hw⟩:=hw
 subst e1
 cases r
 obtain⟨its,rv,ht,hz⟩:=I.tuple hq
 refine assign_Tuple_tuple (I.ok.hd hc) ht (by simp[hn,<- hl,rv.length]) cH λh' hx=>?_
 have I1:Inv X pins σ H { s with heap:=h' }:=I.kept (t':=s.toks) λb o e=>hx b o (cR (br e)) e
 exact h pins _ σ H xs _ Q I1 (by simpa using rv) hw
noncomputable def Vz(to ti:TE)(t:Dc):TG:=λv σ H Q=>to σ H λo H1=>ti σ H1 λi H2=>t o i v H2 λH3=>Q σ H3
theorem VA{o i:Expr}{to ti:TE}{t:Dc}(ho:PE X o to)(hi:PE X i ti)(hs:Mq X t)
  (ha:∀v,assign (.Subscript o i pos) X.env v=(do
   let ov<-holding [v] (eval o X.env)
   let iv<-holding [v,ov] (eval i X.env)
   standAt pos
   holding [v,ov,iv] (setItem ov iv v)
   release [v,ov,iv] []):=by intro _;rfl):PG X (.Subscript o i pos) (Vz to ti t):=by
 intro pins s σ H v u Q I r h
 rw[ha]
 refine wpAny_bind (wpAny_holding (aK (ho pins s σ H _ I h) λov s1 ⟨x,H1,I1,r1,q1⟩=>?_))
 refine wpAny_bind (wpAny_holding (aK (hi pins s1 σ H1 _ I1 q1) λiv s2 ⟨y,H2,I2,r2,q2⟩=>?_))
 refine wpAny_bind (wpAny_standAt (wpAny_bind (wpAny_holding (aK (hs pins s2 σ H2 x y v ov iv u _ I2 r1 r2 r q2) λ_ s3 ⟨H3,I3,q3⟩=>?_))))
 exact wpAny_release ⟨σ,H3,I3,q3⟩
noncomputable def Df(te:TE)(g:TG):TS:=λD σ H=>te σ H λx H1=>g x σ H1 D.nx
theorem VB{tg e:Expr}{te:TE}{g:TG}(he:PE X e te)(hg:PG X tg g)(hs:swapsWithSole [tg] e pos.line X.env=pure false:=by rfl)(hw:swappedStores [tg] e X.env=pure none:=by rfl)
  (h1:(assignEach [tg] X.env).map (·.2)=[assign tg X.env]:=by rfl):PS X (.Assign [tg] e pos) (Df te g):=by
 intro pins s σ H D I h
 refine wpAny_Assign_stores (aK (he pins s σ H _ I h) λv s1 ⟨x,H1,I1,r1,q1⟩=>?_) hs hw
 rw[h1]
 exact aK (hg pins s1 σ H1 x v _ I1 r1 q1) λ_ s2 q=>q
theorem Ms{i:Nat}{x:Str}{e:Expr}{te:TE}{pos':Pos}(hN:X.N.Nodup)(hi:X.N[i]?=some x)(hx:Loc X.env.scope x)(he:PE X e te)(hs:swapsWith e (some (.Name x pos')) pos.line X.env=pure false:=by rfl)(hf:X.fn x=true\/X.env.scope.names.lookup x=some .local:=by first | exact .inl rfl | exact .inr rfl | assumption) :
  PS X (.Assign [.Name x pos'] e pos) (Df te (zw i)):=by
 intro pins s σ H D I h
 refine wpAny_Assign_Name (aK (he pins s σ H _ I h) λv s1 ⟨y,H1,I1,r1,q1⟩=>?_) hs
 exact C5 I1 hN hi hx r1 (λs2 I2=>⟨_,H1,I2,q1⟩) hf
noncomputable def VC(i:Nat)(te:TE)(ti:De):TS:=λD σ H=>∃x,σ[i]?=some (some x)/\te σ H λy H1=>ti x y H1 λz H2=>D.nx (σ.set i (some z)) H2
theorem VD{i:Nat}{x:Str}{e:Expr}{te:TE}{op:Operator}{ti:De}{pos':Pos}(hN:X.N.Nodup)(hi:X.N[i]?=some x)(hx:Loc X.env.scope x)(he:PE X e te)(ho:Vt X op ti)(hf:X.fn x=true\/X.env.scope.names.lookup x=some .local:=by first | exact .inl rfl | exact .inr rfl | assumption) :
  PS X (.AugAssign (.Name x pos') op e pos) (VC i te ti):=by
 intro pins s σ H D I h
 obtain⟨v,e1,h⟩:=h
 obtain⟨m,hn,hl⟩:=I.loc
 have VE:jT X.env.scope x:=by rcases hx with k | k;exact .inl k;exact .inr (.inl k)
 obtain⟨u,r,l⟩:=hl i x v hi e1 VE
 refine wpAny_AugAssign_Name ?_
 have go:wpAny (model X.prog X.w) X.A (eval e X.env) (λw jq=>wpAny (model X.prog X.w) X.A (inplaceOp op u w) (λr VF=>wpAny (model X.prog X.w) X.A (storeName X.env x r) (λ_=>SP X pins D .next) X.xe VF) X.xe jq) X.xe s:=by
  refine aK (he pins s σ H _ I h) λw s1 ⟨y,H1,I1,r1,q1⟩=>?_
  refine aK (ho pins s1 σ H1 v y u w _ I1 r r1 q1) λz s2 ⟨zv,H2,I2,r2,q2⟩=>?_
  exact C5 I2 hN hi hx r2 (λs3 I3=>⟨_,H2,I3,q2⟩) hf
 rcases l with⟨hk,hm⟩ | ⟨hk,c,hc,zk⟩
 ·exact wpAny_loadName_local I.ok.kind hk hn hm go
 ·rcases hk with hk | hk
  ·exact wpAny_loadName_cell I.ok.kind hk hc zk go
  ·rcases hx with k | k
   ·have:X.env.scope.names.lookup x=some .free:=hk
    rw[k]at this;cases this
   ·have:X.env.scope.names.lookup x=some .free:=hk
    rw[k]at this;cases this
end
section
variable{X:Cx}{pos:Pos}
noncomputable def VG(c:TT)(tb:TS):TS:=λD σ H=>∃W:Nat->St->Hp->Prop,(∃m,W m σ H)/\∀m σ H,W m σ H ->
 c σ H λb H1=>if b=true then ∃N:St->Hp->Prop,(∀ax H',N ax H'->∃m',m'<m/\W m' ax H')/\tb { D with nx:=N,ct:=N,bk:=D.nx } σ H1 else D.nx σ H1
theorem VH{c:Expr}{body:List Stmt}{tc:TT}{tb:TS}(hp:PassesOwn (model X.prog X.w) X.A X.env X.xe)(hc:PT X c tc)(hb:PSs X body tb):PS X (.While c body [] pos) (VG tc tb):=by
 intro pins s σ H D I h
 obtain⟨W,⟨m0,w0⟩,turn⟩:=h
 refine wpAny_While (codeAny_whileLoop (λn s'=>∃ax H',Inv X pins ax H' s'/\W n ax H') ?_ m0 ⟨σ,H,I,w0⟩)
 rintro n s1 ⟨fH,H1,I1,w1⟩
 refine wpAny_passesOwn hp (aK (hc pins s1 fH H1 _ I1 (turn n fH H1 w1)) λb s2 ⟨H2,I2,q2⟩=>?_)
 cases b with
 | true =>
  obtain⟨N,hN,q2⟩:=q2
  rw[if_pos rfl]
  refine wpAny_passesOwn hp (aK (hb pins s2 fH H2 _ I2 q2) λf s3 q3=>?_)
  cases f with
  | next =>
   obtain⟨jr,H3,I3,n3⟩:=q3
   obtain⟨m',hm,w3⟩:=hN jr H3 n3
   exact⟨m',hm,jr,H3,I3,w3⟩
  | cont =>
   obtain⟨jr,H3,I3,n3⟩:=q3
   obtain⟨m',hm,w3⟩:=hN jr H3 n3
   exact⟨m',hm,jr,H3,I3,w3⟩
  | brk=>exact q3
  | ret v=>exact q3
 | false =>
  rw[if_neg ig]
  exact wpAny_execs_nil ⟨fH,H2,I2,q2⟩
end
structure It where
 go:Nat->Hp->Prop
 i3:Nat->Hp->V->Hp->Prop
 stop:Nat->Hp->Prop
noncomputable def gK(X:Cx)(pins:List (Addr × Obj))(H:Hp)(b:Addr):Prop :=
 H b=none/\b≠X.env.locals/\b ∉ X.fs/\(b∈X.ex\/X.bY.heap.objs.size<=b)/\(∀x c,X.env.cells.lookup x=some c->c≠b)/\∀p∈X.pn++pins,p.1≠b
theorem Inv.zy{X:Cx}{pins:List (Addr × Obj)}{σ:St}{H H':Hp}{s:Shared}{b:Addr}(I:Inv X pins σ H s)(hb:s.heap.objs.size<=b)(hn:H' b=none):gK X pins H' b:=by
 refine⟨hn,yC (cG I.lt hb),I.Mg hb,.inr (dP I.sz hb),λx c e z=>?_,λp hp z=>?_⟩
 ·obtain⟨v,q⟩:=I.cell x c e
  exact absurd (cG q.lt (by rw[z];exact hb)) (fP _)
 ·exact absurd (cG (br (I.pin p hp).1) (by rw[z];exact hb)) (fP _)
structure Turn(P:Program)(w:World)(K:PySem.W.Frag)(tg:Expr)(J:It)(fp:List Addr)(it:Addr)(tn:Nat->Heap->Prop):Prop where
 mem:it∈fp
 obj:∀i h,tn i h->∀b∈fp,∃o,h.get? b=some o/\∀v,o.data≠.cell v
 keep:∀i h h',tn i h->(∀b∈fp,∀o,h.get? b=some o->h'.get? b=some o)->tn i h'
 item:∀(X:Cx),X.prog=P->X.w=w->X.K=K->X.calm=true->∀(i:Nat) (pins:List (Addr × Obj)) (s:Shared) (σ:St) (H:Hp) (E:Value->Shared->Prop),Inv X pins σ H s->(∀b∈fp,gK X pins H b)->tn i s.heap->J.go i H ->
  wpAny (model P w) X.A (pyNext (.ref it)) (λr s1=>∃u,r=some u /\
   wpAny (model P w) X.A (letOwnedTupleGo tg (.ref it) u) (λ_ s2=>∃x H',Inv X pins σ H' s2/\RelV x u/\J.i3 i H x H'/\tn (i+1) s2.heap/\∀b∈fp,H' b=none) E s1) E s
 done:∀(X:Cx),X.prog=P->X.w=w->X.K=K->X.calm=true->∀(i:Nat) (pins:List (Addr × Obj)) (s:Shared) (σ:St) (H:Hp) (E:Value->Shared->Prop),Inv X pins σ H s->(∀b∈fp,gK X pins H b)->tn i s.heap->J.stop i H ->
  wpAny (model P w) X.A (pyNext (.ref it)) (λr s1=>r=none/\Inv X pins σ H s1) E s
 self:∀(A:Around) (i:Nat) (s:Shared) (Q:Value->Shared->Prop) (E:Value->Shared->Prop),tn i s.heap->Q (.ref it) s->wpAny (model P w) A (pyIter (.ref it)) Q E s
noncomputable abbrev TI:=St->Hp->(It->Hp->Prop)->Prop
noncomputable def Mt(X:Cx)(pins:List (Addr × Obj))(σ:St)(tg:Expr)(R:It->Hp->Prop)(Dg:Value)(s2:Shared):Prop :=
 ∃(it:Addr) (fp:List Addr) (tn:Nat->Heap->Prop) (J:It) (H':Hp),Dg=.ref it/\Inv X pins σ H' s2/\Turn X.prog X.w X.K tg J fp it tn/\tn 0 s2.heap/\(∀b∈fp,gK X pins H' b)/\R J H'
noncomputable def PI(X:Cx)(tg iter:Expr)(wi:TI):Prop :=
 ∀(pins:List (Addr × Obj)) (s:Shared) (σ:St) (H:Hp) (R:It->Hp->Prop),Inv X pins σ H s->wi σ H R ->
  wpAny (model X.prog X.w) X.A (eval iter X.env) (λv s1=>wpAny (model X.prog X.w) X.A (pyIter v) (Mt X pins σ tg R) X.xe s1) X.xe s
theorem Mu{M:Model}{A:Around}{E:Value->Shared->Prop}{s:Shared}{tg:Expr}{it:Addr}{u:Value}{o:Obj}{n:String}{vs:Array Value}{Q:Unit->Shared->Prop}(ho:s.heap.get? it=some o)(hc:o.cls=.type n)(hd:o.data=.fields vs)
  (hn:["enumerate","zip","dict_itemiterator","dict_reverseitemiterator","odict_iterator","itertools.zip_longest","itertools.pairwise"].contains n=false) (hQ:Q () s):wpAny M A (letOwnedTupleGo tg (.ref it) u) Q E s:=by
 unfold letOwnedTupleGo
 cases tg<;>first
  | exact wpAny_pure hQ
  | (cases u<;>first
    | exact wpAny_pure hQ
    | (refine wpAny_bind (wpAny_load ho ?_)
       rw[hc,hd]
       show wpAny M A (if(["enumerate","zip","dict_itemiterator","dict_reverseitemiterator","odict_iterator","itertools.zip_longest","itertools.pairwise"].contains n&&vs[0]?==some (rawInt _))=true then _ else _) Q E s
       rw[if_neg (by intro h;rw[hn,u6]at h;cases h)]
       exact wpAny_pure hQ))
noncomputable def Dh(K:PySem.W.Frag)(a:Addr):It :=
 ⟨λi H=>∃xs x,bu K H a xs/\xs[i]?=some x,λi H x H'=>H'=H/\∀xs,bu K H a xs->xs[i]?=some x,λi H=>∃xs,bu K H a xs/\xs.length<=i⟩
noncomputable def vF(lo:Int)(n:Nat):It:=⟨λi _=>i<n,λi H x H'=>H'=H/\x=.int (lo+i),λi _=>n<=i⟩
theorem VI{P:Program}{w:World}{K:PySem.W.Frag}{tg:Expr}(a it:Addr):Turn P w K tg (Dh K a) [it] it (λi h=>h.IsListIter it a i) where
 mem:=by simp
 obj:=λi h st b hb=>by
  have e:b=it:=by simpa using hb
  subst e
  obtain⟨o,e,c,d⟩:=st
  exact⟨o,e,λv z=>by rw[d]at z;cases z⟩
 keep:=λi h h' st k=>st.at λo e=>k it (by simp) o e
 item:=by
  intro X hP hw hK hc i pins s σ H E I hf st hg
  subst hP hw hK
  obtain⟨xs,x,hq,hx⟩:=hg
  obtain⟨its,rv,p,hz⟩:=I.list hq
  obtain⟨u,hu,ru⟩:=rv.get hx
  obtain⟨f0,f1,f2,f3,f4,f5⟩:=hf it (by simp)
  refine wpAny_pyNext_list_item st p.isList (x:=u) (by simpa using hu) λh' mV sb=>?_
  have I1:Inv X pins σ H { s with heap:=h' }:=I.turned (t':=s.toks) (λb o hb e=>(sb.2 b hb).trans e) f0 f1 f3 f4 f5
  obtain⟨o,e,c,d⟩:=id mV
  exact⟨u,rfl,Mu (s:={ s with heap:=h' }) e c d (by decide) ⟨x,H,I1,ru,⟨rfl,λys hy=>by rw[I.zr hy hq];exact hx⟩,mV,λb hb=>(hf b hb).1⟩⟩
 done:=by
  intro X hP hw hK hc i pins s σ H E I hf st hg
  subst hP hw hK
  obtain⟨xs,hq,hx⟩:=hg
  obtain⟨its,rv,p,hz⟩:=I.list hq
  obtain⟨f0,f1,f2,f3,f4,f5⟩:=hf it (by simp)
  have hl:=rv.length
  exact wpAny_pyNext_list_end (I.ok.hd hc) st p.isList (by simp;omega) λh' eb=>⟨rfl,I.turned (t':=s.toks) (λb o hb e=>eb b o hb e) f0 f1 f3 f4 f5⟩
 self:=λ_ _ _ _ _ st h=>wpAny_pyIter_listiter st h
theorem VJ{P:Program}{w:World}{K:PySem.W.Frag}{tg:Expr}(it:Addr)(lo:Int)(n:Nat):Turn P w K tg (vF lo n) [it] it (λi h=>IsRangeIter h it (lo+(i:Nat)*1) ((n:Int)-(i:Nat)) 1) where
 mem:=by simp
 obj:=λi h st b hb=>by
  have e:b=it:=by simpa using hb
  subst e
  exact⟨_,st,λv z=>by
   have z':Data.fields _=Data.cell v:=z
   cases z'⟩
 keep:=λi h h' st k=>k it (by simp) _ st
 item:=by
  intro X hP hw hK hc i pins s σ H E I hf st hg
  subst hP hw hK
  obtain⟨f0,f1,f2,f3,f4,f5⟩:=hf it (by simp)
  have W:=Walks.range (prog:=X.prog) (w:=X.w) (I.ok.hd hc) it lo 1 n
  refine W.item i s _ _ hg st λv h' tk hv mV kk=>?_
  obtain⟨t,rfl⟩:=hv
  have I1:Inv X pins σ H { s with heap:=h',toks:=tk }:=I.turned (λb o hb e=>kk b o (by simpa using hb) e) f0 f1 f3 f4 f5
  refine⟨_,rfl,Mu (s:={ s with heap:=h',toks:=tk }) (n:="range_iterator") mV rfl rfl (by decide) ⟨.int (lo+i),H,I1,⟨t,?_⟩,⟨rfl,rfl⟩,mV,λb hb=>(hf b hb).1⟩⟩
  rw[Int.mul_one]
 done:=by
  intro X hP hw hK hc i pins s σ H E I hf st hg
  subst hP hw hK
  obtain⟨f0,f1,f2,f3,f4,f5⟩:=hf it (by simp)
  exact wpAny_pyNext_range_end (I.ok.hd hc) st (by have:n<=i:=hg;omega) λh' eb=>⟨rfl,I.turned (t':=s.toks) (λb o hb e=>eb b o hb e) f0 f1 f3 f4 f5⟩
 self:=λ_ _ _ _ _ st h=>wpAny_pyIter_rangeiter st h
end L2
namespace L2
open PySem PySem.Spec PyProof.Rows
section
variable{X:Cx}{tg:Expr}
noncomputable def VL(K:PySem.W.Frag)(tl:TE):TI:=λσ H R=>tl σ H λx H1=>∃a,x=.ref a/\(∃xs,bu K H1 a xs)/\R (Dh K a) H1
theorem Mv{l:Expr}{tl:TE}(hl:PE X l tl):PI X tg l (VL X.K tl):=by
 intro pins s σ H R I h
 refine aK (hl pins s σ H _ I h) λv s1 ⟨x,H1,I1,r1,q1⟩=>?_
 obtain⟨a,e,⟨xs,hq⟩,q⟩:=q1
 subst e
 cases r1
 obtain⟨its,rv,p,hz⟩:=I1.list hq
 refine wpAny_pyIter_list p.isList ?_
 refine⟨s1.heap.objs.size,[s1.heap.objs.size],_,_,H1,rfl,I1.kept (t':=s1.toks) λb o e=>cm _ e,VI a _,⟨_,dn _ rfl,rfl,rfl⟩,λb hb=>?_,q⟩
 have e:b=s1.heap.objs.size:=by simpa using hb
 subst e
 exact I1.zy (aZ _) (I1.aA.fresh (aZ _))
theorem Mw{pins:List (Addr × Obj)}{σ:St}{H:Hp}{s:Shared}{R:It->Hp->Prop}{E:Value->Shared->Prop}{lo hi:Int}{t u v:Tok}{tk:Nat}(I:Inv X pins σ H s)(h1:-(2 ^ 62)<=lo)(h2:lo<2 ^ 62)(h3:-(2 ^ 62)<=hi)(h4:hi<2 ^ 62)
  (q:R (vF lo (hi-lo).toNat) H):wpAny (model X.prog X.w) X.A (pyIter (.ref s.heap.objs.size)) (Mt X pins σ tg R) E { s with heap:=s.heap.push { cls:=.type "range",data:=.fields #[.int lo t,.int hi u,.int 1 v] },toks:=tk }:=by
 refine wpAny_pyIter_range (IsRange.new ..) (small_one h1 h2 h3 h4) ?_
 have I1:Inv X pins σ H { s with heap:=s.heap.push { cls:=.type "range",data:=.fields #[.int lo t,.int hi u,.int 1 v] },toks:=tk }:=I.kept λb o e=>cm _ e
 refine⟨(s.heap.push { cls:=.type "range",data:=.fields #[.int lo t,.int hi u,.int 1 v] }).objs.size,[(s.heap.push { cls:=.type "range",data:=.fields #[.int lo t,.int hi u,.int 1 v] }).objs.size],_,_,H,rfl,
  I1.kept (t':=tk) λb o e=>cm _ e,VJ _ lo (hi-lo).toNat,?_,λb hb=>?_,q⟩
 ·have e1:lo+((0:Nat):Int)*1=lo:=by simp
  have e2:(((hi-lo).toNat:Nat):Int)-((0:Nat):Int)=Builtin.Range.rangeSize lo hi 1:=by rw[rangeSize_one];split<;>omega
  show IsRangeIter _ _ (lo+((0:Nat):Int)*1) ((((hi-lo).toNat:Nat):Int)-((0:Nat):Int)) 1
  rw[e1,e2]
  exact dn _ rfl
 ·have e:b=(s.heap.push { cls:=.type "range",data:=.fields #[.int lo t,.int hi u,.int 1 v] }).objs.size:=by simpa using hb
  subst e
  exact I1.zy (aZ _) (I1.aA.fresh (aZ _))
noncomputable def VM(ta:TA):TI:=λσ H R=>ta σ H λvs H1=>∃j:Int,vs=[.int j]/\-(2 ^ 62)<=j/\j<2 ^ 62/\R (vF 0 j.toNat) H1
noncomputable def VN(ta:TA):TI:=λσ H R=>ta σ H λvs H1=>∃i j:Int,vs=[.int i,.int j]/\(-(2 ^ 62)<=i/\i<2 ^ 62/\-(2 ^ 62)<=j/\j<2 ^ 62)/\R (vF i (j-i).toNat) H1
theorem VO{a:Expr}{ta:TA}{p pos:Pos}(hg:Gl X "range")(hm:X.mg "range"=none)(ha:PA X [a] ta)(hs:starEach [a] X.env=[(false,eval a X.env)]:=by rfl):PI X tg (.Call (.Name "range" p) [a] [] pos) (VM ta):=by
 intro pins s σ H R I h
 refine Call_ (oF I hg hm boot_range (yD (aK (ha pos pins s σ H _ I h) λus s1 ⟨vs,H1,I1,r1,q1⟩=>?_) hs rfl))
 obtain⟨j,e,q1,q2,q⟩:=q1
 subst e
 cases r1 with
 | cons r rr =>
  cases rr
  obtain⟨t,rfl⟩:=r
  exact call_range_1 (Mw I1 (by omega) (by omega) q1 q2 (by simpa using q))
theorem VP{a b:Expr}{ta:TA}{p pos:Pos}(hg:Gl X "range")(hm:X.mg "range"=none)(ha:PA X [a,b] ta)(hs:starEach [a,b] X.env=[(false,eval a X.env),(false,eval b X.env)]:=by rfl)(gL:starEach [b] X.env=[(false,eval b X.env)]:=by rfl) :
  PI X tg (.Call (.Name "range" p) [a,b] [] pos) (VN ta):=by
 intro pins s σ H R I h
 refine Call_ (oF I hg hm boot_range (yD (aK (ha pos pins s σ H _ I h) λus s1 ⟨vs,H1,I1,r1,q1⟩=>?_) (by rw[hs,gL]) (by rw[gL];rfl)))
 obtain⟨i,j,e,⟨q1,q2,q3,q4⟩,q⟩:=q1
 subst e
 cases r1 with
 | cons r rr =>
  cases rr with
  | cons r' rr =>
   cases rr
   obtain⟨t,rfl⟩:=r
   obtain⟨t',rfl⟩:=r'
   exact call_range_2 (Mw I1 q1 q2 q3 q4 q)
noncomputable def VQ(wi:TI)(g:TG)(tb:TS):TS:=λD σ H=>wi σ H λJ H1=>∃W:Nat->Nat->St->Hp->Prop,(∃m,W 0 m σ H1)/\∀i m σ H,W i m σ H ->
 (J.stop i H/\D.nx σ H)\/(J.go i H/\∃N:St->Hp->Prop,(∀ax H',N ax H'->∃m',m'<m/\W (i+1) m' ax H')/\∀x H',J.i3 i H x H'->g x σ H' λjV H2=>tb { D with nx:=N,ct:=N,bk:=D.nx } jV H2)
noncomputable def vG(fp:List Addr)(h:Heap):List (Addr × Obj):=fp.filterMap λb=>(h.get? b).map λo=>(b,o)
theorem zA{fp:List Addr}{h:Heap}{b:Addr}{o:Obj}(hb:b∈fp)(e:h.get? b=some o):(b,o)∈vG fp h:=Ug.mpr ⟨b,hb,by rw[e];rfl⟩
theorem VR{fp:List Addr}{h:Heap}{p:Addr × Obj}(hp:p∈vG fp h):p.1∈fp/\h.get? p.1=some p.2:=by
 obtain⟨b,hb,e⟩:=Ug.mp hp
 cases q:h.get? b with
 | none=>rw[q]at e;cases e
 | some o =>
  rw[q]at e
  have e':(b,o)=p:=cM e
  subst e'
  exact⟨hb,q⟩
theorem Inv.pinned{pins:List (Addr × Obj)}{σ:St}{H:Hp}{s:Shared}{fp:List Addr}(I:Inv X pins σ H s)(hf:∀b∈fp,gK X pins H b)(ho:∀b∈fp,∃o,s.heap.get? b=some o/\∀v,o.data≠.cell v):Inv X (pins++vG fp s.heap) σ H s :=
 I.Mh λp hp=>(cx.mp hp).elim (λz=>I.pin p (dQ _ z)) λz=>by
  obtain⟨hb,e⟩:=VR z
  obtain⟨f0,f1,f2,_⟩:=hf p.1 hb
  obtain⟨o,e',d⟩:=ho p.1 hb
  rw[e]at e';cases e'
  exact⟨e,f0,f1,f2,d⟩
theorem Inv.vH{pins pl:List (Addr × Obj)}{σ:St}{H:Hp}{s:Shared}(I:Inv X (pins++pl) σ H s):Inv X pins σ H s:=I.Mh λp hp=>I.pin p (dQ _ (e7 _ hp))
theorem VS{iter:Expr}{body:List Stmt}{wi:TI}{g:TG}{tb:TS}{pos:Pos}(hp:PassesOwn (model X.prog X.w) X.A X.env X.xe)(hc:X.calm=true)(hi:PI X tg iter wi)(hg:PG X tg g)(hb:PSs X body tb)
  (hs:∀x,foldedSetIterable iter X.env x=pure x:=by intro _;rfl):PS X (.For tg iter body [] pos) (VQ wi g tb):=by
 intro pins s σ H D I h
 refine wpAny_For (aK (hi pins s σ H _ I h) λv s1 h1=>aK h1 λDg s2 h2=>?_) hs
 obtain⟨it,fp,tn,J,H2,e,I2,T,vI,f2,W,⟨m0,w0⟩,turn⟩:=h2
 subst e
 have Di:∀{H':Hp},(∀b∈fp,H' b=none)->∀b∈fp,gK X pins H' b:=λhn b hb=>⟨hn b hb,(f2 b hb).2⟩
 refine codeAny_forLoop_any (λn s'=>∃i ax H',Inv X pins ax H' s'/\tn i s'.heap/\(∀b∈fp,H' b=none)/\W i n ax H') ?_ m0 ⟨0,σ,H2,I2,vI,λb hb=>(f2 b hb).1,w0⟩
 rintro n s3 ⟨i,jr,H3,I3,Mx,Mz,w3⟩
 rcases turn i n jr H3 w3 with⟨stop,qn⟩ | ⟨go,N,hN,step⟩
 ·refine wpAny_passesOwn hp (aK (T.done X rfl rfl rfl hc i pins s3 jr H3 X.xe I3 (Di Mz) Mx stop) λr s4 ⟨hr,I4⟩=>?_)
  subst hr
  exact wpAny_execs_nil ⟨jr,H3,I4,qn⟩
 ·refine wpAny_passesOwn hp (aK (T.item X rfl rfl rfl hc i pins s3 jr H3 X.xe I3 (Di Mz) Mx go) λr s4 ⟨u,hr,h4⟩=>?_)
  subst hr
  refine wpAny_passesOwn hp (aK h4 λ_ s5 ⟨x,H5,I5,r5,y5,oH,Dj⟩=>?_)
  have Dk:=I5.pinned (Di Dj) (T.obj _ _ oH)
  refine wpAny_passesOwn hp (aK (hg _ s5 jr H5 x u _ Dk r5 (step x H5 y5)) λ_ s6 ⟨Dm,H6,I6,q6⟩=>?_)
  refine wpAny_passesOwn hp (aK (hb _ s6 Dm H6 _ I6 q6) λf s7 q7=>?_)
  have again:∀{js:St} {H7:Hp},Inv X (pins++vG fp s5.heap) js H7 s7->N js H7->∃m,m<n/\∃i ax H',Inv X pins ax H' s7/\tn i s7.heap/\(∀b∈fp,H' b=none)/\W i m ax H':=λ{js H7} I7 n7=>by
   obtain⟨m',hm,w7⟩:=hN js H7 n7
   refine⟨m',hm,i+1,js,H7,I7.vH,T.keep _ _ _ oH λb hb o e=>(I7.pin (b,o) (dQ _ (dQ _ (zA hb e)))).1,λb hb=>?_,w7⟩
   obtain⟨o,e,d⟩:=T.obj _ _ oH b hb
   exact(I7.pin (b,o) (dQ _ (dQ _ (zA hb e)))).2.1
  cases f with
  | next=>obtain⟨js,H7,I7,n7⟩:=q7;exact again I7 n7
  | cont=>obtain⟨js,H7,I7,n7⟩:=q7;exact again I7 n7
  | brk=>obtain⟨js,H7,I7,q7⟩:=q7;exact⟨js,H7,I7.vH,q7⟩
  | ret v=>obtain⟨x7,js,H7,I7,r7,q7⟩:=q7;exact⟨x7,js,H7,I7.vH,r7,q7⟩
end
end L2
namespace L2
open PySem PySem.Spec PyProof.Rows
noncomputable abbrev R2:=V->V->Hp->VK->Prop
noncomputable def cg(X:Cx)(f:Value->Value->Sem Value)(r:R2):Prop :=
 ∀(pins:List (Addr × Obj)) (s:Shared) (σ:St) (H:Hp) (x y:V) (v u:Value) (Q:VK),Inv X pins σ H s->RelV x v->RelV y u->r x y H Q ->
  wpAny (model X.prog X.w) X.A (f v u) (EP X pins σ Q) X.xe s
noncomputable def fg(X:Cx)(f:Value)(r:List V->Hp->VK->Prop):Prop :=
 ∀(pins:List (Addr × Obj)) (s:Shared) (σ:St) (H:Hp) (xs:List V) (us:List Value) (Q:VK),Inv X pins σ H s->Vals xs us->r xs H Q ->
  wpAny (model X.prog X.w) X.A (call f us) (EP X pins σ Q) X.xe s
noncomputable def vJ(r:R2)(ta tb:TE):TE:=λσ H Q=>ta σ H λx H1=>tb σ H1 λy H2=>r x y H2 Q
noncomputable def rI(C:Int->Int->Prop)(g:Int->Int->V):R2:=λx y H Q=>∃i j,x=.int i/\y=.int j/\C i j/\Q (g i j) H
noncomputable def iA(g:Int->Int->V):R2:=λx y H Q=>∃i j,x=.int i/\y=.int j/\Q (g i j) H
section
variable{X:Cx}{a b c:Expr}{ta tb tc:TE}{pos:Pos}
theorem Dn(ha:PE X a ta)(hb:PE X b tb){pins:List (Addr × Obj)}{s:Shared}{σ:St}{H:Hp}{R:V->V->Hp->Prop}(I:Inv X pins σ H s)
  (h:ta σ H λx H1=>tb σ H1 λy H2=>R x y H2) {Q:Value->Shared->Prop} {f:Value->Value->Sem Value}
  (hf:∀v u s2 x y H2,Inv X pins σ H2 s2->RelV x v->RelV y u->R x y H2->wpAny (model X.prog X.w) X.A (f v u) Q X.xe s2) :
  wpAny (model X.prog X.w) X.A (eval a X.env) (λv bw=>wpAny (model X.prog X.w) X.A (eval b X.env) (λu jq=>wpAny (model X.prog X.w) X.A (f v u) Q X.xe jq) X.xe bw) X.xe s:=by
 refine aK (ha pins s σ H _ I h) λv s1 ⟨x,H1,I1,r1,q1⟩=>?_
 refine aK (hb pins s1 σ H1 _ I1 q1) λu s2 ⟨y,H2,I2,r2,q2⟩=>?_
 exact hf v u s2 x y H2 I2 r1 r2 q2
theorem vK{op:Operator}{r:R2}(ho:cg X (binaryOp op) r)(ha:PE X a ta)(hb:PE X b tb):PE X (.BinOp a op b pos) (vJ r ta tb):=by
 intro pins s σ H Q I h
 exact wpAny_BinOp (Dn ha hb I h λv u s2 x y H2 I2 rx ry q=>ho pins s2 σ H2 x y v u Q I2 rx ry q)
theorem vL{f:Value->Value->Sem Value}{C:Int->Int->Prop}{g:Int->Int->Int}
  (rule:∀(i j:Int) (t u:Tok) (s:Shared) (Q:Value->Shared->Prop) (E:Value->Shared->Prop),C i j->Q (.int (g i j) s.toks) { s with toks:=s.toks+1 }->wpAny (model X.prog X.w) X.A (f (.int i t) (.int j u)) Q E s) :
  cg X f (rI C λi j=>.int (g i j)):=by
 intro pins s σ H x y v u Q I rx ry h
 obtain⟨i,j,rfl,rfl,hc,q⟩:=h
 obtain⟨t,rfl⟩:=rx
 obtain⟨t',rfl⟩:=ry
 exact rule i j t t' s _ _ hc ⟨.int (g i j),H,I.tok _,⟨_,rfl⟩,q⟩
theorem qT{f:Value->Value->Sem Value}{g:Int->Int->Int}
  (rule:∀(i j:Int) (t u:Tok) (s:Shared) (Q:Value->Shared->Prop) (E:Value->Shared->Prop),Q (.int (g i j) s.toks) { s with toks:=s.toks+1 }->wpAny (model X.prog X.w) X.A (f (.int i t) (.int j u)) Q E s) :
  cg X f (iA λi j=>.int (g i j)):=by
 intro pins s σ H x y v u Q I rx ry h
 obtain⟨i,j,rfl,rfl,q⟩:=h
 obtain⟨t,rfl⟩:=rx
 obtain⟨t',rfl⟩:=ry
 exact rule i j t t' s _ _ ⟨.int (g i j),H,I.tok _,⟨_,rfl⟩,q⟩
theorem zB{f:Value->Value->Sem Value}{g:Int->Int->Bool}
  (rule:∀(i j:Int) (t u:Tok) (s:Shared) (Q:Value->Shared->Prop) (E:Value->Shared->Prop),Q (.bool (g i j)) s->wpAny (model X.prog X.w) X.A (f (.int i t) (.int j u)) Q E s) :
  cg X f (iA λi j=>.bl (g i j)):=by
 intro pins s σ H x y v u Q I rx ry h
 obtain⟨i,j,rfl,rfl,q⟩:=h
 obtain⟨t,rfl⟩:=rx
 obtain⟨t',rfl⟩:=ry
 exact rule i j t t' s _ _ ⟨.bl (g i j),H,I,rfl,q⟩
noncomputable def jt(i j:Int):Prop:=(-(2 ^ 64)<i/\i<2 ^ 64)\/(-(2 ^ 64)<j/\j<2 ^ 64)
theorem jt.ok{i j:Int}(h:jt i j):IntMulOk i j:=by
 rcases h with⟨h1,h2⟩ | ⟨h1,h2⟩
 ·exact .of_left (intBits_le_64 h1 h2)
 ·exact .of_right (intBits_le_64 h1 h2)
theorem VT(k:Nat):(0:Int)<=2 ^ k:=by
 rw[two_pow_cast]
 exact LD _
theorem VU:cg X (binaryOp .Add) (iA λi j=>.int (i+j)):=qT λ_ _ _ _ _ _ _ q=>add_int q
theorem Dq:cg X (binaryOp .Sub) (iA λi j=>.int (i-j)):=qT λ_ _ _ _ _ _ _ q=>sub_int q
theorem VV:cg X (binaryOp .Mod) (rI (λ_ j=>0<j) λi j=>.int (i%j)):=vL λi j _ _ _ _ _ hc q=>by
 have h1:(0:Int)<j:=hc
 exact mod_int' (by omega) (by rw[Int.fmod_eq_emod_of_nonneg i (by omega)];exact q)
theorem VW:cg X (binaryOp .RShift) (rI (λ_ j=>0<=j) λi j=>.int (i/2 ^ j.toNat)):=vL λi j _ _ _ _ _ hc q =>
 rshift_int hc (by rw[Uh i (VT _)];exact q)
theorem VX:cg X (binaryOp .BitAnd) (iA λi j=>.int (mG i j)):=qT λ_ _ _ _ _ _ _ q=>and_int q
theorem VY:cg X (binaryOp .BitXor) (iA λi j=>.int (mH i j)):=qT λ_ _ _ _ _ _ _ q=>xor_int q
theorem VZ:cg X (inplaceOp .Add) (iA λi j=>.int (i+j)):=qT λ_ _ _ _ _ _ _ q=>iadd_int q
theorem V0:cg X (inplaceOp .BitXor) (iA λi j=>.int (mH i j)):=qT λ_ _ _ _ _ _ _ q=>ixor_int q
end
section
variable{X:Cx}{a b c:Expr}{ta tb tc:TE}{pos:Pos}
theorem V1{pins:List (Addr × Obj)}{σ:St}{H:Hp}{s:Shared}{Q:VK}{k k':Bool}(I:Inv X pins σ H s)(q:Q (.bl k) H)(e:k=k'):EP X pins σ Q (.bool k') s:=by
 subst e
 exact⟨.bl k,H,I,rfl,q⟩
theorem V2:cg X (compareOp .Lt) (iA λi j=>.bl (decide (i<j))):=zB λ_ _ _ _ _ _ _ q=>lt_int q
theorem V3:cg X (compareOp .LtE) (iA λi j=>.bl (decide (i<=j))):=zB λ_ _ _ _ _ _ _ q=>le_int q
theorem V4:cg X (compareOp .Gt) (iA λi j=>.bl (decide (j<i))):=zB λ_ _ _ _ _ _ _ q=>gt_int q
theorem V5:cg X (compareOp .GtE) (iA λi j=>.bl (decide (j<=i))):=zB λ_ _ _ _ _ _ _ q=>ge_int q
theorem V6:cg X (compareOp .IsNot) (λx y H Q=>y=.ak/\Q (.bl (!decide (x=.ak))) H):=by
 intro pins s σ H x y v u Q I rx ry h
 obtain⟨rfl,q⟩:=h
 cases ry
 refine isnot_none_gen (V1 I q ?_)
 cases x<;>first
  | (cases rx;rfl)
  | (obtain⟨t,rfl⟩:=rx;rfl)
theorem cg.or{f:Value->Value->Sem Value}{r r':R2}(h:cg X f r)(h':cg X f r'):cg X f (λx y H Q=>r x y H Q\/r' x y H Q):=by
 intro pins s σ H x y v u Q I rx ry q
 rcases q with q | q
 ·exact h pins s σ H x y v u Q I rx ry q
 ·exact h' pins s σ H x y v u Q I rx ry q
theorem cI(b:Expr){op:CmpOp}(h:op≠.In:=by decide)(h2:op≠.NotIn:=by decide):behindInMarks op b=false:=by
 have e1:(op==CmpOp.In)=false:=by cases op<;>first | rfl | exact absurd rfl h
 have e2:(op==CmpOp.NotIn)=false:=by cases op<;>first | rfl | exact absurd rfl h2
 cases b<;>simp[behindInMarks,e1,e2]
theorem V7{op:CmpOp}{r:R2}(ho:cg X (compareOp op) r)(ha:PE X a ta)(hb:PE X b tb)(hm:behindInMarks op b=false):PE X (.Compare a [op] [b] pos) (vJ r ta tb):=by
 intro pins s σ H Q I h
 exact wpAny_Compare1 (Dn ha hb I h λv u s2 x y H2 I2 rx ry q=>ho pins s2 σ H2 x y v u Q I2 rx ry q) hm
noncomputable def MA(t:TE):TT:=λσ H Q=>t σ H λx H'=>∃k,x=.bl k/\Q k H'
theorem V8{op:CmpOp}{r:R2}(ho:cg X (compareOp op) r)(ha:PE X a ta)(hb:PE X b tb)(hm:behindInMarks op b=false):PT X (.Compare a [op] [b] pos) (MA (vJ r ta tb)):=by
 intro pins s σ H Q I h
 refine wpAny_isTrue_Compare1 (aK (ha pins s σ H _ I h) λv s1 ⟨x,H1,I1,r1,q1⟩=>aK (hb pins s1 σ H1 _ I1 q1) λu s2 ⟨y,H2,I2,r2,q2⟩ =>
  aK (ho pins s2 σ H2 x y v u _ I2 r1 r2 q2) λc s3 ⟨z,H3,I3,r3,k,e,q3⟩=>?_) hm
 subst e
 cases r3
 exact wpAny_truthy_bool ⟨H3,I3,q3⟩
noncomputable def MB(r r':R2)(ta tb tc:TE):TE:=λσ H Q=>ta σ H λx H1=>tb σ H1 λy H2=>r x y H2 λz H3=>∃k,z=.bl k /\
 (if k=true then tc σ H3 λw' H4=>r' y w' H4 Q else Q (.bl false) H3)
theorem V9{op oI:CmpOp}{r r':R2}(ho:cg X (compareOp op) r)(jm:cg X (compareOp oI) r')(ha:PE X a ta)(hb:PE X b tb)(hc:PE X c tc)
  (hm:lastMarks [op,oI] [b,c]=false:=by with_unfolding_all rfl):PE X (.Compare a [op,oI] [b,c] pos) (MB r r' ta tb tc):=by
 intro pins s σ H Q I h
 refine Compare_chain (aK (ha pins s σ H _ I h) λv s1 ⟨x,H1,I1,r1,q1⟩=>chain_link (aK (hb pins s1 σ H1 _ I1 q1) λu s2 ⟨y,H2,I2,r2,q2⟩ =>
  aK (ho pins s2 σ H2 x y v u _ I2 r1 r2 q2) λd s3 ⟨z,H3,I3,r3,k,e,q3⟩=>?_)) hm
 subst e
 cases r3
 refine wpAny_truthy_bool ?_
 cases k with
 | false=>exact ite_ff ⟨.bl false,H3,I3,rfl,q3⟩
 | true=>exact ite_tt (chain_last (aK (hc pins s3 σ H3 _ I3 q3) λw' s4 ⟨z',H4,I4,r4,q4⟩=>jm pins s4 σ H4 y z' u w' Q I4 r2 r4 q4))
theorem qU:(sizeLine:Nat)<2 ^ 63:=by rw[sizeLine_eq];decide
theorem Wa:cg X (binaryOp .Add) (λx y H Q=>∃i j,x=.str i/\y=.str j/\i.length+j.length<=sizeLine/\Q (.str (i++j)) H):=by
 intro pins s σ H x y v u Q I rx ry h
 obtain⟨i,j,rfl,rfl,hz,q⟩:=h
 obtain⟨t,rfl⟩:=rx
 obtain⟨t',rfl⟩:=ry
 exact add_str (λt' tk=>⟨.str (i++j),H,I.tok _,⟨_,rfl⟩,q⟩) hz
theorem vM{x:V}{us:List Value}(r:Vals [x] us):∃u,us=[u]/\RelV x u:=by
 cases r with
 | cons r1 r2=>cases r2;exact⟨_,rfl,r1⟩
theorem Wb{x y:V}{us:List Value}(r:Vals [x,y] us):∃u w',us=[u,w']/\RelV x u/\RelV y w':=by
 cases r with
 | cons r1 r2 =>
  cases r2 with
  | cons r3 r4=>cases r4;exact⟨_,_,rfl,r1,r3⟩
theorem Wc(hc:X.calm=true):fg X (.builtin "max") (λxs H Q=>∃i j,xs=[.int i,.int j]/\Q (.int (if j>i then j else i)) H):=by
 intro pins s σ H xs us Q I r h
 obtain⟨i,j,rfl,q⟩:=h
 obtain⟨u,w',rfl,⟨t,rfl⟩,⟨t',rfl⟩⟩:=Wb r
 refine max_two_ints (I.ok.hd hc) λh' tk k=>⟨_,H,I.kept k,?_,q⟩
 by_cases hj:j>i
 ·rw[if_pos hj,if_pos hj];exact⟨_,rfl⟩
 ·rw[if_neg hj,if_neg hj];exact⟨_,rfl⟩
theorem Wd:fg X (.type "int") (λxs H Q=>(∃i,xs=[.int i]/\Q (.int i) H)\/∃k,xs=[.bl k]/\Q (.int (if k then 1 else 0)) H):=by
 intro pins s σ H xs us Q I r h
 rcases h with⟨i,rfl,q⟩ | ⟨k,rfl,q⟩
 ·obtain⟨u,rfl,t,rfl⟩:=vM r
  exact call_int_int ⟨.int i,H,I,⟨_,rfl⟩,q⟩
 ·obtain⟨u,rfl,r1⟩:=vM r
  cases r1
  exact call_int_bool ⟨.int (if k then 1 else 0),H,I.tok _,⟨_,rfl⟩,q⟩
end
end L2
namespace L2
open PySem PySem.Spec PyProof.Rows
structure oJ(h:Heap)(x dx C:Addr)(mA:Str->Option Value):Prop where
 obj:h.get? x=some (PySem.W.instObj C dx)
 ns:h.Ns1 dx mA
 ne:dx≠x
theorem We{h:Heap}{dx:Addr}{mA:Str->Option Value}(n:h.Ns1 dx mA):∃od,h.get? dx=some od/\∀name,PySem.W.lookIn name od=some (mA name):=by
 obtain⟨o,es,ep,ho,hd,hk,_,hm⟩:=n
 refine⟨o,ho,λname=>?_⟩
 have e:=hm name
 unfold nsFind findBy at e
 rw[<-Array.find?_toList]at e
 unfold PySem.W.lookIn
 rw[hd]
 dsimp only
 split
 ·rename_i y q
  rw[q]at e
  exact congrArg some e
 ·rename_i q
  rw[q]at e
  have a:es.toList.any (·.refKey)=false:=by
   rw[List.any_eq_false]
   intro y hy
   obtain⟨z,t,Wf⟩:=hk y (Array.mem_toList_iff.mp hy)
   simp[DictEntry.refKey,Wf]
  have a':¬ es.toList.any (·.refKey)=true:=by rw[a];exact ig
  rw[if_neg a']
  exact congrArg some e
theorem oJ.look{h:Heap}{x dx C:Addr}{mA:Str->Option Value}(I:oJ h x dx C mA):∃od,PySem.W.InstAt h x (PySem.W.instObj C dx) C (some od)/\∀name,PySem.W.lookIn name od=some (mA name) :=
 let⟨od,ho,hl⟩:=We I.ns
 ⟨od,⟨I.obj,rfl,rfl,ho⟩,hl⟩
section
variable{prog:Program}{w:World}{A:Around}{E:Value->Shared->Prop}{s:Shared}{K:PySem.W.Frag}{x dx C f:Addr}{mA:Str->Option Value}{name:Str}{v:Value}
theorem Wg{expr:Bool}{Q:Value->Shared->Prop}(X:K.In s.heap)(I:oJ s.heap x dx C mA)(hg:PySem.W.plainGet K C name=true)(hh:PySem.W.hasDictIn K C=true)
  (ha:PySem.W.findIn K (.ref C) name=some none) (hv:mA name=some v) (Wh:PySem.W.handedIn v=true) (h:Q v { s with toks:=s.toks+1 }) :
  wpAny (model prog w) A (getAttr (.ref x) name expr) Q E s:=by
 obtain⟨od,J,hl⟩:=I.look
 exact PySem.W.get_value X J (PySem.W.plainGet_of hg).1 (PySem.W.findObj_own hh ha rfl (by rw[hl,hv])) Wh h
theorem Wi{pl:Sem Bool}{Q:Value × List Value->Shared->Prop}(X:K.In s.heap)(I:oJ s.heap x dx C mA)(hg:PySem.W.plainGet K C name=true)
  (hf:PySem.W.findIn K (.ref C) name=some (some (.ref f))) (ht:PySem.W.isFn K (.ref f)=true) (hv:mA name=none) (h:Q (.ref f,[.ref x]) s) :
  wpAny (model prog w) A (getMethod (.ref x) name pl) Q E s:=by
 obtain⟨od,J,hl⟩:=I.look
 exact PySem.W.method_fn X J (PySem.W.plainGet_of hg).1 (PySem.W.plainGet_of hg).2 hf (beq_iff_eq.mp ht) (by show(PySem.W.lookIn name od).map (·.isSome)=some false;rw[hl,hv];rfl) h
theorem Wj{ns:List Str}{Q:Unit->Shared->Prop}(X:K.In s.heap)(I:oJ s.heap x dx C mA)
  (hs:PySem.W.findIn K (.ref C) "__setattr__"=some (some (.builtin "object.__setattr__"))) (hp:PySem.W.plainOver K C=true) (ht:PySem.W.takerIn K C name=some none) (hh:PySem.W.hasDictIn K C=true)
  (hw:PySem.Within mA ns) (jW:ns.length<=sizeLine)
  (h:∀h',oJ h' x dx C (λy=>if y=name then some v else mA y)->n5 dx s.heap h'->Q () { s with heap:=h',toks:=s.toks+2 }) :
  wpAny (model prog w) A (setAttr (.ref x) name v) Q E s:=by
 obtain⟨od,J,hl⟩:=I.look
 refine PySem.W.set_plain X J hs (PySem.W.osa_open (s:={ s with toks:=s.toks+1 }) (r:=none) X J hp ht λb=>?_)
 obtain⟨cd,hc,vw⟩:=PySem.W.any_some hh
 have hx:s.heap.get? x=some ⟨.ref C,some dx,.plain,#[]⟩:=I.obj
 refine wpAny_bind (wpAny_pure (wpAny_bind (wpAny_bind (wpAny_loadPart hx (wpAny_bind (PySem.W.Looks.here (s:={ s with toks:=s.toks+1 }) (PySem.W.looks_clsIn X hc) ?_))))))
 rw[vw]
 refine wpAny_pure (a:=some dx) (wpAny_bind (wpAny_pure (wpAny_bind ?_)))
 refine wpAny_nsSet1 (s:={ s with toks:=s.toks+1 }) I.ns λh' qV gL=>?_
 obtain⟨oD,esD,epD,Wk,Wl,Wm⟩:=qV.count (PySem.Within.cons name v hw)
 refine wpAny_bind (wpAny_lookBehind Wk (by rw[Wl];exact pastItsLine_dict (dP Wm (by rw[jh];omega))) ?_)
 exact wpAny_pure (h _ ⟨(gL.2 _ (dF I.ne)).trans I.obj,qV,I.ne⟩ gL)
theorem Wn{R:Result->Shared->Prop}{vs:List Value}{kw:List (Str × Value)}(X:K.In s.heap)(hm:PySem.W.makesIn K C=true)
  (hi:PySem.W.findIn K (.ref C) "__init__"=some (some (.ref f))) (hf:PySem.W.typeIn K (.ref f)=some (.type "function"))
  (h:codeAny (model prog w) (A.under (.builtin "type.__call__" ⟨.ref C::vs,kw⟩)) (.call (.ref f) ⟨.ref (s.heap.objs.size+1)::vs,kw⟩) (PySem.W.InitBack (s.heap.objs.size+1) R)
   { s with heap:=(s.heap.push PySem.W.emptyDict).push (PySem.W.instObj C s.heap.objs.size) }) :
  codeAny (model prog w) A (.call (.ref C) ⟨vs,kw⟩) R s:=by
 obtain⟨hh,g,d,t,os⟩:=s
 exact PySem.W.make_core (PySem.W.makes_of X hm) (PySem.W.looks_findIn X hi) (λself=>PySem.W.bind_fn X self hf) (.inl rfl) h
end
noncomputable def eR(f:Str)(v:V):List (Str × V)->List (Str × V)
 | []=>[(f,v)]
 | (g,x)::r=>if g=f then(g,v)::r else(g,x)::eR f v r
theorem MC(f g:Str)(v:V):∀fs:List (Str × V),(eR f v fs).lookup g=if g=f then some v else fs.lookup g
 | []=>by
  show kB g [(f,v)]=_
  by_cases h:g=f
  ·have hb:(g==f)=true:=beq_iff_eq.mpr h
   simp only[kB,hb,if_pos h]
  ·have hb:(g==f)=false:=beq_eq_false_iff_ne.mpr h
   simp only[kB,hb,if_neg h]
 | (k,x)::r=>by
  have ih:=MC f g v r
  rw[show eR f v ((k,x)::r)=(if k=f then(k,v)::r else(k,x)::eR f v r) from rfl]
  by_cases hk:k=f
  ·rw[if_pos hk]
   by_cases h:g=k
   ·have hb:(g==k)=true:=beq_iff_eq.mpr h
    simp only[kB,hb,if_pos (h.trans hk)]
   ·have hb:(g==k)=false:=beq_eq_false_iff_ne.mpr h
    simp only[kB,hb,if_neg (λe:g=f=>h (e.trans hk.symm))]
  ·rw[if_neg hk]
   by_cases h:g=k
   ·have hb:(g==k)=true:=beq_iff_eq.mpr h
    simp only[kB,hb,if_neg (λe:g=f=>hk (h.symm.trans e))]
   ·have hb:(g==k)=false:=beq_eq_false_iff_ne.mpr h
    simp only[kB,hb]
    exact ih
theorem Dr(f:Str)(v:V):∀fs:List (Str × V),f∈(eR f v fs).map (·.1)/\∀g,g∈fs.map (·.1)->g∈(eR f v fs).map (·.1)
 | []=>⟨by simp[eR],λg h=>by simp at h⟩
 | (k,x)::r=>by
  obtain⟨i1,i2⟩:=Dr f v r
  rw[show eR f v ((k,x)::r)=(if k=f then(k,v)::r else(k,x)::eR f v r) from rfl]
  by_cases hk:k=f
  ·rw[if_pos hk]
   subst hk
   exact⟨by simp,λg h=>by simpa using h⟩
  ·rw[if_neg hk]
   refine⟨?_,λg h=>?_⟩
   ·rw[dW]
    exact fQ _ i1
   ·rw[dW]at h ⊢
    rcases bU.mp h with e | e
    ·exact bU.mpr (.inl e)
    ·exact fQ _ (i2 g e)
theorem MD(f:Str)(v:V):∀fs:List (Str × V),(eR f v fs).length<=fs.length+1
 | []=>by simp[eR]
 | (k,x)::r=>by
  have ih:=MD f v r
  rw[show eR f v ((k,x)::r)=(if k=f then(k,v)::r else(k,x)::eR f v r) from rfl]
  by_cases hk:k=f
  ·rw[if_pos hk,jh,jh];omega
  ·rw[if_neg hk,jh,jh];omega
theorem jR.some_of{v:V}{o:Option Value}(r:jR (some v) o):∃u,o=some u/\RelV v u:=by
 cases o with
 | none=>exact(show False from r).elim
 | some u=>exact⟨u,rfl,r⟩
theorem jR.none_of{o:Option Value}(r:jR none o):o=none:=by
 cases o with
 | none=>rfl
 | some u=>exact(show False from r).elim
theorem Wo{v:V}{u:Value}(r:RelV v u):PySem.W.handedIn u=true:=by
 cases v with
 | ak=>cases(show u=ib from r);rfl
 | bl b=>cases(show u=Ce b from r);rfl
 | int i=>obtain⟨t,e⟩:=(show ∃t,u=gG i t from r);cases e;rfl
 | str x=>obtain⟨t,e⟩:=(show ∃t,u=Value.str x t from r);cases e;rfl
 | zd b=>obtain⟨t,e⟩:=(show ∃t,u=Value.bytes b t from r);cases e;rfl
 | oy b=>obtain⟨t,e⟩:=(show ∃t,u=Value.float b t from r);cases e;rfl
 | ref a=>cases(show u=eD a from r);rfl
 | ty n=>cases(show u=mE n from r);rfl
section
variable{P:Program}{w:World}{H H':Hp}{h h':Heap}{a C dx:Addr}{fs CZ:List (Str × V)}
theorem zC(aA:cn P w H h)(e:H a=some (.ins C dx fs)):∃mA,oJ h a dx C mA/\(∀f,jR (fs.lookup f) (mA f))/\PySem.Within mA (fs.map (·.1))/\fs.length<=1000/\H dx=some (.own a):=by
 obtain⟨d,z,ne,ob,mA,n,r,q⟩:=(show cW P w H h a (.ins C dx fs) from aA a _ e)
 exact⟨mA,⟨ob,n,ne⟩,r,q,z,d⟩
end
structure et(K:PySem.W.Frag)(C:Addr):Prop where
 pg:PySem.W.plainGet K C Str.empty=true
 hd:PySem.W.hasDictIn K C=true
 po:PySem.W.plainOver K C=true
 sa:PySem.W.findIn K (.ref C) "__setattr__"=some (some (.builtin "object.__setattr__"))
theorem et.get{K:PySem.W.Frag}{C:Addr}(c:et K C)(f:Str):PySem.W.plainGet K C f=true:=c.pg
noncomputable def cB(K:PySem.W.Frag)(C:Addr)(f:Str):Prop:=PySem.W.findIn K (.ref C) f=some none
theorem cB.Wq{K:PySem.W.Frag}{C:Addr}{f:Str}(n:cB K C f):PySem.W.takerIn K C f=some none:=by
 unfold PySem.W.takerIn
 rw[show PySem.W.findIn K (.ref C) f=some none from n]
 rfl
structure Meth(K:PySem.W.Frag)(C:Addr)(m:Str)(f:Addr):Prop where
 at_:PySem.W.findIn K (.ref C) m=some (some (.ref f))
 fn:PySem.W.isFn K (.ref f)=true
 kp:PySem.W.keepIn K (.ref f)=true
section
variable{X:Cx}{pins:List (Addr × Obj)}{σ:St}{H:Hp}{s:Shared}{a C dx:Addr}{fs:List (Str × V)}{f:Str}{v:V}{A:Around}{E:Value->Shared->Prop}
theorem Wr{b:Bool}{Q:Value->Shared->Prop}(I:Inv X pins σ H s)(e:H a=some (.ins C dx fs))(c:et X.K C)(n:cB X.K C f)(l:fs.lookup f=some v)
  (h:∀u s',Inv X pins σ H s'->RelV v u->Q u s'):wpAny (model X.prog X.w) A (getAttr (.ref a) f b) Q E s:=by
 obtain⟨mA,O,r,_,_,_⟩:=zC I.aA e
 obtain⟨u,hu,ru⟩:=jR.some_of (v:=v) (o:=mA f) (by rw[<-l];exact r f)
 exact Wg I.cN O (c.get f) c.hd n hu (Wo ru) (h u _ (I.tok _) ru)
theorem Ds{m:Str}{g:Addr}{pl:Sem Bool}{Q:Value × List Value->Shared->Prop}(I:Inv X pins σ H s)(e:H a=some (.ins C dx fs))(c:et X.K C)(k:Meth X.K C m g)(l:fs.lookup m=none)
  (h:Q (.ref g,[.ref a]) s):wpAny (model X.prog X.w) A (getMethod (.ref a) m pl) Q E s:=by
 obtain⟨mA,O,r,_,_,_⟩:=zC I.aA e
 have hn:mA m=none:=jR.none_of (by rw[<-l];exact r m)
 exact Wi I.cN O (c.get m) k.at_ k.fn hn h
theorem Ws{y:V}{u:Value}{Q:Unit->Shared->Prop}(I:Inv X pins σ H s)(e:H a=some (.ins C dx fs))(c:et X.K C)(n:cB X.K C f)(hl:fs.length<1000)(ry:RelV y u)
  (h:∀s',Inv X pins σ (upd H a (.ins C dx (eR f y fs))) s'->Q () s'):wpAny (model X.prog X.w) A (setAttr (.ref a) f u) Q E s:=by
 obtain⟨mA,O,r,wi,_,ho⟩:=zC I.aA e
 have hz:(fs.map (·.1)).length<=sizeLine:=by rw[bO,sizeLine_eq];omega
 refine Wj I.cN O c.sa c.po n.Wq c.hd wi hz λh' O' sb=>h _ ?_
 have hd:∃o,h'.get? dx=some o:=let⟨o,_,_,e',_⟩:=O'.ns;⟨o,e'⟩
 refine I.write (x:=a) (e:=dx) (by rw[e];exact qu) (.inr ho) (λb q hb z=>(sb.2 b hb).trans z) hd ?_
 refine⟨by rw[aP O.ne];exact ho,?_,O.ne,O'.obj,_,O'.ns,λg=>?_,λg hg=>?_⟩
 ·have:=MD f y fs;omega
 ·show jR ((eR f y fs).lookup g) (if g=f then some u else mA g)
  rw[MC]
  by_cases q:g=f
  ·rw[if_pos q,if_pos q];exact ry
  ·rw[if_neg q,if_neg q];exact r g
 ·by_cases q:g=f
  ·rw[q];exact(Dr f y fs).1
  ·refine(Dr f y fs).2 g (wi g λz=>hg ?_)
   show(if g=f then some u else mA g)=none
   rw[if_neg q];exact z
theorem Inv.made(I:Inv X pins σ H s):Inv X pins σ (upd (upd H s.heap.objs.size (.own (s.heap.objs.size+1))) (s.heap.objs.size+1) (.ins C s.heap.objs.size []))
  { s with heap:=(s.heap.push PySem.W.emptyDict).push (PySem.W.instObj C s.heap.objs.size) }:=by
 have e1:(s.heap.push PySem.W.emptyDict).get? s.heap.objs.size=some PySem.W.emptyDict:=dn s.heap rfl
 have e2:((s.heap.push PySem.W.emptyDict).push (PySem.W.instObj C s.heap.objs.size)).get? (s.heap.objs.size+1)=some (PySem.W.instObj C s.heap.objs.size):=by
  have:=dn (s.heap.push PySem.W.emptyDict) (o:=PySem.W.instObj C s.heap.objs.size) rfl
  rwa [jO]at this
 have e3:(s.heap.push PySem.W.emptyDict).Ns s.heap.objs.size (λ_=>none):=⟨PySem.W.emptyDict,#[],_,e1,rfl,(λe he=>absurd he (by simp)),λ_=>rfl⟩
 have I1:=I.laid (a:=s.heap.objs.size) (o:=.own (s.heap.objs.size+1)) (h':=s.heap.push PySem.W.emptyDict) (t':=s.toks) (λb u q=>cm _ q) (aZ _) ⟨_,e1⟩
 refine I1.laid (a:=s.heap.objs.size+1) (o:=.ins C s.heap.objs.size []) (t':=s.toks) (λb u q=>cm _ q) (yE (jO _ _)) ?_
 have ne:s.heap.objs.size≠s.heap.objs.size+1:=cR (qv _)
 refine⟨by rw[aP ne,bW],ji _,ne,e2,λ_=>none,(Heap.Ns1.of_empty e3).at λo q=>cm _ q,λ_=>qu,λy hy=>absurd rfl hy⟩
theorem Wt{prog:Program}{w:World}{env:Env}{e:Expr}{f:Str}{pos:Pos}{s:Shared}{Q:Value->Shared->Prop}(hb:attributeBase e f env (eval e env)=eval e env)
  (h:wpAny (model prog w) A (eval e env) (λo bw=>wpAny (model prog w) A (getAttr o f true) Q E bw) E s):wpAny (model prog w) A (eval (.Attribute e f pos) env) Q E s :=
 Attribute_any_ h (by rw[arm_eval_Attribute,hb])
end
noncomputable def Wu(K:PySem.W.Frag)(ta:TE)(f:Str):TE:=λσ H Q=>ta σ H λx H1=>∃a C dx fs v,x=.ref a/\H1 a=some (.ins C dx fs)/\et K C/\cB K C f/\fs.lookup f=some v/\Q v H1
noncomputable def Wv(K:PySem.W.Frag)(ta tv:TE)(f:Str):TS:=λD σ H=>tv σ H λy H1=>ta σ H1 λx H2=>∃a C dx fs,x=.ref a/\H2 a=some (.ins C dx fs)/\et K C/\cB K C f/\fs.length<1000 /\
 D.nx σ (upd H2 a (.ins C dx (eR f y fs)))
section
variable{X:Cx}{o e value:Expr}{f:Str}{pos pos' kM:Pos}{ta tv:TE}
theorem zD(he:PE X e ta)(hb:attributeBase e f X.env (eval e X.env)=eval e X.env):PE X (.Attribute e f pos) (Wu X.K ta f):=by
 intro pins s σ H Q I h
 refine Wt hb (aK (he pins s σ H _ I h) λu s1 ⟨x,H1,I1,rx,a,C,dx,fs,v,ex,ea,c,n,l,q⟩=>?_)
 subst ex
 obtain rfl:u=eD a:=rx
 exact Wr I1 ea c n l λu' s2 I2 ru=>⟨v,H1,I2,ru,q⟩
theorem mW(ha:PE X o ta)(hv:PE X value tv)(hs:swapsWith value (some (.Attribute o f pos')) pos.line X.env=pure false):PS X (.Assign [.Attribute o f pos'] value pos) (Wv X.K ta tv f):=by
 intro pins s σ H D I h
 refine plainObj_wpAny_Assign_Attribute (aK (hv pins s σ H _ I h) λu s1 ⟨y,H1,I1,ry,q⟩=>aK (ha pins s1 σ H1 _ I1 q) λov s2 ⟨x,H2,I2,rx,a,C,dx,fs,ex,ea,c,n,l,q2⟩=>?_) hs
 subst ex
 obtain rfl:ov=eD a:=rx
 exact Ws I2 ea c n l ry λs3 I3=>⟨σ,_,I3,q2⟩
end
section
variable{X:Cx}{pins:List (Addr × Obj)}{σ:St}{H:Hp}{s:Shared}{A:Around}{E:Value->Shared->Prop}{Q:Value->Shared->Prop}{c:Value}{b:Bool}
inductive gq(K:PySem.W.Frag)(H:Hp):V->Value->Prop where
 | ak:gq K H .ak (.type "NoneType")
 | bl (x:Bool):gq K H (.bl x) (.type "bool")
 | int (i:Int):gq K H (.int i) (.type "int")
 | str (x:Str):gq K H (.str x) (.type "str")
 | oy (x:UInt64):gq K H (.oy x) (.type "float")
 | lst {a:Addr} {xs:List V} (e:H a=some (.lst xs)):gq K H (.ref a) (.type "list")
 | bQ {a:Addr} {o:Obj} {xs:List V} (e:H a=some (.bQ o (.lst xs))):gq K H (.ref a) (.type "list")
 | tup {a:Addr} {xs:List V} (e:H a=some (.tup xs)):gq K H (.ref a) (.type "tuple")
 | dK {a:Addr} {cS:List (Key × V)} (e:H a=some (.dK cS)):gq K H (.ref a) (.type "dict")
 | dT {a:Addr} {cS:List (List Key × V)} (e:H a=some (.dT cS)):gq K H (.ref a) (.type "dict")
 | ins {a C dx:Addr} {fs:List (Str × V)} (e:H a=some (.ins C dx fs)) (cl:et K C) (ha:PySem.W.findIn K (.ref C) "__class__"=some (some (.builtin "object.__class__")))
   (hn:PySem.W.specialIn K (.builtin "object.__class__") "__get__"=some (some (.builtin "getset_descriptor.__get__"))) (Dt:PySem.W.takesIn K (.builtin "object.__class__")=some true)
   (hm:PySem.W.mroIn K C (.type "object")=some true):gq K H (.ref a) (.ref C)
theorem Ww{x:V}{u t:Value}(I:Inv X pins σ H s)(rx:RelV x u)(ty:gq X.K H x t)(e:PySem.W.kitOne X.K t c=some b)(h:∀tk,Q (.bool b) { s with toks:=tk }) :
  wpAny (model X.prog X.w) A (call (.builtin "isinstance") [u,c]) Q E s:=by
 cases ty with
 | ak=>cases(show u=ib from rx);exact PySem.W.kia_one PySem.W.kitx_none I.cN qu e (λz=>nomatch z) h
 | bl y=>cases(show u=Ce y from rx);exact PySem.W.kia_one PySem.W.kitx_bool I.cN qu e (λz=>nomatch z) h
 | int i=>obtain⟨t,q⟩:=(show ∃t,u=gG i t from rx);cases q;exact PySem.W.kia_one PySem.W.kitx_int I.cN qu e (λz=>nomatch z) h
 | str y=>obtain⟨t,q⟩:=(show ∃t,u=Value.str y t from rx);cases q;exact PySem.W.kia_one PySem.W.kitx_str I.cN qu e (λz=>nomatch z) h
 | oy y=>obtain⟨t,q⟩:=(show ∃t,u=Value.float y t from rx);cases q;exact PySem.W.kia_one PySem.W.kitx_float I.cN qu e (λz=>nomatch z) h
 | @lst a xs ea =>
  cases(show u=eD a from rx)
  obtain⟨_,_,n,_,h1⟩:=(show cW X.prog X.w H s.heap a (.lst xs) from I.aA a _ ea)
  exact PySem.W.kia_one PySem.W.kitx_list I.cN ⟨_,h1,rfl⟩ e (λz=>nomatch z) h
 | @bQ a ob xs ea =>
  cases(show u=eD a from rx)
  obtain⟨_,_,_,n,_,h1⟩:=(show cW X.prog X.w H s.heap a (.bQ ob (.lst xs)) from I.aA a _ ea)
  exact PySem.W.kia_one PySem.W.kitx_list I.cN ⟨_,h1,rfl⟩ e (λz=>nomatch z) h
 | @tup a xs ea =>
  cases(show u=eD a from rx)
  obtain⟨_,_,_,p⟩:=(show cW X.prog X.w H s.heap a (.tup xs) from I.aA a _ ea)
  obtain⟨o,h1,h2,_⟩:=p
  exact PySem.W.kia_one PySem.W.kitx_tuple I.cN ⟨o,h1,h2⟩ e (λz=>nomatch z) h
 | @dK a cS ea =>
  cases(show u=eD a from rx)
  obtain⟨_,_,vs,_,p⟩:=(show cW X.prog X.w H s.heap a (.dK cS) from I.aA a _ ea)
  obtain⟨o,es,ep,h1,h2,_⟩:=p
  exact PySem.W.kia_one PySem.W.kitx_dict I.cN ⟨o,h1,h2.1⟩ e (λz=>nomatch z) h
 | @dT a cS ea =>
  cases(show u=eD a from rx)
  obtain⟨_,_,xs,_,o,es,ep,h1,h2,_⟩:=(show cW X.prog X.w H s.heap a (.dT cS) from I.aA a _ ea)
  exact PySem.W.kia_one PySem.W.kitx_dict I.cN ⟨o,h1,h2.1⟩ e (λz=>nomatch z) h
 | @ins a C dx fs ea cl ha hn Dt hm =>
  cases(show u=eD a from rx)
  obtain⟨mA,O,_⟩:=zC I.aA ea
  obtain⟨od,J,_⟩:=O.look
  exact PySem.W.kia_one (PySem.W.kitx_own (cl.get _) cl.hd ha hn Dt hm) I.cN J e (λz=>nomatch z) h
end
end L2
namespace L2
open PySem PySem.Spec PyProof.Rows
structure bN(k:Nat)(A:Around):Prop where
 hd:A.handled=none
 dp:A.depth+3*k+5<recursionLimit
 un:A.units+16*k+200<cLine
theorem bN.mono{j k:Nat}{A:Around}(r:bN k A)(h:j<=k):bN j A:=⟨r.hd,by have:=r.dp;omega,by have:=r.un;omega⟩
theorem bN.deeper{k:Nat}{A:Around}(r:bN (k+1) A)(env:Env):bN k (A.deeper env) :=
 ⟨r.hd,by have:=r.dp;show A.depth+1+3*k+5<_;omega,by have:=r.un;show A.units+3+16*k+200<_;omega⟩
theorem bN.in1{k:Nat}{A:Around}(r:bN (k+1) A):bN k A.in1 :=
 ⟨r.hd,by have:=r.dp;show A.depth+3*k+5<_;omega,by have:=r.un;show A.units+1+16*k+200<_;omega⟩
theorem Wx{A:Around}{C:Addr}{us:List Value}{kw:List (Str × Value)}:(A.under (.builtin "type.__call__" ⟨.ref C::us,kw⟩)).depth=A.depth+1:=by
 first | rfl | simp[Around.under,Code.weight,Code.isCreation,Code.isGuard,Code.isCaller,Code.frames,Code.isFrame,guardIds]
theorem Wy{A:Around}{C:Addr}{us:List Value}{kw:List (Str × Value)}:(A.under (.builtin "type.__call__" ⟨.ref C::us,kw⟩)).units=A.units+1:=by
 first | rfl | simp[Around.under,Code.cUnits,Code.frames,Code.isFrame]
theorem bN.make{k:Nat}{A:Around}(r:bN (k+1) A)(C:Addr)(us:List Value)(kw:List (Str × Value)):bN k (A.under (.builtin "type.__call__" ⟨.ref C::us,kw⟩)) :=
 ⟨r.hd,by have:=r.dp;rw[Wx];omega,by have:=r.un;rw[Wy];omega⟩
theorem bN.depth{k:Nat}{A:Around}(r:bN k A):A.depth<recursionLimit:=by have:=r.dp;omega
theorem bN.units{k:Nat}{A:Around}(r:bN k A):A.units+64<cLine:=by have:=r.un;omega
noncomputable def Wz:TA:=λ_ H Q=>Q [] H
noncomputable def WA(ta:TE)(tr:TA):TA:=λσ H Q=>ta σ H λx H1=>tr σ H1 λxs H2=>Q (x::xs) H2
section
variable{X:Cx}{e:Expr}{es:List Expr}{te:TE}{t:TA}{pos:Pos}
theorem iB:PA X [] Wz:=λ_ _ _ _ H Q I h=>Calls.spliced_nil ⟨[],H,I,.nil,h⟩
theorem eS(ha:PE X e te)(hr:PA X es t)(hs:starEach (e::es) X.env=(false,eval e X.env)::starEach es X.env:=by rfl):PA X (e::es) (WA te t):=by
 intro pos pins s σ H Q I h
 rw[hs]
 show wpAny _ _ (spliced ((false,eval e X.env)::backTo pos (starEach es X.env))) _ _ s
 refine Calls.spliced_cons (aK (ha pins s σ H _ I h) λu s1 ⟨x,H1,I1,r1,q1⟩=>?_)
 exact aK (hr pos pins s1 σ H1 _ I1 q1) λus s2 ⟨xs,H2,I2,r2,q2⟩=>⟨x::xs,H2,I2,.cons r1 r2,q2⟩
noncomputable def WB(t:TA):TE:=λσ H Q=>t σ H λxs H1=>xs.length<=sizeLine/\∀p,H1 p=none->Q (.ref p) (upd H1 p (.tup xs))
noncomputable def WC(t:TA):TE:=λσ H Q=>t σ H λxs H1=>xs.length<=sizeLine/\∀p,H1 p=none->Q (.ref p) (upd H1 p (.lst xs))
theorem WD{x1}(h:PA X es t):PE X (.Tuple es x1 pos) (WB t):=by
 intro pins s σ H Q I hq
 refine wpAny_Tuple_spliced (aK (h pos pins s σ H _ I hq) λus s1 ⟨xs,H1,I1,r,z,q⟩=>⟨by rw[<-r.length];exact z,?_⟩)
 have hf:H1 s1.heap.objs.size=none:=I1.aA.fresh (aZ _)
 refine⟨.ref s1.heap.objs.size,upd H1 s1.heap.objs.size (.tup xs),I1.laid (t':=s1.toks) (λb u e=>cm _ e) (aZ _) ?_,rfl,q _ hf⟩
 exact⟨z,us,r,⟨_,dn _ rfl,rfl,_,rfl⟩⟩
theorem WE(h:PA X es t):PE X (.List es pos) (WC t):=by
 intro pins s σ H Q I hq
 refine wpAny_List_spliced (aK (h pos pins s σ H _ I hq) λus s1 ⟨xs,H1,I1,r,z,q⟩=>⟨by rw[<-r.length];exact z,?_⟩)
 have hf:H1 s1.heap.objs.size=none:=I1.aA.fresh (aZ _)
 refine⟨.ref s1.heap.objs.size,upd H1 s1.heap.objs.size (.lst xs),I1.laid (t':=s1.toks) (λb u e=>cm _ e) (aZ _) ?_,rfl,q _ hf⟩
 exact⟨z,us,0,r,dn _ rfl⟩
end
noncomputable abbrev Sp:=List V->Hp->VK->XK->Prop
noncomputable abbrev dS:=List Env->Hp->Shared->XK->Value->Shared->Prop
structure fI(P:Program)(w:World)(K:PySem.W.Frag)(mg:Str->Option Value)(base:Heap)(A:Around)(outer:List Env)(s:Shared)(H:Hp):Prop where
 frames:A.frames=some outer
 mod:Mod K mg base
 bs:∀b o,base.get? b=some o->s.heap.get? b=some o/\H b=none
 gI:base.objs.size<=s.heap.objs.size
 ff:s.heap.FunFrames base outer
 iy:∀b∈cT outer,H b=none
 aA:cn P w H s.heap
 bare:AllBare s.gens
noncomputable def CE(outer:List Env)(P:Program)(w:World)(H:Hp)(s:Shared)(Q:VK)(u:Value)(s':Shared):Prop :=
 ∃v H',s'.os=s.os/\AllBare s'.gens/\Un (cT outer) [] H H' s.heap s'.heap/\cn P w H' s'.heap/\RelV v u/\Q v H'
noncomputable def CR(CX:dS)(outer:List Env)(P:Program)(w:World)(H:Hp)(s:Shared)(Q:VK)(E:XK)(r:Result)(s':Shared):Prop :=
 match r with
 | .ok (.ret u)=>CE outer P w H s Q u s'
 | .ok _=>False
 | .error e=>CX outer H s E e s'
structure aO(P:Program)(w:World)(K:PySem.W.Frag)(mg:Str->Option Value)(base:Heap)(CX:dS)(k:Nat)(f:Addr)(fd:FuncData)(ps:List Str)(sp:Sp):Prop where
 len:∀vs H Q E,sp vs H Q E->vs.length=ps.length
 run:∀(A:Around) (outer:List Env) (s:Shared) (H:Hp) (args:Args) (us:List Value) (vs:List V) (Q:VK) (E:XK),bN k A->fI P w K mg base A outer s H->BindsTo s fd args (ps.zip us)->Vals vs us->sp vs H Q E ->
  codeAny (model P w) A (.call (.ref f) args) (CR CX outer P w H s Q E) s
theorem aO.mono{P:Program}{w:World}{K:PySem.W.Frag}{mg:Str->Option Value}{base:Heap}{CX:dS}{j k:Nat}{f:Addr}{fd:FuncData}{ps:List Str}{sp:Sp}(F:aO P w K mg base CX j f fd ps sp)(h:j<=k) :
  aO P w K mg base CX k f fd ps sp:=⟨F.len,λA outer s H args us vs Q E hr=>F.run A outer s H args us vs Q E (hr.mono h)⟩
theorem aO.imp{P:Program}{w:World}{K:PySem.W.Frag}{mg:Str->Option Value}{base:Heap}{CX:dS}{k:Nat}{f:Addr}{fd:FuncData}{ps:List Str}{sp ME:Sp}(F:aO P w K mg base CX k f fd ps sp)
  (h:∀vs H Q E,ME vs H Q E->sp vs H Q E):aO P w K mg base CX k f fd ps ME :=
 ⟨λvs H Q E q=>F.len vs H Q E (h _ _ _ _ q),λA outer s H args us vs Q E hr he hb hv hs=>F.run A outer s H args us vs Q E hr he hb hv (h _ _ _ _ hs)⟩
theorem fI.make{P:Program}{w:World}{K:PySem.W.Frag}{mg:Str->Option Value}{base:Heap}{A:Around}{outer:List Env}{s:Shared}{H:Hp}(e:fI P w K mg base A outer s H)(C:Addr)(us:List Value)(kw:List (Str × Value)) :
  fI P w K mg base (A.under (.builtin "type.__call__" ⟨.ref C::us,kw⟩)) outer s H:=⟨by first | exact e.frames | (simpa[Around.under,Code.envs,Code.isFrame,pushEnvs]using e.frames),e.mod,e.bs,e.gI,e.ff,e.iy,e.aA,e.bare⟩
theorem fI.in1{P:Program}{w:World}{K:PySem.W.Frag}{mg:Str->Option Value}{base:Heap}{A:Around}{outer:List Env}{s:Shared}{H:Hp}(e:fI P w K mg base A outer s H) :
  fI P w K mg base A.in1 outer s H:=⟨e.frames,e.mod,e.bs,e.gI,e.ff,e.iy,e.aA,e.bare⟩
section
variable{X:Cx}{pins:List (Addr × Obj)}{σ:St}{H:Hp}{s s':Shared}
theorem Inv.vN(I:Inv X pins σ H s):fI X.prog X.w X.K X.mg X.base X.A X.stack s H :=
 ⟨I.ok.frames,I.ok.mod,I.bs,dP I.ok.gI I.sz,I.stack,I.zj,I.aA,I.bare⟩
theorem Inv.after{Q:VK}{u:Value}(I:Inv X pins σ H s)(h:CE X.stack X.prog X.w H s Q u s'):EP X pins σ Q u s':=by
 obtain⟨v,H',os,bare,un,aA,r,q⟩:=h
 obtain⟨hh,g,d,t,WG⟩:=s'
 obtain rfl:WG=s.os:=os
 exact⟨v,H',I.call (h':=hh) (g':=g) (d':=d) (t':=t) (ch:=[]) un aA bare (λb z=>absurd z (by simp)),r,q⟩
end
noncomputable def WH(sp:Sp)(eG:List V)(E:XK)(t:TA):TE:=λσ H Q=>t σ H λvs H1=>sp (vs++eG) H1 Q E
noncomputable def WI(C:Addr)(m:Str)(sp:Sp)(eG:List V)(E:XK)(ta:TE)(t:TA):TE:=λσ H Q=>ta σ H λx H1=>∃a dx fs,x=.ref a/\H1 a=some (.ins C dx fs)/\fs.lookup m=none /\
 t σ H1 λvs H2=>sp (x::(vs++eG)) H2 Q E
noncomputable def WJ(C:Addr)(sp:Sp)(eG:List V)(E:XK)(t:TA):TE:=λσ H Q=>t σ H λvs H1=>∀x dx,H1 x=none->H1 dx=none->dx≠x ->
 sp (.ref x::(vs++eG)) (upd (upd H1 dx (.own x)) x (.ins C dx [])) (λv H2=>v=.ak/\Q (.ref x) H2) E
noncomputable def Binds(K:PySem.W.Frag)(fd:FuncData)(ps:List Str)(ds:List Value):Prop :=
 ∀(s:Shared) (us:List Value),K.In s.heap->(us++ds).length=ps.length->BindsTo s fd ⟨us,[]⟩ (ps.zip (us++ds))
theorem Binds.all{K:PySem.W.Frag}{fd:FuncData}{ps:List Str}(h:∀us:List Value,us.length=ps.length->bindArgs fd ⟨us,[]⟩=pure (ps.zip us)):Binds K fd ps []:=λs us _ hl=>by
 rw[kC]at hl ⊢
 exact .of_eq (h us hl)
noncomputable def jX(CX:dS)(X:Cx)(E:XK):Prop:=∀(pins:List (Addr × Obj)) (σ:St) (H:Hp) (s:Shared) (e:Value) (s':Shared),Inv X pins σ H s->CX X.stack H s E e s'->X.xe e s'
section
variable{X:Cx}{CX:dS}{k:Nat}{f C:Addr}{fd:FuncData}{ps:List Str}{sp:Sp}{eG:List V}{ds:List Value}{E:XK}{x m:Str}{p pos apos:Pos}{e o:Expr}{es:List Expr}{ta:TE}{t:TA}
theorem zE{pins:List (Addr × Obj)}{σ:St}{H:Hp}{s:Shared}{Q:VK}{us:List Value}{vs:List V}(F:aO X.prog X.w X.K X.mg X.base CX k f fd ps sp)(hr:bN k X.A)(hb:Binds X.K fd ps ds)(hd:Vals eG ds)(hx:jX CX X E)
  (I:Inv X pins σ H s) (r:Vals vs us) (h:sp (vs++eG) H Q E):wpAny (model X.prog X.w) X.A (call (.ref f) us) (EP X pins σ Q) X.xe s:=by
 have r2:Vals (vs++eG) (us++ds):=r.append hd
 have hl:(us++ds).length=ps.length:=by rw[<-r2.length];exact F.len _ _ _ _ h
 refine wpAny_call (codeAny_mono (F.run X.A X.stack s H ⟨us,[]⟩ (us++ds) (vs++eG) Q E hr I.vN (hb s us I.cN hl) r2 h) λr s' hq=>?_)
 cases r with
 | error e=>exact hx pins σ H s e s' I hq
 | ok fl =>
  cases fl with
  | ret u=>exact I.after hq
  | next=>exact eE hq
  | brk=>exact eE hq
  | cont=>exact eE hq
theorem oK(F:aO X.prog X.w X.K X.mg X.base CX k f fd ps sp)(hr:bN k X.A)(hg:Gl X x)(hm:X.mg x=some (.ref f))(hk:PySem.W.keepIn X.K (.ref f)=true)(hb:Binds X.K fd ps ds)(hd:Vals eG ds)(hx:jX CX X E)
  (ha:PA X (e::es) t) (dU:(x==("__debug__":Str))=false:=by decide) (he:starEach (e::es) X.env=(false,eval e X.env)::starEach es X.env:=by rfl) (bJ:(backTo pos (starEach es X.env)).any (·.1)=false:=by rfl) :
  PE X (.Call (.Name x p) (e::es) [] pos) (WH sp eG E t):=by
 intro pins s σ H Q I h
 refine wpAny_Call_Name_kw (zo I hg hm ?_ dU)
 refine PySem.W.callWith_K (h₀:=X.base) I.ok.mod.kL hk (aK (ha pos pins s σ H _ I h) λus s1 ⟨vs,H1,I1,r,q⟩=>⟨I1.cN,?_⟩) he bJ
 exact zE F hr hb hd hx I1 r q
theorem WK{pl:Sem Bool}(he:PE X o ta)(c:et X.K C)(hm:Meth X.K C m f)(F:aO X.prog X.w X.K X.mg X.base CX k f fd ps sp)(hr:bN k X.A)(hb:Binds X.K fd ps ds)(hd:Vals eG ds)(hx:jX CX X E)(ha:PA X (e::es) t)
  (cH:starEach (e::es) X.env=(false,eval e X.env)::starEach es X.env:=by rfl) (bJ:(backTo pos (starEach es X.env)).any (·.1)=false:=by rfl)
  (ht:eval (.Call (.Attribute o m apos) (e::es) [] pos) X.env=(do
   let ov<-eval o X.env
   standAt apos.atName
   let (f,first)<-holding [ov] (getMethod ov m pl)
   callWith pos f first (backTo pos (starEach (e::es) X.env)) (backToKw pos (keywordEach [] X.env))):=by rfl) :
  PE X (.Call (.Attribute o m apos) (e::es) [] pos) (WI C m sp eG E ta t):=by
 intro pins s σ H Q I h
 refine PySem.W.methodCall_KW (pl:=pl) (aK (he pins s σ H _ I h) λu s1 ⟨x,H1,I1,rx,a,dx,fs,ex,ea,l,q⟩=>?_) ht
 subst ex
 obtain rfl:u=eD a:=rx
 refine Ds I1 ea c hm l ?_
 refine PySem.W.callWith_K (first:=[.ref a]) (h₀:=X.base) I.ok.mod.kL hm.kp (aK (ha pos pins s1 σ H1 _ I1 q) λus s2 ⟨vs,H2,I2,r,q2⟩=>⟨I2.cN,?_⟩) cH bJ
 exact zE (us:=.ref a::us) (vs:=.ref a::vs) F hr hb hd hx I2 (.cons rfl r) q2
structure Mk(K:PySem.W.Frag)(C f:Addr):Prop where
 makes:PySem.W.makesIn K C=true
 init:PySem.W.findIn K (.ref C) "__init__"=some (some (.ref f))
 fn:PySem.W.isFn K (.ref f)=true
 kp:PySem.W.keepIn K (.ref C)=true
theorem WL{pins:List (Addr × Obj)}{σ:St}{H:Hp}{s:Shared}{Q:VK}{us:List Value}{vs:List V}(M:Mk X.K C f)(F:aO X.prog X.w X.K X.mg X.base CX k f fd ps sp)(hr:bN (k+1) X.A)(hb:Binds X.K fd ps ds)(hd:Vals eG ds)
  (hx:jX CX X E) (I:Inv X pins σ H s) (r:Vals vs us)
  (h:∀x dx,H x=none->H dx=none->dx≠x->sp (.ref x::(vs++eG)) (upd (upd H dx (.own x)) x (.ins C dx [])) (λv H2=>v=.ak/\Q (.ref x) H2) E) :
  wpAny (model X.prog X.w) X.A (call (.ref C) us) (EP X pins σ Q) X.xe s:=by
 have hq:=h (s.heap.objs.size+1) s.heap.objs.size (I.aA.fresh (yF _)) (I.aA.fresh (aZ _)) (cR (qv _))
 have I2:=Inv.made (C:=C) I
 have r2:Vals (V.ref (s.heap.objs.size+1)::(vs++eG)) (eD (s.heap.objs.size+1)::(us++ds)):=.cons rfl (r.append hd)
 have hl:(eD (s.heap.objs.size+1)::us++ds).length=ps.length:=by
  have e:=r2.length
  rw[F.len _ _ _ _ hq]at e
  exact e.symm
 refine wpAny_call (Wn (f:=f) I.cN M.makes M.init (beq_iff_eq.mp M.fn) (codeAny_mono (F.run _ X.stack _ _ ⟨eD (s.heap.objs.size+1)::us,[]⟩ (eD (s.heap.objs.size+1)::(us++ds)) _ _ E (hr.make C us [])
  (I2.vN.make C us []) (hb _ (eD (s.heap.objs.size+1)::us) I2.cN hl) r2 hq) λr s' kN=>?_))
 cases r with
 | error e=>exact hx pins σ _ _ e s' I2 kN
 | ok fl =>
  cases fl with
  | ret u =>
   obtain⟨v,H',I3,rv,ev,q3⟩:=I2.after kN
   subst ev
   exact⟨rv,⟨V.ref (s.heap.objs.size+1),H',I3,rfl,q3⟩⟩
  | next=>exact eE kN
  | brk=>exact eE kN
  | cont=>exact eE kN
theorem WM(M:Mk X.K C f)(F:aO X.prog X.w X.K X.mg X.base CX k f fd ps sp)(hr:bN (k+1) X.A)(hg:Gl X x)(hm:X.mg x=some (.ref C))(hb:Binds X.K fd ps ds)(hd:Vals eG ds)(hx:jX CX X E)
  (ha:PA X (e::es) t) (dU:(x==("__debug__":Str))=false:=by decide) (he:starEach (e::es) X.env=(false,eval e X.env)::starEach es X.env:=by rfl) (bJ:(backTo pos (starEach es X.env)).any (·.1)=false:=by rfl) :
  PE X (.Call (.Name x p) (e::es) [] pos) (WJ C sp eG E t):=by
 intro pins s σ H Q I h
 refine wpAny_Call_Name_kw (zo I hg hm ?_ dU)
 refine PySem.W.callWith_K (h₀:=X.base) I.ok.mod.kL M.kp (aK (ha pos pins s σ H _ I h) λus s1 ⟨vs,H1,I1,r,q⟩=>⟨I1.cN,?_⟩) he bJ
 exact WL M F hr hb hd hx I1 r q
end
section
variable{X:Cx}{CX:dS}{k:Nat}{f C:Addr}{fd:FuncData}{ps ks:List Str}{sp:Sp}{E:XK}{x m:Str}{p pos apos dW3:Pos}{e o:Expr}{es:List Expr}{kws:List Keyword}{te ta:TE}{t tk:TA}{nm:Option Str}
variable{g:List Value->List Value->List Value}{gV:List V->List V->List V}
end
structure bA(N P:List Str)(sc:Scope):Prop where
 kind:sc.kind=.function
 co:sc.isCoroutine=false
 gen:sc.isGenerator=false
 nd:N.Nodup
 pre:N.take P.length=P
 par:∀x∈P,sc.names.lookup x=some .local\/sc.names.lookup x=some .cell
 WN:∀y∈sc.names,y.2≠.free
theorem MF{kindOf:Str->Option NameKind}{x:Str}:∀{binds:List (Str × Value)} {m:Str->Option Value},(∀v,(x,v) ∉ binds)->bindL kindOf binds m x=m x
 | [],_,_=>rfl
 | (n,v)::r,m,h=>by
  unfold bindL
  rw[MF λw hw=>h w (fQ _ hw)]
  split
  ·have:x≠n:=by rintro rfl;exact h v mF
   simp[this]
  ·rfl
theorem MG{kindOf:Str->Option NameKind}{x:Str}:∀{binds:List (Str × Value)} {m:Str->Option Value},(∀v,(x,v) ∉ binds)->bindC kindOf binds m x=m x
 | [],_,_=>rfl
 | (n,v)::r,m,h=>by
  unfold bindC
  rw[MG λw hw=>h w (fQ _ hw)]
  split
  ·rfl
  ·have:x≠n:=by rintro rfl;exact h v mF
   simp[this]
theorem MH{kindOf:Str->Option NameKind}{x:Str}{v:Value}:∀{P:List Str} {vs:List Value} {i:Nat} {m:Str->Option Value},P.Nodup->P[i]?=some x->vs[i]?=some v->kindOf x=some .local ->
  bindL kindOf (P.zip vs) m x=some v
 | [],_,_,_,_,h,_,_=>by simp at h
 | _::_,[],_,_,_,_,h,_=>by simp at h
 | p::P,w::vs,0,m,nd,h1,h2,hk=>by
  simp at h1 h2;subst h1;subst h2
  show bindL kindOf ((p,w)::P.zip vs) m p=_
  unfold bindL
  rw[MF λv hv=>(ij.mp nd).1 (yG hv).1,if_pos hk]
  simp
 | p::P,w::vs,i+1,m,nd,h1,h2,hk=>by
  show bindL kindOf ((p,w)::P.zip vs) m x=_
  unfold bindL
  exact MH (i:=i) (ij.mp nd).2 (by simpa using h1) (by simpa using h2) hk
theorem MI{kindOf:Str->Option NameKind}{x:Str}{v:Value}:∀{P:List Str} {vs:List Value} {i:Nat} {m:Str->Option Value},P.Nodup->P[i]?=some x->vs[i]?=some v->kindOf x≠some .local ->
  bindC kindOf (P.zip vs) m x=some v
 | [],_,_,_,_,h,_,_=>by simp at h
 | _::_,[],_,_,_,_,h,_=>by simp at h
 | p::P,w::vs,0,m,nd,h1,h2,hk=>by
  simp at h1 h2;subst h1;subst h2
  show bindC kindOf ((p,w)::P.zip vs) m p=_
  unfold bindC
  rw[MG λv hv=>(ij.mp nd).1 (yG hv).1,if_neg hk]
  simp
 | p::P,w::vs,i+1,m,nd,h1,h2,hk=>by
  show bindC kindOf ((p,w)::P.zip vs) m x=_
  unfold bindC
  exact MI (i:=i) (ij.mp nd).2 (by simpa using h1) (by simpa using h2) hk
noncomputable def start(N:List Str)(vs:List V):St:=vs.map some++aT (N.length-vs.length) none
noncomputable def gM(CX:dS)(P:Program)(w:World)(K:PySem.W.Frag)(mg:Str->Option Value)(base:Heap)(N:List Str)(qual:Str)(scope:Scope)(f:Addr)(cd:Value)(A:Around)(outer:List Env)(s:Shared)(H:Hp)(E:XK):Cx where
 prog:=P
 w:=w
 K:=K
 mg:=mg
 base:=base
 A:=A.deeper (envOfC qual scope s.heap.objs.size f cd)
 N:=N
 bY:=s
 jl:=H
 env:=envOfC qual scope s.heap.objs.size f cd
 outer:=outer
 stack:=envOfC qual scope s.heap.objs.size f cd::outer
 ex:=[]
 calm:=true
 fn:=λ_=>true
 pn:=[]
 xe:=λe s'=>wpAny (model P w) (A.deeper (envOfC qual scope s.heap.objs.size f cd)) (leaving (envOfC qual scope s.heap.objs.size f cd) e) (λ_ oM=>CX outer H s E e oM) (λe' oM=>CX outer H s E e' oM) s'
theorem MJ{sc:Scope}{n:Nat}{x:Str}(h:sc.names.lookup x=some .cell):∃c,(cellsFrom n sc.names []).lookup x=some c:=by
 have q:=PySem.W.cellsFrom_some sc.names n [] (.inl h)
 exact Ui.mp q
theorem WO{CX:dS}{P:Program}{w:World}{K:PySem.W.Frag}{mg:Str->Option Value}{base:Heap}{N ps:List Str}{qual:Str}{scope:Scope}{f:Addr}{cd:Value}{A:Around}{outer:List Env}{s s1:Shared}{H:Hp}{E:XK}{us:List Value}{vs:List V}
  (S:bA N ps scope) (hd:A.handled=none) (e0:fI P w K mg base A outer s H) (hl:vs.length=ps.length) (r:Vals vs us)
  (x:InCallC s s.heap.objs.size (bindL (envOfC qual scope s.heap.objs.size f cd).kindOf (ps.zip us) λ_=>none) (cellsFrom (s.heap.objs.size+1) scope.names []) (bindC (envOfC qual scope s.heap.objs.size f cd).kindOf (ps.zip us) λ_=>none) s1) :
  Inv (gM CX P w K mg base N qual scope f cd A outer s H E) [] (start N vs) H s1:=by
 have bJ:ps.length<=N.length:=by have:=congrArg Cg S.pre;rw[kD]at this;omega
 obtain⟨h1,tk,rfl,hk⟩:=x.done
 have vO:∀b:Addr,b ∉ (gM CX P w K mg base N qual scope f cd A outer s H E).ex:=λb z=>absurd (show b∈([]:List Addr) from z) (by simp)
 refine⟨⟨e0.mod,S.kind,rfl,rfl,aZ _,λy z c h1 h2=>?_,λy hy=>?_,λy c _ h=>?_,λ_=>hd,Around.frames_deeper e0.frames,.inr ⟨rfl,rfl⟩,λb z=>absurd z (vO b),e0.bs,e0.gI,λb _ _=>vO b,λb z=>absurd z (vO b),e0.ff,e0.iy⟩,
  rfl,e0.bare,Un.kept hk,⟨_,x.toInCall.ns,λi y v h1 h2 h3=>?_⟩,λy c h=>⟨_,x.cell y c h⟩,e0.aA.fresh (aZ _),λy c h=>?_,λp hp=>absurd (show p∈([]:List (Addr × Obj)) from hp) (by simp),e0.aA.kept hk,?_⟩
 ·exact name_of_addr x.apart (PySem.mem_of_lookup h1) (PySem.mem_of_lookup h2)
 ·have hy:scope.names.lookup y=some .cell\/scope.names.lookup y=some .free:=hy
  rcases hy with hy | hy
  ·exact MJ hy
  ·exact absurd rfl (S.WN _ (PySem.mem_of_lookup hy))
 ·exact nZ (x.above y c (PySem.mem_of_lookup h))
 ·have hi:i<vs.length:=by
   unfold start at h2
   by_cases hi:i<vs.length
   ·exact hi
   ·rw[u7 (by simpa using hi)]at h2
    rw[u9]at h2
    split at h2<;>cases h2
  have ha:vs[i]?=some v:=by
   unfold start at h2
   rw[va (by simpa using hi),cy]at h2
   cases e:vs[i]? with
   | none=>rw[e]at h2;cases h2
   | some a=>rw[e]at h2;cases h2;rfl
  obtain⟨u,hu,rv⟩:=r.get ha
  have hp:ps[i]?=some y:=by
   rw[<-S.pre,List.getElem?_take_of_lt (by omega)];exact h1
  have MK:ps.Nodup:=by rw[<-S.pre];exact S.nd.sublist (List.take_sublist _ _)
  refine⟨u,rv,?_⟩
  rcases S.par y (n6 hp)with k | k
  ·exact .inl ⟨k,MH MK hp hu k⟩
  ·obtain⟨c,e⟩:=MJ (n:=s.heap.objs.size+1) k
   refine .inr ⟨.inl k,c,e,?_⟩
   have q:=x.cell y c e
   rw[MI MK hp hu (by show scope.names.lookup y≠_;rw[k];decide)]at q
   exact q
 ·exact e0.aA.fresh (nZ (x.above y c (PySem.mem_of_lookup h)))
 ·unfold start
  show _=N.length
  rw[fB,bO,jj]
  omega
theorem Du{CX:dS}{P:Program}{w:World}{K:PySem.W.Frag}{mg:Str->Option Value}{base:Heap}{k:Nat}{f:Addr}{name qual:Str}{params:Arguments}{body:List Stmt}{scope:Scope}{dV kV doc pm aH ct oc:Value}{an od:Option Addr}
  {jY:Array (Option Value)} {N ps:List Str} {sp:Sp} (lk:K.lookup f=some ⟨oc,od,.func (PySem.W.fnOf name qual params body scope dV kV doc pm an aH ct),jY⟩) (cA:PySem.W.codeIn K aH qual=true) (S:bA N ps scope)
  (len:∀vs H Q E,sp vs H Q E->vs.length=ps.length)
  (gr:∀(A:Around) (outer:List Env) (s:Shared) (H:Hp) (vs:List V) (Q:VK) (E:XK),bN k (A.deeper (envOfC qual scope s.heap.objs.size f aH))->sp vs H Q E ->
   ∃t,PSs (gM CX P w K mg base N qual scope f aH A outer s H E) body t/\t { nx:=λ_ H'=>Q .ak H',rt:=Q } (start N vs) H) :
  aO P w K mg base CX (k+1) f (PySem.W.fnOf name qual params body scope dV kV doc pm an aH ct) ps sp:=by
 refine⟨len,λA outer s H args us vs Q E hr e0 hb r gO=>?_⟩
 have hl:=len _ _ _ _ gO
 have KX:K.In s.heap:=e0.mod.kL.keeps λb o e=>(e0.bs b o e).1
 have lim:s.heap.NoLimit:=e0.mod.nolimit.keeps λb o e=>(e0.bs b o e).1
 have gP:∀y∈ps.zip us,scope.names.lookup y.1=some .local\/(scope.names.lookup y.1=some .cell/\((cellsFrom (s.heap.objs.size+1) scope.names []).lookup y.1).isSome=true):=λ⟨n,v⟩ hy=>by
  rcases S.par n (yG hy).1 with q | q
  ·exact .inl q
  ·exact .inr ⟨q,PySem.W.cellsFrom_some _ _ _ (.inl q)⟩
 refine codeAny_call_function hr.depth (KX _ _ lk) rfl S.co S.gen rfl (PySem.W.codeRec_of KX cA) (hb _ _ _ _ ?_)
 refine wpAny_newFunctionEnv_cells S.kind gP λenv he s1 x=>?_
 subst he
 refine⟨lim.keeps x.toInCall.keep,codeAny_func ?_⟩
 obtain⟨t,ht,hq⟩:=gr A outer s H vs Q E (hr.deeper _) gO
 have I:Inv (gM CX P w K mg base N qual scope f aH A outer s H E) [] (start N vs) H s1:=WO S hr.hd e0 hl r x
 refine wpAny_mono (ht [] s1 (start N vs) H _ I hq) (λfl s' hs=>?_) λe s' hs=>hs
 have fin:∀{ax:St} {H':Hp} {v:V} {u:Value},Inv (gM CX P w K mg base N qual scope f aH A outer s H E) [] ax H' s'->RelV v u->Q v H'->CE outer P w H s Q u s' :=
  λ{ax H' v u} J rv q=>⟨v,H',J.os,J.bare,J.base,J.aA,rv,q⟩
 cases fl with
 | ret u =>
  obtain⟨v,ax,H',J,rv,q⟩:=hs
  exact fin J rv q
 | next =>
  obtain⟨ax,H',J,q⟩:=hs
  exact fin (v:=V.ak) (u:=ib) J rfl q
 | brk =>
  obtain⟨_,_,_,q⟩:=hs
  exact eE q
 | cont =>
  obtain⟨_,_,_,q⟩:=hs
  exact eE q
end L2
namespace L2
open PySem PySem.Spec PyProof.Rows
section
variable{X:Cx}{x:Str}{p pos:Pos}{e:Expr}{es:List Expr}{t:TA}{id T:String}{r:List V->Hp->VK->Prop}
noncomputable def Dv(r:List V->Hp->VK->Prop)(t:TA):TE:=λσ H Q=>t σ H λvs H1=>r vs H1 Q
theorem Dw(hc:fg X (.builtin id) r)(hg:Gl X x)(hm:X.mg x=none)(hv:bootBuiltins x=some (.builtin id))(ha:PA X (e::es) t)(hn:x≠"__name__":=by decide)(dU:(x==("__debug__":Str))=false:=by decide)
  (he:starEach (e::es) X.env=(false,eval e X.env)::starEach es X.env:=by rfl) (bJ:(backTo pos (starEach es X.env)).any (·.1)=false:=by rfl):PE X (.Call (.Name x p) (e::es) [] pos) (Dv r t):=by
 intro pins s σ H Q I h
 refine wpAny_Call_Name_kw (oF I hg hm hv ?_ hn dU)
 exact PyProof.Rows.callWith_builtin1 (aK (ha pos pins s σ H _ I h) λus s1 ⟨vs,H1,I1,r1,q1⟩=>hc pins s1 σ H1 vs us Q I1 r1 q1) he bJ
theorem ML(hc:fg X (.type T) r)(hg:Gl X x)(hm:X.mg x=none)(hv:bootBuiltins x=some (.type T))(ha:PA X (e::es) t)(hn:x≠"__name__":=by decide)(dU:(x==("__debug__":Str))=false:=by decide)
  (he:starEach (e::es) X.env=(false,eval e X.env)::starEach es X.env:=by rfl) (bJ:(backTo pos (starEach es X.env)).any (·.1)=false:=by rfl):PE X (.Call (.Name x p) (e::es) [] pos) (Dv r t):=by
 intro pins s σ H Q I h
 refine wpAny_Call_Name_kw (oF I hg hm hv ?_ hn dU)
 exact yD (aK (ha pos pins s σ H _ I h) λus s1 ⟨vs,H1,I1,r1,q1⟩=>hc pins s1 σ H1 vs us Q I1 r1 q1) he bJ
end
end L2
namespace HT
open PySem PyProof.Rows
section
open PySem.SeqAt
open PySem.AutoSeq1 (wpAny_loadPart')
open PySem.MeetsSeq PySem.MeetsSeq2 PySem.MeetsSeq3
end
section
variable{prog:Program}{w:World}{A:Around}{E:Value->Shared->Prop}{s:Shared}
noncomputable def cJ(n d:Nat):Option Int->Nat
 | none=>d
 | some v=>if v<0 then(v+(n:Int)).toNat else min v.toNat n
theorem Dx(n d k:Nat):cJ n d (some (k:Int))=min k n:=by
 show(if(k:Int)<0 then((k:Int)+(n:Int)).toNat else min (k:Int).toNat n)=min k n
 rw[if_neg (by omega),dR]
end
end HT
namespace L2
open PySem PySem.Spec PyProof.Rows
noncomputable abbrev TO:=St->Hp->(Option Int->Hp->Prop)->Prop
noncomputable def PO(X:Cx)(e:Option Expr)(t:TO):Prop :=
 ∀(pins:List (Addr × Obj)) (s:Shared) (σ:St) (H:Hp) (Q:Option Int->Hp->Prop),Inv X pins σ H s->t σ H Q ->
  wpAny (model X.prog X.w) X.A (evalPart e X.env) (λu s'=>∃o H',Inv X pins σ H' s'/\IsPart u o/\Q o H') X.xe s
noncomputable def WQ:TO:=λ_ H Q=>Q none H
noncomputable def WR(t:TE):TO:=λσ H Q=>t σ H λx H1=>∃i,x=.int i/\Q (some i) H1
theorem WS{ns:List Int}:∀{us:List Value},Vals (ns.map V.int) us->IntsAre us ns:=by
 induction ns with
 | nil=>intro us r;rw[mI]at r;cases r;exact .nil
 | cons n ns ih =>
  intro us r
  rw[dW]at r
  cases r with
  | cons r1 r2 =>
   obtain⟨t,e⟩:=r1
   subst e
   exact .cons n t (ih r2)
section
variable{X:Cx}{e:Expr}{te:TE}{lo hi:Option Expr}{tl th:TO}{pos p2:Pos}
theorem WT:PO X none WQ:=by
 intro pins s σ H Q I h
 rw[evalPart_none]
 exact wpAny_pure ⟨none,H,I,.none,h⟩
theorem WU(h:PE X e te):PO X (some e) (WR te):=by
 intro pins s σ H Q I hw
 rw[evalPart_some]
 refine aK (h pins s σ H _ I hw) λu s1 ⟨x,H1,I1,r1,q1⟩=>?_
 obtain⟨i,rfl,q⟩:=q1
 obtain⟨t,rfl⟩:=r1
 exact⟨some i,H1,I1,.int i t,q⟩
noncomputable def oN(X:Cx)(r:V->Option Int->Option Int->Hp->VK->Prop):Prop :=
 ∀(pins:List (Addr × Obj)) (s:Shared) (σ:St) (H:Hp) (x:V) (v vl vu:Value) (lo hi:Option Int) (sl:Addr) (Q:VK),Inv X pins σ H s->RelV x v->s.heap.IsSliceOf sl vl vu .none->IsPart vl lo->IsPart vu hi->r x lo hi H Q ->
  ∃T id,typeLookup (.type T) "__getitem__"=pure (some (.builtin id))/\s.TypeIs v T/\wpAny (model X.prog X.w) X.A (getItem v (.ref sl)) (EP X pins σ Q) X.xe s
theorem oN.or{r r':V->Option Int->Option Int->Hp->VK->Prop}(h:oN X r)(h':oN X r'):oN X (λx lo hi H Q=>r x lo hi H Q\/r' x lo hi H Q):=by
 intro pins s σ H x v vl vu lo hi sl Q I rx hs pl pu q
 rcases q with q | q
 ·exact h pins s σ H x v vl vu lo hi sl Q I rx hs pl pu q
 ·exact h' pins s σ H x v vl vu lo hi sl Q I rx hs pl pu q
noncomputable def WV(r:V->Option Int->Option Int->Hp->VK->Prop)(te:TE)(tl th:TO):TE:=λσ H Q=>te σ H λx H1=>tl σ H1 λl H2=>th σ H2 λu H3=>r x l u H3 Q
theorem WW{r:V->Option Int->Option Int->Hp->VK->Prop}(hr:oN X r)(he:PE X e te)(hl:PO X lo tl)(hu:PO X hi th):PE X (.Subscript e (.Slice lo hi none p2) pos) (WV r te tl th):=by
 intro pins s σ H Q I h
 refine Subscript_ (aK (he pins s σ H _ I h) λv s1 ⟨x,H1,I1,r1,q1⟩=>?_)
 refine wpAny_Slice (aK (hl pins s1 σ H1 _ I1 q1) λvl s2 ⟨l,H2,I2,pl,q2⟩=>aK (hu pins s2 σ H2 _ I2 q2) λvu s3 ⟨u,H3,I3,pu,q3⟩=>?_)
 rw[evalPart_none]
 refine wpAny_pure ?_
 have I4:Inv X pins σ H3 { s3 with heap:=s3.heap.push { cls:=.type "slice",data:=.fields #[vl,vu,.none] } }:=I3.kept (t':=s3.toks) λb ob q=>cm _ q
 obtain⟨T,id,hT,ht,hg⟩:=hr pins { s3 with heap:=s3.heap.push { cls:=.type "slice",data:=.fields #[vl,vu,.none] } } σ H3 x v vl vu l u s3.heap.objs.size Q I4 r1 (Heap.IsSliceOf.new ..) pl pu q3
 show wpAny (model X.prog X.w) X.A (subscriptTail e (.Slice lo hi none p2) v (.ref s3.heap.objs.size)) (EP X pins σ Q) X.xe { s3 with heap:=s3.heap.push { cls:=.type "slice",data:=.fields #[vl,vu,.none] } }
 exact tail_any (ops:=[.ref s3.heap.objs.size,v]) ht hT hg (by with_unfolding_all rfl)
noncomputable def qW(xs:List V)(lo hi:Option Int):List V:=(xs.drop (HT.cJ xs.length 0 lo)).take (HT.cJ xs.length xs.length hi-HT.cJ xs.length 0 lo)
theorem WX(xs:List V)(lo hi:Option Int):(qW xs lo hi).length<=xs.length:=by
 unfold qW
 rw[kD,mJ]
 omega
end
end L2
namespace L2
open PySem PySem.Spec PyProof.Rows
noncomputable def gu(n:Nat)(i:Int):Option Nat:=if 0<=i then(if i<n then some i.toNat else none)else if -(n:Int)<=i then some (i+n).toNat else none
noncomputable def dH{α:Type}(xs:List α)(i:Int):Option α:=(gu xs.length i).bind λj=>xs[j]?
theorem MM{n:Nat}{i:Int}{j:Nat}(h:gu n i=some j):seqIndex? i n=some j/\j<n/\-(n:Int)<=i/\i<n:=by
 unfold gu at h
 by_cases h0:0<=i
 ·rw[if_pos h0]at h
  by_cases h1:i<n
  ·rw[if_pos h1]at h
   have e:i.toNat=j:=cM h
   exact⟨by rw[seqIndex_of h0 h1,e],by omega,by omega,h1⟩
  ·rw[if_neg h1]at h;cases h
 ·rw[if_neg h0]at h
  by_cases h1:-(n:Int)<=i
  ·rw[if_pos h1]at h
   have e:(i+n).toNat=j:=cM h
   exact⟨by rw[seqIndex_neg (by omega) h1,e],by omega,h1,by omega⟩
  ·rw[if_neg h1]at h;cases h
theorem mX{α:Type}{xs:List α}{i:Int}{v:α}(h:dH xs i=some v):∃j,seqIndex? i xs.length=some j/\xs[j]?=some v/\j<xs.length/\-(xs.length:Int)<=i/\i<xs.length:=by
 unfold dH at h
 cases e:gu xs.length i with
 | none=>rw[e]at h;cases h
 | some j =>
  rw[e]at h
  obtain⟨h1,h2,h3,h4⟩:=MM e
  exact⟨j,h1,h,h2,h3,h4⟩
theorem Dy{α:Type}{xs:List α}{j:Nat}{v:α}(h:xs[j]?=some v):dH xs (j:Int)=some v:=by
 have hj:j<xs.length:=(iW.mp h).1
 have e:gu xs.length (j:Int)=some j:=by
  unfold gu
  rw[if_pos (by omega),if_pos (by omega)];simp
 unfold dH;rw[e];exact h
noncomputable def MN(b:Expr):Prop:=∀o i,subscripted b false o i=operate [o,i] (getItem o i)
noncomputable def kO(X:Cx)(r:R2):Prop :=
 ∀(value slice:Expr) (pins:List (Addr × Obj)) (s:Shared) (σ:St) (H:Hp) (x y:V) (v u:Value) (Q:VK),Inv X pins σ H s->RelV x v->RelV y u->r x y H Q ->
  subscripted slice false v u=operate [v,u] (getItem v u)->wpAny (model X.prog X.w) X.A (subscriptTail value slice v u) (EP X pins σ Q) X.xe s
noncomputable def mY(X:Cx)(id:String)(r:V->List V->Hp->VK->Prop):Prop :=
 ∀(pins:List (Addr × Obj)) (s:Shared) (σ:St) (H:Hp) (x:V) (xs:List V) (v:Value) (us:List Value) (Q:VK),Inv X pins σ H s->RelV x v->Vals xs us->r x xs H Q ->
  wpAny (model X.prog X.w) X.A (call (.builtin id) (v::us)) (EP X pins σ Q) X.xe s
section
variable{X:Cx}{a b:Expr}{ta tb:TE}{pos:Pos}
theorem kO.or{r r':R2}(h:kO X r)(h':kO X r'):kO X (λx y H Q=>r x y H Q\/r' x y H Q):=by
 intro value slice pins s σ H x y v u Q I rx ry q hs
 rcases q with q | q
 ·exact h value slice pins s σ H x y v u Q I rx ry q hs
 ·exact h' value slice pins s σ H x y v u Q I rx ry q hs
theorem mY.or{id:String}{r r':V->List V->Hp->VK->Prop}(h:mY X id r)(h':mY X id r'):mY X id (λx xs H Q=>r x xs H Q\/r' x xs H Q):=by
 intro pins s σ H x xs v us Q I rx rs q
 rcases q with q | q
 ·exact h pins s σ H x xs v us Q I rx rs q
 ·exact h' pins s σ H x xs v us Q I rx rs q
theorem WY{r:R2}(hr:kO X r)(ha:PE X a ta)(hb:PE X b tb)(hs:MN b):PE X (.Subscript a b pos) (vJ r ta tb):=by
 intro pins s σ H Q I h
 exact Subscript_ (Dn ha hb I h λv u s2 x y H2 I2 rx ry q=>hr a b pins s2 σ H2 x y v u Q I2 rx ry q (hs _ _))
noncomputable def MP(K:PySem.W.Frag):R2:=λx y H Q=>∃p xs i v,x=.ref p/\y=.int i/\bu K H p xs/\dH xs i=some v/\Q v H
noncomputable def MQ(K:PySem.W.Frag):R2:=λx y H Q=>∃p xs i v,x=.ref p/\y=.int i/\eY K H p xs/\dH xs i=some v/\Q v H
noncomputable def MR:R2:=λx y H Q=>∃z i c,x=.str z/\y=.int i/\z.length<=sizeLine/\dH z.cps.toList i=some c/\Q (.str ⟨#[c]⟩) H
theorem WZ:kO X (MP X.K):=by
 intro value slice pins s σ H x y v u Q I rx ry h hs
 obtain⟨p,xs,i,z,rfl,rfl,hq,he,q⟩:=h
 cases rx
 obtain⟨t,rfl⟩:=ry
 obtain⟨its,r,pl,hz⟩:=I.list hq
 obtain⟨j,h1,h2,h3,h4,h5⟩:=mX he
 obtain⟨w,ew,aW⟩:=r.get h2
 have hl:=r.length
 have hn:=qU
 have fin:EP X pins σ Q w s:=⟨z,H,I,aW,q⟩
 by_cases h0:0<=i
 ·have hj:i.toNat=j:=by
   rw[seqIndex_of h0 h5]at h1
   exact cM h1
  exact item_listR pl.isList h0 (by omega) (by rw[hj];simpa using ew) fin hs
 ·have hj:(i+(its.toArray.size:Int)).toNat=j:=by
   rw[seqIndex_neg (by omega) h4]at h1
   rw[dq,<- hl]
   exact cM h1
  exact subscriptTail_builtinR (x:=w) pl.isList.typeIs slot_list_getitem.lookup
   (wpAny_getItem_list_neg (Q:=λr s'=>r=w/\EP X pins σ Q r s') pl.isList (by omega) (by rw[dq]<;>omega) (by omega) (by rw[hj];simpa using ew) ⟨rfl,fin⟩) hs
theorem W0:kO X (MQ X.K):=by
 intro value slice pins s σ H x y v u Q I rx ry h hs
 obtain⟨p,xs,i,z,rfl,rfl,hq,he,q⟩:=h
 cases rx
 obtain⟨t,rfl⟩:=ry
 obtain⟨its,r,pl,hz⟩:=I.tuple hq
 obtain⟨j,h1,h2,h3,h4,h5⟩:=mX he
 obtain⟨w,ew,aW⟩:=r.get h2
 have hl:=r.length
 have hn:=qU
 have fin:EP X pins σ Q w s:=⟨z,H,I,aW,q⟩
 exact subscriptTail_builtinR (x:=w) pl.typeIs slot_tuple_getitem.lookup
  (getItem_tuple (j:=j) (Q:=λr s'=>r=w/\EP X pins σ Q r s') pl (by omega) (by omega) (by rw[dq,<- hl];exact h1) (by simpa using ew) ⟨rfl,fin⟩) hs
theorem W2:kO X MR:=by
 intro value slice pins s σ H x y v u Q I rx ry h hs
 obtain⟨z,i,c,rfl,rfl,hz,he,q⟩:=h
 obtain⟨t,rfl⟩:=rx
 obtain⟨t',rfl⟩:=ry
 obtain⟨j,h1,h2,h3,h4,h5⟩:=mX he
 have hl:z.cps.toList.length=z.length:=by simp[Str.length]
 rw[hl]at h1 h4 h5
 have hn:=qU
 exact tail_any (typeIs_str s z t) slot_str_getitem.lookup (getItem_str (c:=c) (by
  have e1:decide (i < -(2 ^ 63:Int))=false:=decide_eq_false (by omega)
  have e2:decide (i ≥ 2 ^ 63)=false:=decide_eq_false (by omega)
  rw[e1,e2,qw]) (by rw[h1];simpa using h2) ⟨.str ⟨#[c]⟩,H,I.tok _,⟨_,rfl⟩,q⟩) hs
noncomputable def W3(K:PySem.W.Frag):R2:=λx y H Q=>MP K x y H Q\/MQ K x y H Q\/MR x y H Q
theorem W4:kO X (W3 X.K):=WZ.or (W0.or W2)
theorem W5(its:List Value)(n j:Nat)(u:Value):mL (·.setIfInBounds j u) { cls:=.type "list",data:=.seq its.toArray n }={ cls:=.type "list",data:=.seq (its.set j u).toArray n }:=by
 simp[mL]
theorem Inv.lst{pins:List (Addr × Obj)}{σ:St}{H:Hp}{s:Shared}{p:Addr}{xs:List V}(I:Inv X pins σ H s)(h:H p=some (.lst xs)) :
  ∃(its:List Value) (n:Nat),Vals xs its/\s.heap.get? p=some { cls:=.type "list",data:=.seq its.toArray n }/\xs.length<=sizeLine:=by
 obtain⟨z,its,n,r,e⟩:=I.aA p _ h
 exact⟨its,n,r,e,z⟩
theorem Inv.W6{pins:List (Addr × Obj)}{σ:St}{H:Hp}{s:Shared}{p:Addr}{xs ys:List V}{its its':List Value}{n n':Nat}{f:Obj->Obj}(I:Inv X pins σ H s)(h:H p=some (.lst xs))
  (ho:s.heap.get? p=some { cls:=.type "list",data:=.seq its.toArray n }) (hf:f { cls:=.type "list",data:=.seq its.toArray n }={ cls:=.type "list",data:=.seq its'.toArray n' }) (r:Vals ys its') (hz:ys.length<=sizeLine) (t:Nat) :
  Inv X pins σ (upd H p (.lst ys)) { s with heap:=s.heap.update p f,toks:=t }:=by
 have e:(s.heap.update p f).get? p=some { cls:=.type "list",data:=.seq its'.toArray n' }:=by
  rw[vb f ho (by rw[hf]<;>rfl),hf]
 refine I.write (x:=p) (e:=p) (by rw[h];trivial) (.inl rfl) (λb u hb q=>(kE _ _ (dF hb)).trans q) ⟨_,e⟩ ?_
 exact⟨hz,its',n',r,e⟩
noncomputable def W7:V->V->V->Hp->(Hp->Prop)->Prop:=λo i v H Q=>∃p xs k j,o=.ref p/\i=.int k/\H p=some (.lst xs)/\gu xs.length k=some j/\Q (upd H p (.lst (xs.set j v)))
theorem W8:Mq X W7:=by
 intro pins s σ H o i v ov iv u Q I ro ri rv h
 obtain⟨p,xs,k,j,rfl,rfl,hp,hj,q⟩:=h
 cases ro
 obtain⟨t,rfl⟩:=ri
 obtain⟨its,n,r,ho,hz⟩:=I.lst hp
 obtain⟨h1,h2,h3,h4⟩:=MM hj
 have hl:=r.length
 have hn:=qU
 have I':Inv X pins σ (upd H p (.lst (xs.set j v))) { s with heap:=s.heap.update p (mL (·.setIfInBounds j u)) } :=
  I.W6 hp ho (W5 its n j u) (r.set rv j) (by rw[mM];exact hz) s.toks
 by_cases h0:0<=k
 ·have hk:k.toNat=j:=by
   rw[seqIndex_of h0 h4]at h1
   exact cM h1
  exact PySem.W.ki_setAt ho h0 (by omega) (by rw[dq,<- hl];exact h4) (by rw[hk];exact⟨_,I',q⟩)
 ·have hk:(k+(its.toArray.size:Int)).toNat=j:=by
   rw[seqIndex_neg (by omega) h3]at h1
   rw[dq,<- hl]
   exact cM h1
  exact PySem.W.ki_setBack ho (by omega) (by rw[dq,<- hl];exact h3) (by omega) (by rw[hk];exact⟨_,I',q⟩)
theorem Dz(lo hi:Option Int)(n:Nat):(sliceBounds lo hi none n).1=((HT.cJ n 0 lo:Nat):Int)/\(sliceBounds lo hi none n).2.1=((HT.cJ n n hi:Nat):Int)/\(sliceBounds lo hi none n).2.2=1:=by
 refine⟨?_,?_,rfl⟩
 ·cases lo with
  | none=>simp[sliceBounds,HT.cJ]
  | some i =>
   simp only[sliceBounds,HT.cJ,qy,show(1:Int)>0 by decide,if_true]
   by_cases h:i<0
   ·simp only[h,if_true]<;>omega
   ·simp only[h,if_false]<;>omega
 ·cases hi with
  | none=>simp[sliceBounds,HT.cJ]
  | some i =>
   simp only[sliceBounds,HT.cJ,qy,show(1:Int)>0 by decide,if_true]
   by_cases h:i<0
   ·simp only[h,if_true]<;>omega
   ·simp only[h,if_false]<;>omega
theorem W9(its:List Value)(lo hi:Option Int):slicePick its.toArray lo hi none=((its.drop (HT.cJ its.length 0 lo)).take (HT.cJ its.length its.length hi-HT.cJ its.length 0 lo)).toArray:=by
 obtain⟨h1,h2,h3⟩:=Dz lo hi its.toArray.size
 unfold slicePick
 rw[h1,h2,h3]
 simp only[sliceRange_one,pick_run,dq]<;>rfl
noncomputable def Xa(K:PySem.W.Frag):V->Option Int->Option Int->Hp->VK->Prop:=λx lo hi H Q=>∃a xs,x=.ref a/\bu K H a xs/\∀p,H p=none->Q (.ref p) (upd H p (.lst (qW xs lo hi)))
theorem Xb:oN X (Xa X.K):=by
 intro pins s σ H x v vl vu lo hi sl Q I rx hs pl pu h
 obtain⟨a,xs,rfl,hx,q⟩:=h
 cases rx
 obtain⟨its,r,ht,hz⟩:=I.list hx
 have hlen:=r.length
 refine⟨"list",_,slot_list_getitem.lookup,ht.isList.typeIs,?_⟩
 refine wpAny_getItem_list_slice ht.isList hs pl pu .none (by simp) ?_ (by rw[dq]<;>omega)
 rw[W9,<- hlen]
 refine⟨.ref s.heap.objs.size,_,I.laid (t':=s.toks) (o:=.lst (qW xs lo hi)) (λb ob q=>cm _ q) (aZ _) ?_,rfl,q _ (I.aA.fresh (aZ _))⟩
 exact⟨dP (WX xs lo hi) hz,_,0,(r.drop (HT.cJ xs.length 0 lo)).take (HT.cJ xs.length xs.length hi-HT.cJ xs.length 0 lo),dn _ rfl⟩
noncomputable def jZ:V->Bool
 | .ak=>true
 | .bl _=>true
 | .int _=>true
 | .str _=>true
 | _=>false
noncomputable def i4:V->V->Bool
 | .ak,.ak=>true
 | .bl a,.bl b=>a==b
 | .bl a,.int b=>(if a then 1 else 0)==b
 | .int a,.bl b=>a==(if b then 1 else 0)
 | .int a,.int b=>a==b
 | .str a,.str b=>a==b
 | _,_=>false
theorem Xc{A:Around}{s:Shared}{y x:V}{u v:Value}(ry:RelV y u)(rx:RelV x v)(fy:jZ y=true)(fx:jZ x=true):Ci A s u v (i4 y x):=by
 cases y with
 | ak =>
  cases ry
  cases x with
  | ak=>cases rx;exact SeqAt.EqAt.same _
  | bl b=>cases rx;exact SeqAt.EqAt.none_bool b
  | int b=>obtain⟨t,rfl⟩:=rx;exact SeqAt.EqAt.none_int b t
  | str b=>obtain⟨t,rfl⟩:=rx;exact SeqAt.EqAt.none_str b t
  | _=>exact absurd (show false=true from fx) ig
 | bl a =>
  cases ry
  cases x with
  | ak=>cases rx;exact SeqAt.EqAt.bool_none a
  | bl b=>cases rx;exact SeqAt.EqAt.bool_bool a b
  | int b=>obtain⟨t,rfl⟩:=rx;exact SeqAt.EqAt.bool_int a b t
  | str b=>obtain⟨t,rfl⟩:=rx;exact SeqAt.EqAt.bool_str a b t
  | _=>exact absurd (show false=true from fx) ig
 | int a =>
  obtain⟨t',rfl⟩:=ry
  cases x with
  | ak=>cases rx;exact SeqAt.EqAt.int_none a t'
  | bl b=>cases rx;exact SeqAt.EqAt.int_bool a t' b
  | int b=>obtain⟨t,rfl⟩:=rx;exact SeqAt.EqAt.int_int a t' b t
  | str b=>obtain⟨t,rfl⟩:=rx;exact SeqAt.EqAt.int_str a t' b t
  | _=>exact absurd (show false=true from fx) ig
 | str a =>
  obtain⟨t',rfl⟩:=ry
  cases x with
  | ak=>cases rx;exact SeqAt.EqAt.str_none a t'
  | bl b=>cases rx;exact SeqAt.EqAt.str_bool a t' b
  | int b=>obtain⟨t,rfl⟩:=rx;exact SeqAt.EqAt.str_int a t' b t
  | str b=>obtain⟨t,rfl⟩:=rx;exact SeqAt.EqAt.str_str a t' b t
  | _=>exact absurd (show false=true from fx) ig
 | _=>exact absurd (show false=true from fy) ig
noncomputable def gx(x:V)(u:Value):Bool:=match u with
 | .none=>i4 .ak x
 | .bool b=>i4 (.bl b) x
 | .int i _=>i4 (.int i) x
 | .str z _=>i4 (.str z) x
 | _=>false
theorem MS{x y:V}{u:Value}(r:RelV y u)(f:jZ y=true):gx x u=i4 y x:=by
 cases y with
 | ak=>cases r;rfl
 | bl b=>cases r;rfl
 | int i=>obtain⟨t,rfl⟩:=r;rfl
 | str z=>obtain⟨t,rfl⟩:=r;rfl
 | _=>exact absurd (show false=true from f) ig
theorem vP{x:V}:∀{xs:List V} {us:List Value},Vals xs us->xs.all jZ=true->us.any (gx x)=xs.any λy=>i4 y x
 | _,_,.nil,_=>rfl
 | y::xs,u::us,.cons r t,f=>by
  rw[dX,du]at f
  rw[List.any_cons,List.any_cons,MS r f.1,vP t f.2]
theorem vQ{A:Around}{s:Shared}{x:V}{v:Value}(rx:RelV x v)(fx:jZ x=true):∀{xs:List V} {us:List Value},Vals xs us->xs.all jZ=true->∀u∈us,Ci A s u v (gx x u)
 | _,_,.nil,_=>λu hu=>by cases hu
 | y::xs,u::us,.cons r t,f=>λu' hu=>by
  rw[dX,du]at f
  rcases bU.mp hu with rfl | hu
  ·rw[MS r f.1];exact Xc r rx f.1 fx
  ·exact vQ rx fx t f.2 u' hu
noncomputable def oO(x:V)(xs:List V):Bool:=xs.any λy=>i4 y x
noncomputable def MT(K:PySem.W.Frag)(neg:Bool):R2:=λx y H Q=>∃p xs,y=.ref p/\(bu K H p xs\/eY K H p xs)/\jZ x=true/\xs.all jZ=true/\Q (.bl (if neg then !oO x xs else oO x xs)) H
theorem Xd:cg X (compareOp .In) (MT X.K false):=by
 intro pins s σ H x y v u Q I rx ry h
 obtain⟨p,xs,rfl,hq,fx,fs,q⟩:=h
 cases ry
 rcases hq with hq | hq
 ·obtain⟨its,r,pl,hz⟩:=I.list hq
  refine SeqAt.in_listAt (gx x) pl.isList (λw hw=>vQ rx fx r fs w (by simpa using hw)) ⟨.bl _,H,I,rfl,?_⟩
  rw[show its.toArray.any (gx x)=its.any (gx x) by simp,vP r fs]
  exact q
 ·obtain⟨its,r,pl,hz⟩:=I.tuple hq
  refine SeqAt.in_tupleAt (gx x) pl (λw hw=>vQ rx fx r fs w (by simpa using hw)) ⟨.bl _,H,I,rfl,?_⟩
  rw[show its.toArray.any (gx x)=its.any (gx x) by simp,vP r fs]
  exact q
theorem Xe:cg X (compareOp .NotIn) (MT X.K true):=by
 intro pins s σ H x y v u Q I rx ry h
 obtain⟨p,xs,rfl,hq,fx,fs,q⟩:=h
 cases ry
 rcases hq with hq | hq
 ·obtain⟨its,r,pl,hz⟩:=I.list hq
  refine SeqAt.notIn_listAt (gx x) pl.isList (λw hw=>vQ rx fx r fs w (by simpa using hw)) ⟨.bl _,H,I,rfl,?_⟩
  rw[show its.toArray.any (gx x)=its.any (gx x) by simp,vP r fs]
  exact q
 ·obtain⟨its,r,pl,hz⟩:=I.tuple hq
  refine SeqAt.notIn_tupleAt (gx x) pl (λw hw=>vQ rx fx r fs w (by simpa using hw)) ⟨.bl _,H,I,rfl,?_⟩
  rw[show its.toArray.any (gx x)=its.any (gx x) by simp,vP r fs]
  exact q
theorem Xf:fg X (.builtin "len") (λxs H Q=>∃p ys,xs=[.ref p]/\(bu X.K H p ys\/eY X.K H p ys)/\Q (.int ys.length) H):=by
 intro pins s σ H xs us Q I r h
 obtain⟨p,ys,rfl,hq,q⟩:=h
 obtain⟨u,rfl,rx⟩:=vM r
 cases rx
 have hn:=qU
 rcases hq with hq | hq
 ·obtain⟨its,r',pl,hz⟩:=I.list hq
  have hlen:=r'.length
  exact Calls.call_len_list pl.isList (by simp only[dq]<;>omega) ⟨.int ys.length,H,I.tok _,⟨s.toks+1,by rw[dq,hlen]⟩,q⟩
 ·obtain⟨its,r',pl,hz⟩:=I.tuple hq
  have hlen:=r'.length
  exact len_tuple pl (by simp only[dq]<;>omega) ⟨.int ys.length,H,I.tok _,⟨s.toks+1,by rw[dq,hlen]⟩,q⟩
theorem Xg:fg X (.builtin "len") (λxs H Q=>∃z,xs=[.str z]/\z.length<=sizeLine/\Q (.int z.length) H):=by
 intro pins s σ H xs us Q I r h
 obtain⟨z,rfl,hz,q⟩:=h
 obtain⟨u,rfl,t,rfl⟩:=vM r
 have hn:=qU
 exact len_str (by omega) ⟨.int z.length,H,I.tok _,⟨_,rfl⟩,q⟩
theorem fg.or{f:Value}{r r':List V->Hp->VK->Prop}(h:fg X f r)(h':fg X f r'):fg X f (λxs H Q=>r xs H Q\/r' xs H Q):=by
 intro pins s σ H xs us Q I rs q
 rcases q with q | q
 ·exact h pins s σ H xs us Q I rs q
 ·exact h' pins s σ H xs us Q I rs q
theorem Xh:fg X (.type "list") (λxs H Q=>∃p ys,xs=[.ref p]/\(bu X.K H p ys\/eY X.K H p ys)/\∀l,H l=none->Q (.ref l) (upd H l (.lst ys))):=by
 intro pins s σ H xs us Q I r h
 obtain⟨p,ys,rfl,hq,q⟩:=h
 obtain⟨u,rfl,rx⟩:=vM r
 cases rx
 have fin:∀(its:List Value),Vals ys its->ys.length<=sizeLine->∀(h':Heap) (c':Nat),(∀b o',s.heap.get? b=some o'->h'.get? b=some o') ->
   h'.get? s.heap.objs.size=some { cls:=.type "list",dict:=none,data:=.seq its.toArray c',slots:=#[] }->EP X pins σ Q (.ref s.heap.objs.size) { s with heap:=h' }:=λits r' hz h' c' kp e =>
  ⟨.ref s.heap.objs.size,_,I.laid (t':=s.toks) kp (aZ _) (show cW X.prog X.w _ h' _ (.lst ys) from⟨hz,its,c',r',e⟩),rfl,q _ (I.aA.fresh (aZ _))⟩
 rcases hq with hq | hq
 ·obtain⟨its,r',pl,hz⟩:=I.list hq
  have hlen:=r'.length
  obtain⟨o,ho,hc,n,hd⟩:=pl.isList
  exact call_list_seq p (.inl rfl) ho hc hd (λh' c' kp e=>fin its r' hz h' c' kp e) (by simp only[dq]<;>omega)
 ·obtain⟨its,r',pl,hz⟩:=I.tuple hq
  have hlen:=r'.length
  obtain⟨o,ho,hc,n,hd⟩:=pl
  exact call_list_seq p (.inr rfl) ho hc hd (λh' c' kp e=>fin its r' hz h' c' kp e) (by simp only[dq]<;>omega)
noncomputable def DA(K:PySem.W.Frag)(T:String)(x:V)(H:Hp):Prop:=match x with
 | .str _=>T="str"
 | .int _=>T="int"
 | .ref p=>(T="list"/\∃xs,bu K H p xs)\/(T="tuple"/\∃o,K.lookup p=some o/\o.cls=.type "tuple"/\o.dict=none) \/
   (T="dict"/\((∃cS,H p=some (.dK cS))\/∃cS,H p=some (.dT cS)))\/(T="set"/\∃S n,H p=some (.set S n))
 | _=>False
theorem MU{pins:List (Addr × Obj)}{σ:St}{H:Hp}{s:Shared}{T:String}{x:V}{v:Value}(I:Inv X pins σ H s)(r:RelV x v)(ty:DA X.K T x H) :
  s.TypeIs v T/\∀a,v=.ref a->∃ob,s.heap.get? a=some ob/\ob.dict=none:=by
 cases x with
 | str z =>
  obtain⟨t,rfl⟩:=r
  cases(show T="str" from ty)
  exact⟨typeIs_str s z t,λ_ e=>nomatch e⟩
 | int i =>
  obtain⟨t,rfl⟩:=r
  cases(show T="int" from ty)
  exact⟨typeIs_int s i t,λ_ e=>nomatch e⟩
 | ref p =>
  cases r
  rcases ty with⟨rfl,xs,hq⟩ | ⟨rfl,o,hk,hc,hd⟩ | ⟨rfl,hk⟩ | ⟨rfl,S,n,hk⟩
  ·obtain⟨its,_,pl,_⟩:=I.list hq
   refine⟨pl.isList.typeIs,λa e=>?_⟩
   cases e
   obtain⟨o,n,e,c,hd,_⟩:=pl
   exact⟨o,e,hd⟩
  ·refine⟨⟨o,I.cN p o hk,hc⟩,λa e=>?_⟩
   cases e
   exact⟨o,I.cN _ o hk,hd⟩
  ·have z:∃o,s.heap.get? p=some o/\o.ExactDict:=by
    rcases hk with⟨cS,hk⟩ | ⟨cS,hk⟩
    ·obtain⟨_,_,_,_,o,_,_,e,ex,_⟩:=I.aA p _ hk
     exact⟨o,e,ex⟩
    ·obtain⟨_,_,_,_,o,_,_,e,ex,_⟩:=I.aA p _ hk
     exact⟨o,e,ex⟩
   obtain⟨o,e,ex⟩:=z
   refine⟨⟨o,e,ex.1⟩,λa e2=>?_⟩
   cases e2
   exact⟨o,e,ex.2.1⟩
  ·obtain⟨o,_,_,_,e,ex,_⟩:=I.aA p _ hk
   refine⟨⟨o,e,ex.1⟩,λa e2=>?_⟩
   cases e2
   exact⟨o,e,ex.2.1⟩
 | _=>exact eE ty
noncomputable def MV(K:PySem.W.Frag)(T:String)(r:V->List V->Hp->VK->Prop)(to:TE):TE:=λσ H Q=>to σ H λx H1=>DA K T x H1/\r x [] H1 Q
noncomputable def Xi(K:PySem.W.Frag)(T:String)(r:V->List V->Hp->VK->Prop)(to:TE)(t:TA):TE:=λσ H Q=>to σ H λx H1=>DA K T x H1/\t σ H1 λxs H2=>r x xs H2 Q
variable{o e:Expr}{es:List Expr}{to:TE}{t:TA}{name:Str}{apos bR:Pos}{T id:String}{r:V->List V->Hp->VK->Prop}
theorem MW(pa:PlainAttrs T)(slot:Slot T name id)(DB:typeOf (.builtin id)=pure (.type "method_descriptor"))(hm:mY X id r)(ho:PE X o to)
  (ju:attributeBase o name X.env (eval o X.env)=eval o X.env:=by rfl) (jv:(apos.endLine==bR.line)=true:=by rfl):PE X (.Call (.Attribute o name apos) [] [] bR) (MV X.K T r to):=by
 intro pins s σ H Q I h
 refine wpAny_Call_method0_late ju jv (aK (ho pins s σ H _ I h) λv s1 ⟨x,H1,I1,r1,ty,q1⟩=>?_)
 obtain⟨h1,h2⟩:=MU I1 r1 ty
 exact⟨T,id,pa,slot,DB,h1,h2,Calls.callWith_builtin rfl (PySem.evalArgs_none (hm pins s1 σ H1 x [] v [] Q I1 r1 .nil q1))⟩
theorem Xj(pa:PlainAttrs T)(slot:Slot T name id)(DB:typeOf (.builtin id)=pure (.type "method_descriptor"))(hm:mY X id r)(ho:PE X o to)(ha:PA X (e::es) t)
  (ju:attributeBase o name X.env (eval o X.env)=eval o X.env:=by rfl)
  (DC:((backTo bR (starEach (e::es) X.env)).all (λx=>!x.1)&&(backToKw bR (keywordEach [] X.env)).all (λx=>x.1.isSome)
   && decide ((e::es).length+([]:List Keyword).length+(if([]:List Keyword).isEmpty then 0 else 1)<30))=true:=by rfl)
  (jv:(apos.endLine==bR.line)=true:=by rfl) (hs:starEach (e::es) X.env=(false,eval e X.env)::starEach es X.env:=by rfl) (DD:(backTo bR (starEach es X.env)).any (·.1)=false:=by rfl) :
  PE X (.Call (.Attribute o name apos) (e::es) [] bR) (Xi X.K T r to t):=by
 intro pins s σ H Q I h
 refine wpAny_Call_method_late ju DC jv rfl (aK (ho pins s σ H _ I h) λv s1 ⟨x,H1,I1,r1,ty,q1⟩=>?_)
 obtain⟨h1,h2⟩:=MU I1 r1 ty
 refine⟨T,id,pa,slot,DB,h1,h2,?_⟩
 have hA:=ha bR pins s1 σ H1 _ I1 q1
 rw[hs]at hA ⊢
 refine Calls.callWith_builtin (by show(false||(backTo bR (starEach es X.env)).any (·.1))=false;rw[DD]<;>rfl) (Calls.evalArgs_plain ?_)
 exact aK hA λus s2 ⟨vs,H2,I2,r2,q2⟩=>hm pins s2 σ H2 x vs v us Q I2 r1 r2 q2
/- xs.append(e),list.index on a dW5 tuple .. are mY facts of 06m -/
end
end L2
namespace L2
open PySem PySem.Spec PyProof.Rows
noncomputable def MX(X:Cx)(id:String)(r:V->List V->Hp->VK->Prop):Prop :=
 ∀(pins:List (Addr × Obj)) (s:Shared) (σ:St) (H:Hp) (x:V) (xs:List V) (v:Value) (us:List Value) (Q:VK),Inv X pins σ H s->RelV x v->Vals xs us->r x xs H Q ->
  wpAny (model X.prog X.w) X.A (call (.builtin id) (v::us)) (EP X pins σ Q) X.xe s
theorem Vals.one:∀{x:V} {us:List Value},Vals [x] us->∃u,us=[u]/\RelV x u
 | _,_,.cons r .nil=>⟨_,rfl,r⟩
theorem Vals.two:∀{x y:V} {us:List Value},Vals [x,y] us->∃u v,us=[u,v]/\RelV x u/\RelV y v
 | _,_,_,.cons r (.cons q .nil)=>⟨_,_,rfl,r,q⟩
theorem Vals.zero:∀{us:List Value},Vals [] us->us=[]
 | _,.nil=>rfl
theorem Vals.eraseIdx:∀{xs:List V} {us:List Value} (i:Nat),Vals xs us->Vals (xs.eraseIdx i) (us.eraseIdx i)
 | _,_,_,.nil=>.nil
 | _,_,0,.cons _ t=>t
 | _,_,i+1,.cons r t=>.cons r (Vals.eraseIdx i t)
theorem Vals.reverse{xs:List V}{us:List Value}(h:Vals xs us):Vals xs.reverse us.reverse:=by
 induction h with
 | nil=>exact .nil
 | cons r t ih=>rw[Cj,Cj];exact Vals.append ih (.cons r .nil)
theorem Vals.rep{xs:List V}{us:List Value}(h:Vals xs us):∀k:Nat,Vals (aT k xs).flatten (aT k us).flatten
 | 0=>.nil
 | k+1=>by
  rw[n8,n8,qA,qA]
  exact Vals.append h (Vals.rep h k)
theorem MY(its:List Value):∀(k:Nat) (acc:List Value),
  List.foldl (λx1 x2=>x1++x2) acc.toArray (aT k its.toArray)=(acc++(aT k its).flatten).toArray
 | 0,acc=>by simp
 | k+1,acc=>by
  have e:acc.toArray++its.toArray=(acc++its).toArray:=by simp
  have e2:(acc++its)++(aT k its).flatten=acc++(aT (k+1) its).flatten:=by
   rw[n8,qA,dY]
  rw[<-e2,<- MY its k (acc++its),<- e,n8,vd]
section
variable{X:Cx}{pins:List (Addr × Obj)}{σ:St}{H:Hp}{s:Shared}{l b:Addr}{xs ys zs:List V}
theorem Inv.MZ{its its':List Value}{n:Nat}{f:Array Value->Array Value}{t':Nat}(I:Inv X pins σ H s)(hH:H l=some (.lst xs))
  (e:s.heap.get? l=some { cls:=.type "list",data:=.seq its.toArray n }) (hf:f its.toArray=its'.toArray) (hv:Vals ys its') (hz:ys.length<=sizeLine) :
  Inv X pins σ (upd H l (.lst ys)) { s with heap:=s.heap.update l (mL f),toks:=t' }:=by
 have q:=PySem.IsL.update e f
 rw[hf]at q
 refine I.write (x:=l) (e:=l) (by rw[hH];exact trivial) (.inl rfl) (λb' u hb hu=>(kE s.heap (mL f) (dF hb)).trans hu) ⟨_,q⟩ ?_
 exact⟨hz,its',_,hv,q⟩
theorem Inv.M0{its:List Value}{t':Nat}(I:Inv X pins σ H s)(hv:Vals ys its)(hz:ys.length<=sizeLine) :
  Inv X pins σ (upd H s.heap.objs.size (.lst ys)) { s with heap:=s.heap.push { cls:=.type "list",data:=.seq its.toArray },toks:=t' } :=
 I.laid (λ_ _ q=>cm _ q) (aZ _) ⟨hz,its,0,hv,dn _ rfl⟩
theorem Inv.fresh(I:Inv X pins σ H s):H s.heap.objs.size=none:=I.aA.fresh (aZ _)
theorem Inv.vR(I:Inv X pins σ H s)(hH:H l=some (.lst xs)):xs.length<=sizeLine/\∃(its:List Value) (n:Nat),Vals xs its/\xs.length=its.length/\s.heap.get? l=some { cls:=.type "list",data:=.seq its.toArray n }:=by
 obtain⟨z,its,n,r,e⟩:=I.aA l _ hH
 exact⟨z,its,n,r,r.length,e⟩
theorem Xk{n:Nat}(h:n<=sizeLine):LF n=false:=by
 unfold LF
 exact decide_eq_false (by omega)
end
section
variable{X:Cx}
noncomputable def Xl:V->List V->Hp->VK->Prop:=λx vs H Q=>∃l xs y,x=.ref l/\vs=[y]/\H l=some (.lst xs)/\xs.length<sizeLine/\Q .ak (upd H l (.lst (xs++[y])))
theorem M1:MX X "list.append" Xl:=by
 intro pins s σ H x vs v us Q I rx rv h
 obtain⟨l,xs,y,rfl,rfl,hH,hz,q⟩:=h
 cases rx
 obtain⟨u,rfl,ru⟩:=rv.one
 obtain⟨z,its,n,r,hl,e⟩:=I.vR hH
 refine call_meets F.slot_list_append ⟨_,e,rfl⟩ F.entry_list_append (F.args_list_append_2 _ _) (PySem.list_append l its.toArray n u (by rw[dq];omega)) ⟨e,?_⟩
 refine⟨.ak,_,I.MZ (its':=its++[u]) hH e (by simp) (r.append (.cons ru .nil)) ?_,rfl,q⟩
 rw[fB,List.length_singleton]
 omega
noncomputable def Xm:V->List V->Hp->VK->Prop:=λx vs H Q=>∃l xs,x=.ref l/\vs=[]/\H l=some (.lst xs)/\Q .ak (upd H l (.lst xs.reverse))
theorem Xn:MX X "list.reverse" Xm:=by
 intro pins s σ H x vs v us Q I rx rv h
 obtain⟨l,xs,rfl,rfl,hH,q⟩:=h
 cases rx
 have Xo:=rv.zero
 subst Xo
 obtain⟨z,its,n,r,hl,e⟩:=I.vR hH
 refine call_meets F.slot_list_reverse ⟨_,e,rfl⟩ F.entry_list_reverse (F.args_list_reverse_1 _) (AutoSeq1.list_reverse_list_0 l its.toArray n (by rw[dq];omega)) ⟨e,?_⟩
 refine⟨.ak,_,I.MZ (its':=its.reverse) hH e (by simp) r.reverse ?_,rfl,q⟩
 rw[Uj]
 omega
noncomputable def Xp:R2:=λx y H Q=>∃l b xs zs,x=.ref l/\y=.ref b/\H l=some (.lst xs)/\H b=some (.lst zs)/\xs.length+zs.length<=sizeLine/\∀p,H p=none->Q (.ref p) (upd H p (.lst (xs++zs)))
theorem M3:cg X (binaryOp .Add) Xp:=by
 intro pins s σ H x y v u Q I rx ry h
 obtain⟨l,b,xs,zs,rfl,rfl,hH,hB,hz,q⟩:=h
 cases rx
 cases ry
 obtain⟨z,its,n,r,hl,e⟩:=I.vR hH
 obtain⟨z2,M4,n2,r2,oQ,e2⟩:=I.vR hB
 refine PySem.P.add_list e e2 ?_ (by rw[dq,dq];omega)
 have ea:its.toArray++M4.toArray=(its++M4).toArray:=by simp
 rw[ea]
 exact⟨.ref _,_,I.M0 (t':=s.toks) (r.append r2) (by rw[fB];omega),rfl,q _ I.fresh⟩
noncomputable def Xq:R2:=λx y H Q=>∃l k xs,x=.ref l/\y=.int k/\H l=some (.lst xs)/\-(2 ^ 63)<=k/\k<2 ^ 63/\xs.length*k.toNat<=sizeLine /\
 ∀p,H p=none->Q (.ref p) (upd H p (.lst (aT k.toNat xs).flatten))
theorem Xr{α:Type}(xs:List α)(k:Nat):(aT k xs).flatten.length=k*xs.length:=by
 induction k with
 | zero=>simp
 | succ k ih=>rw[n8,qA,fB,ih,Nat.succ_mul,Nat.add_comm]
theorem Xs:cg X (binaryOp .Mult) Xq:=by
 intro pins s σ H x y v u Q I rx ry h
 obtain⟨l,k,xs,rfl,rfl,hH,h1,h2,hz,q⟩:=h
 cases rx
 obtain⟨t,rfl⟩:=ry
 obtain⟨z,its,n,r,hl,e⟩:=I.vR hH
 have hlen:its.toArray.size*k.toNat<=sizeLine:=by rw[dq,<- hl];exact hz
 have Xt:¬ its.toArray.size*k.toNat>(2 ^ 63-1)/8:=by
  have:(sizeLine:Nat)<=(2 ^ 63-1)/8:=by decide
  omega
 have Xu:¬ (!Builtin.List.listFitsIndex k)=true:=by
  rw[fitsIndex_both h1 h2]
  exact ig
 have Xv:¬ LF (its.toArray.size*k.toNat)=true:=by
  rw[Xk hlen]
  exact ig
 have Xw:List.foldl (λx1 x2=>x1++x2) #[] (aT (if its.toArray.isEmpty=true then 0 else k.toNat) its.toArray)=(aT k.toNat its).flatten.toArray:=by
  have f0:∀m:Nat,List.foldl (λx1 x2=>x1++x2) #[] (aT m its.toArray)=(aT m its).flatten.toArray:=λm=>by
   have:=MY its m []
   rw[qB]at this
   exact this
  rw[f0]
  cases its with
  | nil=>simp
  | cons a r'=>rw[if_neg (by simp)]
 refine wpAny_binaryOp_repeat_ref (T:="list") (U:="int") (by decide) ⟨_,e,rfl⟩ (λs'=>typeIs_int s' k t) noFill_list_mul F.fills_int_mul F.slot_int_rmul repeat_list F.slot_int_index.lookup
  (call_meets F.slot_int_rmul (typeIs_int s k t) F.entry_int_rmul (F.args_int_rmul_2 _ _) (int___rmul___int_list k t l its.toArray n)
   ⟨e,rfl,⟨_,e,rfl⟩,call_meets F.slot_list_mul ⟨_,e,rfl⟩ F.entry_list_mul (F.args_list_mul_2 _ _) (AutoListH.list___mul___list_int_3 l its.toArray n k t Xu Xt Xv) ⟨e,?_⟩⟩)
 rw[Xw]
 exact⟨.ref _,_,I.M0 (t':=s.toks) (r.rep k.toNat) (by rw[Xr,kF];exact hz),rfl,q _ I.fresh⟩
end
section
variable{prog:Program}{w:World}{A:Around}{E:Value->Shared->Prop}{s:Shared}
end
section
variable{X:Cx}
end
end L2
namespace Att
open PySem PySem.W PySem.Calls PyProof.Rows
theorem Xx{P:Params}{h:Heap}:∀(ns:List Int) (vs:List Value),WellAll P h vs (ns.map WData.int)->IntsAre vs ns:=by
 intro ns
 induction ns with
 | nil =>
  intro vs w
  rw[mI]at w
  cases w
  exact .nil
 | cons n ns ih =>
  intro vs w
  rw[dW]at w
  cases w with
  | cons a b =>
   cases a
   exact .cons _ _ (ih _ b)
theorem Xy{l:OpenLaw}{n:Nat}(hn:l.most=some n){P:Params}{h:Heap}{args:List WData}{vals:List Value}
  (zF:l.row.toRowW.claim.pre args=true) (DE:WellAll P h vals args) :
  ∃a vs ns,vals=[eD a]/\args=[WData.list (ns.map WData.int)]/\h.get? a=some { cls:=.type "list",data:=.seq vs.toArray }/\IntsAre vs ns/\ns.length<=n:=by
 have mZ:WShape.hasAll [] args [.list .int]=true:=(pre_splitW zF).1
 have hc:l.pre.holds [] { args:=args }=true:=(pre_splitW zF).2
 obtain⟨d,r,rfl,h1,h2⟩:=hasAllW_cons mZ
 obtain rfl:=hasAllW_nil h2
 obtain⟨xs,rfl,h3⟩:=hasW_list h1
 obtain⟨ns,rfl⟩:=items_int h3
 have hlen:ns.length<=n:=by
  unfold OpenLaw.pre at hc
  have h4:(WTm.not (.lt (.lit (.int (n:Int))) (.len (.arg 0)))).holds [] { args:=[.list (ns.map .int)] }=true:=by
   have h4:=(holds_andW hc).1
   rw[hn]at h4
   exact h4
  have h5:=condW_of h4 (w_not (w_lt w_lit (w_len_list (w_arg rfl))))
  rw[bO]at h5
  refine yH λq=>?_
  have q':(n:Int)<((ns.length:Nat):Int):=by omega
  first
   | (rw[decide_eq_true q']at h5;exact absurd h5 (by decide))
   | (simp at h5;omega)
 cases DE with
 | cons w1 w2 =>
  cases w2
  cases w1 with
  | list ho Xz=>exact⟨_,_,ns,rfl,rfl,ho,Xx ns _ Xz,hlen⟩
theorem XA(l:OpenLaw)(args:List WData):l.row.toRowW.claim.post args (.bool true) args=true :=
 postW_of (r:=l.row.toRowW) (X:=(true==true))
  (show WShape.has [] (.bool true) .bool=true by first | rfl | decide | simp[WShape.has,WShape.arms,WShape.armsAll])
  (show(WTm.eq .res (.lit (.bool true))).value [] { args:=args,res:=some (.bool true),after:=args }=some (.bool (true==true)) from w_eq_bool (w_res rfl) w_lit) rfl
theorem XB{l:OpenLaw}{n:Nat}{q:Program}{loose:List Str}{XP:(Str->Option Value)->Heap->Prop}{YP:World->Heap->Prop}{d:DefRec}
  (hn:l.most=some n) (vS:d.params.defaults=[])
  (call:∀(w:World) (bY bw:Shared) (mg mb:Str->Option Value) (fa:Addr) (o:Obj) (pm cd doc:Value) (a:Addr) (vs:List Value) (ns:List Int),
   Ground q loose [] XP w bY mg mb bw.heap->YP w bw.heap ->
   bw.heap.get? fa=some o->o.data=.func (docDef d.name d.params d.body d.scope pm cd doc)->bw.heap.CodeRec cd d.name->mg d.name=some (.ref fa) ->
   bw.heap.get? a=some { cls:=.type "list",data:=.seq vs.toArray }->IntsAre vs ns->ns.length<=n->bw.gens=#[] ->
   codeAny (model l.prog w) callerA (.call (.ref fa) ⟨[.ref a],[]⟩) (λr s'=>r=.ok (.ret (.bool true))/\OldK bw.heap s'.heap/\s'.os=bw.os/\AllBare s'.gens) bw) :
  WalkO q loose XP YP l.row.toRowW d [] (λf vs=>PySem.call f vs):=by
 intro w bY bw mg mb G Y fa o pm cd doc dV kV ho hd cA hD vT hg args vals as zF dW6 hrd DE jw
 obtain rfl:dV=.none:=Dflts.none hD vS
 obtain rfl:kV=.none:=Dflts.noKw hD
 obtain⟨a,vs,ns,rfl,rfl,DF,hints,hlen⟩:=Xy hn zF DE
 refine enter_call (codeAny_mono (call w bY bw mg mb fa o pm cd doc a vs ns G Y ho (fd_plain hd) cA vT DF hints hlen hg) λr s' hq=>?_)
 obtain⟨rfl,h2,h3,h4⟩:=hq
 exact⟨.inl ⟨.bool true,.bool true,[],rfl,λ_=>rfl,.bool true,XA l _,λ_=>⟨LG,λ_ hm=>(nomatch hm)⟩⟩,h2,h3,h4⟩
section
variable{prog:Program}{w:World}{A:Around}{E:Value->Shared->Prop}{s:Shared}{K:Frag}
noncomputable def cz5(h:Heap)(L d:Addr):List (Addr × Obj):=(aR h.objs.size).filterMap λa=>if a=L\/a=d then none else(h.get? a).map λo=>(a,o)
end
end Att
namespace L2
open PySem PySem.Spec PyProof.Rows
theorem M5:∀{vs:List Value} {ns:List Int},IntsAre vs ns->Vals (ns.map V.int) vs
 | _,_,.nil=>.nil
 | _,_,.cons n t h=>.cons ⟨t,rfl⟩ (M5 h)
end L2
namespace L2
open PySem PySem.Spec PyProof.Rows
end L2
/- THE dX0 dX1 (shape;LID,My.* are dX3):
   My.oR: a structure of M6 addresses dX4 dX5 dX6 names (classes,dX7);My.Txt K t: a structure (Prop) of M6 equations over K;
   My.dX8:{K} {implicit addresses ..} (e1:nsIn K mainGlobals "law"=some (some (.ref f))) (e2:K.lookup f=some ⟨oc,od,.func (fnOf "law" "law" params body scope dV kV doc pm an aH ct),sl⟩) (e3:codeIn K aH "law"=true) ..:∃t,My.Txt K t
(M6 tactic k_is has no namespace: write k_is) -/
namespace L2
open PySem PySem.Spec PyProof.Rows
noncomputable def jx(s:Stmt)(j:Nat):Stmt:=match s with
 | .ClassDef _ _ _ body _ _ _ _ _ _ _=>body.getD j (.Pass ⟨0,0,0,0⟩)
 | _=>.Pass ⟨0,0,0,0⟩
noncomputable def bB(s:Stmt):Arguments:=match s with
 | .FunctionDef _ a _ _ _ _ _ _ _ _=>a
 | _=>{ posonlyargs:=[],args:=[],vararg:=none,kwonlyargs:=[],kw_defaults:=[],kwarg:=none,defaults:=[] }
noncomputable def bf(s:Stmt):List Stmt:=match s with
 | .FunctionDef _ _ b _ _ _ _ _ _ _=>b
 | _=>[]
noncomputable def ay(s:Stmt):Scope:=match s with
 | .FunctionDef _ _ _ _ _ _ sc _ _ _=>sc
 | _=>{ kind:=.function,names:=[],isGenerator:=false,isCoroutine:=false }
noncomputable abbrev aV:dS:=λ_ _ _ _ _ _=>False
noncomputable abbrev E0:XK:=λ_ _ _=>False
theorem bj{X:Cx}:jX aV X E0:=λ_ _ _ _ _ _ _ h=>h.elim
structure bx(K:PySem.W.Frag)(x qual:Str)(st:Stmt)(f:Addr)(fd:FuncData):Prop where
 ex:∃(oc:Value) (od:Option Addr) (kV doc pm:Value) (an:Option Addr) (aH ct:Value) (jY:Array (Option Value)),
  fd=PySem.W.fnOf x qual (bB st) (bf st) (ay st) .none kV doc pm an aH ct/\K.lookup f=some ⟨oc,od,.func fd,jY⟩/\PySem.W.codeIn K aH qual=true
 kp:PySem.W.keepIn K (.ref f)=true
section
variable{P:Program}{w:World}{K:PySem.W.Frag}{mg:Str->Option Value}{base:Heap}
theorem bx.ok{x qual:Str}{st:Stmt}{f:Addr}{fd:FuncData}{N ps:List Str}{k:Nat}{sp:Sp}(F:bx K x qual st f fd)(S:bA N ps (ay st))(len:∀vs H Q E,sp vs H Q E->vs.length=ps.length)
  (gr:∀(aH:Value) (A:Around) (outer:List Env) (s:Shared) (H:Hp) (vs:List V) (Q:VK) (E:XK),bN k (A.deeper (envOfC qual (ay st) s.heap.objs.size f aH))->sp vs H Q E ->
   ∃t,PSs (gM aV P w K mg base N qual (ay st) f aH A outer s H E).eZ (bf st) t/\t { nx:=λ_ H'=>Q .ak H',rt:=Q } (start N vs) H):aO P w K mg base aV (k+1) f fd ps sp:=by
 obtain⟨oc,od,kV,doc,pm,an,aH,ct,jY,rfl,lk,cA⟩:=F.ex
 refine Du lk cA S len λA outer s H vs Q E hr gO=>?_
 obtain⟨t,h,q⟩:=gr aH A outer s H vs Q E hr gO
 exact⟨t,h.eZ,q⟩
theorem bx.binds{x qual:Str}{st:Stmt}{f:Addr}{fd:FuncData}{ps:List Str}(F:bx K x qual st f fd)
  (h:∀(kV doc pm:Value) (an:Option Addr) (aH ct:Value) (us:List Value),us.length=ps.length->bindArgs (PySem.W.fnOf x qual (bB st) (bf st) (ay st) .none kV doc pm an aH ct) ⟨us,[]⟩=pure (ps.zip us)):Binds K fd ps []:=by
 obtain⟨oc,od,kV,doc,pm,an,aH,ct,jY,rfl,lk,cA⟩:=F.ex
 exact .all (h kV doc pm an aH ct)
theorem bK{x qual:Str}{st:Stmt}{f:Addr}{oc:Value}{od an:Option Addr}{jY:Array (Option Value)}{kV doc pm aH ct:Value}(l:K.lookup f=some ⟨oc,od,.func (PySem.W.fnOf x qual (bB st) (bf st) (ay st) .none kV doc pm an aH ct),jY⟩)
  (c:PySem.W.codeIn K aH qual=true) (k:PySem.W.keepIn K (.ref f)=true):bx K x qual st f (PySem.W.fnOf x qual (bB st) (bf st) (ay st) .none kV doc pm an aH ct):=⟨⟨oc,od,kV,doc,pm,an,aH,ct,jY,rfl,l,c⟩,k⟩
end
section
variable{X:Cx}
theorem pv(i:Nat){x:Str}{pos:Pos}(hN:X.N[i]?=some x:=by rfl)(hv:jT X.env.scope x:=by first | exact aq rfl | exact bh (aq rfl) | exact bh (bh rfl))(hd:(x==("__debug__":Str))=false:=by decide)
  (cA:(x==("__classdict__":Str))=false:=by decide):PE X (.Name x pos) (Mn i):=oE hN hv hd cA
end
theorem kP{A B:Prop}(h:B):if false=true then A else B:=by
 rw[if_neg ig]
 exact h
theorem oS{A B:Prop}(h:A):if true=true then A else B:=by
 rw[if_pos rfl]
 exact h
noncomputable def aa(H H':Hp):Prop:=∀b o,H b=some o->H' b=some o
theorem aa.refl(H:Hp):aa H H:=λ_ _ h=>h
theorem aa.trans{H H1 H2:Hp}(a:aa H H1)(b:aa H1 H2):aa H H2:=λc o h=>b c o (a c o h)
theorem aa.free{H H':Hp}(e:aa H H'){l:Addr}(h:H' l=Ck):H l=Ck:=by
 cases q:H l with
 | none=>rfl
 | some o =>
  rw[e l o q]at h
  cases h
theorem aa.seq{K:PySem.W.Frag}{H H':Hp}{a:Addr}{xs:List V}(e:aa H H')(h:bu K H a xs):bu K H' a xs:=by
 rcases h with (h | ⟨o,h⟩) | h
 ·exact .inl (.inl (e _ _ h))
 ·exact .inl (.inr ⟨o,e _ _ h⟩)
 ·exact .inr h
end L2
namespace Mf
noncomputable def bl(n:Nat):Nat:=if n=0 then 0 else n.log2+1
theorem dJ{n m:Nat}:bl n<=m↔n<2 ^ m:=by
 unfold bl
 by_cases h:n=0
 ·simp[h,ve]
 ·rw[if_neg h]
  rw[<-Nat.log2_lt h]
  omega
theorem DG{n m:Nat}:m<bl n↔2 ^ m<=n:=by
 have:=@dJ n m
 omega
theorem gQ(n:Nat):n<2 ^ bl n:=dJ.mp (aZ _)
theorem M7{n:Nat}(h:n≠0):2 ^ (bl n-1)<=n:=by
 have:0<bl n:=by unfold bl;rw[if_neg h];omega
 exact DG.mp (by omega)
theorem fR{n:Nat}(h:n≠0):0<bl n:=by
 unfold bl;rw[if_neg h];omega
theorem kQ:bl 0=0:=rfl
theorem qX{n:Nat}(h:n≠0):n.testBit (bl n-1)=true:=by
 have h1:=M7 h
 have h2:=gQ n
 have hp:=fR h
 have e:bl n=(bl n-1)+1:=by omega
 rw[e,n9]at h2
 rw[Uk]
 have:n/2 ^ (bl n-1)=1:=by
  apply Nat.div_eq_of_lt_le
  ·omega
  ·omega
 rw[this];rfl
theorem XC{x n:Nat}(h:∀i,n<=i->x.testBit i=false):x<2 ^ n:=by
 apply Nat.lt_pow_two_of_testBit
 intro i hi
 exact h i hi
theorem M8{x y n:Nat}(hx:x<2 ^ (n+1))(hy:y<2 ^ (n+1))(tx:x.testBit n=true)(ty:y.testBit n=true):x ^^^ y<2 ^ n:=by
 apply XC
 intro i hi
 rw[kG]
 by_cases e:i=n
 ·rw[e,tx,ty];rfl
 ·have eH:n+1<=i:=by omega
  have p:2 ^ (n+1)<=2 ^ i:=yI (by decide) eH
  rw[Cm (cG hx p),Cm (cG hy p)]
  rfl
theorem M9(x y z:Nat):(x ^^^ y) ^^^ (z ^^^ y)=x ^^^ z:=by
 apply yJ;intro i;simp only[kG]
 cases x.testBit i<;>cases y.testBit i<;>cases z.testBit i<;>rfl
theorem Na(x y z t:Nat):(x ^^^ y) ^^^ (z ^^^ t)=(x ^^^ z) ^^^ (y ^^^ t):=by
 apply yJ;intro i;simp only[kG]
 cases x.testBit i<;>cases y.testBit i<;>cases z.testBit i<;>cases t.testBit i<;>rfl
noncomputable def P(a b:Nat):Nat->Nat
 | 0=>0
 | k+1=>P a b k ^^^ (if b.testBit k then a <<< k else 0)
noncomputable def cl(a b:Nat):Nat:=P a b (bl b)
theorem Nb{a b k:Nat}(h:b<2 ^ k):∀j,P a b (k+j)=P a b k
 | 0=>rfl
 | j+1=>by
  show P a b (k+j) ^^^ (if b.testBit (k+j)then a <<< (k+j)else 0)=_
  rw[Nb h j]
  have p:2 ^ k<=2 ^ (k+j):=yI (by decide) (by omega)
  rw[Cm (cG h p)]
  simp
theorem qY{a b k:Nat}(h:b<2 ^ k):P a b k=cl a b:=by
 have h1:=dJ.mpr h
 have e:k=bl b+(k-bl b):=by omega
 rw[e,Nb (gQ b)]
 rfl
theorem Nc(a a' b:Nat):∀k,P (a ^^^ a') b k=P a b k ^^^ P a' b k
 | 0=>(jP 0).symm
 | k+1=>by
  show P (a ^^^ a') b k ^^^ _=(P a b k ^^^ _) ^^^ (P a' b k ^^^ _)
  rw[Nc a a' b k]
  by_cases t:b.testBit k=true
  ·rw[if_pos t,if_pos t,if_pos t,Ul]
   ac_rfl
  ·rw[if_neg t,if_neg t,if_neg t]
   simp
theorem Nd(a b b':Nat):∀k,P a (b ^^^ b') k=P a b k ^^^ P a b' k
 | 0=>(jP 0).symm
 | k+1=>by
  show P a (b ^^^ b') k ^^^ _=(P a b k ^^^ _) ^^^ (P a b' k ^^^ _)
  rw[Nd a b b' k,kG]
  cases b.testBit k<;>cases b'.testBit k<;>simp
  ·ac_rfl
  ·ac_rfl
  ·exact(M9 _ _ _).symm
theorem m4(a a' b:Nat):cl (a ^^^ a') b=cl a b ^^^ cl a' b:=Nc a a' b _
theorem qZ{x y n:Nat}(hx:x<2 ^ n)(hy:y<2 ^ n):x ^^^ y<2 ^ n:=Nat.xor_lt_two_pow hx hy
theorem XD(a b b':Nat):cl a (b ^^^ b')=cl a b ^^^ cl a b':=by
 let k:=bl b+bl b'
 have h1:b<2 ^ k:=dJ.mp (by omega)
 have h2:b'<2 ^ k:=dJ.mp (by omega)
 rw[<-qY (qZ h1 h2),<- qY h1,<- qY h2,Nd]
theorem XE(a:Nat):cl a 0=0:=rfl
theorem Nf(b:Nat):∀k,P 0 b k=0
 | 0=>rfl
 | k+1=>by
  show P 0 b k ^^^ _=0
  rw[Nf b k];simp
theorem m5(b:Nat):cl 0 b=0:=Nf b _
theorem XF(b k:Nat):(b/2).testBit k=b.testBit (k+1):=by
 rw[Cn]
theorem Ng(a b:Nat):∀k,P a b (k+1)=(if b%2=1 then a else 0) ^^^ P (2*a) (b/2) k
 | 0=>by
  show 0 ^^^ _=_ ^^^ 0
  rw[mO,jP,yK]
  simp
 | k+1=>by
  show P a b (k+1) ^^^ _=_ ^^^ (P (2*a) (b/2) k ^^^ _)
  rw[Ng a b k,XF,oa]
  have e:a <<< (k+1)=(2*a) <<< k:=by
   rw[jk,jk,n9]
   rw[kF 2 a,qC,kF 2]
  rw[e]
theorem Nh{b k:Nat}(h:b<2 ^ (k+1)):b/2<2 ^ k:=by
 rw[n9]at h;omega
theorem Ni(a b:Nat):cl a b=(if b%2=1 then a else 0) ^^^ cl (2*a) (b/2):=by
 have h:b<2 ^ (bl b+1):=Nat.lt_trans (gQ b) (by rw[n9];have:=ve (bl b);omega)
 rw[<-qY h,Ng,qY (Nh h)]
theorem Nj(a b:Nat):∀k,P (2*a) b k=2*P a b k
 | 0=>rfl
 | k+1=>by
  show P (2*a) b k ^^^ _=2*(P a b k ^^^ _)
  rw[Nj a b k]
  have d:∀x y:Nat,2*(x ^^^ y)=2*x ^^^ 2*y:=by
   intro x y
   have h:=@Ul 1 x y
   rw[jk,jk,jk,Nat.pow_one]at h
   rw[kF 2 (x ^^^ y),kF 2 x,kF 2 y]
   exact h
  rw[d]
  by_cases t:b.testBit k=true
  ·rw[if_pos t,if_pos t,jk,jk,qC]
  ·rw[if_neg t,if_neg t]
theorem DH(a b:Nat):cl (2*a) b=2*cl a b:=Nj a b _
theorem vU(a c t:Nat)(ht:t<2):cl a (2*c+t)=2*cl a c ^^^ (if t=1 then a else 0):=by
 rw[Ni,DH,LH]
 have e1:(2*c+t)/2=c:=by omega
 have e2:(2*c+t)%2=t:=by omega
 rw[e1,e2]
theorem XG(a c:Nat):cl a (2*c)=2*cl a c:=by
 have h:=vU a c 0 (by decide)
 simpa using h
theorem Nk(c t:Nat)(ht:t<2):2*c ^^^ t=2*c+t:=by
 apply yJ
 intro i
 cases i with
 | zero =>
  rw[kG,yK,yK,yK]
  have:t=0\/t=1:=by omega
  rcases this with h | h<;>subst h<;>simp<;>omega
 | succ i =>
  rw[kG,Cn,Cn,Cn]
  have e1:2*c/2=c:=by omega
  have e2:t/2=0:=by omega
  have e3:(2*c+t)/2=c:=by omega
  rw[e1,e2,e3];simp
theorem DI:∀b:Nat,cl 1 b=b:=by
 intro b
 induction b using Co with
 | ind b ih =>
  by_cases h:b=0
  ·subst h;rfl
  ·have e:b=2*(b/2)+b%2:=by omega
   rw[e,vU 1 (b/2) (b%2) (by omega),ih (b/2) (by omega)]
   have:b%2=0\/b%2=1:=by omega
   rcases this with h | h
   ·rw[h];simp
   ·rw[h];rw[if_pos rfl];exact Nk _ _ (by decide)
theorem vV:∀b a:Nat,cl a b=cl b a:=by
 intro b
 induction b using Co with
 | ind b ih =>
  intro a
  by_cases h:b=0
  ·subst h;rw[m5];rfl
  ·have e:b=2*(b/2)+b%2:=by omega
   have lt:b%2<2:=by omega
   have e':cl b a=cl (2*(b/2) ^^^ b%2) a:=by rw[Nk _ _ lt,<- e]
   rw[e',m4,DH,<- ih (b/2) (by omega) a]
   have XH:cl a b=cl a (2*(b/2)+b%2):=by rw[<-e]
   rw[XH,vU _ _ _ lt]
   have:b%2=0\/b%2=1:=by omega
   rcases this with h | h
   ·rw[h,m5];rfl
   ·rw[h,DI];rfl
theorem DJ{a m:Nat}(h:a<2 ^ m)(b:Nat):∀k,P a b (k+1)<2 ^ (m+k)
 | 0=>by
  show 0 ^^^ _<_
  rw[mO,Nat.add_zero]
  by_cases t:b.testBit 0=true
  ·rw[if_pos t];simpa using h
  ·rw[if_neg t];exact ve m
 | k+1=>by
  show P a b (k+1) ^^^ _<_
  have i:=DJ h b k
  have p:2 ^ (m+k)<=2 ^ (m+(k+1)):=yI (by decide) (by omega)
  apply qZ (cG i p)
  by_cases t:b.testBit (k+1)=true
  ·rw[if_pos t,jk,Nat.pow_add 2 m]
   exact(Um (ve _)).mpr h
  ·rw[if_neg t];exact ve _
theorem XI{a b m n:Nat}(h:a<2 ^ m)(h':b<2 ^ (n+1)):cl a b<2 ^ (m+n):=by
 rw[<-qY h'];exact DJ h b n
theorem XJ{a b:Nat}(ha:a≠0)(hb:b≠0):2 ^ (bl a-1+(bl b-1))<=cl a b:=by
 have e:bl b=(bl b-1)+1:=by have:=fR hb;omega
 have ta:=qX ha
 have tb:=qX hb
 apply Nat.ge_two_pow_of_testBit
 unfold cl
 rw[e]
 show(P a b (bl b-1) ^^^ _).testBit _=true
 have e2:bl b-1+1-1=bl b-1:=by omega
 rw[e2,kG,if_pos tb]
 have f:(P a b (bl b-1)).testBit (bl a-1+(bl b-1))=false:=by
  cases q:bl b-1 with
  | zero=>show Nat.testBit 0 _=false;exact Nat.zero_testBit _
  | succ k =>
   apply Cm
   have l:=DJ (gQ a) b k
   have p:=fR ha
   have e3:bl a-1+(k+1)=bl a+k:=by omega
   rw[e3];exact l
 rw[f,Uo]
 have e4:bl a-1+(bl b-1)-(bl b-1)=bl a-1:=by omega
 rw[e4,ta]
 simp
theorem Nl{a b:Nat}(ha:a≠0)(hb:b≠0):bl (cl a b)=bl a+bl b-1:=by
 have p1:=fR ha
 have p2:=fR hb
 have h1:bl (cl a b)<=bl a+(bl b-1):=dJ.mpr (XI (gQ a) (by
  have e:bl b-1+1=bl b:=by omega
  rw[e];exact gQ b))
 have h2:=DG.mpr (XJ ha hb)
 omega
theorem Nm(s b:Nat):cl (2 ^ s) b=b <<< s:=by
 induction s with
 | zero=>rw[Nat.pow_zero,DI];rfl
 | succ s ih =>
  rw[n9,kF,DH,ih,jk,jk,n9]
  rw[<-qC,kF 2,qC,kF 2,<- qC,qC]
theorem XM{a q b r s:Nat}(h:a=cl q b ^^^ r):a=cl (q ^^^ 2 ^ s) b ^^^ (r ^^^ b <<< s):=by
 rw[m4,Nm,h,M9]
theorem Nn{b r:Nat}(hb:b≠0)(h:bl b<=bl r):bl (r ^^^ b <<< (bl r-bl b))<bl r:=by
 have p:=fR hb
 have hr:r≠0:=by
  intro z;rw[z,kQ]at h;omega
 have:r ^^^ b <<< (bl r-bl b)<2 ^ (bl r-1):=by
  apply M8
  ·have e:bl r-1+1=bl r:=by omega
   rw[e];exact gQ r
  ·have e:bl r-1+1=bl b+(bl r-bl b):=by omega
   rw[e,jk,Nat.pow_add]
   exact(Um (ve _)).mpr (gQ b)
  ·exact qX hr
  ·rw[Uo]
   have e:bl r-1-(bl r-bl b)=bl b-1:=by omega
   rw[e,qX hb]
   simp;omega
 have:=dJ.mpr this
 omega
theorem XN{x y z:Nat}(h:x ^^^ y=z):x=z ^^^ y:=by
 rw[<-h,oa,yL,jP]
theorem DK{x y:Nat}(h:x ^^^ y=0):x=y:=by
 have:=XN h
 rwa [mO]at this
theorem XO{b q r q' r':Nat}(h:cl q b ^^^ r=cl q' b ^^^ r')(hr:bl r<bl b)(bI:bl r'<bl b):q=q'/\r=r':=by
 have hb:b≠0:=by intro z;rw[z,kQ]at hr;omega
 have e:cl (q ^^^ q') b=r ^^^ r':=by
  rw[m4]
  have z:(cl q b ^^^ r) ^^^ (cl q' b ^^^ r')=0:=by rw[h,yL]
  rw[Na]at z
  exact DK z
 have lt:bl (r ^^^ r')<bl b:=by
  have h1:r<2 ^ (bl b-1):=dJ.mp (by omega)
  have h2:r'<2 ^ (bl b-1):=dJ.mp (by omega)
  have:=dJ.mpr (qZ h1 h2)
  have:=fR hb
  omega
 have z:q ^^^ q'=0:=by
  apply Up
  intro hq
  have h1:=Nl hq hb
  have h2:=fR hq
  rw[e]at h1
  omega
 have zq:=DK z
 subst zq
 rw[z,m5]at e
 exact⟨rfl,DK e.symm⟩
end Mf
namespace Mf
open PySem PySem.Builtin.Int
theorem XQ(x y:Nat):(x ^^^ y)+2*(x &&& y)=x+y:=by
 induction x using Co generalizing y with
 | ind x ih =>
  by_cases h:x=0
  ·subst h;simp
  ·have h1:=ih (x/2) (by omega) (y/2)
   have e1:(x ^^^ y)/2=x/2 ^^^ y/2:=Nat.xor_div_two
   have e2:(x &&& y)/2=x/2 &&& y/2:=Nat.and_div_two
   have t:∀n:Nat,n%2=if n.testBit 0=true then 1 else 0:=by
    intro n
    rw[yK]
    by_cases h:n%2=1
    ·simp[h]
    ·simp[h];omega
   have m1:(x ^^^ y)%2=(x%2+y%2)%2:=by
    rw[t (x ^^^ y),t x,t y,kG]
    cases x.testBit 0<;>cases y.testBit 0<;>rfl
   have m2:(x &&& y)%2=x%2*(y%2):=by
    rw[t (x &&& y),t x,t y,LJ]
    cases x.testBit 0<;>cases y.testBit 0<;>rfl
   have d1:=Nat.div_add_mod (x ^^^ y) 2
   have d2:=Nat.div_add_mod (x &&& y) 2
   rw[e1]at d1
   rw[e2]at d2
   have hx:x%2=0\/x%2=1:=by omega
   have hy:y%2=0\/y%2=1:=by omega
   rcases hx with hx | hx<;>rcases hy with hy | hy<;>rw[hx,hy]at m1 m2<;>omega
theorem Np{x y:Int}(hx:0<=x)(hy:0<=y):mG x y=((x.toNat &&& y.toNat:Nat):Int):=by
 unfold mG
 rw[decide_eq_true hx,decide_eq_true hy]
theorem XR{x y:Int}(hx:0<=x)(hy:0<=y):Builtin.bitOr x y=((x.toNat ||| y.toNat:Nat):Int):=by
 unfold Builtin.bitOr mG Builtin.bitNot
 rw[decide_eq_false (by omega),decide_eq_false (by omega)]
 show-(-((((- (-x-1)-1).toNat ||| (-(-y-1)-1).toNat:Nat):Int))-1)-1=_
 have e1:(- (-x-1)-1).toNat=x.toNat:=by omega
 have e2:(- (-y-1)-1).toNat=y.toNat:=by omega
 rw[e1,e2]
 omega
theorem XS(x y:Nat):(x ||| y)=(x ^^^ y)+(x &&& y):=by
 have d:(x ^^^ y) &&& (x &&& y)=0:=by
  apply yJ;intro i
  simp only[kG,LJ,Nat.zero_testBit]
  cases x.testBit i<;>cases y.testBit i<;>rfl
 have e:(x ||| y)=(x ^^^ y) ^^^ (x &&& y):=by
  apply yJ;intro i
  simp only[kG,LJ,Nat.testBit_or]
  cases x.testBit i<;>cases y.testBit i<;>rfl
 have h:=XQ (x ^^^ y) (x &&& y)
 rw[d]at h
 rw[e];omega
theorem XT{x y:Int}(hx:0<=x)(hy:0<=y):mH x y=((x.toNat ^^^ y.toNat:Nat):Int):=by
 unfold mH
 rw[XR hx hy,Np hx hy,XS]
 omega
theorem kR(x y:Nat):mH (x:Int) (y:Int)=((x ^^^ y:Nat):Int):=by
 rw[XT (by omega) (by omega)];rfl
theorem Nq(x y:Nat):mG (x:Int) (y:Int)=((x &&& y:Nat):Int):=by
 rw[Np (by omega) (by omega)];rfl
theorem q0(x k:Nat):(x:Int)*2 ^ ((k:Int)).toNat=((x <<< k:Nat):Int):=by
 rw[jk]
 simp
theorem XU(x k:Nat):(x:Int)/2 ^ ((k:Int)).toNat=((x >>> k:Nat):Int):=by
 rw[Uq]
 simp
theorem XW(x k:Nat):((x >>> k) &&& 1=1)↔x.testBit k=true:=by
 rw[Uk,Uq]
 have:(x/2 ^ k) &&& 1=(x/2 ^ k)%2:=Nat.and_two_pow_sub_one_eq_mod _ 1
 rw[this]
 simp
end Mf
namespace Mf
end Mf
namespace Mf
theorem by4(a b:Nat):∀c,cl (cl a b) c=cl a (cl b c):=by
 intro c
 induction c using Co with
 | ind c ih =>
  by_cases h:c=0
  ·subst h;rfl
  ·have e:c=2*(c/2)+c%2:=by omega
   have lt:c%2<2:=by omega
   have i:=ih (c/2) (by omega)
   rw[e,vU _ _ _ lt,vU _ _ _ lt,i,XD,XG]
   have:c%2=0\/c%2=1:=by omega
   rcases this with h | h
   ·rw[h];rfl
   ·rw[h];rfl
noncomputable def q5:Nat->Nat->Nat->Nat
 | 0,a,_=>a
 | n+1,a,b=>if bl a<bl b then a else q5 n (a ^^^ b <<< (bl a-bl b)) b
noncomputable def md(a b:Nat):Nat:=q5 (bl a+1) a b
theorem Nr{b:Nat}(hb:b≠0):∀n a,bl a<n->(∃q,a=cl q b ^^^ q5 n a b)/\bl (q5 n a b)<bl b
 | 0,_,h=>absurd h (by omega)
 | n+1,a,h=>by
  unfold q5
  by_cases l:bl a<bl b
  ·rw[if_pos l]
   exact⟨⟨0,by rw[m5,mO]⟩,l⟩
  ·rw[if_neg l]
   have DL:=Nn hb (show bl b<=bl a by omega)
   obtain⟨⟨q,e⟩,l2⟩:=Nr hb n (a ^^^ b <<< (bl a-bl b)) (by omega)
   refine⟨⟨q ^^^ 2 ^ (bl a-bl b),?_⟩,l2⟩
   rw[m4,Nm]
   have e2:a=(a ^^^ b <<< (bl a-bl b)) ^^^ b <<< (bl a-bl b):=by rw[oa,yL,jP]
   rw[e]at e2
   refine e2.trans ?_
   generalize q5 n _ b=r
   rw[oa,LH r,<- oa]
theorem vW{b:Nat}(hb:b≠0)(a:Nat):(∃q,a=cl q b ^^^ md a b)/\bl (md a b)<bl b:=Nr hb _ a (by omega)
theorem vX{a b q r:Nat}(h:a=cl q b ^^^ r)(hr:bl r<bl b):md a b=r:=by
 have hb:b≠0:=by intro z;rw[z,kQ]at hr;omega
 obtain⟨⟨q',e⟩,l⟩:=vW hb a
 exact(XO (e.symm.trans h) l hr).2
theorem XX(q:Nat){b:Nat}(hb:b≠0):md (cl q b) b=0 :=
 vX (q:=q) (by rw[jP]) (by rw[kQ];exact fR hb)
noncomputable def Nt:Nat->Nat->Nat->Nat
 | 0,a,_=>a
 | n+1,a,b=>if b=0 then a else Nt n b (md a b)
noncomputable def gc(a b:Nat):Nat:=Nt (bl b+1) a b
end Mf
namespace Mf
theorem XY(y:Nat):bl (y/2)=bl y-1:=by
 by_cases h:y=0
 ·subst h;rfl
 ·have p:=fR h
  have h1:bl (y/2)<=bl y-1:=dJ.mpr (Nh (by
   have e:bl y-1+1=bl y:=by omega
   rw[e];exact gQ y))
  have h2:bl y<=bl (y/2)+1:=dJ.mpr (by
   have:=gQ (y/2)
   rw[n9];omega)
  omega
theorem XZ(x:Nat):bl (2*x)<=bl x+1:=dJ.mpr (by
 have:=gQ x
 rw[n9];omega)
theorem DM{x y:Nat}(h:x<=y):bl x<=bl y:=dJ.mpr (kH h (gQ y))
end Mf
namespace Mf
noncomputable def al(a:Nat):Bool:=decide (2<=a)&&(aR (2 ^ ((bl a-1)/2+1)-2)).all λi=>md a (2+i) != 0
theorem X0{a:Nat}(h:a<2):al a=false:=by
 unfold al;rw[decide_eq_false (by omega)];rfl
theorem X1{a:Nat}(h:2<=a)(k:∀i,i<2 ^ ((bl a-1)/2+1)-2->md a (2+i)≠0):al a=true:=by
 unfold al
 rw[decide_eq_true h,og,dy]
 intro i hi
 have:=k i (dO.mp hi)
 simpa using this
theorem X2{a i:Nat}(k:i<2 ^ ((bl a-1)/2+1)-2)(z:md a (2+i)=0):al a=false:=by
 unfold al
 rw[Bool.and_eq_false_iff]
 right
 rw[List.all_eq_false]
 exact⟨i,dO.mpr k,by simp[z]⟩
theorem X3{a:Nat}(h:2<=a){b:Nat}(hb:b<2 ^ ((bl a-1)/2+1)):b<a/\2*bl b<=bl a+1:=by
 have h2:2<=bl a:=by
  have:=DG.mpr (show 2 ^ 1<=a by omega)
  omega
 have l:=dJ.mpr hb
 refine⟨cG hb (dP (yI (by decide) ?_) (M7 (by omega))),by omega⟩
 omega
end Mf
namespace L2
open PySem PySem.Spec PyProof.Rows Mf
theorem gR:bootBuiltins "len"=some (.builtin "len"):=by decide +kernel
theorem X4:bootBuiltins "isinstance"=some (.builtin "isinstance"):=by decide +kernel
theorem X5:bootBuiltins "max"=some (.builtin "max"):=by decide +kernel
theorem DN:bootBuiltins "all"=some (.builtin "all"):=by decide +kernel
theorem DO:bootBuiltins "int"=some (.type "int"):=by decide +kernel
theorem X6:bootBuiltins "bool"=some (.type "bool"):=by decide +kernel
theorem DP:bootBuiltins "list"=some (.type "list"):=by decide +kernel
section
variable{X:Cx}{a b o:Expr}{ta tb to:TE}{pos apos bR:Pos}
theorem Nu(i:Int):Builtin.Int.intBits i=bl i.natAbs:=by
 unfold Builtin.Int.intBits bl
 by_cases h:i=0
 ·subst h;rfl
 ·have h':¬ i.natAbs=0:=by omega
  rw[if_neg h',if_neg (by simpa using h)]
noncomputable def Nv:V->List V->Hp->VK->Prop:=λx vs H Q=>∃i,x=.int i/\vs=[]/\Q (.int (bl i.natAbs:Nat)) H
theorem X7:mY X "int.bit_length" Nv:=by
 intro pins s σ H x xs v us Q I rx rs h
 obtain⟨i,rfl,rfl,q⟩:=h
 obtain⟨t,rfl⟩:=rx
 cases rs
 refine call_int_bit_length ?_
 rw[Nu]
 exact⟨.int _,H,I.tok _,⟨_,rfl⟩,q⟩
theorem DQ(ho:PE X o to)(ju:attributeBase o "bit_length" X.env (eval o X.env)=eval o X.env:=by rfl)(jv:(apos.endLine==bR.line)=true:=by rfl) :
  PE X (.Call (.Attribute o "bit_length" apos) [] [] bR) (MV X.K "int" Nv to) :=
 MW PySem.F.plainAttrs_int PySem.F.slot_int_bit_length PySem.F.type_int_bit_length X7 ho ju jv
noncomputable def Nw(i j:Int):Prop:=0<=j/\((bl i.natAbs:Nat):Int)+j<=134217728
theorem Nx:cg X (binaryOp .LShift) (rI Nw λi j=>.int (i*2 ^ j.toNat)):=vL λi j _ _ _ _ _ hc q =>
 lshift_int hc.1 (by rw[Nu];exact Int.le_trans hc.2 (by decide)) q
theorem X8{x:Str}{n:String}(hg:Gl X x)(hm:X.mg x=none)(hv:bootBuiltins x=some (.type n))(hn:x≠"__name__":=by decide)(hd:(x==("__debug__":Str))=false:=by decide):PE X (.Name x pos) (tC (.ty n)) :=
 Vb hg hm hv rfl hn hd
noncomputable def X9(K:PySem.W.Frag):List V->Hp->VK->Prop:=λxs H Q=>∃x n t b,xs=[x,.ty n]/\gq K H x t/\PySem.W.kitOne K t (.type n)=some b/\Q (.bl b) H
theorem Ya:fg X (.builtin "isinstance") (X9 X.K):=by
 intro pins s σ H xs us Q I r h
 obtain⟨x,n,t,b,rfl,ty,e,q⟩:=h
 obtain⟨u,v,rfl,ru,rv⟩:=r.two
 cases(show v=mE n from rv)
 exact Ww I ru ty e λtk=>⟨.bl b,H,I.tok _,rfl,q⟩
end
theorem Yb(b i:Nat):decide (V.int (mG ((b:Int)/2 ^ ((0:Int)+(i:Int)).toNat) 1)=V.int 1)=b.testBit i:=by
 have e:((0:Int)+(i:Int)).toNat=((i:Int)).toNat:=by omega
 rw[e,XU,show(1:Int)=((1:Nat):Int) from rfl,Nq,qD,decide_eq_true_iff,<- XW]
 constructor
 ·intro h;injection h with h;omega
 ·intro h;rw[h]
theorem Yc{a b i:Nat}(h:b.testBit i=true):mH ((P a b i:Nat):Int) ((a:Int)*2 ^ ((0:Int)+(i:Int)).toNat)=((P a b (i+1):Nat):Int):=by
 have e:((0:Int)+(i:Int)).toNat=((i:Int)).toNat:=by omega
 rw[e,q0,kR]
 show _=((P a b i ^^^ (if b.testBit i then a <<< i else 0):Nat):Int)
 rw[if_pos h]
theorem Yd{a b i:Nat}(h:¬ b.testBit i=true):P a b (i+1)=P a b i:=by
 show P a b i ^^^ (if b.testBit i then a <<< i else 0)=_
 rw[if_neg h,jP]
theorem dI{i j:Int}:decide (V.int i=V.int j)=true↔i=j:=by
 rw[decide_eq_true_iff]
 exact⟨λh=>by injection h,λh=>by rw[h]⟩
end L2
namespace L2
open PySem PySem.Spec PyProof.Rows
section
variable{X:Cx}
end
end L2
namespace L2
open PySem PySem.Spec PyProof.Rows
noncomputable def zG(X:Cx)(scope:Scope)(N:List Str)(cl:List (Str × Addr))(C:Addr)(s:Shared)(H:Hp)(fp:List Addr):Cx where
 prog:=X.prog
 w:=X.w
 K:=X.K
 mg:=X.mg
 base:=X.base
 A:=X.A
 N:=N
 bY:=s
 jl:=H
 env:=compEnvC scope cl C X.env
 outer:=X.stack
 stack:=X.stack
 ex:=fp
 fn:=λ_=>false
 calm:=X.calm
 pn:=[]
 xe:=λ_ _=>False
noncomputable def kS(X:Cx)(scope:Scope)(cl:List (Str × Addr)):List (Str × Nat)->Prop
 | []=>True
 | (y,i)::r=>(X.N[i]?=some y/\(X.env.scope.names.lookup y=some .cell\/X.env.scope.names.lookup y=some .free)/\((relabel scope X.env).names.lookup y=some .cell\/(relabel scope X.env).names.lookup y=some .free)/\∃c,cl.lookup y=some c/\X.env.cells.lookup y=some c)/\kS X scope cl r
theorem kS.at{X:Cx}{scope:Scope}{cl:List (Str × Addr)}:∀{au:List (Str × Nat)},kS X scope cl au->∀p∈au,X.N[p.2]?=some p.1/\(X.env.scope.names.lookup p.1=some .cell\/X.env.scope.names.lookup p.1=some .free)/\((relabel scope X.env).names.lookup p.1=some .cell\/(relabel scope X.env).names.lookup p.1=some .free)/\∃c,cl.lookup p.1=some c/\X.env.cells.lookup p.1=some c
 | [],_,p,hp=>absurd hp (by simp)
 | (y,i)::r,h,p,hp=>by
  rcases bU.mp hp with e | e
  ·subst e;exact h.1
  ·exact kS.at h.2 p e
noncomputable def kT(Y:Cx)(ifs:List Expr)(t:TT):Prop :=
 ∀(pins:List (Addr × Obj)) (s:Shared) (σ:St) (H:Hp) (Q:Bool->Hp->Prop),Inv Y pins σ H s->t σ H Q ->
  wpAny (model Y.prog Y.w) Y.A (forIn ifs true λc r=>if r=true then do let ok<-isTrue c Y.env (eval c Y.env);pure (Cp ok)else pure (Cp r)) (TP Y pins σ Q) Y.xe s
noncomputable def Ye:TT:=λ_ H Q=>Q true H
theorem Yf{Y:Cx}:kT Y [] Ye:=λ_ _ _ H _ I h=>wpAny_tests_nil ⟨H,I,h⟩
theorem Yg{Y:Cx}{c:Expr}{t:TT}(h:PT Y c t):kT Y [c] t:=λpins s σ H Q I q=>wpAny_tests_one (h pins s σ H Q I q)
section
variable{X:Cx}{elt iter:Expr}{x:Str}{px pos:Pos}{ifs:List Expr}{scope:Scope}{cl:List (Str × Addr)}{au:List (Str × Nat)}{wi:TI}{tt:TT}{te:TE}
end
section
variable{prog:Program}{w:World}{A:Around}{R:Result->Shared->Prop}{s:Shared}
theorem Yh{elt target iter:Expr}{ifs:List Expr}{scope:Scope}{pos:Pos}{it acc:Value}{env:Env}(Iv:Nat->Shared->Prop)
  (turn:∀n s,Iv n s->wpAny (model prog w) A (pyNext it) (λr s1=>match r with
   | none=>R (.ok .next) s1
   | some v=>wpAny (model prog w) A (letOwnedTupleGo target it v) (λ_ t1=>wpAny (model prog w) A (assign target env v) (λ_ s2 =>
     wpAny (model prog w) A (forIn ifs true λc r=>if r=true then do let ok<-isTrue c env (eval c env);pure (Cp ok)else pure (Cp r)) (λok s3 =>
      if ok=true then wpAny (model prog w) A (eval elt env) (λy s4=>wpAny (model prog w) A (call (.builtin "list.append") [acc,y]) (λ_ s5=>∃m,m<n/\Iv m s5) (λ_ _=>False) s4) (λ_ _=>False) s3
      else ∃m,m<n/\Iv m s3) (λ_ _=>False) s2) (λ_ _=>False) t1) (λ_ _=>False) s1) (λ_ _=>False) s)
  (n:Nat) (h:Iv n s):codeAny (model prog w) A (.compLoop (.ListComp elt [⟨target,iter,ifs,0⟩] scope pos) 0 it acc env) R s:=by
 refine codeAny_loop rfl Iv (λn s hI=>?_) n h
 change wpAny _ A (Sem.onRaise (compTurn (.ListComp elt [⟨target,iter,ifs,0⟩] scope pos) 0 it acc env) λx=>do noteFrame x env;theTreesLotGoes x) _ _ s
 refine wpAny_noted (wpAny_mono (E:=λ_ _=>False) ?_ (λ_ _ q=>q) λ_ _ z=>z.elim)
 rw[compTurn_list]
 refine wpAny_bind (wpAny_standAt (wpAny_bind (aK (turn n s hI) λr s1 h1=>?_)))
 cases r with
 | none=>exact wpAny_pure h1
 | some v =>
  refine wpAny_bind (aK h1 λ_ t1 k1=>wpAny_bind (aK k1 λ_ s2 h2=>wpAny_bind (aK h2 λok s3 h3=>?_)))
  cases ok with
  | false=>exact wpAny_pure ⟨rfl,h3⟩
  | true=>exact wpAny_bind (wpAny_bind (aK h3 λy s4 h4=>wpAny_bind (aK h4 λ_ s5 h5=>wpAny_pure (wpAny_pure ⟨rfl,h5⟩))))
end
section
variable{X:Cx}{elt iter:Expr}{x:Str}{px pos:Pos}{ifs:List Expr}{scope:Scope}{cl:List (Str × Addr)}{au:List (Str × Nat)}{wi:TI}{tt:TT}{te:TE}
end
end L2
namespace L2
open PySem PySem.Spec PyProof.Rows
section
variable{X:Cx}
theorem Yi{bs:List Bool}{us:List Value}(r:Vals (bs.map V.bl) us):bs.length=us.length/\∀(i:Nat) (v:Value),us[i]?=some v->∃b,bs[i]?=some b/\v=.bool b:=by
 have l:=r.length
 rw[bO]at l
 refine⟨l,λi v e=>?_⟩
 have hi:i<us.length:=(iW.mp e).1
 have hb:i<bs.length:=by omega
 obtain⟨u,e2,q⟩:=r.get (i:=i) (x:=V.bl bs[i]) (by rw[cy,aN hb];rfl)
 rw[e]at e2
 cases e2
 exact⟨bs[i],aN hb,q⟩
theorem Yj{s:Shared}{h':Heap}{o:Obj}(hk:∀b x,b ∉ [s.heap.objs.size]->(s.heap.push o).get? b=some x->h'.get? b=some x)(b:Addr)(x:Obj)(e:s.heap.get? b=some x):h'.get? b=some x :=
 hk b x (λhm=>fP _ (by have:=br e;rw[e8.mp hm]at this;exact this)) (cm _ e)
theorem Yk(bs:List Bool):((aR bs.length).all λi=>(bs[i]?).getD true)=bs.all id:=by
 rw[qD,dy,dy]
 constructor
 ·intro h b hb
  obtain⟨i,hi,rfl⟩:=fC hb
  have:=h i (dO.mpr hi)
  rwa [aN hi]at this
 ·intro h i hi
  have eH:=dO.mp hi
  rw[aN eH]
  exact h _ (eF eH)
theorem Yl(hc:X.calm=true):fg X (.builtin "all") (λxs H Q=>∃(p:Addr) (bs:List Bool),xs=[.ref p]/\bu X.K H p (bs.map V.bl)/\Q (.bl (bs.all id)) H):=by
 intro pins s σ H xs us Q I r h
 obtain⟨p,bs,rfl,hS,q⟩:=h
 obtain⟨u,rfl,ru⟩:=r.one
 cases ru
 obtain⟨its,rv,pl,hz⟩:=I.list hS
 obtain⟨hlen,Ym⟩:=Yi rv
 have hl:=pl.isList
 have eA:p<s.heap.objs.size:=by obtain⟨_,e,_⟩:=hl;exact br e
 refine call_all_walk (wpAny_pyIter_list hl ?_)
 refine⟨s.heap.objs.size,[s.heap.objs.size,p],[s.heap.objs.size],its.toArray.size,_,_,λi=>(bs[i]?).getD true,rfl,Walks.list (A:=X.A.in1) (I.ok.hd hc) _ p (cR eA) its.toArray,
  ⟨⟨_,dn _ rfl,rfl,rfl⟩,hl.push _⟩,λi v s' Q' E' hP hQ=>?_,λh' tk hk=>?_⟩
 ·obtain⟨b,e,rfl⟩:=Ym i v (by simpa using hP)
  simp only[e,vf]at hQ
  exact wpAny_truthy_bool hQ
 ·have e:((aR its.toArray.size).all λi=>(bs[i]?).getD true)=bs.all id:=by
   rw[dq,<- hlen];exact Yk bs
  rw[e]
  exact⟨.bl _,H,I.kept (h':=h') (t':=tk) (Yj hk),rfl,q⟩
end
noncomputable def kU(X:Cx):List (Str × Addr)->Prop
 | []=>True
 | (y,c)::r=>X.env.cells.lookup y=some c/\kU X r
theorem kU.all{X:Cx}:∀{cl:List (Str × Addr)},kU X cl->∀y c,cl.lookup y=some c->X.env.cells.lookup y=some c
 | [],_,y,c,h=>by simp at h
 | (z,d)::r,h,y,c,e=>by
  rw[fc]at e
  cases q:y==z with
  | true =>
   rw[q]at e
   cases e
   rw[eq_of_beq q]
   exact h.1
  | false =>
   rw[q]at e
   exact kU.all h.2 y c e
noncomputable def kW(cl:List (Str × Addr)):List (Str × NameKind)->Prop
 | []=>True
 | (y,k)::r=>(k=.local\/k=.globalImplicit\/∃c,cl.lookup y=some c)/\kW cl r
theorem kW.all{cl:List (Str × Addr)}:∀{ns:List (Str × NameKind)},kW cl ns->∀y,(ns.lookup y=some .cell\/ns.lookup y=some .free)->∃c,cl.lookup y=some c
 | [],_,y,h=>by simp at h
 | (z,k)::r,h,y,e=>by
  rw[fc]at e
  cases q:y==z with
  | true =>
   rw[q]at e
   rw[eq_of_beq q]
   rcases h.1 with g | g | g
   ·rw[g]at e;rcases e with e | e<;>cases e
   ·rw[g]at e;rcases e with e | e<;>cases e
   ·exact g
  | false =>
   rw[q]at e
   exact kW.all h.2 y e
section
variable{X:Cx}{elt iter:Expr}{x:Str}{px pos:Pos}{ifs:List Expr}{scope:Scope}{cl:List (Str × Addr)}{wi:TI}{tt:TT}{te:TE}
end
end L2
namespace L2
open PySem PySem.Spec PyProof.Rows Mf
end L2
namespace L2
end L2
namespace L2
open PySem PySem.Spec PyProof.Rows
noncomputable def fS(au:List (Str × Nat))(n:Nat)(σ:L2.St):St:=(au.map λp=>(σ[p.2]?).getD none)++aT n none
noncomputable def Ny(J:It)(au:List (Str × Nat))(n:Nat)(g:TG)(tt:TT)(te:TE)(σ:L2.St)(H1:Hp)(Q:VK):Prop:=∀D,H1 D=none->∃W:Nat->Nat->List V->Hp->Prop,(∃m,W 0 m [] (upd H1 D (.lst []))) /\
 ∀i m acc H2,W i m acc H2->H2 D=some (.lst acc)/\((J.stop i H2/\Q (.ref D) H2)\/(J.go i H2/\∀x H3,J.i3 i H2 x H3->H3 D=some (.lst acc)/\g x (fS au n σ) H3 λfH H4 =>
  (fH.length=(fS au n σ).length/\∀j,j<au.length->fH[j]?=(fS au n σ)[j]?)/\tt fH H4 λb H5=>H5 D=some (.lst acc) /\
  if b=true then te fH H5 λy H6=>H6 D=some (.lst acc)/\acc.length<sizeLine/\∃m',m'<m/\W (i+1) m' (acc++[y]) (upd H6 D (.lst (acc++[y])))else ∃m',m'<m/\W (i+1) m' acc H5))
noncomputable def zH(wi:TI)(au:List (Str × Nat))(n:Nat)(g:TG)(tt:TT)(te:TE):TE:=λσ H Q=>wi σ H λJ H1=>Ny J au n g tt te σ H1 Q
section
variable{X:Cx}{elt iter tg:Expr}{pos:Pos}{ifs:List Expr}{scope:Scope}{cl:List (Str × Addr)}{wi:TI}{tt:TT}{te:TE}{g:TG}
end
end L2
namespace L2
open PySem PySem.Spec PyProof.Rows
section
variable{X:Cx}{tg:Expr}
end
end L2
namespace L2
open PySem PySem.Spec PyProof.Rows
noncomputable def DR(h:Heap)(a T:Addr)(cls fl:Value):Prop :=
 ∃oe vs oT ts,h.get? a=some oe/\oe.cls=cls/\oe.dict=none/\oe.data=.fields vs/\vs[1]?=some (.ref T)/\T≠a/\h.get? T=some oT/\oT.data=.fields ts/\ts[3]?=some fl
noncomputable abbrev oU(h:Heap)(a T:Addr)(cls:Value):Prop:=DR h a T cls .none
theorem Yn(o:Obj)(f:Array Value->Array Value):(o.mapFields f).dict=o.dict:=by
 obtain⟨c,d,dt,sl⟩:=o
 cases dt<;>rfl
section
variable{M:Model}{A:Around}{E:Value->Shared->Prop}{s:Shared}{base:Heap}{env:Env}{outer:List Env}{L a T:Addr}{cls:Value}{oe:Obj}{vs:Array Value}{Q:Unit->Shared->Prop}
structure Ent(fs:List Addr)(h h':Heap)(a T:Addr)(oe:Obj)(L:Addr):Prop where
 new:h.get? T=none
 ne:T≠a
 keep:∀b o,b≠a->b ∉ fs->h.get? b=some o->h'.get? b=some o
 slot:∀b o,b≠a->h.get? b=some o->∃sl,h'.get? b=some { o with slots:=sl }
 exc:h'.get? a=some (oe.mapFields λz=>z.setIfInBounds 1 (.ref T))
 ent:∃oT ts,h'.get? T=some oT/\oT.data=.fields ts/\ts[3]?=some (rawInt L)
theorem Nz{head:Value}{Yo:Bool}(dM:A.frames=some (env::outer))(hl:s.heap.FunFrames base (env::outer))(hf:env.frame=some L)(he:s.heap.get? a=some oe)(hd:oe.data=.fields vs)(jW:1<vs.size)
  (na:a ∉ (env::outer).filterMap (·.frame)) (k:∀h' T',Ent ((env::outer).filterMap (·.frame)) s.heap h' a T' oe L->Q () { s with heap:=h' }) :
  wpAny M A (do let x<-frameOf env;let pl<-entryPlaceOf L Yo;let b<-EntryCells.newEntry head x .none (rawInt L) .none pl;setField (.ref a) 1 b) Q E s:=by
 refine wpAny_bind (wpAny_frameOf_fun dM hl hf λg1 so=>wpAny_bind (wpAny_entryPlaceOf λpl ip=>?_))
 unfold EntryCells.newEntry newFields
 have e1:g1.get? a=some oe:=(so.2.1 a na).trans he
 refine wpAny_bind (wpAny_newObj_type ?_ (ip.sizeOk5 _ _ _ _ _))
 generalize NA:({ cls:=.type "traceback",dict:=none,data:=.fields ([head,eD L,.none,rawInt L,.none]++(if pl.isEmpty then aT 6 ib else pl)).toArray }:Obj)=te
 have e2:(g1.push te).get? a=some oe:=cm te e1
 have Yp:te.data=.fields ([head,eD L,.none,rawInt L,.none]++(if pl.isEmpty then aT 6 ib else pl)).toArray:=by rw[<-NA]
 have nf:te.isFreed=false:=by rw[<-NA];rfl
 refine wpAny_setField e2 hd jW ?_
 have d3:=Cq hd λz=>z.setIfInBounds 1 (eD g1.objs.size)
 have nT:g1.objs.size≠a:=yC (br e1)
 refine k _ g1.objs.size ⟨?_,nT,λb o hb hz q=>?_,λb o hb q=>?_,vb _ e2 (LK d3),⟨te,_,?_,Yp,?_⟩⟩
 ·cases q:s.heap.get? g1.objs.size with
  | none=>rfl
  | some o=>obtain⟨sl,z⟩:=so.2.2 _ _ q;exact absurd (br z) (fP _)
 ·rw[kE _ _ (dF hb)]
  exact cm te ((so.2.1 b hz).trans q)
 ·obtain⟨sl,z⟩:=so.2.2 b o q
  refine⟨sl,?_⟩
  rw[kE _ _ (dF hb)]
  exact cm te z
 ·rw[kE _ _ (dF nT)]
  exact dn g1 nf
 ·first | (simp;done) | (rcases ip with rfl | ⟨_,_,_,_,_,_,_,rfl⟩<;>simp)
structure NB(fs Z:List Addr)(h h':Heap)(a T:Addr)(cls:Value):Prop where
 new:h.get? T=none
 keep:∀b o,b ∉ Z->b ∉ fs->h.get? b=some o->h'.get? b=some o
 slot:∀b o,b ∉ Z->h.get? b=some o->∃sl,h'.get? b=some { o with slots:=sl }
 vY:oU h' a T cls
theorem NC{fl:Value}(tr:DR s.heap a T cls fl)(k:∀h',(∀b o,b≠T->s.heap.get? b=some o->h'.get? b=some o)->oU h' a T cls->Q () { s with heap:=h' }):wpAny M A (setFlight (.ref a) none) Q E s:=by
 obtain⟨oe,vs,oT,ts,h1,h2,h3,h4,h5,h6,h7,h8,h9⟩:=tr
 have sz:3<ts.size:=(LL.mp h9).1
 unfold setFlight
 refine wpAny_bind (wpAny_field h1 h4 h5 ?_)
 rw[if_pos (by simp)]
 refine wpAny_setField h7 h8 sz (k _ (λb o hb q=>(kE _ _ (dF hb)).trans q) ?_)
 have d:=Cq h8 λz=>z.setIfInBounds 3 ((none:Option Addr).elim ib λf=>rawInt f)
 exact⟨oe,vs,_,_,(kE _ _ h6).trans h1,h2,h3,h4,h5,h6,vb _ h7 (LK d),d,by simp[sz]⟩
theorem Ent.fin{fs:List Addr}{h h':Heap}{a T L:Addr}{oe:Obj}{vs:Array Value}(e:Ent fs h h' a T oe L)(hd:oe.data=.fields vs)(jW:1<vs.size)(Yq:oe.dict=none):DR h' a T oe.cls (rawInt L):=by
 obtain⟨oT,ts,e1,e2,e3⟩:=e.ent
 exact⟨_,_,oT,ts,e.exc,Obj.cls_mapFields _ _,by rw[Yn];exact Yq,Cq hd _,by simp[jW],e.ne,e1,e2,e3⟩
theorem Yr(dM:A.frames=some (env::outer))(hl:s.heap.FunFrames base (env::outer))(hf:env.frame=some L)(na:a ∉ (env::outer).filterMap (·.frame))(tr:oU s.heap a T cls)
  (k:∀h' T',NB ((env::outer).filterMap (·.frame)) [a,T] s.heap h' a T' cls->Q () { s with heap:=h' }):wpAny M A (noteFrame (.ref a) env) (λ_ jq=>wpAny M A (setFlight (.ref a) none) Q E jq) E s:=by
 obtain⟨oe,vs,oT,ts,h1,h2,h3,h4,h5,h6,h7,h8,h9⟩:=tr
 have s1:1<vs.size:=(LL.mp h5).1
 have s3:3<ts.size:=(LL.mp h9).1
 unfold noteFrame
 simp only[hf]
 refine wpAny_bind (wpAny_field h1 h4 h5 ?_)
 rw[if_pos (by simp)]
 refine wpAny_bind (wpAny_field h7 h8 h9 ?_)
 rw[if_neg (by simp[rawInt])]
 refine wpAny_bind (wpAny_setField h7 h8 s3 ?_)
 generalize hg:s.heap.update T (Obj.mapFields λz=>z.setIfInBounds 3 ib)=g
 have oV:∀b,b≠T->g.get? b=s.heap.get? b:=λb hb=>by rw[<-hg];exact kE _ _ (dF hb)
 have bT:∀b o,s.heap.get? b=some o->(∀ws,o.data≠.fields ws)->b≠T:=λb o q hn z=>by subst z;rw[h7]at q;cases q;exact hn ts h8
 have gT:∃Ys,g.get? T=some Ys:=⟨_,by rw[<-hg];exact vb _ h7 (LK (Cq h8 _))⟩
 refine Nz (s:={ s with heap:=g }) dM (hl.of_keeps λb o q hn=>⟨o,(oV b (bT b o q hn)).trans q,rfl⟩) hf ((oV a (dF h6)).trans h1) h4 s1 na λh' T' en=>?_
 have Yt:T'≠T:=λz=>by subst z;obtain⟨o,q⟩:=gT;rw[en.new]at q;cases q
 refine NC (s:={ s with heap:=h' }) (h2 ▸ en.fin h4 s1 h3) λDS kp DT=>?_
 refine k DS T' ⟨(oV T' Yt).symm.trans en.new,λb o hz hb q=>?_,λb o hz q=>?_,DT⟩
 ·have z1:b≠a:=λz=>hz (by simp[z])
  have z2:b≠T:=λz=>hz (by simp[z])
  have z3:b≠T':=λz=>by have:=en.new;rw[<-z,oV b z2,q]at this;cases this
  exact kp b o z3 (en.keep b o z1 hb ((oV b z2).trans q))
 ·have z1:b≠a:=λz=>hz (by simp[z])
  have z2:b≠T:=λz=>hz (by simp[z])
  have z3:b≠T':=λz=>by have:=en.new;rw[<-z,oV b z2,q]at this;cases this
  obtain⟨sl,r⟩:=en.slot b o z1 ((oV b z2).trans q)
  exact⟨sl,kp b _ z3 r⟩
theorem Yu{h1:Heap}{args:List Value}(dM:A.frames=some (env::outer))(hl:s.heap.FunFrames base (env::outer))(hf:env.frame=some L)(hx:LM s.heap h1 a cls args)
  (k:∀h' T',NB ((env::outer).filterMap (·.frame)) [] s.heap h' a T' cls->Q () { s with heap:=h' }):wpAny M A (noteFrame (.ref a) env) (λ_ jq=>wpAny M A (setFlight (.ref a) none) Q E jq) E { s with heap:=h1 }:=by
 obtain⟨t,e1,_,_⟩:=hx.there
 have na:a ∉ (env::outer).filterMap (·.frame):=λhb=>by obtain⟨_,o,ho,_⟩:=hl.mem hb;rw[hx.new]at ho;cases ho
 unfold noteFrame
 simp only[hf]
 refine wpAny_bind (wpAny_field (s:={ s with heap:=h1 }) e1 rfl (x:=.none) (by rfl) ?_)
 rw[if_neg (by decide)]
 refine Nz (s:={ s with heap:=h1 }) dM (hl.of_keeps λb o q _=>⟨o,hx.keeps b o q,rfl⟩) hf e1 rfl (by simp) na λh' T' en=>?_
 refine NC (s:={ s with heap:=h' }) (en.fin rfl (by simp) rfl) λDS kp DT=>?_
 have ba:∀b o,s.heap.get? b=some o->b≠a:=λb o q z=>by rw[z,hx.new]at q;cases q
 have bT:∀b o,s.heap.get? b=some o->b≠T':=λb o q z=>by have:=hx.keeps b o q;rw[z,en.new]at this;cases this
 refine k DS T' ⟨?_,λb o _ hb q=>kp b o (bT b o q) (en.keep b o (ba b o q) hb (hx.keeps b o q)),λb o _ q=>?_,DT⟩
 ·cases q:s.heap.get? T' with
  | none=>rfl
  | some o=>exact absurd rfl (bT T' o q)
 ·obtain⟨sl,r⟩:=en.slot b o (ba b o q) (hx.keeps b o q)
  exact⟨sl,kp b _ (bT b o q) r⟩
end
end L2
namespace L2
open PySem PySem.Spec PyProof.Rows
theorem cW.there{P:Program}{w:World}{H:Hp}{h:Heap}{a:Addr}{o:HO}(x:cW P w H h a o):∃u,h.get? a=some u:=by
 cases o with
 | lst xs=>obtain⟨_,_,_,_,e⟩:=x;exact⟨_,e⟩
 | tup xs=>obtain⟨_,_,_,o,e,_⟩:=x;exact⟨o,e⟩
 | dK cS=>obtain⟨_,_,_,_,o,_,_,e,_⟩:=x;exact⟨_,e⟩
 | dT cS=>obtain⟨_,_,_,_,o,_,_,e,_⟩:=x;exact⟨_,e⟩
 | set S n=>obtain⟨o,_,_,_,e,_⟩:=x;exact⟨_,e⟩
 | ins C dx fs=>obtain⟨_,_,_,e,_⟩:=x;exact⟨_,e⟩
 | own y=>exact x
 | xd fs=>obtain⟨_,⟨_,_,_,e,_⟩,_⟩:=x;exact⟨_,e⟩
 | vp lo hi=>obtain⟨_,_,_,e⟩:=x;exact⟨_,e⟩
 | bQ ob u=>obtain⟨e,_⟩:=x;exact⟨_,e⟩
 | cP ps=>exact⟨_,show h.get? a=some _ from x.1⟩
 | met f y=>exact⟨_,show h.get? a=some _ from x⟩
 | ext φ=>obtain⟨_,e,_⟩:=x;exact e
theorem cn.none{P:Program}{w:World}{H:Hp}{h:Heap}{a:Addr}(x:cn P w H h)(e:h.get? a=.none):H a=.none:=by
 cases q:H a with
 | none=>rfl
 | some u=>obtain⟨o,z⟩:=(x a u q).there;rw[e]at z;cases z
structure Apart(X:Cx)(pins:List (Addr × Obj))(H:Hp)(b:Addr):Prop where
 old:X.bY.heap.get? b=none
 free:H b=none
 loc:b≠X.env.locals
 cell:∀x c,X.env.cells.lookup x=some c->c≠b
 pin:∀p∈X.pn++pins,p.1≠b
 fr:b ∉ cT X.stack
section
variable{X:Cx}{pins:List (Addr × Obj)}{σ:St}{H H':Hp}{s:Shared}{a T b:Addr}{cls:Value}{M:Model}{Q:Unit->Shared->Prop}{E:Value->Shared->Prop}{h':Heap}
theorem Yv(I:Inv X pins σ H s)(hb:b∈cT X.stack):∃o,s.heap.get? b=some o/\∀vs,o.data≠.fields vs:=(I.stack.mem hb).2
theorem Inv.old(I:Inv X pins σ H s)(hex:X.ex=[])(e:s.heap.get? b=none):X.bY.heap.get? b=none:=by
 cases q:X.bY.heap.get? b with
 | none=>rfl
 | some o=>obtain⟨o',z⟩:=I.base.there b o q (by rw[hex];simp);rw[e]at z;cases z
theorem Inv.apart(I:Inv X pins σ H s)(hex:X.ex=[])(e:s.heap.get? b=none)(n:H' b=none):Apart X pins H' b where
 old:=I.old hex e
 free:=n
 loc:=λz=>by obtain⟨m,⟨o,_,_,ho,_⟩,_⟩:=I.loc;rw[z,ho]at e;cases e
 cell:=λx c hc z=>by obtain⟨v,o,ho,_⟩:=I.cell x c hc;rw[z,e]at ho;cases ho
 pin:=λp hp z=>by have:=(I.pin p hp).1;rw[z,e]at this;cases this
 fr:=λhb=>by obtain⟨o,ho,_⟩:=Yv I hb;rw[e]at ho;cases ho
theorem ND(I:Inv X pins σ H s)(cH:X.stack=X.env::X.outer)(hex:X.ex=[])(hf:X.env.frame=some X.env.locals)(Z:List Addr)(hZ:∀b∈Z,X.bY.heap.get? b=none/\H b=none)
  (keep:∀b o,b ∉ Z->b ∉ cT X.stack->s.heap.get? b=some o->h'.get? b=some o) (slots:∀b o,b ∉ Z->s.heap.get? b=some o->∃sl,h'.get? b=some { o with slots:=sl }) :
  Un (cT X.outer) [] X.jl H X.bY.heap h'/\cn X.prog X.w H h':=by
 have oW:∀b o,X.bY.heap.get? b=some o->b ∉ Z:=λb o e z=>by rw[(hZ b z).1]at e;cases e
 have sub:∀b,b∈cT X.stack->b=X.env.locals\/b∈cT X.outer:=λb hb=>by
  rw[cH]at hb
  unfold cT at hb
  rw[qq,hf]at hb
  exact bU.mp hb
 have sup:∀b,b∈cT X.outer->b∈cT X.stack:=λb hb=>by
  rw[cH]
  unfold cT
  rw[qq,hf]
  exact fQ _ hb
 have qP:∀b o,X.bY.heap.get? b=some o->b≠X.env.locals:=λb o e=>cR (cG (br e) I.ok.above)
 have nx:∀b:Addr,b ∉ X.ex:=λb=>by rw[hex];simp
 refine⟨⟨λb o e n hb _=>?_,λb o e n hb _=>?_,λb o e n _=>I.base.free b o e n (nx b),λb o e _=>?_,I.base.fG,I.base.fe,I.base.eP⟩,λb ob e=>?_⟩
 ·exact keep b o (oW b o e) (λz=>(sub b z).elim (qP b o e) hb) (I.base.keep b o e n hb (nx b))
 ·obtain⟨sl,e1⟩:=I.base.slot b o e n hb (nx b)
  exact(slots b _ (oW b o e) e1).imp λsl h=>h
 ·obtain⟨o',e1⟩:=I.base.there b o e (nx b)
  exact(slots b o' (oW b o e) e1).elim λsl q=>⟨_,q⟩
 ·refine(I.aA b ob e).iZ (λc u hc q=>keep c u (λz=>?_) (λz=>?_) q) (λ_ q=>q) (λ_ _ q=>q) λ_ _ q=>q
  ·have n:=(hZ c z).2
   rcases hc with rfl | hc
   ·rw[n]at e;cases e
   ·rw[n]at hc;cases hc
  ·have n:=I.zj c z
   rcases hc with rfl | hc
   ·rw[n]at e;cases e
   ·rw[n]at hc;cases hc
structure NF(X:Cx)(H:Hp)(h':Heap)(a T:Addr)(cls:Value):Prop where
 un:Un (cT X.outer) [] X.jl H X.bY.heap h'
 aA:cn X.prog X.w H h'
 vY:oU h' a T cls
 a0:X.bY.heap.get? a=none
 a1:H a=none
 t0:X.bY.heap.get? T=none
 t1:H T=none
theorem Yw(I:Inv X pins σ H s)(cH:X.stack=X.env::X.outer)(hex:X.ex=[])(hf:X.env.frame=some X.env.locals)(tr:oU s.heap a T cls)(pa:Apart X pins H a)(pT:Apart X pins H T)
  (hQ:∀h' T',NF X H h' a T' cls->Q () { s with heap:=h' }):wpAny M X.A (leaving X.env (.ref a)) Q E s:=by
 have hZ:∀b∈[a,T],X.bY.heap.get? b=none/\H b=none:=λb hb=>by
  rcases bU.mp hb with rfl | hb
  ·exact⟨pa.old,pa.free⟩
  ·rw[e8.mp hb];exact⟨pT.old,pT.free⟩
 have na:a ∉ (X.env::X.outer).filterMap (·.frame):=by have:=pa.fr;rw[cH]at this;exact this
 refine wpAny_bind (Yr (base:=X.base) (by rw[I.ok.frames,cH]) (cH ▸ I.stack) hf na tr λh' T' st=>?_)
 have kp:∀b o,b ∉ [a,T]->b ∉ cT X.stack->s.heap.get? b=some o->h'.get? b=some o:=λb o hz hb q=>st.keep b o hz (by rw[cH]at hb;exact hb) q
 obtain⟨un,aA⟩:=ND (h':=h') I cH hex hf [a,T] hZ kp st.slot
 exact hQ h' T' ⟨un,aA,st.vY,pa.old,pa.free,I.old hex st.new,I.aA.none st.new⟩
theorem Yx{h1:Heap}{args:List Value}(I:Inv X pins σ H s)(cH:X.stack=X.env::X.outer)(hex:X.ex=[])(hf:X.env.frame=some X.env.locals)(hx:LM s.heap h1 a cls args)
  (hQ:∀h' T',NF X H h' a T' cls->Q () { s with heap:=h' }):wpAny M X.A (leaving X.env (.ref a)) Q E { s with heap:=h1 }:=by
 refine wpAny_bind (Yu (base:=X.base) (by rw[I.ok.frames,cH]) (cH ▸ I.stack) hf hx λh' T' st=>?_)
 have kp:∀b o,b ∉ ([]:List Addr)->b ∉ cT X.stack->s.heap.get? b=some o->h'.get? b=some o:=λb o hz hb q=>st.keep b o hz (by rw[cH]at hb;exact hb) q
 obtain⟨un,aA⟩:=ND (h':=h') I cH hex hf [] (λb hb=>absurd hb (by simp)) kp st.slot
 exact hQ h' T' ⟨un,aA,st.vY,I.old hex hx.new,I.aA.none hx.new,I.old hex st.new,I.aA.none st.new⟩
end
noncomputable def kX(P:Program)(w:World):dS:=λouter H s E e s'=>∃a T cls H',e=.ref a/\s'.os=s.os/\AllBare s'.gens/\Un (cT outer) [] H H' s.heap s'.heap/\cn P w H' s'.heap/\oU s'.heap a T cls /\
 s.heap.get? a=none/\H' a=none/\s.heap.get? T=none/\H' T=none/\E cls none H'
section
variable{X:Cx}{pins:List (Addr × Obj)}{σ:St}{H H':Hp}{s:Shared}{a T b:Addr}{cls:Value}{M:Model}{Q:Unit->Shared->Prop}{E:Value->Shared->Prop}{h':Heap}
theorem Inv.dX9(I:Inv X pins σ H s)(hex:X.ex=[])(Z:List Addr)(hZ:∀b∈Z,Apart X pins H b)
  (keep:∀b o,b ∉ Z->b ∉ cT X.stack->s.heap.get? b=some o->h'.get? b=some o) (slots:∀b o,b ∉ Z->s.heap.get? b=some o->∃sl,h'.get? b=some { o with slots:=sl }) (g':Array GenState) (t':Nat) (d':Drawn) (hg:AllBare g') :
  Inv X pins σ H { s with heap:=h',gens:=g',toks:=t',drawn:=d' }:=by
 have nx:∀b:Addr,b ∉ X.ex:=λb=>by rw[hex];simp
 have any:=slots
 have oW:∀b o,X.bY.heap.get? b=some o->b ∉ Z:=λb o e z=>by rw[(hZ b z).old]at e;cases e
 have qP:∀b o,X.bY.heap.get? b=some o->b≠X.env.locals:=λb o e=>cR (cG (br e) I.ok.above)
 have cz:∀x c,X.env.cells.lookup x=some c->c ∉ Z:=λx c e z=>(hZ c z).cell x c e rfl
 have cellK:∀x c,X.env.cells.lookup x=some c->∀v,s.heap.IsCell c v->h'.IsCell c v:=λx c e v zz=>by
  obtain⟨o,ho,hd⟩:=zz
  obtain⟨sl,q⟩:=any c o (cz x c e) ho
  exact⟨_,q,hd⟩
 have NG:∀b,b ∉ X.fs->b≠X.env.locals->b ∉ cT X.stack:=λb h1 h2 h3=>(bU.mp (I.vx b h3)).elim h2 h1
 refine⟨I.ok,I.os,hg,⟨λb o e n hb hx=>?_,λb o e n hb hx=>?_,I.base.free,λb o e hx=>?_,I.base.fG,I.base.fe,I.base.eP⟩,?_,λx c e=>?_,I.free,I.gn,λp hp=>?_,λb ob e=>?_,I.len⟩
 ·exact keep b o (oW b o e) (NG b hb (qP b o e)) (I.base.keep b o e n hb hx)
 ·obtain⟨sl,e1⟩:=I.base.slot b o e n hb hx
  obtain⟨vq,e2⟩:=any b _ (oW b o e) e1
  exact⟨vq,e2⟩
 ·obtain⟨o',e1⟩:=I.base.there b o e hx
  obtain⟨sl,e2⟩:=any b o' (oW b o e) e1
  exact⟨_,e2⟩
 ·obtain⟨m,hn,hl⟩:=I.loc
  obtain⟨o,es,ep,ho,hd,r⟩:=id hn
  obtain⟨sl,q⟩:=slots _ o (λz=>(hZ _ z).loc rfl) ho
  refine⟨m,⟨_,es,ep,q,hd,r⟩,λi x v e1 e2 e3=>?_⟩
  obtain⟨u,r,l⟩:=hl i x v e1 e2 e3
  refine⟨u,r,?_⟩
  rcases l with l | ⟨k,c,e,z⟩
  ·exact .inl l
  ·exact .inr ⟨k,c,e,cellK x c e _ z⟩
 ·obtain⟨v,z⟩:=I.cell x c e
  exact⟨v,cellK x c e v z⟩
 ·obtain⟨e,n,ne,nf,d⟩:=I.pin p hp
  exact⟨keep p.1 p.2 (λz=>(hZ _ z).pin p hp rfl) (NG _ nf ne) e,n,ne,nf,d⟩
 ·refine(I.aA b ob e).iZ (λc u hc q=>keep c u (λz=>?_) (λz=>?_) q) (λ_ q=>q) (λ_ _ q=>q) λ_ _ q=>q
  ·have n:=(hZ c z).free
   rcases hc with rfl | hc
   ·rw[n]at e;cases e
   ·rw[n]at hc;cases hc
  ·have n:=I.zj c z
   rcases hc with rfl | hc
   ·rw[n]at e;cases e
   ·rw[n]at hc;cases hc
end
end L2
namespace L2
open PySem PySem.W PySem.Spec PySem.Calls PyProof.Rows
section
variable{prog:Program}{w:World}{A:Around}{E:Value->Shared->Prop}{s:Shared}{K:Frag}{x D:Addr}{ox:Obj}{Yy:Option Obj}
end
end L2
namespace L2
open PySem PySem.W PySem.Spec PySem.Calls PyProof.Rows
section
variable{prog:Program}{w:World}{A:Around}{E:Value->Shared->Prop}{s:Shared}{K:Frag}{x D:Addr}{ox:Obj}{Yy:Option Obj}
structure Yz(K:Frag)(C:Addr):Prop where
 cls:(clsIn K C).isSome=true
 ga:findIn K (.ref C) "__getattribute__"=some (some (.builtin "BaseException.__getattribute__"))
 gt:findIn K (.ref C) "__getattr__"=some none
 ca:findIn K (.ref C) "__class__"=some (some (.builtin "object.__class__"))
 hn:specialIn K (.builtin "object.__class__") "__get__"=some (some (.builtin "getset_descriptor.__get__"))
 tk:takesIn K (.builtin "object.__class__")=some true
 mo:mroIn K C (.type "object")=some true
 mb:mroIn K C (.type "BaseException")=some true
noncomputable def YA(a C:Addr)(h:Heap):Prop:=∃o,h.get? a=some o/\o.cls=.ref C/\notCls o=true/\o.dict=none
end
end L2
namespace L2
open PySem PySem.Spec PyProof.Rows
section
variable{X:Cx}{pins:List (Addr × Obj)}{σ:St}{H:Hp}{s:Shared}{h':Heap}{its:List Addr}{T:Addr}{o:HO}{t':Nat}
theorem Inv.zI(I:Inv X pins σ H s)(k:∀b o,b ∉ its->s.heap.get? b=some o->h'.get? b=some o)(hf:∀b∈its,gK X pins H b):Inv X pins σ H { s with heap:=h',toks:=t' }:=by
 have mU:∀b u,H b=some u->b ∉ its:=λb u e z=>by have:=(hf b z).1;rw[this]at e;cases e
 refine I.step (g':=s.gens) (d':=s.drawn) (ch:=its) (λb hb=>?_) (λb o _ _ hc e _=>k b o hc e) (λb o _ _ hc e _=>⟨o.slots,k b o hc e⟩) (λ_ _ _ _ n=>n)
  (λb o hc e=>⟨o,k b o hc e⟩) (λ_ _ e=>e) (λ_ _ _ e=>e) (λb ps e=>⟨#[],by rw[e];simp⟩) (λm hm=>?_) (λb u e=>?_) I.bare
 ·obtain⟨_,h1,_,h2,h3,h4⟩:=hf b hb
  exact⟨h2,h1,h3,h4⟩
 ·obtain⟨o,es,ep,ho,r⟩:=hm
  exact⟨o,es,ep,k _ o (λz=>(hf _ z).2.1 rfl) ho,r⟩
 ·refine(I.aA b u e).iZ (λc v hc q=>k c v ?_ q) (λ_ q=>q) (λ_ _ q=>q) λ_ _ q=>q
  rcases hc with z | z
  ·rw[z];exact mU b u e
  ·exact mU c _ z
theorem Inv.NH(I:Inv X pins σ H s)(k:∀b o,b ∉ its->s.heap.get? b=some o->h'.get? b=some o)(hf:∀b∈its,gK X pins H b)(hT:s.heap.objs.size<=T)(new:cW X.prog X.w (upd H T o) h' T o) :
  Inv X pins σ (upd H T o) { s with heap:=h',toks:=t' }:=by
 have mU:∀b u,H b=some u->b ∉ its:=λb u e z=>by have:=(hf b z).1;rw[this]at e;cases e
 have fT:H T=none:=I.aA.fresh hT
 have neT:∀b u,H b=some u->b≠T:=λb u e z=>by rw[z,fT]at e;cases e
 have YB:∀b u,s.heap.get? b=some u->b≠T:=λb u e z=>absurd (cG (br e) hT) (by rw[z];exact fP _)
 refine I.step (g':=s.gens) (d':=s.drawn) (ch:=its) (λb hb=>?_) (λb o _ _ hc e _=>k b o hc e) (λb o _ _ hc e _=>⟨o.slots,k b o hc e⟩) (λb u _ e n=>by rw[aP (YB b u e)];exact n)
  (λb o hc e=>⟨o,k b o hc e⟩) (λb _ e=>by rw[aP (neT b _ e)];exact e) (λb _ _ e=>by rw[aP (neT b _ e)];exact e) (λb ps e=>⟨#[],by rw[aP (neT b _ e),e];simp⟩) (λm hm=>?_) (λb u e=>?_) I.bare
 ·obtain⟨_,h1,_,h2,h3,h4⟩:=hf b hb
  exact⟨h2,h1,h3,h4⟩
 ·obtain⟨o,es,ep,ho,r⟩:=hm
  exact⟨o,es,ep,k _ o (λz=>(hf _ z).2.1 rfl) ho,r⟩
 ·by_cases hb:b=T
  ·subst hb;rw[bW]at e;cases e;exact new
  ·rw[aP hb]at e
   refine(I.aA b u e).iZ (λc v hc q=>k c v ?_ q) (λc q=>by rw[aP (neT c _ q)];exact q) (λc _ q=>by rw[aP (neT c _ q)];exact q) λc _ q=>by rw[aP (neT c _ q)];exact q
   rcases hc with z | z
   ·rw[z];exact mU b u e
   ·exact mU c _ z
noncomputable def DU(K:PySem.W.Frag)(a b:Addr):It :=
 ⟨λi H=>∃xs ys x y,bu K H a xs/\bu K H b ys/\xs[i]?=some x/\ys[i]?=some y,
  λi H v H'=>∃T x y,v=.ref T/\H T=none/\H'=upd H T (.tup [x,y])/\(∀xs,bu K H a xs->xs[i]?=some x)/\∀ys,bu K H b ys->ys[i]?=some y,
  λi H=>∃xs ys,bu K H a xs/\bu K H b ys/\(xs.length<=i\/ys.length<=i)⟩
theorem m6{K:PySem.W.Frag}{a c:Addr}{xs:List V}(hk:X.K=K)(I:Inv X pins σ H s)(h:bu K H a xs)(hf:gK X pins H c)(ho:∃o,s.heap.get? c=some o/\o.cls≠.type "list"):a≠c:=by
 subst hk
 obtain⟨its,rv,p,hz⟩:=I.list h
 obtain⟨o,e,d⟩:=ho
 obtain⟨o',e',c',_⟩:=p.isList
 intro z
 subst z
 rw[e]at e';cases e'
 exact d c'
theorem YC{P:Program}{w:World}{K:PySem.W.Frag}{elts:List Expr}{k:Nat}{pos:Pos}(a b z TI TO i1 i2:Addr)(D5:[z,TI,TO,i1,i2].Nodup) :
  Turn P w K (.Tuple elts k pos) (DU K a b) [z,TI,TO,i1,i2] z (λi h=>IsZip h z TI TO .none/\IsPair h TI (.ref i1) (.ref i2)/\(∃u v,IsPair h TO u v)/\h.IsListIter i1 a i/\h.IsListIter i2 b i):=by
 have ap:∀(X:Cx) (pins:List (Addr × Obj)) (s:Shared) (σ:St) (H:Hp) (i:Nat) (xs ys:List V),X.K=K->Inv X pins σ H s->(∀b∈[z,TI,TO,i1,i2],gK X pins H b)->IsZip s.heap z TI TO .none->(∃u v,IsPair s.heap TO u v)->s.heap.IsListIter i1 a i->s.heap.IsListIter i2 b i ->
   bu K H a xs->bu K H b ys->ZipApart z TI TO i1 i2 a b:=by
  intro X pins s σ H i xs ys hK I hf hz gU h1 h2 hx hy
  simp only[ij,bU,not_or,ik,not_false_eq_true,and_true]at D5
  obtain⟨⟨d1,d2,d3,d4⟩,⟨d5,d6,d7⟩,⟨d8,d9⟩,YD,_⟩:=D5
  have oz:∃o,s.heap.get? z=some o/\o.cls≠.type "list":=⟨_,hz,by intro q;exact absurd (Cr q) (by decide)⟩
  have NI:∃o,s.heap.get? TO=some o/\o.cls≠.type "list":=by obtain⟨u,v,e⟩:=gU;exact⟨_,e,by intro q;exact absurd (Cr q) (by decide)⟩
  have o1:∃o,s.heap.get? i1=some o/\o.cls≠.type "list":=by obtain⟨o,e,c,d⟩:=h1;exact⟨_,e,by rw[c];intro q;exact absurd (Cr q) (by decide)⟩
  have o2:∃o,s.heap.get? i2=some o/\o.cls≠.type "list":=by obtain⟨o,e,c,d⟩:=h2;exact⟨_,e,by rw[c];intro q;exact absurd (Cr q) (by decide)⟩
  exact⟨dF d1,dF d2,dF d3,dF d4,d5,d6,d7,d8,d9,YD,
   m6 hK I hx (hf z (by simp)) oz,m6 hK I hx (hf TO (by simp)) NI,m6 hK I hx (hf i1 (by simp)) o1,m6 hK I hx (hf i2 (by simp)) o2,
   m6 hK I hy (hf z (by simp)) oz,m6 hK I hy (hf TO (by simp)) NI,m6 hK I hy (hf i1 (by simp)) o1,m6 hK I hy (hf i2 (by simp)) o2⟩
 refine⟨by simp,λi h st c hc=>?_,λi h h' st kk=>?_,?_,?_,λ_ _ _ _ _ st h=>wpAny_pyIter_zip st.1 h⟩
 ·obtain⟨hz,jy,⟨u,v,gU⟩,⟨o1,e1,c1,d1⟩,⟨o2,e2,c2,d2⟩⟩:=st
  simp only[bU,ik,or_false]at hc
  rcases hc with rfl | rfl | rfl | rfl | rfl
  ·exact⟨_,hz,λv q=>by cases q⟩
  ·exact⟨_,jy,λv q=>by cases q⟩
  ·exact⟨_,gU,λv q=>by cases q⟩
  ·exact⟨_,e1,λv q=>by rw[d1]at q;cases q⟩
  ·exact⟨_,e2,λv q=>by rw[d2]at q;cases q⟩
 ·obtain⟨hz,jy,⟨u,v,gU⟩,h1,h2⟩:=st
  exact⟨kk _ (by simp) _ hz,kk _ (by simp) _ jy,⟨u,v,kk _ (by simp) _ gU⟩,h1.at λo e=>kk _ (by simp) o e,h2.at λo e=>kk _ (by simp) o e⟩
 ·intro X hP hw hK hc i pins s σ H E I hf st hg
  obtain⟨xs,ys,x,y,hx,hy,ex,ey⟩:=hg
  obtain⟨hz,jy,⟨u,v,gU⟩,h1,h2⟩:=st
  have D:=ap X pins s σ H i xs ys hK I hf hz ⟨u,v,gU⟩ h1 h2 hx hy
  subst hP hw hK
  obtain⟨as,ra,pa,_⟩:=I.list hx
  obtain⟨bs,rb,pb,_⟩:=I.list hy
  obtain⟨ux,DV,rx⟩:=ra.get ex
  obtain⟨uy,YE,ry⟩:=rb.get ey
  refine wpAny_pyNext_zip_item D hz jy gU h1 h2 pa.isList pb.isList (x:=ux) (y:=uy) (by simpa using DV) (by simpa using YE) λh' z' YF i5 iC T' sz kk=>?_
  have fT:H s.heap.objs.size=none:=I.aA.fresh (aZ _)
  have I1:Inv X pins σ (upd H s.heap.objs.size (.tup [x,y])) { s with heap:=h',toks:=s.toks }:=I.NH (its:=[z,TO,i1,i2]) (λc o hc e=>kk c o (λq=>hc (by simp[q])) (λq=>hc (by simp[q])) (λq=>hc (by simp[q])) (λq=>hc (by simp[q])) e)
   (λc hc=>hf c (by simp only[bU,ik,or_false]at hc ⊢;rcases hc with rfl | rfl | rfl | rfl<;>simp)) (aZ _) ⟨by show 2<=sizeLine;decide,[ux,uy],.cons rx (.cons ry .nil),⟨_,T',rfl,_,rfl⟩⟩
  have nT:∀c∈[z,TI,TO,i1,i2],c≠s.heap.objs.size:=λc hc q=>by
   have:∃o,s.heap.get? c=some o:=by
    simp only[bU,ik,or_false]at hc
    rcases hc with rfl | rfl | rfl | rfl | rfl
    ·exact⟨_,hz⟩
    ·exact⟨_,jy⟩
    ·exact⟨_,gU⟩
    ·obtain⟨o,e,_⟩:=h1;exact⟨o,e⟩
    ·obtain⟨o,e,_⟩:=h2;exact⟨o,e⟩
   obtain⟨o,e⟩:=this
   exact absurd (br e) (by rw[q];exact fP _)
  refine⟨_,rfl,wpAny_letOwnedTupleGo_zip z' λDW DX sb=>?_⟩
  have DY:∀c∈[z],gK X pins (upd H s.heap.objs.size (.tup [x,y])) c:=λc hc=>by
   have e:c=z:=by simpa using hc
   subst e
   obtain⟨f0,fr⟩:=hf c (by simp)
   exact⟨by rw[aP (nT c (by simp))];exact f0,fr⟩
  have I2:=Inv.zI (h':=DW) (its:=[z]) (t':=s.toks) I1 (λc o hc e=>sb.extBut _ _ (λq=>hc (by simp[q])) e) DY
  refine⟨.ref s.heap.objs.size,_,I2,rfl,⟨_,x,y,rfl,fT,rfl,λYG cX=>by rw[I.zr cX hx];exact ex,λNJ YH=>by rw[I.zr YH hy];exact ey⟩,⟨DX,sb.extBut _ _ D.TIz (kk _ _ D.TIz D.TITO D.TIi1 D.TIi2 jy),⟨ux,uy,sb.extBut _ _ D.TOz YF⟩,i5.extBut sb.extBut D.i1z,iC.extBut sb.extBut D.i2z⟩,λc hc=>?_⟩
  rw[aP (nT c hc)]
  exact(hf c hc).1
 ·intro X hP hw hK hc i pins s σ H E I hf st hg
  obtain⟨xs,ys,hx,hy,hl⟩:=hg
  obtain⟨hz,jy,⟨u,v,gU⟩,h1,h2⟩:=st
  have D:=ap X pins s σ H i xs ys hK I hf hz ⟨u,v,gU⟩ h1 h2 hx hy
  subst hP hw hK
  obtain⟨as,ra,pa,_⟩:=I.list hx
  obtain⟨bs,rb,pb,_⟩:=I.list hy
  have la:=ra.length
  have lb:=rb.length
  refine wpAny_pyNext_zip_end (I.ok.hd hc) D hz jy gU h1 h2 pa.isList pb.isList (hl.imp (λq=>by simp;omega) λq=>by simp;omega) λh' kk=>⟨rfl,?_⟩
  exact I.zI (its:=[z,TO,i1,i2]) (t':=s.toks) (λc o hc e=>kk c o (λq=>hc (by simp[q])) (λq=>hc (by simp[q])) (λq=>hc (by simp[q])) (λq=>hc (by simp[q])) e)
   (λc hc=>hf c (by simp only[bU,ik,or_false]at hc ⊢;rcases hc with rfl | rfl | rfl | rfl<;>simp))
noncomputable def DZ(K:PySem.W.Frag)(a:Addr):It :=
 ⟨λi H=>∃xs x,bu K H a xs/\xs[i]?=some x,
  λi H v H'=>∃T x,v=.ref T/\H T=none/\H'=upd H T (.tup [.int i,x])/\∀xs,bu K H a xs->xs[i]?=some x,
  λi H=>∃xs,bu K H a xs/\xs.length<=i⟩
theorem YI{P:Program}{w:World}{K:PySem.W.Frag}{elts:List Expr}{k:Nat}{pos:Pos}(a z it:Addr)(oX:z≠it) :
  Turn P w K (.Tuple elts k pos) (DZ K a) [z,it] z (λi h=>(∃old,IsEnum h z it i old)/\h.IsListIter it a i):=by
 refine⟨by simp,λi h st c hc=>?_,λi h h' st kk=>?_,?_,?_,λ_ _ _ _ _ st h=>by obtain⟨⟨old,e⟩,_⟩:=st;exact wpAny_pyIter_enum e h⟩
 ·obtain⟨⟨old,hz⟩,⟨o1,e1,c1,d1⟩⟩:=st
  simp only[bU,ik,or_false]at hc
  rcases hc with rfl | rfl
  ·exact⟨_,hz,λv q=>by cases q⟩
  ·exact⟨_,e1,λv q=>by rw[d1]at q;cases q⟩
 ·obtain⟨⟨old,hz⟩,h1⟩:=st
  exact⟨⟨old,kk _ (by simp) _ hz⟩,h1.at λo e=>kk _ (by simp) o e⟩
 ·intro X hP hw hK hc i pins s σ H E I hf st hg
  subst hP hw hK
  obtain⟨xs,x,hx,ex⟩:=hg
  obtain⟨⟨old,hz⟩,h1⟩:=st
  obtain⟨as,ra,pa,_⟩:=I.list hx
  obtain⟨ux,DV,rx⟩:=ra.get ex
  refine wpAny_pyNext_enum_item hz h1 pa.isList (x:=ux) (by simpa using DV) oX λh' z' i5 T' sz kk=>?_
  have fT:H s.heap.objs.size=none:=I.aA.fresh (aZ _)
  have I1:Inv X pins σ (upd H s.heap.objs.size (.tup [.int i,x])) { s with heap:=h',toks:=s.toks+1 }:=I.NH (its:=[z,it]) (λc o hc e=>kk c o (λq=>hc (by simp[q])) (λq=>hc (by simp[q])) e)
   (λc hc=>hf c hc) (aZ _) ⟨by show 2<=sizeLine;decide,[.int i s.toks,ux],.cons ⟨_,rfl⟩ (.cons rx .nil),⟨_,T',rfl,_,rfl⟩⟩
  have nT:∀c∈[z,it],c≠s.heap.objs.size:=λc hc q=>by
   have:∃o,s.heap.get? c=some o:=by
    simp only[bU,ik,or_false]at hc
    rcases hc with rfl | rfl
    ·exact⟨_,hz⟩
    ·obtain⟨o,e,_⟩:=h1;exact⟨o,e⟩
   obtain⟨o,e⟩:=this
   exact absurd (br e) (by rw[q];exact fP _)
  refine⟨_,rfl,wpAny_letOwnedTupleGo_enum z' λDW DX sb=>?_⟩
  have DY:∀c∈[z],gK X pins (upd H s.heap.objs.size (.tup [.int i,x])) c:=λc hc=>by
   have e:c=z:=by simpa using hc
   subst e
   obtain⟨f0,fr⟩:=hf c (by simp)
   exact⟨by rw[aP (nT c (by simp))];exact f0,fr⟩
  have I2:=Inv.zI (h':=DW) (its:=[z]) (t':=s.toks+1) I1 (λc o hc e=>sb.extBut _ _ (λq=>hc (by simp[q])) e) DY
  refine⟨.ref s.heap.objs.size,_,I2,rfl,⟨_,x,rfl,fT,rfl,λYG cX=>by rw[I.zr cX hx];exact ex⟩,⟨⟨ux,by simpa using DX⟩,i5.extBut sb.extBut (dF oX)⟩,λc hc=>?_⟩
  rw[aP (nT c hc)]
  exact(hf c hc).1
 ·intro X hP hw hK hc i pins s σ H E I hf st hg
  subst hP hw hK
  obtain⟨xs,hx,hl⟩:=hg
  obtain⟨⟨old,hz⟩,h1⟩:=st
  obtain⟨as,ra,pa,_⟩:=I.list hx
  have la:=ra.length
  refine wpAny_pyNext_enum_end (I.ok.hd hc) hz h1 pa.isList (by simp;omega) λh' kk=>⟨rfl,?_⟩
  exact I.zI (its:=[it]) (t':=s.toks) (λc o hc e=>kk c o (λq=>hc (by simp[q])) e) (λc hc=>hf c (by simp at hc ⊢;simp[hc]))
end
section
variable{X:Cx}{a b:Expr}{ta:TA}{p pos kM:Pos}{elts:List Expr}{x1:Nat}
noncomputable def YJ(K:PySem.W.Frag)(ta:TA):TI:=λσ H R=>ta σ H λvs H1=>∃a b,vs=[.ref a,.ref b]/\(∃xs,bu K H1 a xs)/\(∃ys,bu K H1 b ys)/\R (DU K a b) H1
theorem YK:bootBuiltins "zip"=some (.type "zip"):=by decide +kernel
theorem YL(hg:Gl X "zip")(hm:X.mg "zip"=none)(ha:PA X [a,b] ta)(hs:starEach [a,b] X.env=[(false,eval a X.env),(false,eval b X.env)]:=by rfl)(gL:starEach [b] X.env=[(false,eval b X.env)]:=by rfl) :
  PI X (.Tuple elts x1 kM) (.Call (.Name "zip" p) [a,b] [] pos) (YJ X.K ta):=by
 intro pins s σ H R I h
 refine Call_ (oF I hg hm YK (yD (aK (ha pos pins s σ H _ I h) λus s1 ⟨vs,H1,I1,r1,q1⟩=>?_) (by rw[hs,gL]) (by rw[gL];rfl)))
 obtain⟨a,b,e,⟨xs,hx⟩,⟨ys,hy⟩,q⟩:=q1
 subst e
 cases r1 with
 | cons r rr =>
  cases rr with
  | cons r2 rr =>
   cases rr
   cases r
   cases r2
   obtain⟨as,ra,pa,_⟩:=I1.list hx
   obtain⟨bs,rb,pb,_⟩:=I1.list hy
   refine call_zip_2 pa.isList pb.isList λh' hz jy gU h1 h2 sz kk=>wpAny_pyIter_zip hz ?_
   refine⟨_,[s1.heap.objs.size+4,s1.heap.objs.size+2,s1.heap.objs.size+3,s1.heap.objs.size,s1.heap.objs.size+1],_,_,H1,rfl,I1.kept (t':=s1.toks) kk,YC a b _ _ _ _ _ (by simp),⟨hz,jy,⟨_,_,gU⟩,h1,h2⟩,λc hc=>?_,q⟩
   have hle:s1.heap.objs.size<=c:=by
    simp only[bU,ik,or_false]at hc
    rcases hc with rfl | rfl | rfl | rfl | rfl<;>omega
   exact I1.zy hle (I1.aA.fresh hle)
noncomputable def YM(K:PySem.W.Frag)(ta:TA):TI:=λσ H R=>ta σ H λvs H1=>∃a,vs=[.ref a]/\(∃xs,bu K H1 a xs)/\R (DZ K a) H1
theorem YN:bootBuiltins "enumerate"=some (.type "enumerate"):=by decide +kernel
theorem YO(hg:Gl X "enumerate")(hm:X.mg "enumerate"=none)(ha:PA X [a] ta)(hs:starEach [a] X.env=[(false,eval a X.env)]:=by rfl) :
  PI X (.Tuple elts x1 kM) (.Call (.Name "enumerate" p) [a] [] pos) (YM X.K ta):=by
 intro pins s σ H R I h
 refine Call_ (oF I hg hm YN (yD (aK (ha pos pins s σ H _ I h) λus s1 ⟨vs,H1,I1,r1,q1⟩=>?_) hs rfl))
 obtain⟨a,e,⟨xs,hx⟩,q⟩:=q1
 subst e
 cases r1 with
 | cons r rr =>
  cases rr
  cases r
  obtain⟨as,ra,pa,_⟩:=I1.list hx
  refine call_enumerate_list pa.isList λh' hz h1 sz kk=>wpAny_pyIter_enum hz ?_
  refine⟨_,[s1.heap.objs.size+1,s1.heap.objs.size],_,_,H1,rfl,I1.kept (t':=s1.toks) kk,YI a (s1.heap.objs.size+1) s1.heap.objs.size (Nat.succ_ne_self _),⟨⟨_,hz⟩,h1⟩,λc hc=>?_,q⟩
  have hle:s1.heap.objs.size<=c:=by
   simp only[bU,ik,or_false]at hc
   rcases hc with rfl | rfl<;>omega
  exact I1.zy hle (I1.aA.fresh hle)
end
end L2
namespace L2
open PySem PySem.Spec PyProof.Rows PySem.W PySem.Calls
section
variable{X:Cx}
noncomputable def q8{α:Type}(xs:List α)(lo hi:Option Int):List α:=(xs.drop (HT.cJ xs.length 0 lo)).take (HT.cJ xs.length xs.length hi-HT.cJ xs.length 0 lo)
theorem YQ(x:Str)(lo hi:Option Int):Txt.slice x lo hi=⟨(q8 x.cps.toList lo hi).toArray⟩:=by
 have hx:x.length=x.cps.size:=rfl
 have e:(Cs lo hi 1 x.length).filterMap (x.cps[·]?)=q8 x.cps.toList lo hi:=by
  obtain⟨h1,h2,h3⟩:=Dz lo hi x.length
  have e0:Cs lo hi 1 x.length=sliceRange (sliceBounds lo hi none x.length).1 (sliceBounds lo hi none x.length).2.1 1:=by
   cases lo<;>cases hi<;>rfl
  rw[e0,h1,h2]
  simp only[sliceRange_one,pick_run]
  unfold q8
  rw[hx,ie]
 unfold Txt.slice
 split
 ·rename_i h
  have hl:(Cs lo hi 1 x.length).length=x.length:=by
   rw[du]at h;exact eq_of_beq h.2
  have hs:(q8 x.cps.toList lo hi)=x.cps.toList:=by
   have e2:HT.cJ x.cps.toList.length x.cps.toList.length hi-HT.cJ x.cps.toList.length 0 lo=x.length:=by
    obtain⟨h1,h2,h3⟩:=Dz lo hi x.length
    have e0:Cs lo hi 1 x.length=sliceRange (sliceBounds lo hi none x.length).1 (sliceBounds lo hi none x.length).2.1 1:=by
     cases lo<;>cases hi<;>rfl
    rw[e0,h1,h2]at hl
    simp only[sliceRange_one,bO,cV]at hl
    rw[ie,<- hx]
    omega
   unfold q8
   have le:HT.cJ x.cps.toList.length x.cps.toList.length hi<=x.cps.toList.length:=by
    cases hi with
    | none=>simp[HT.cJ]
    | some i=>simp only[HT.cJ];split<;>omega
   have YR:HT.cJ x.cps.toList.length 0 lo<=x.cps.toList.length:=by
    cases lo with
    | none=>simp[HT.cJ]
    | some i=>simp only[HT.cJ];split<;>omega
   rw[ie,<- hx]at e2 le YR ⊢
   have z:HT.cJ x.length 0 lo=0:=by omega
   have z2:HT.cJ x.length x.length hi=x.length:=by omega
   rw[z,z2,List.drop_zero,Nat.sub_zero,hx,<- ie,LN]
  rw[hs]
 ·rw[e]
theorem YS:oN X (λx lo hi H Q=>∃z,x=.str z/\z.length<=sizeLine/\Q (.str ⟨(q8 z.cps.toList lo hi).toArray⟩) H):=by
 intro pins s σ H x v vl vu lo hi sl Q I rx hs pl pu h
 obtain⟨z,rfl,hz,q⟩:=h
 obtain⟨t,rfl⟩:=rx
 refine⟨"str",_,F.slot_str_getitem.lookup,typeIs_str _ _ _,?_⟩
 have fin:∀(l u:Option (Int × Tok)),l.map (·.1)=lo->u.map (·.1)=hi->partValue l=vl->partValue u=vu->wpAny (model X.prog X.w) X.A (getItem (.str z t) (.ref sl)) (EP X pins σ Q) X.xe s:=by
  intro l u h1 h2 h3 h4
  obtain⟨o,e1,e2,e3⟩:=hs
  refine wpAny_getItem_str_slice (l:=l) (u:=u) (st:=none) ⟨o,e1,e2,by rw[e3,h3,h4];rfl⟩ rfl ?_
  have e:Txt.slice z lo hi=(if(((none:Option (Int × Tok)).map (·.1)).getD 1==1&&(slicePicked z l u none).length==z.length)=true then z else⟨((slicePicked z l u none).filterMap (z.cps[·]?)).toArray⟩):=by
   unfold Txt.slice slicePicked;rw[h1,h2];rfl
  refine post_val_or_str ⟨?_,λt' k=>?_⟩
  ·rw[<-e];exact dP (Txt.slice_le z _ _) hz
  ·rw[<-e,YQ];exact⟨.str _,H,I.tok _,⟨_,rfl⟩,q⟩
 cases pl with
 | none =>
  cases pu with
  | none=>exact fin none none rfl rfl rfl rfl
  | int j tj=>exact fin none (some (j,tj)) rfl rfl rfl rfl
 | int i ti =>
  cases pu with
  | none=>exact fin (some (i,ti)) none rfl rfl rfl rfl
  | int j tj=>exact fin (some (i,ti)) (some (j,tj)) rfl rfl rfl rfl
end
end L2
namespace L3
open PySem L2
noncomputable def gW:HO->Bool
 | .cP _=>false
 | _=>true
structure aa(H H':Hp):Prop where
 get:∀b o,H b=some o->(h:gW o=true:=by rfl)->H' b=some o
 tb:∀b ps,H b=some (.cP ps)->∃more,H' b=some (.cP (ps++more))
noncomputable instance {H H':Hp}:CoeFun (aa H H') λ_=>∀b o,H b=some o->(h:gW o=true:=by rfl)->H' b=some o:=⟨λs=>@aa.get _ _ s⟩
theorem D0{o:HO}(h:gW o=false):∃ps,o=.cP ps:=by
 cases o with
 | cP ps=>exact⟨ps,rfl⟩
 | _=>cases h
theorem aa.of{H H':Hp}(h:∀b o,H b=some o->H' b=some o):aa H H':=⟨λb o e _=>h b o e,λb ps e=>⟨#[],by rw[h b _ e];simp⟩⟩
theorem aa.refl(H:Hp):aa H H:=.of λ_ _ h=>h
theorem aa.trans{H H1 H2:Hp}(a:aa H H1)(b:aa H1 H2):aa H H2 :=
 ⟨λc o h n=>b.get c o (a.get c o h n) n,λc ps h=>by
  obtain⟨m1,e1⟩:=a.tb c ps h
  obtain⟨m2,e2⟩:=b.tb c _ e1
  exact⟨m1++m2,by rw[e2,u4]⟩⟩
theorem aa.any{H H':Hp}(e:aa H H'){l:Addr}{o:HO}(h:H l=some o):∃o',H' l=some o':=by
 cases n:gW o with
 | true=>exact⟨o,e.get l o h n⟩
 | false =>
  obtain⟨ps,rfl⟩:=D0 n
  obtain⟨m,q⟩:=e.tb l ps h
  exact⟨_,q⟩
theorem aa.free{H H':Hp}(e:aa H H'){l:Addr}(h:H' l=Ck):H l=Ck:=by
 cases q:H l with
 | none=>rfl
 | some o =>
  obtain⟨o',z⟩:=e.any q
  rw[z]at h
  cases h
theorem aa.seq{K:PySem.W.Frag}{H H':Hp}{a:Addr}{xs:List V}(e:aa H H')(h:bu K H a xs):bu K H' a xs:=by
 rcases h with (h | ⟨o,h⟩) | h
 ·exact .inl (.inl (e _ _ h))
 ·exact .inl (.inr ⟨o,e _ _ h⟩)
 ·exact .inr h
inductive q9 where
 | ext (φ:Addr->Heap->Prop)
 | lam (of oc:Obj) (c k:Addr)
noncomputable instance:Coe (Addr->Heap->Prop) q9:=⟨.ext⟩
noncomputable def D1(H:Hp)(k:Addr):Prop:=∃ψ,H k=some (.ext ψ)/\∀h,ψ h->∃q,h.CodeRec (.ref k) q
noncomputable def iD(of oc:Obj)(c p:Addr):Heap->Prop:=λh=>h.get? p=some of/\h.get? c=some oc
structure gy(H:Hp)(p:Addr)(of oc:Obj)(c k:Addr):Prop where
 fn:H p=some (.ext (iD of oc c p))
 cell:H c=some (.own p)
 D2:D1 H k
noncomputable def m8(H:Hp)(p:Addr):q9->Prop
 | .ext φ=>H p=some (.ext (φ p))
 | .lam of oc c k=>gy H p of oc c k
theorem m8.mono{H H':Hp}{p:Addr}:∀{z:q9},m8 H p z->(∀a o,H a=some o->(∀ws,o≠.lst ws)->gW o=true->H' a=some o)->m8 H' p z
 | .ext φ,x,k=>k _ _ x (λws q=>by cases q) rfl
 | .lam of oc c k',x,k=>⟨k _ _ x.fn (λws q=>by cases q) rfl,k _ _ x.cell (λws q=>by cases q) rfl,let⟨ψ,e,h⟩:=x.D2;⟨ψ,k _ _ e (λws q=>by cases q) rfl,h⟩⟩
inductive D where
 | ak | bl (b:Bool) | int (i:Int) | str (x:Str)
 | lst (o:Bool) (xs:List D)
 | tup (xs:List D)
 | obj (C:Addr) (ns:List Str) (xs:List D)
 | fz (xs:List D)
 | aX (z:q9)
 deriving Inhabited
noncomputable def D.pl:D->Bool
 | .lst o xs=>!o&&vZ xs
 | .tup xs=>vZ xs
 | _=>true
where vZ:List D->Bool
 | []=>true
 | d::ds=>d.pl&&vZ ds
noncomputable def D.fr:D->Bool
 | .lst o xs=>o&&v3 xs
 | .tup xs=>v3 xs
 | .obj _ _ _=>false
 | .fz _=>false
 | _=>true
where v3:List D->Bool
 | []=>true
 | d::ds=>d.fr&&v3 ds
noncomputable def D.sh:D->D
 | .lst _ xs=>.lst false (v7 xs)
 | .tup xs=>.tup (v7 xs)
 | d=>d
where v7:List D->List D
 | []=>[]
 | d::ds=>d.sh::v7 ds
theorem NK(ds:List D):D.pl.vZ ds=ds.all D.pl:=by induction ds with | nil=>rfl | cons d ds ih=>simp[D.pl.vZ,ih]
theorem NL(ds:List D):D.fr.v3 ds=ds.all D.fr:=by induction ds with | nil=>rfl | cons d ds ih=>simp[D.fr.v3,ih]
theorem NM(ds:List D):D.sh.v7 ds=ds.map D.sh:=by induction ds with | nil=>rfl | cons d ds ih=>simp[D.sh.v7,ih]
theorem gX(o:Bool)(xs:List D):(D.lst o xs).pl=(!o&&xs.all D.pl):=by simp[D.pl,NK]
theorem j5(xs:List D):(D.tup xs).pl=xs.all D.pl:=by simp[D.pl,NK]
theorem fU(o:Bool)(xs:List D):(D.lst o xs).fr=(o&&xs.all D.fr):=by simp[D.fr,NL]
theorem oY(xs:List D):(D.tup xs).fr=xs.all D.fr:=by simp[D.fr,NL]
theorem eB(o:Bool)(xs:List D):(D.lst o xs).sh=.lst false (xs.map D.sh):=by simp[D.sh,NM]
theorem kY(xs:List D):(D.tup xs).sh=.tup (xs.map D.sh):=by simp[D.sh,NM]
inductive R(F H:Hp):List D->List V->List Addr->Prop
 | nil:R F H [] [] []
 | ak {ds vs B}:R F H ds vs B->R F H (.ak::ds) (.ak::vs) B
 | bl {b ds vs B}:R F H ds vs B->R F H (.bl b::ds) (.bl b::vs) B
 | int {i ds vs B}:R F H ds vs B->R F H (.int i::ds) (.int i::vs) B
 | str {x ds vs B}:R F H ds vs B->R F H (.str x::ds) (.str x::vs) B
 | shr {p ws xs ds vs B}:F p=some (.lst ws)->R F H xs ws []->R F H ds vs B->R F H (.lst false xs::ds) (.ref p::vs) B
 | own {p ws xs A ds vs B}:H p=some (.lst ws)->F p=none->R F H xs ws A->R F H ds vs B->R F H (.lst true xs::ds) (.ref p::vs) (p::(A++B))
 | tup {p ws xs A ds vs B}:H p=some (.tup ws)->R F H xs ws A->R F H ds vs B->R F H (.tup xs::ds) (.ref p::vs) (A++B)
 | obj {p C dx ns ws xs ds vs B}:H p=some (.ins C dx (ns.zip ws))->ns.length=ws.length->R F H xs ws []->R F H ds vs B->R F H (.obj C ns xs::ds) (.ref p::vs) B
 | fz {p o ws xs ds vs B}:F p=some (.bQ o (.lst ws))->R F H xs ws []->R F H ds vs B->R F H (.fz xs::ds) (.ref p::vs) B
 | aX {p z ds vs B}:m8 H p z->R F H ds vs B->R F H (.aX z::ds) (.ref p::vs) B
inductive S(F H:Hp):List D->List V->Prop
 | nil:S F H [] []
 | ak {ds vs}:S F H ds vs->S F H (.ak::ds) (.ak::vs)
 | bl {b ds vs}:S F H ds vs->S F H (.bl b::ds) (.bl b::vs)
 | int {i ds vs}:S F H ds vs->S F H (.int i::ds) (.int i::vs)
 | str {x ds vs}:S F H ds vs->S F H (.str x::ds) (.str x::vs)
 | shr {p ws xs ds vs}:F p=some (.lst ws)->R F H xs ws []->S F H ds vs->S F H (.lst false xs::ds) (.ref p::vs)
 | own {p ws xs ds vs}:H p=some (.lst ws)->S F H xs ws->S F H ds vs->S F H (.lst true xs::ds) (.ref p::vs)
 | tup {p ws xs ds vs}:H p=some (.tup ws)->S F H xs ws->S F H ds vs->S F H (.tup xs::ds) (.ref p::vs)
 | obj {p C dx ns ws xs ds vs}:H p=some (.ins C dx (ns.zip ws))->ns.length=ws.length->R F H xs ws []->S F H ds vs->S F H (.obj C ns xs::ds) (.ref p::vs)
 | fz {p o ws xs ds vs}:F p=some (.bQ o (.lst ws))->R F H xs ws []->S F H ds vs->S F H (.fz xs::ds) (.ref p::vs)
 | aX {p z ds vs}:m8 H p z->S F H ds vs->S F H (.aX z::ds) (.ref p::vs)
section
variable{F F' H H':Hp}{d:D}{ds es:List D}{v:V}{vs ws:List V}{A B:List Addr}
theorem R.length(r:R F H ds vs A):ds.length=vs.length:=by
 induction r<;>simp_all
theorem S.length(r:S F H ds vs):ds.length=vs.length:=by
 induction r<;>simp_all
theorem R.cons(r:R F H [d] [v] A)(q:R F H ds vs B):R F H (d::ds) (v::vs) (A++B):=by
 cases r with
 | ak r=>cases r;exact .ak q
 | bl r=>cases r;exact .bl q
 | int r=>cases r;exact .int q
 | str r=>cases r;exact .str q
 | shr h x r=>cases r;exact .shr h x q
 | own h f x r=>cases r;simpa using R.own h f x q
 | tup h x r=>cases r;simpa using R.tup h x q
 | obj h l x r=>cases r;exact .obj h l x q
 | fz h x r=>cases r;exact .fz h x q
 | aX h r=>cases r;exact .aX h q
theorem R.cL(r:R F H (d::ds) vs A):∃v cj A1 A2,vs=v::cj/\A=A1++A2/\R F H [d] [v] A1/\R F H ds cj A2:=by
 cases r with
 | ak r=>exact⟨_,_,[],_,rfl,rfl,.ak .nil,r⟩
 | bl r=>exact⟨_,_,[],_,rfl,rfl,.bl .nil,r⟩
 | int r=>exact⟨_,_,[],_,rfl,rfl,.int .nil,r⟩
 | str r=>exact⟨_,_,[],_,rfl,rfl,.str .nil,r⟩
 | shr h x r=>exact⟨_,_,[],_,rfl,rfl,.shr h x .nil,r⟩
 | @own p _ _ A1 _ _ B1 h f x r=>exact⟨_,_,p::A1,B1,rfl,rfl,by simpa using R.own h f x .nil,r⟩
 | @tup p _ _ A1 _ _ B1 h x r=>exact⟨_,_,A1,B1,rfl,rfl,by simpa using R.tup h x .nil,r⟩
 | obj h l x r=>exact⟨_,_,[],_,rfl,rfl,.obj h l x .nil,r⟩
 | fz h x r=>exact⟨_,_,[],_,rfl,rfl,.fz h x .nil,r⟩
 | aX h r=>exact⟨_,_,[],_,rfl,rfl,.aX h .nil,r⟩
theorem S.cons(r:S F H [d] [v])(q:S F H ds vs):S F H (d::ds) (v::vs):=by
 cases r with
 | ak r=>exact .ak q
 | bl r=>exact .bl q
 | int r=>exact .int q
 | str r=>exact .str q
 | shr h x r=>exact .shr h x q
 | own h x r=>exact .own h x q
 | tup h x r=>exact .tup h x q
 | obj h l x r=>exact .obj h l x q
 | fz h x r=>exact .fz h x q
 | aX h r=>exact .aX h q
theorem S.cL(r:S F H (d::ds) vs):∃v cj,vs=v::cj/\S F H [d] [v]/\S F H ds cj:=by
 cases r with
 | ak r=>exact⟨_,_,rfl,.ak .nil,r⟩
 | bl r=>exact⟨_,_,rfl,.bl .nil,r⟩
 | int r=>exact⟨_,_,rfl,.int .nil,r⟩
 | str r=>exact⟨_,_,rfl,.str .nil,r⟩
 | shr h x r=>exact⟨_,_,rfl,.shr h x .nil,r⟩
 | own h x r=>exact⟨_,_,rfl,.own h x .nil,r⟩
 | tup h x r=>exact⟨_,_,rfl,.tup h x .nil,r⟩
 | obj h l x r=>exact⟨_,_,rfl,.obj h l x .nil,r⟩
 | fz h x r=>exact⟨_,_,rfl,.fz h x .nil,r⟩
 | aX h r=>exact⟨_,_,rfl,.aX h .nil,r⟩
theorem R.append:∀{ds:List D} {vs:List V} {A:List Addr},R F H ds vs A->R F H es ws B->R F H (ds++es) (vs++ws) (A++B)
 | [],_,_,r,q=>by cases r;exact q
 | d::ds,_,_,r,q=>by
  obtain⟨v,cj,A1,A2,rfl,rfl,h1,h2⟩:=r.cL
  simpa using h1.cons (R.append h2 q)
theorem S.append:∀{ds:List D} {vs:List V},S F H ds vs->S F H es ws->S F H (ds++es) (vs++ws)
 | [],_,r,q=>by cases r;exact q
 | d::ds,_,r,q=>by
  obtain⟨v,cj,rfl,h1,h2⟩:=r.cL
  exact h1.cons (S.append h2 q)
theorem R.split:∀{ds:List D} {vs:List V} {A:List Addr},R F H (ds++es) vs A->∃v1 v2 A1 A2,vs=v1++v2/\A=A1++A2/\R F H ds v1 A1/\R F H es v2 A2
 | [],vs,A,r=>⟨[],vs,[],A,rfl,rfl,.nil,r⟩
 | d::ds,_,_,r=>by
  obtain⟨v,cj,A1,A2,rfl,rfl,h1,h2⟩:=R.cL (ds:=ds++es) r
  obtain⟨v1,v2,B1,B2,rfl,rfl,h3,h4⟩:=R.split (ds:=ds) h2
  exact⟨v::v1,v2,A1++B1,B2,rfl,by simp,h1.cons h3,h4⟩
theorem R.get:∀{ds:List D} {vs:List V} {A:List Addr} {i:Nat},R F H ds vs A->ds[i]?=some d->∃v A1,vs[i]?=some v/\R F H [d] [v] A1/\A1 ⊆ A
 | [],_,_,_,_,e=>by simp at e
 | d'::ds,_,_,i,r,e=>by
  obtain⟨v,cj,A1,A2,rfl,rfl,h1,h2⟩:=r.cL
  cases i with
  | zero=>simp at e;subst e;exact⟨v,A1,rfl,h1,by simp⟩
  | succ i =>
   obtain⟨w,B1,e2,q,sb⟩:=R.get (ds:=ds) (i:=i) h2 (by simpa using e)
   exact⟨w,B1,by simpa using e2,q,λx hx=>dQ _ (sb hx)⟩
theorem S.get:∀{ds:List D} {vs:List V} {i:Nat},S F H ds vs->ds[i]?=some d->∃v,vs[i]?=some v/\S F H [d] [v]
 | [],_,_,_,e=>by simp at e
 | d'::ds,_,i,r,e=>by
  obtain⟨v,cj,rfl,h1,h2⟩:=r.cL
  cases i with
  | zero=>simp at e;subst e;exact⟨v,rfl,h1⟩
  | succ i =>
   obtain⟨w,e2,q⟩:=S.get (ds:=ds) (i:=i) h2 (by simpa using e)
   exact⟨w,by simpa using e2,q⟩
theorem S.get':∀{ds:List D} {vs:List V} {i:Nat},S F H ds vs->vs[i]?=some v->∃d,ds[i]?=some d/\S F H [d] [v]
 | [],_,_,r,e=>by cases r;simp at e
 | d'::ds,_,i,r,e=>by
  obtain⟨v,cj,rfl,h1,h2⟩:=r.cL
  cases i with
  | zero=>simp at e;subst e;exact⟨d',rfl,h1⟩
  | succ i =>
   obtain⟨w,e2,q⟩:=S.get' (ds:=ds) (i:=i) h2 (by simpa using e)
   exact⟨w,by simpa using e2,q⟩
theorem S.take:∀{ds:List D} {vs:List V} (n:Nat),S F H ds vs->S F H (ds.take n) (vs.take n)
 | _,_,0,r=>by simpa using S.nil
 | [],_,n+1,r=>by cases r;exact .nil
 | d::ds,_,n+1,r=>by
  obtain⟨v,cj,rfl,h1,h2⟩:=r.cL
  exact h1.cons (S.take n h2)
theorem S.drop:∀{ds:List D} {vs:List V} (n:Nat),S F H ds vs->S F H (ds.drop n) (vs.drop n)
 | _,_,0,r=>by simpa using r
 | [],_,n+1,r=>by cases r;exact .nil
 | d::ds,_,n+1,r=>by
  obtain⟨v,cj,rfl,h1,h2⟩:=r.cL
  exact S.drop n h2
theorem gz{p:Addr}{o:HO}(h:Rd F p o)(s:aa F F')(n:gW o=true:=by rfl):Rd F' p o:=by
 rcases h with h | ⟨u,h⟩
 ·exact .inl (s.get _ _ h n)
 ·exact .inr ⟨u,s _ _ h⟩
theorem R.s(r:R F H ds vs A):S F H ds vs:=by
 induction r with
 | nil=>exact .nil
 | ak _ ih=>exact .ak ih
 | bl _ ih=>exact .bl ih
 | int _ ih=>exact .int ih
 | str _ ih=>exact .str ih
 | shr h x _ _ ih=>exact .shr h x ih
 | own h f _ _ i1 i2=>exact .own h i1 i2
 | tup h _ _ i1 i2=>exact .tup h i1 i2
 | obj h l x _ _ ih=>exact .obj h l x ih
 | fz h x _ _ ih=>exact .fz h x ih
 | aX h _ ih=>exact .aX h ih
structure fV(W:List Addr)(H H':Hp):Prop where
 get:∀a o,H a=some o->a ∉ W->(h:gW o=true:=by rfl)->H' a=some o
noncomputable instance {W:List Addr} {H H':Hp}:CoeFun (fV W H H') λ_=>∀a o,H a=some o->a ∉ W->(h:gW o=true:=by rfl)->H' a=some o:=⟨λs=>@fV.get _ _ _ s⟩
noncomputable def gY(W:List Addr)(H:Hp):Prop:=∀a∈W,∃ws,H a=some (.lst ws)
theorem R.keep{W:List Addr}(hf:aa F F')(hb:fV W H H')(hl:gY W H)(r:R F H ds vs A)(hn:∀a∈A,F' a=none)(hd:∀a∈A,a ∉ W):R F' H' ds vs A:=by
 induction r with
 | nil=>exact .nil
 | ak _ ih=>exact .ak (ih hn hd)
 | bl _ ih=>exact .bl (ih hn hd)
 | int _ ih=>exact .int (ih hn hd)
 | str _ ih=>exact .str (ih hn hd)
 | shr h x _ i1 ih=>exact .shr (hf _ _ h) (i1 (by simp) (by simp)) (ih hn hd)
 | own h f _ _ i1 i2 =>
  refine .own (hb _ _ h (hd _ (by simp))) (hn _ (by simp)) (i1 (λa ha=>hn a ?_) λa ha=>hd a ?_) (i2 (λa ha=>hn a ?_) λa ha=>hd a ?_)<;>simp[ha]
 | @tup p ws _ _ _ _ _ h _ _ i1 i2 =>
  refine .tup (hb _ _ h λz=>?_) (i1 (λa ha=>hn a ?_) λa ha=>hd a ?_) (i2 (λa ha=>hn a ?_) λa ha=>hd a ?_)<;>try simp[ha]
  obtain⟨q,e⟩:=hl _ z
  rw[h]at e;cases e
 | obj h l x _ i1 ih =>
  refine .obj (hb _ _ h λz=>?_) l (i1 (by simp) (by simp)) (ih hn hd)
  obtain⟨q,e⟩:=hl _ z
  rw[h]at e;cases e
 | fz h x _ i1 ih=>exact .fz (hf _ _ h) (i1 (by simp) (by simp)) (ih hn hd)
 | aX h _ ih =>
  exact .aX (h.mono λa o e n t=>hb.get a o e (λz=>by
   obtain⟨q,e'⟩:=hl _ z
   rw[e]at e';cases e';exact n _ rfl) t) (ih hn hd)
theorem fV.same(h:aa H H'):fV [] H H':=⟨λa o e _ n=>h.get a o e n⟩
theorem gY.nil:gY [] H:=λa h=>absurd h (by simp)
theorem R.grow(hf:aa F F')(hb:aa H H')(r:R F H ds vs A)(hn:∀a∈A,F' a=none):R F' H' ds vs A :=
 r.keep hf (fV.same hb) gY.nil hn (by simp)
theorem R.shared(hf:aa F F')(hb:aa H H')(r:R F H ds vs []):R F' H' ds vs []:=r.grow hf hb (by simp)
theorem S.mono(hf:aa F F')(hb:aa H H')(r:S F H ds vs):S F' H' ds vs:=by
 induction r with
 | nil=>exact .nil
 | ak _ ih=>exact .ak ih
 | bl _ ih=>exact .bl ih
 | int _ ih=>exact .int ih
 | str _ ih=>exact .str ih
 | shr h x _ ih=>exact .shr (hf _ _ h) (x.shared hf hb) ih
 | own h _ _ i1 i2=>exact .own (hb _ _ h) i1 i2
 | tup h _ _ i1 i2=>exact .tup (hb _ _ h) i1 i2
 | obj h l x _ ih=>exact .obj (hb _ _ h) l (x.shared hf hb) ih
 | fz h x _ ih=>exact .fz (hf _ _ h) (x.shared hf hb) ih
 | aX h _ ih=>exact .aX (h.mono λa o e _ t=>hb.get a o e t) ih
theorem S.r(s:S F H ds vs)(p:ds.all D.pl=true):R F H ds vs []:=by
 induction s with
 | nil=>exact .nil
 | ak _ ih=>exact .ak (ih (by simpa[D.pl]using p))
 | bl _ ih=>exact .bl (ih (by simpa[D.pl]using p))
 | int _ ih=>exact .int (ih (by simpa[D.pl]using p))
 | str _ ih=>exact .str (ih (by simpa[D.pl]using p))
 | shr h x _ ih=>exact .shr h x (ih (by simp[gX]at p;simpa using p.2))
 | own h _ _ i1 i2=>simp[gX]at p
 | tup h _ _ i1 i2 =>
  rw[dX,j5,du]at p
  simpa using R.tup h (i1 p.1) (i2 p.2)
 | obj h l x _ ih=>exact .obj h l x (ih (by simpa[D.pl]using p))
 | fz h x _ ih=>exact .fz h x (ih (by simpa[D.pl]using p))
 | aX h _ ih=>exact .aX h (ih (by simpa[D.pl]using p))
theorem R.pl(r:R F H ds vs []):ds.all D.pl=true:=by
 generalize e:([]:List Addr)=A at r
 induction r with
 | nil=>rfl
 | ak _ ih=>simp[D.pl];simpa using ih e
 | bl _ ih=>simp[D.pl];simpa using ih e
 | int _ ih=>simp[D.pl];simpa using ih e
 | str _ ih=>simp[D.pl];simpa using ih e
 | shr h x _ i1 ih=>simp only[dX,gX,i1 rfl,ih e];rfl
 | own h f _ _ i1 i2=>cases e
 | tup h _ _ i1 i2 =>
  obtain⟨e1,e2⟩:=Ct.mp e.symm
  simp only[dX,j5,i1 e1.symm,i2 e2.symm];rfl
 | obj h l x _ i1 ih=>simp[D.pl];simpa using ih e
 | fz h x _ i1 ih=>simp[D.pl];simpa using ih e
 | aX h _ ih=>simp[D.pl];simpa using ih e
theorem D.zJ:∀{d:D},d.pl=true->d.sh=d
 | .ak,_=>rfl
 | .bl _,_=>rfl
 | .int _,_=>rfl
 | .str _,_=>rfl
 | .obj _ _ _,_=>rfl
 | .fz _,_=>rfl
 | .aX _,_=>rfl
 | .lst o xs,h=>by
  rw[gX,du]at h
  have:∀(l:List D),(∀x∈l,x∈xs)->l.all D.pl=true->l.map D.sh=l:=by
   intro l hl hp
   induction l with
   | nil=>rfl
   | cons x l ih =>
    simp only[dX,du]at hp
    have hx:x∈xs:=hl x (by simp)
    rw[dW,D.zJ hp.1,ih (λy hy=>hl y (by simp[hy])) hp.2]
  rw[eB,this xs (λ_ h=>h) h.2]
  cases o<;>simp_all
 | .tup xs,h=>by
  rw[j5]at h
  have:∀(l:List D),(∀x∈l,x∈xs)->l.all D.pl=true->l.map D.sh=l:=by
   intro l hl hp
   induction l with
   | nil=>rfl
   | cons x l ih =>
    simp only[dX,du]at hp
    have hx:x∈xs:=hl x (by simp)
    rw[dW,D.zJ hp.1,ih (λy hy=>hl y (by simp[hy])) hp.2]
  rw[kY,this xs (λ_ h=>h) h]
termination_by d=>sizeOf d
theorem j6{l:List D}(h:l.all D.pl=true):l.map D.sh=l:=by
 induction l with
 | nil=>rfl
 | cons x l ih =>
  simp only[dX,du]at h
  rw[dW,D.zJ h.1,ih h.2]
theorem S.frozen(e:aa F H)(s:S F H ds vs):R H H (ds.map D.sh) vs []:=by
 induction s with
 | nil=>exact .nil
 | ak _ ih=>exact .ak ih
 | bl _ ih=>exact .bl ih
 | int _ ih=>exact .int ih
 | str _ ih=>exact .str ih
 | shr h x _ ih =>
  rw[dW,eB,j6 x.pl]
  exact .shr (e _ _ h) (x.shared e (aa.refl _)) ih
 | own h _ _ i1 i2=>rw[dW,eB];exact .shr h i1 i2
 | tup h _ _ i1 i2=>rw[dW,kY];simpa using R.tup h i1 i2
 | obj h l x _ ih=>exact .obj h l (x.shared e (aa.refl _)) ih
 | fz h x _ ih=>exact .fz (e _ _ h) (x.shared e (aa.refl _)) ih
 | aX h _ ih=>exact .aX h ih
noncomputable def bQ(F H:Hp)(A:List Addr):Hp:=λa=>if a∈A then H a else F a
theorem j7(e:aa F H):aa F (bQ F H A):=⟨λa o h n=>by unfold bQ;split;exact e.get _ _ h n;exact h,λa ps h=>by unfold bQ;split;exact e.tb _ _ h;exact⟨#[],by rw[h];simp⟩⟩
theorem NN(e:aa F H):aa (bQ F H A) H:=⟨λa o h n=>by unfold bQ at h;split at h;exact h;exact e.get _ _ h n,λa ps h=>by unfold bQ at h;split at h;exact⟨#[],by rw[h];simp⟩;exact e.tb _ _ h⟩
theorem zK{a:Addr}(h:a ∉ A):bQ F H A a=F a:=by unfold bQ;rw[if_neg h]
theorem YT{a:Addr}(h:a∈A):bQ F H A a=H a:=by unfold bQ;rw[if_pos h]
theorem R.bQ(e:aa F H)(r:R F H ds vs A):∀A',A ⊆ A'->R (L3.bQ F H A') H (ds.map D.sh) vs []:=by
 induction r with
 | nil=>exact λ_ _=>.nil
 | ak _ ih=>exact λA' h=>.ak (ih A' h)
 | bl _ ih=>exact λA' h=>.bl (ih A' h)
 | int _ ih=>exact λA' h=>.int (ih A' h)
 | str _ ih=>exact λA' h=>.str (ih A' h)
 | shr h x _ i1 ih =>
  intro A' hA
  rw[dW,eB,j6 x.pl]
  exact .shr (j7 e _ _ h) (x.shared (j7 e) (aa.refl _)) (ih A' hA)
 | own h f _ _ i1 i2 =>
  intro A' hA
  rw[dW,eB]
  exact .shr ((YT (hA (by simp))).trans h) (i1 A' λa ha=>hA (by simp[ha])) (i2 A' λa ha=>hA (by simp[ha]))
 | tup h _ _ i1 i2 =>
  intro A' hA
  rw[dW,kY]
  simpa using R.tup h (i1 A' λa ha=>hA (by simp[ha])) (i2 A' λa ha=>hA (by simp[ha]))
 | obj h l x _ i1 ih=>exact λA' hA=>.obj h l (x.shared (j7 e) (aa.refl _)) (ih A' hA)
 | fz h x _ i1 ih=>exact λA' hA=>.fz (j7 e _ _ h) (x.shared (j7 e) (aa.refl _)) (ih A' hA)
 | aX h _ ih=>exact λA' hA=>.aX h (ih A' hA)
theorem R.lists(r:R F H ds vs A):∀a∈A,(∃ws,H a=some (.lst ws))/\F a=none:=by
 induction r with
 | nil=>simp
 | ak _ ih=>exact ih
 | bl _ ih=>exact ih
 | int _ ih=>exact ih
 | str _ ih=>exact ih
 | shr h x _ i1 ih=>exact ih
 | own h f _ _ i1 i2 =>
  intro a ha
  rcases bU.mp ha with rfl | ha
  ·exact⟨⟨_,h⟩,f⟩
  ·exact(cx.mp ha).elim (i1 a) (i2 a)
 | tup h _ _ i1 i2=>exact λa ha=>(cx.mp ha).elim (i1 a) (i2 a)
 | obj h l x _ i1 ih=>exact ih
 | fz h x _ i1 ih=>exact ih
 | aX h _ ih=>exact ih
theorem R.D3(r:R F H ds vs A)(hd:ds.all D.fr=true)(e:aa F' F):R F' H ds vs A:=by
 induction r with
 | nil=>exact .nil
 | ak _ ih=>exact .ak (ih (by simpa[D.fr]using hd))
 | bl _ ih=>exact .bl (ih (by simpa[D.fr]using hd))
 | int _ ih=>exact .int (ih (by simpa[D.fr]using hd))
 | str _ ih=>exact .str (ih (by simpa[D.fr]using hd))
 | shr h x _ i1 ih=>simp[fU]at hd
 | own h f _ _ i1 i2 =>
  rw[dX,fU,du,og]at hd
  exact .own h (e.free f) (i1 hd.1) (i2 hd.2)
 | tup h _ _ i1 i2 =>
  rw[dX,oY,du]at hd
  exact .tup h (i1 hd.1) (i2 hd.2)
 | obj h l x _ i1 ih=>simp[D.fr]at hd
 | fz h x _ i1 ih=>simp[D.fr]at hd
 | aX h _ ih=>exact .aX h (ih (by simpa[D.fr]using hd))
theorem R.inj(r:R F H ds vs A):∀{B:List Addr},R F H ds vs B->A=B:=by
 induction r with
 | nil=>intro B q;cases q;rfl
 | ak _ ih=>intro B q;cases q with | ak q=>exact ih q
 | bl _ ih=>intro B q;cases q with | bl q=>exact ih q
 | int _ ih=>intro B q;cases q with | int q=>exact ih q
 | str _ ih=>intro B q;cases q with | str q=>exact ih q
 | shr h x _ i1 ih=>intro B q;cases q with | shr _ _ q=>exact ih q
 | own h f _ _ i1 i2 =>
  intro B q
  cases q with
  | own h' f' x' q =>
   rw[h]at h';cases h'
   rw[i1 x',i2 q]
 | tup h _ _ i1 i2 =>
  intro B q
  cases q with
  | tup h' x' q =>
   rw[h]at h';cases h'
   rw[i1 x',i2 q]
 | obj h l x _ i1 ih=>intro B q;cases q with | obj _ _ _ q=>exact ih q
 | fz h x _ i1 ih=>intro B q;cases q with | fz _ _ q=>exact ih q
 | aX h _ ih=>intro B q;cases q with | aX _ q=>exact ih q
theorem R.perm{ps qs:List (D × V)}(hp:ps.Perm qs):∀{A:List Addr},R F H (ps.map (·.1)) (ps.map (·.2)) A->∃A',R F H (qs.map (·.1)) (qs.map (·.2)) A'/\A.Perm A':=by
 induction hp with
 | nil=>exact λr=>⟨_,r,.refl _⟩
 | cons x _ ih =>
  intro A r
  obtain⟨v,cj,A1,A2,e,rfl,h1,h2⟩:=R.cL r
  obtain⟨rfl,rfl⟩:=oh e
  obtain⟨A',r',p⟩:=ih h2
  exact⟨A1++A',h1.cons r',p.append_left _⟩
 | swap x y l =>
  intro A r
  obtain⟨v,cj,A1,A2,e,rfl,h1,h2⟩:=R.cL r
  obtain⟨rfl,rfl⟩:=oh e
  obtain⟨v2,NO,B1,B2,e,rfl,h3,h4⟩:=R.cL h2
  obtain⟨rfl,rfl⟩:=oh e
  exact⟨B1++(A1++B2),h3.cons (h1.cons h4),by rw[<-dY,<- dY];exact mP.append_right _⟩
 | trans _ _ i1 i2 =>
  intro A r
  obtain⟨A',r',p⟩:=i1 r
  obtain⟨A2,r2,p2⟩:=i2 r'
  exact⟨A2,r2,p.trans p2⟩
noncomputable def Full(F H:Hp):Prop:=∀a o,H a=some o->(∀ws,o≠.lst ws)->F a=some o
theorem Full.refl(H:Hp):Full H H:=λ_ _ h _=>h
theorem R.full(hF:Full F H)(hs:aa F H')(r:R F H ds vs A)(e:A=[]):R F H' ds vs []:=by
 induction r with
 | nil=>exact .nil
 | ak _ ih=>exact .ak (ih e)
 | bl _ ih=>exact .bl (ih e)
 | int _ ih=>exact .int (ih e)
 | str _ ih=>exact .str (ih e)
 | shr h x _ i1 ih=>exact .shr h (i1 rfl) (ih e)
 | own h f _ _ i1 i2=>cases e
 | tup h _ _ i1 i2 =>
  obtain⟨e1,e2⟩:=Ct.mp e
  exact R.tup (A:=[]) (B:=[]) (hs _ _ (hF _ _ h (by intro ws z;cases z))) (i1 e1) (i2 e2)
 | obj h l x _ i1 ih=>exact .obj (hs _ _ (hF _ _ h (by intro ws z;cases z))) l (i1 rfl) (ih e)
 | fz h x _ i1 ih=>exact .fz h (i1 rfl) (ih e)
 | aX h _ ih=>exact .aX (h.mono λa o e n t=>hs.get a o (hF a o e n) t) (ih e)
open Classical in
noncomputable def snap(F H:Hp):Hp:=λa=>if(∃o,H a=some o/\∀ws,o≠.lst ws)then H a else F a
theorem rh:Full (snap F H) H:=λa o h n=>by unfold snap;rw[if_pos ⟨o,h,n⟩];exact h
theorem oZ(e:aa F H):aa F (snap F H):=⟨λa o h n=>by
 unfold snap;split
 ·exact e.get a o h n
 ·exact h,λa ps h=>by
 unfold snap;split
 ·exact e.tb a ps h
 ·exact⟨#[],by rw[h];simp⟩⟩
theorem YU(e:aa F H):aa (snap F H) H:=⟨λa o h n=>by
 unfold snap at h;split at h
 ·exact h
 ·exact e.get a o h n,λa ps h=>by
 unfold snap at h;split at h
 ·exact⟨#[],by rw[h];simp⟩
 ·exact e.tb a ps h⟩
theorem YV(e:aa F H){a:Addr}{ws:List V}(h:snap F H a=some (.lst ws)):F a=some (.lst ws):=by
 unfold snap at h;split at h
 ·rename_i z
  obtain⟨o,h1,h2⟩:=z
  rw[h]at h1;exact absurd (cM h1).symm (h2 ws)
 ·exact h
theorem YW{a:Addr}{ws:List V}(h:H a=some (.lst ws))(n:F a=none):snap F H a=none:=by
 unfold snap;split
 ·rename_i z
  obtain⟨o,h1,h2⟩:=z
  rw[h]at h1;exact absurd (cM h1).symm (h2 ws)
 ·exact n
end
end L3
namespace L3
open PySem L2
noncomputable abbrev Dl:=List (Option D)
inductive RS(F H:Hp):Dl->St->List Addr->Prop
 | nil:RS F H [] [] []
 | ak {δ σ o C}:RS F H δ σ C->RS F H (none::δ) (o::σ) C
 | fh {d v A δ σ C}:R F H [d] [v] A->RS F H δ σ C->RS F H (some d::δ) (some v::σ) (A++C)
theorem fi{A B:List Addr}:(A++B).Nodup↔A.Nodup/\B.Nodup/\∀a∈A,a ∉ B:=by
 rw[List.nodup_append]
 constructor
 ·rintro⟨h1,h2,h3⟩;exact⟨h1,h2,λa ha hb=>h3 a ha a hb rfl⟩
 ·rintro⟨h1,h2,h3⟩;exact⟨h1,h2,λa ha b hb e=>h3 a ha (e ▸ hb)⟩
section
variable{F F' H H':Hp}{d:D}{v:V}{δ:Dl}{σ:St}{A C:List Addr}{i:Nat}
theorem RS.length(r:RS F H δ σ C):δ.length=σ.length:=by induction r<;>simp_all
theorem RS.pick:∀{δ:Dl} {σ:St} {C:List Addr} {i:Nat},RS F H δ σ C->δ[i]?=some (some d)->∃v A C',σ[i]?=some (some v)/\R F H [d] [v] A/\RS F H (δ.set i none) σ C'/\C.Perm (A++C')
 | _,_,_,_,.nil,e=>by simp at e
 | _,_,_,i,.ak r,e=>by
  cases i with
  | zero=>simp at e
  | succ i =>
   obtain⟨v,A,C',e1,h1,h2,p⟩:=RS.pick r (by simpa using e)
   exact⟨v,A,C',by simpa using e1,h1,.ak h2,p⟩
 | _,_,_,i,.fh (A:=A0) (C:=C0) h r,e=>by
  cases i with
  | zero =>
   simp at e;subst e
   exact⟨_,A0,C0,rfl,h,.ak r,.refl _⟩
  | succ i =>
   obtain⟨v,A,C',e1,h1,h2,p⟩:=RS.pick r (by simpa using e)
   refine⟨v,A,A0++C',by simpa using e1,h1,.fh h h2,(p.append_left A0).trans ?_⟩
   rw[<-dY,<- dY]
   exact mP.append_right _
theorem RS.fill:∀{δ:Dl} {σ:St} {C:List Addr} {i:Nat},RS F H δ σ C->δ[i]?=some none->σ[i]?=some (some v)->R F H [d] [v] A->∃C',RS F H (δ.set i (some d)) σ C'/\C'.Perm (A++C)
 | _,_,_,_,.nil,e,_,_=>by simp at e
 | _,_,_,i,.ak r,e,e2,h=>by
  cases i with
  | zero=>simp at e2;subst e2;exact⟨_,.fh h r,.refl _⟩
  | succ i =>
   obtain⟨C',h1,p⟩:=RS.fill r (by simpa using e) (by simpa using e2) h
   exact⟨C',.ak h1,p⟩
 | _,_,_,i,.fh (A:=A0) (C:=C0) h0 r,e,e2,h=>by
  cases i with
  | zero=>simp at e
  | succ i =>
   obtain⟨C',h1,p⟩:=RS.fill r (by simpa using e) (by simpa using e2) h
   refine⟨A0++C',.fh h0 h1,(p.append_left A0).trans ?_⟩
   rw[<-dY,<- dY]
   exact mP.append_right _
theorem RS.drop:∀{δ:Dl} {σ:St} {C:List Addr} (i:Nat),RS F H δ σ C->∃C',RS F H (δ.set i none) σ C'/\C'.Sublist C
 | _,_,_,_,.nil=>⟨_,.nil,.refl _⟩
 | _,_,_,i,.ak r=>by
  cases i with
  | zero=>exact⟨_,.ak r,.refl _⟩
  | succ i=>obtain⟨C',h,s⟩:=RS.drop i r;exact⟨C',.ak h,s⟩
 | _,_,_,i,.fh (A:=A0) h0 r=>by
  cases i with
  | zero=>exact⟨_,.ak r,List.sublist_append_right _ _⟩
  | succ i=>obtain⟨C',h,s⟩:=RS.drop i r;exact⟨_,.fh h0 h,(LO A0).append s⟩
theorem RS.v9:∀{δ:Dl} {σ:St} {C:List Addr} {i:Nat} (o:Option V),RS F H δ σ C->(δ[i]?=some none\/δ[i]?=none)->RS F H δ (σ.set i o) C
 | _,_,_,_,_,.nil,_=>.nil
 | _,_,_,i,_,.ak r,e=>by
  cases i with
  | zero=>exact .ak r
  | succ i=>exact .ak (RS.v9 _ r (by simpa using e))
 | _,_,_,i,_,.fh h0 r,e=>by
  cases i with
  | zero=>simp at e
  | succ i=>exact .fh h0 (RS.v9 _ r (by simpa using e))
theorem RS.keep{W:List Addr}(hf:aa F F')(hb:fV W H H')(hl:gY W H)(r:RS F H δ σ C)(hn:∀a∈C,F' a=none)(hd:∀a∈C,a ∉ W):RS F' H' δ σ C:=by
 induction r with
 | nil=>exact .nil
 | ak _ ih=>exact .ak (ih hn hd)
 | fh h _ ih=>exact .fh (h.keep hf hb hl (λa ha=>hn a (by simp[ha])) λa ha=>hd a (by simp[ha])) (ih (λa ha=>hn a (by simp[ha])) λa ha=>hd a (by simp[ha]))
theorem RS.lists(r:RS F H δ σ C):∀a∈C,(∃ws,H a=some (.lst ws))/\F a=none:=by
 induction r with
 | nil=>simp
 | ak _ ih=>exact ih
 | fh h _ ih=>exact λa ha=>(cx.mp ha).elim (h.lists a) (ih a)
theorem RS.none_of:∀{δ:Dl} {σ:St} {C:List Addr} {ax:St},RS F H δ σ C->ax.length=σ.length->RS F H (ax.map λ_=>none) ax []
 | _,_,_,[],_,_=>.nil
 | _,_,_,o::ax,.nil,e=>by simp at e
 | _,_,_,o::ax,.ak r,e=>.ak (RS.none_of r (by simpa using e))
 | _,_,_,o::ax,.fh _ r,e=>.ak (RS.none_of r (by simpa using e))
end
structure Bs where
 H0:Hp
 F0:Hp
structure aj(B:Bs)(F H:Hp)(σ:St)(δ:Dl)(ts:List (D × V)):Prop where
 ext:aa F H
 b1:aa B.H0 H
 b2:aa B.F0 F
 b3:∀a ws,F a=some (.lst ws)->B.F0 a=some (.lst ws)\/B.H0 a=none
 own:∃A C,R F H (ts.map (·.1)) (ts.map (·.2)) A/\RS F H δ σ C/\(A++C).Nodup/\∀a∈A++C,B.H0 a=none
section
variable{B:Bs}{F F' H H':Hp}{d:D}{v:V}{δ:Dl}{σ:St}{ts ps:List (D × V)}{A C W:List Addr}{i:Nat}{p:Addr}{xs ys:List D}{vs ws:List V}
theorem aj.look(c:aj B F H σ δ ts)(e:δ[i]?=some (some d)):∃v,σ[i]?=some (some v)/\S F H [d] [v]:=by
 obtain⟨A,C,r,s,nd,fr⟩:=c.own
 obtain⟨v,A',C',e1,h1,h2,p⟩:=s.pick e
 exact⟨v,e1,h1.s⟩
theorem aj.len(c:aj B F H σ δ ts):δ.length=σ.length:=let⟨_,_,_,s,_⟩:=c.own;s.length
theorem aj.grow(c:aj B F H σ δ ts)(h:aa H H'):aj B F H' σ δ ts:=by
 obtain⟨A,C,r,s,nd,fr⟩:=c.own
 exact⟨c.ext.trans h,c.b1.trans h,c.b2,c.b3,A,C,r.grow (aa.refl _) h λa ha=>(r.lists a ha).2,s.keep (aa.refl _) (fV.same h) gY.nil (λa ha=>(s.lists a ha).2) (by simp),nd,fr⟩
theorem aj.pop(c:aj B F H σ δ ((d,v)::ts)):aj B F H σ δ ts:=by
 obtain⟨A,C,r,s,nd,fr⟩:=c.own
 obtain⟨w,cj,A1,A2,e,rfl,h1,h2⟩:=R.cL r
 obtain⟨rfl,rfl⟩:=oh e
 refine⟨c.ext,c.b1,c.b2,c.b3,A2,C,h2,s,?_,λa ha=>fr a (by simp at ha ⊢;exact .inr ha)⟩
 rw[dY]at nd
 exact(fi.mp nd).2.1
theorem aj.top(c:aj B F H σ δ ((d,v)::ts)):S F H [d] [v]:=by
 obtain⟨A,C,r,s,nd,fr⟩:=c.own
 obtain⟨w,cj,A1,A2,e,rfl,h1,h2⟩:=R.cL r
 obtain⟨rfl,rfl⟩:=oh e
 exact h1.s
theorem aj.pushS(c:aj B F H σ δ ts)(s:S F H [d] [v])(pl:d.pl=true):aj B F H σ δ ((d,v)::ts):=by
 obtain⟨A,C,r,q,nd,fr⟩:=c.own
 exact⟨c.ext,c.b1,c.b2,c.b3,A,C,(s.r (by simp[pl])).cons r,q,nd,fr⟩
theorem aa.upd{o:HO}(h:H p=none):aa H (upd H p o):=.of λb u e=>by rw[aP (dZ e h)];exact e
theorem aj.pack(c:aj B F H σ δ (ps++ts))(hs:aa H H')(k:∀A1,R F H' (ps.map (·.1)) (ps.map (·.2)) A1->A1.Nodup->∃A',R F H' [d] [v] A'/\A'.Nodup/\∀a∈A',a∈A1\/H a=none):aj B F H' σ δ ((d,v)::ts):=by
 obtain⟨A,C,r,s,nd,fr⟩:=c.own
 rw[jQ,jQ]at r
 obtain⟨v1,v2,A1,A2,e,rfl,h1,h2⟩:=R.split r
 have l1:(ps.map (·.2)).length=v1.length:=by rw[<-h1.length];simp
 obtain⟨rfl,rfl⟩:=Cu e l1
 rw[dY]at nd fr
 obtain⟨n1,n2,n3⟩:=fi.mp nd
 have g1:=h1.grow (aa.refl F) hs λa ha=>(h1.lists a ha).2
 have g2:=h2.grow (aa.refl F) hs λa ha=>(h2.lists a ha).2
 have gs:=s.keep (aa.refl F) (fV.same hs) gY.nil (λa ha=>(s.lists a ha).2) (by simp)
 obtain⟨A',r',iF,sub⟩:=k A1 g1 n1
 refine⟨c.ext.trans hs,c.b1.trans hs,c.b2,c.b3,A'++A2,C,r'.cons g2,gs,?_,?_⟩
 ·rw[dY]
  refine fi.mpr ⟨iF,n2,λa ha hb=>?_⟩
  rcases sub a ha with z | z
  ·exact n3 a z hb
  ·rcases cx.mp hb with y | y
   ·obtain⟨⟨_,q⟩,_⟩:=h2.lists a y;rw[z]at q;cases q
   ·obtain⟨⟨_,q⟩,_⟩:=s.lists a y;rw[z]at q;cases q
 ·intro a ha
  rw[dY]at ha
  rcases cx.mp ha with y | y
  ·rcases sub a y with z | z
   ·exact fr a (by simp[z])
   ·exact c.b1.free z
  ·exact fr a (dQ _ y)
theorem aj.D4(c:aj B F H σ δ ts)(hs:aa H H')(r:R F H' [d] [v] A)(nd:A.Nodup)(fr:∀a∈A,H a=none):aj B F H' σ δ ((d,v)::ts) :=
 aj.pack (ps:=[]) c hs λ_ _ _=>⟨A,r,nd,λa ha=>.inr (fr a ha)⟩
theorem aj.kZ(c:aj B F H σ δ ts)(hp:H p=none)(s:S F H xs vs)(pl:xs.all D.pl=true):aj B F (upd H p (.lst vs)) σ δ ((.lst true xs,.ref p)::ts) :=
 c.D4 (aa.upd hp) (A:=[p]) (by simpa using R.own bW (c.ext.free hp) ((s.r pl).shared (aa.refl _) (aa.upd hp)) .nil) (by simp) (by simp[hp])
theorem aj.YX(c:aj B F H σ δ (ps++ts))(hp:H p=none):aj B F (upd H p (.lst (ps.map (·.2)))) σ δ ((.lst true (ps.map (·.1)),.ref p)::ts):=by
 refine c.pack (aa.upd hp) λA1 r nd=>⟨p::A1,by simpa using R.own bW (c.ext.free hp) r .nil,ij.mpr ⟨λh=>?_,nd⟩,λa ha=>?_⟩
 ·obtain⟨A,C,r0,_,_,_⟩:=c.own
  rw[jQ,jQ]at r0
  obtain⟨v1,v2,B1,B2,e,rfl,h1,h2⟩:=R.split r0
  have l1:(ps.map (·.2)).length=v1.length:=by rw[<-h1.length];simp
  obtain⟨rfl,rfl⟩:=Cu e l1
  have g1:=h1.grow (aa.refl F) (aa.upd (o:=.lst (ps.map (·.2))) hp) λa ha=>(h1.lists a ha).2
  have:A1=B1:=R.inj r g1
  subst this
  obtain⟨⟨_,q⟩,_⟩:=h1.lists p h
  rw[hp]at q;cases q
 ·rcases bU.mp ha with rfl | h
  ·exact .inr hp
  ·exact .inl h
theorem aj.YY(c:aj B F H σ δ (ps++ts))(hp:H p=none):aj B F (upd H p (.tup (ps.map (·.2)))) σ δ ((.tup (ps.map (·.1)),.ref p)::ts) :=
 c.pack (aa.upd hp) λA1 r nd=>⟨A1,by simpa using R.tup (F:=F) bW r .nil,nd,λa ha=>.inl ha⟩
theorem aj.perm(c:aj B F H σ δ ps)(h:ps.Perm ts):aj B F H σ δ ts:=by
 obtain⟨A,C,r,s,nd,fr⟩:=c.own
 obtain⟨A',r',p⟩:=r.perm h
 have pp:=p.append_right C
 exact⟨c.ext,c.b1,c.b2,c.b3,A',C,r',s,pp.nodup_iff.mp nd,λa ha=>fr a (pp.mem_iff.mpr ha)⟩
theorem aj.move(c:aj B F H σ δ ts)(e:δ[i]?=some (some d)):∃v,σ[i]?=some (some v)/\aj B F H σ (δ.set i none) ((d,v)::ts):=by
 obtain⟨A,C,r,s,nd,fr⟩:=c.own
 obtain⟨v,A',C',e1,h1,h2,p⟩:=s.pick e
 have pp:(A++C).Perm ((A'++A)++C'):=by
  refine(p.append_left A).trans ?_
  rw[<-dY]
  exact mP.append_right _
 exact⟨v,e1,c.ext,c.b1,c.b2,c.b3,A'++A,C',h1.cons r,h2,pp.nodup_iff.mp nd,λa ha=>fr a (pp.mem_iff.mpr ha)⟩
theorem aj.forget(c:aj B F H σ δ ts)(i:Nat):aj B F H σ (δ.set i none) ts:=by
 obtain⟨A,C,r,s,nd,fr⟩:=c.own
 obtain⟨C',h,sb⟩:=s.drop i
 exact⟨c.ext,c.b1,c.b2,c.b3,A,C',r,h,nd.sublist ((LO A).append sb),λa ha=>fr a (((LO A).append sb).subset ha)⟩
theorem aj.fill(c:aj B F H σ δ ((d,v)::ts))(e:δ[i]?=some none)(e2:σ[i]?=some (some v)):aj B F H σ (δ.set i (some d)) ts:=by
 obtain⟨A,C,r,s,nd,fr⟩:=c.own
 obtain⟨w,cj,A1,A2,e',rfl,h1,h2⟩:=R.cL r
 obtain⟨rfl,rfl⟩:=oh e'
 obtain⟨C',s',p⟩:=s.fill e e2 h1
 have pp:((A1++A2)++C).Perm (A2++C'):=by
  refine((mP (l₁:=A1) (l₂:=A2)).append_right C).trans ?_
  rw[dY]
  exact(p.symm).append_left A2
 exact⟨c.ext,c.b1,c.b2,c.b3,A2,C',h2,s',pp.nodup_iff.mp nd,λa ha=>fr a (pp.mem_iff.mpr ha)⟩
theorem aj.v9(c:aj B F H σ δ ts)(o:Option V)(e:δ[i]?=some none\/δ[i]?=none):aj B F H (σ.set i o) δ ts:=by
 obtain⟨A,C,r,s,nd,fr⟩:=c.own
 exact⟨c.ext,c.b1,c.b2,c.b3,A,C,r,s.v9 o e,nd,fr⟩
theorem aj.store(c:aj B F H σ δ ((d,v)::ts))(i:Nat):aj B F H (σ.set i (some v)) (δ.set i (some d)) ts:=by
 by_cases hi:i<δ.length
 ·have c1:=c.forget i
  have hs:i<σ.length:=by rw[<-c.len];exact hi
  have e:(δ.set i none)[i]?=some none:=by simp[hi]
  have c2:=(c1.v9 (some v) (.inl e)).fill (i:=i) e (by simp[hs])
  rwa [LP]at c2
 ·have hs:¬ i<σ.length:=by rw[<-c.len];exact hi
  rw[Ur (by omega),Ur (by omega)]
  exact c.pop
theorem aj.mut(c:aj B F H σ δ (ps++ts))(e:δ[i]?=some (some (.lst true xs)))(e2:σ[i]?=some (some (.ref p)))
  (k:∀ws A1 A2,H p=some (.lst ws)->R F H xs ws A1->R F H (ps.map (·.1)) (ps.map (·.2)) A2->(A1++A2).Nodup->∃A',R F H ys vs A'/\A'.Nodup/\∀a∈A',a∈A1++A2) :
  aj B F (upd H p (.lst vs)) σ (δ.set i (some (.lst true ys))) ts:=by
 have hi:i<δ.length:=(iW.mp e).1
 obtain⟨v,e3,c1⟩:=c.move e
 rw[e2]at e3;cases e3
 obtain⟨A,C,r,s,nd,fr⟩:=c1.own
 have r':R F H (([.lst true xs]++ps.map (·.1))++ts.map (·.1)) ((.ref p::ps.map (·.2))++ts.map (·.2)) A:=by simpa using r
 obtain⟨v1,v2,A1,A2,e4,rfl,h1,h2⟩:=R.split r'
 have l1:(V.ref p::ps.map (·.2)).length=v1.length:=by rw[<-h1.length];simp
 obtain⟨rfl,rfl⟩:=Cu e4 l1
 cases h1 with
 | @own _ wc _ B1 _ _ B2 hH hF hx hr =>
  rw[dY]at nd fr
  obtain⟨n1,n2,n3⟩:=fi.mp nd
  obtain⟨m1,m2⟩:=ij.mp n1
  obtain⟨A',ra,YZ,sub⟩:=k wc B1 B2 hH hx hr m2
  have pA:p ∉ A':=λz=>m1 (sub _ z)
  have pR:p ∉ A2++C:=λz=>n3 p (by simp) z
  have but:fV [p] H (upd H p (.lst vs)):=⟨λa o q z _=>by rw[aP (by simpa using z)];exact q⟩
  have hl:gY [p] H:=λa ha=>by rw[e8.mp ha];exact⟨_,hH⟩
  have g1:=ra.keep (aa.refl F) but hl (λa ha=>(ra.lists a ha).2) λa ha z=>pA (by rw[<-e8.mp z];exact ha)
  have g2:=h2.keep (aa.refl F) but hl (λa ha=>(h2.lists a ha).2) λa ha z=>pR (by rw[<-e8.mp z];exact e7 _ ha)
  have gs:=s.keep (aa.refl F) but hl (λa ha=>(s.lists a ha).2) λa ha z=>pR (by rw[<-e8.mp z];exact dQ _ ha)
  have fp:B.H0 p=none:=fr p (by simp)
  have b1:aa B.H0 (upd H p (.lst vs)):=⟨λa o q n=>by
   rw[aP (λz=>by rw[z,fp]at q;cases q)]
   exact c1.b1.get a o q n,λa ps q=>by
   rw[aP (λz=>by rw[z,fp]at q;cases q)]
   exact c1.b1.tb a ps q⟩
  have ext:aa F (upd H p (.lst vs)):=⟨λa o q n=>by
   rw[aP (λz=>by rw[z,hF]at q;cases q)]
   exact c1.ext.get a o q n,λa ps q=>by
   rw[aP (λz=>by rw[z,hF]at q;cases q)]
   exact c1.ext.tb a ps q⟩
  have c2:aj B F (upd H p (.lst vs)) σ (δ.set i none) ((.lst true ys,.ref p)::ts):=by
   refine⟨ext,b1,c1.b2,c1.b3,(p::A')++A2,C,R.cons (by simpa using R.own bW hF g1 .nil) g2,gs,?_,?_⟩
   ·rw[dY]
    refine fi.mpr ⟨ij.mpr ⟨pA,YZ⟩,n2,λa ha hb=>?_⟩
    rcases bU.mp ha with rfl | ha
    ·exact pR hb
    ·exact n3 a (fQ _ (sub a ha)) hb
   ·intro a ha
    rw[dY]at ha
    rcases cx.mp ha with z | z
    ·rcases bU.mp z with rfl | z
     ·exact fp
     ·exact fr a (e7 _ (fQ _ (sub a z)))
    ·exact fr a (dQ _ z)
  have c3:=c2.fill (i:=i) (by simp[hi]) e2
  rwa [LP]at c3
theorem aj.NP(c:aj B F H σ δ ((d,v)::ts)):∃F',aa F F'/\aj B F' H σ δ ((d.sh,v)::ts):=by
 obtain⟨A,C,r,s,nd,fr⟩:=c.own
 obtain⟨w,cj,A1,A2,e',rfl,h1,h2⟩:=R.cL r
 obtain⟨rfl,rfl⟩:=oh e'
 rw[dY]at nd fr
 obtain⟨n1,n2,n3⟩:=fi.mp nd
 have out:∀a∈A2++C,bQ F H A1 a=F a:=λa ha=>zK λz=>n3 a z ha
 have b3:∀a o,bQ F H A1 a=some (.lst o)->B.F0 a=some (.lst o)\/B.H0 a=none:=λa o q=>by
  by_cases z:a∈A1
  ·exact .inr (fr a (e7 _ z))
  ·rw[zK z]at q;exact c.b3 a o q
 refine⟨bQ F H A1,j7 c.ext,NN c.ext,c.b1,c.b2.trans (j7 c.ext),b3,A2,C,?_,?_,n2,λa ha=>fr a (dQ _ ha)⟩
 ·have g1:=h1.bQ c.ext A1 (λ_ h=>h)
  exact R.cons (A:=[]) g1 (h2.keep (j7 c.ext) (fV.same (aa.refl H)) gY.nil (λa ha=>by rw[out a (e7 _ ha)];exact(h2.lists a ha).2) (by simp))
 ·exact s.keep (j7 c.ext) (fV.same (aa.refl H)) gY.nil (λa ha=>by rw[out a (dQ _ ha)];exact(s.lists a ha).2) (by simp)
theorem aj.freeze(c:aj B F H σ δ ts)(e:δ[i]?=some (some d)):∃F',aa F F'/\aj B F' H σ (δ.set i (some d.sh)) ts:=by
 have hi:i<δ.length:=(iW.mp e).1
 obtain⟨v,e2,c1⟩:=c.move e
 obtain⟨F',s,c2⟩:=c1.NP
 refine⟨F',s,?_⟩
 have c3:=c2.fill (i:=i) (by simp[hi]) e2
 rwa [LP]at c3
theorem aj.rebase(c:aj B F H σ δ ts):aj ⟨B.H0,F⟩ F H σ δ ts:=⟨c.ext,c.b1,aa.refl _,λ_ _ q=>.inl q,c.own⟩
theorem aj.Y0{F1:Hp}(c:aj ⟨B.H0,F1⟩ F H σ δ ts)(h:aa B.F0 F1)(h3:∀a ws,F1 a=some (.lst ws)->B.F0 a=some (.lst ws)\/B.H0 a=none):aj B F H σ δ ts :=
 ⟨c.ext,c.b1,h.trans c.b2,λa o q=>(c.b3 a o q).elim (h3 a o) .inr,c.own⟩
theorem aj.only(c:aj B F H σ δ ts){ax:St}{ah:Dl}(h:RS F H ah ax []):aj B F H ax ah ts:=by
 obtain⟨A,C,r,s,nd,fr⟩:=c.own
 exact⟨c.ext,c.b1,c.b2,c.b3,A,[],r,h,by simpa using(fi.mp nd).1,λa ha=>fr a (by simp at ha;simp[ha])⟩
theorem aj.call(c:aj B F H σ δ ts)(hs:aa H H')(hf:aa F F')(he:aa F' H')(h3:∀a ws,F' a=some (.lst ws)->F a=some (.lst ws)\/H a=none)(r:R F' H' [d] [v] A)(nd:A.Nodup)(fr:∀a∈A,H a=none) :
  aj B F' H' σ δ ((d,v)::ts):=by
 obtain⟨A0,C,r0,s,Y1,Y2⟩:=c.own
 have no:∀a,(∃ws,H a=some (.lst ws))/\F a=none->F' a=none:=λa zz=>by
  obtain⟨⟨ws,e⟩,n⟩:=zz
  cases q:F' a with
  | none=>rfl
  | some o =>
   have q2:H' a=some o:=by
    cases n:gW o with
    | true=>exact he.get a o q n
    | false =>
     obtain⟨ps,rfl⟩:=D0 n
     obtain⟨m,z⟩:=he.tb a ps q
     rw[hs a _ e]at z
     cases z
   rw[hs a _ e]at q2
   cases q2
   rcases h3 a ws q with z | z
   ·rw[n]at z;cases z
   ·rw[e]at z;cases z
 refine⟨he,c.b1.trans hs,c.b2.trans hf,λa o q=>(h3 a o q).elim (c.b3 a o) λz=>.inr (c.b1.free z),A++A0,C,R.cons r (r0.grow hf hs λa ha=>no a (r0.lists a ha)),
  s.keep hf (fV.same hs) gY.nil (λa ha=>no a (s.lists a ha)) (by simp),?_,?_⟩
 ·rw[dY]
  refine fi.mpr ⟨nd,Y1,λa ha hb=>?_⟩
  have z:=fr a ha
  rcases cx.mp hb with y | y
  ·obtain⟨⟨_,q⟩,_⟩:=r0.lists a y;rw[z]at q;cases q
  ·obtain⟨⟨_,q⟩,_⟩:=s.lists a y;rw[z]at q;cases q
 ·intro a ha
  rw[dY]at ha
  rcases cx.mp ha with y | y
  ·exact c.b1.free (fr a y)
  ·exact Y2 a y
theorem aj.NQ(c:aj B F H σ δ ((d,v)::ts)):aj B F H (some v::σ) (some d::δ) ts:=by
 obtain⟨A,C,r,s,nd,fr⟩:=c.own
 obtain⟨w,cj,A1,A2,e',rfl,h1,h2⟩:=R.cL r
 obtain⟨rfl,rfl⟩:=oh e'
 have pp:((A1++A2)++C).Perm (A2++(A1++C)):=by
  rw[<-dY];exact mP.append_right C
 exact⟨c.ext,c.b1,c.b2,c.b3,A2,A1++C,h2,.fh h1 s,pp.nodup_iff.mp nd,λa ha=>fr a (pp.mem_iff.mpr ha)⟩
theorem aj.Y3{w:V}(c:aj B F H (some w::σ) (some d::δ) ts):aj B F H σ δ ((d,w)::ts):=by
 obtain⟨A,C,r,s,nd,fr⟩:=c.own
 cases s with
 | @fh _ _ A1 _ _ C1 h1 s =>
  have pp:(A++(A1++C1)).Perm ((A1++A)++C1):=by
   rw[<-dY];exact mP.append_right C1
  exact⟨c.ext,c.b1,c.b2,c.b3,A1++A,C1,R.cons h1 r,s,pp.nodup_iff.mp nd,λa ha=>fr a (pp.mem_iff.mpr ha)⟩
theorem aj.Y4(c:aj B F H σ δ ((d,v)::(.lst true xs,.ref p)::ts))(hp:H p=some (.lst ws)):aj B F (upd H p (.lst (ws++[v]))) σ δ ((.lst true (xs++[d]),.ref p)::ts):=by
 have c1:=(c.perm (List.Perm.swap _ _ _)).NQ
 refine(aj.mut (ps:=[(d,v)]) (i:=0) (ys:=xs++[d]) (vs:=ws++[v]) c1 rfl rfl λdv A1 A2 h r1 r2 nd=>?_).Y3
 rw[hp]at h;cases h
 exact⟨A1++A2,r1.append r2,nd,λa ha=>ha⟩
theorem aj.app(c:aj B F H σ δ ((d,v)::ts))(e:δ[i]?=some (some (.lst true xs)))(e2:σ[i]?=some (some (.ref p)))(hp:H p=some (.lst ws)) :
  aj B F (upd H p (.lst (ws++[v]))) σ (δ.set i (some (.lst true (xs++[d])))) ts :=
 aj.mut (ps:=[(d,v)]) c e e2 λdv A1 A2 h r1 r2 nd=>by
  rw[hp]at h;cases h
  exact⟨A1++A2,r1.append r2,nd,λa ha=>ha⟩
theorem R.NR:∀{xs:List D} {ws:List V} {A1 A2:List Addr} (j:Nat),R F H xs ws A1->R F H [d] [v] A2->(A1++A2).Nodup->∃A',R F H (xs.set j d) (ws.set j v) A'/\A'.Nodup/\∀a∈A',a∈A1++A2
 | [],_,A1,A2,j,r,q,nd=>by cases r;exact⟨[],.nil,by simp,by simp⟩
 | x::xs,_,A1,A2,j,r,q,nd=>by
  obtain⟨w,dv,B1,B2,rfl,rfl,h1,h2⟩:=r.cL
  rw[dY]at nd
  obtain⟨n1,n2,n3⟩:=fi.mp nd
  cases j with
  | zero =>
   refine⟨A2++B2,q.cons h2,(mP (l₁:=B2) (l₂:=A2)).nodup_iff.mp n2,λa ha=>?_⟩
   simp only[cx]at ha ⊢
   rcases ha with z | z
   ·exact .inr z
   ·exact .inl (.inr z)
  | succ j =>
   obtain⟨A',r',iF,sub⟩:=R.NR j h2 q n2
   refine⟨B1++A',h1.cons r',fi.mpr ⟨n1,iF,λa ha hb=>n3 a ha (sub a hb)⟩,λa ha=>?_⟩
   rcases cx.mp ha with z | z
   ·simp[z]
   ·have:=sub a z
    simp only[cx]at this ⊢
    rcases this with z | z
    ·exact .inl (.inr z)
    ·exact .inr z
theorem aj.Y5(c:aj B F H σ δ ((d,v)::ts))(e:δ[i]?=some (some (.lst true xs)))(e2:σ[i]?=some (some (.ref p)))(hp:H p=some (.lst ws))(j:Nat) :
  aj B F (upd H p (.lst (ws.set j v))) σ (δ.set i (some (.lst true (xs.set j d)))) ts :=
 aj.mut (ps:=[(d,v)]) c e e2 λdv A1 A2 h r1 r2 nd=>by
  rw[hp]at h;cases h
  exact r1.NR j r2 nd
theorem aj.ownAt(c:aj B F H σ δ ts)(e:δ[i]?=some (some (.lst true xs))):∃p ws,σ[i]?=some (some (.ref p))/\H p=some (.lst ws)/\xs.length=ws.length:=by
 obtain⟨v,e1,s⟩:=c.look e
 cases s with
 | own h x _=>exact⟨_,_,e1,h,x.length⟩
theorem RS.start{ds:List D}{vs:List V}(r:R F H ds vs [])(n:Nat):RS F H (ds.map some++aT n none) (vs.map some++aT n none) []:=by
 have z:∀n,RS F H (aT n none) (aT n none) []:=λn=>by
  induction n with
  | zero=>exact .nil
  | succ n ih=>exact .ak ih
 have:∀(ds:List D) (vs:List V),R F H ds vs []->RS F H (ds.map some++aT n none) (vs.map some++aT n none) []:=by
  intro ds
  induction ds with
  | nil=>intro vs r;cases r;exact z n
  | cons d ds ih =>
   intro vs r
   obtain⟨v,cj,A1,A2,rfl,e,h1,h2⟩:=r.cL
   obtain⟨rfl,rfl⟩:=Ct.mp e.symm
   exact .fh (A:=[]) h1 (ih _ h2)
 exact this ds vs r
theorem aj.start{ds:List D}{vs:List V}(e:aa F H)(r:R F H ds vs [])(n:Nat):aj ⟨H,F⟩ F H (vs.map some++aT n none) (ds.map some++aT n none) [] :=
 ⟨e,aa.refl _,aa.refl _,λ_ _ q=>.inl q,[],[],.nil,RS.start r n,by simp,by simp⟩
theorem aj.snap(c:aj B F H σ δ ts):aj B (L3.snap F H) H σ δ ts:=by
 obtain⟨A,C,r,s,nd,fr⟩:=c.own
 have no:∀a,(∃ws,H a=some (.lst ws))/\F a=none->L3.snap F H a=none:=λa ⟨⟨ws,e⟩,n⟩=>YW e n
 exact⟨YU c.ext,c.b1,c.b2.trans (oZ c.ext),λa ws q=>c.b3 a ws (YV c.ext q),A,C,r.grow (oZ c.ext) (aa.refl _) λa ha=>no a (r.lists a ha),
  s.keep (oZ c.ext) (fV.same (aa.refl _)) gY.nil (λa ha=>no a (s.lists a ha)) (by simp),nd,fr⟩
end
end L3
namespace L3
open PySem L2 PySem.Spec PyProof.Rows
noncomputable abbrev aI:=Dl->(D->Dl->Prop)->Prop
noncomputable abbrev fj:=Dl->(Bool->Dl->Prop)->Prop
noncomputable abbrev cq:=Dl->(List D->Dl->Prop)->Prop
structure rj where
 nx:Dl->Prop
 rt:D->Prop
 bk:Dl->Prop:=λ_=>False
 ct:Dl->Prop:=λ_=>False
 xc:Addr->Dl->Prop:=λ_ _=>False
 xr:Addr->Dl->Prop:=λ_ _=>False
noncomputable abbrev cC:=rj->Dl->Prop
noncomputable def lE(t:aI):TE:=λσ H Q=>∃B F δ ts Qd,aj B F H σ δ ts/\t δ Qd/\∀d ah v F' H',Qd d ah->aa F F'->aa H H'->aj B F' H' σ ah ((d,v)::ts)->Q v H'
noncomputable def lB(t:aI):TE:=λσ H Q=>∃B F δ ts Qd,aj B F H σ δ ts/\t δ Qd/\∀d ah v F' H',Qd d ah->aa F F'->aa H H'->aj B F' H' σ ah ts->S F' H' [d] [v]->Q v H'
noncomputable def lT(t:fj):TT:=λσ H Q=>∃B F δ ts Qd,aj B F H σ δ ts/\t δ Qd/\∀b ah F' H',Qd b ah->aa F F'->aa H H'->aj B F' H' σ ah ts->Q b H'
noncomputable def lA(t:cq):TA:=λσ H Q=>∃B F δ ts Qd,aj B F H σ δ ts/\t δ Qd/\∀ds ah vs F' H',Qd ds ah->aa F F'->aa H H'->aj B F' H' σ ah ts->S F' H' ds vs->Q vs H'
noncomputable def lO(t:cq):TA:=λσ H Q=>∃B F δ ts Qd,aj B F H σ δ ts/\t δ Qd/\∀(ps:List (D × V)) ah F' H',Qd (ps.map (·.1)) ah->aa F F'->aa H H'->aj B F' H' σ ah (ps++ts)->Q (ps.map (·.2)) H'
noncomputable def XL(X:Cx)(B:Bs)(Dd:rj):Prop :=
 (∀C ah pins ax F' H' s' a T,Dd.xc C ah->aj B F' H' ax ah []->Inv X pins ax H' s'->oU s'.heap a T (.ref C)->Apart X pins H' a->Apart X pins H' T->X.xe (.ref a) s') /\
 (∀C ah pins ax F' H' s' h' e vs,Dd.xr C ah->aj B F' H' ax ah []->Inv X pins ax H' s'->LM s'.heap h' e (.ref C) vs->X.xe (.ref e) { s' with heap:=h' })
theorem XL.none{X:Cx}{B:Bs}{Dd:rj}(h1:∀C δ,¬ Dd.xc C δ)(h2:∀C δ,¬ Dd.xr C δ):XL X B Dd:=⟨λC δ _ _ _ _ _ _ _ h=>absurd h (h1 C δ),λC δ _ _ _ _ _ _ _ _ h=>absurd h (h2 C δ)⟩
noncomputable def lS(X:Cx)(t:cC):TS:=λD σ H=>∃B F δ Dd,aj B F H σ δ []/\t Dd δ/\(∀ah ax F' H',Dd.nx ah->aj B F' H' ax ah []->D.nx ax H')/\(∀d v ah ax F' H',Dd.rt d->aj B F' H' ax ah [(d,v)]->D.rt v H') /\
 (∀ah ax F' H',Dd.bk ah->aj B F' H' ax ah []->D.bk ax H')/\(∀ah ax F' H',Dd.ct ah->aj B F' H' ax ah []->D.ct ax H')/\XL X B Dd
section
variable{X:Cx}{e a b c:Expr}{es:List Expr}{pos:Pos}{st:Stmt}{we:List Stmt}
theorem cY{t t':TE}(h:PE X e t)(m:∀σ H Q,t' σ H Q->t σ H Q):PE X e t':=λpins s σ H Q I q=>h pins s σ H Q I (m σ H Q q)
theorem D6{t t':TT}(h:PT X e t)(m:∀σ H Q,t' σ H Q->t σ H Q):PT X e t':=λpins s σ H Q I q=>h pins s σ H Q I (m σ H Q q)
theorem Y6{t t':TT}(h:PW X e t)(m:∀σ H Q,t' σ H Q->t σ H Q):PW X e t':=λwh pins s σ H Q I q=>h wh pins s σ H Q I (m σ H Q q)
theorem wg{t t':TA}(h:PA X es t)(m:∀σ H Q,t' σ H Q->t σ H Q):PA X es t':=λp pins s σ H Q I q=>h p pins s σ H Q I (m σ H Q q)
theorem j8{t t':TS}(h:PS X st t)(m:∀D σ H,t' D σ H->t D σ H):PS X st t':=λpins s σ H D I q=>h pins s σ H D I (m D σ H q)
theorem D7{t t':TS}(h:PSs X we t)(m:∀D σ H,t' D σ H->t D σ H):PSs X we t':=λpins s σ H D I q=>h pins s σ H D I (m D σ H q)
variable{t u ta tb tc:aI}
theorem ag(h:PE X e (lE t)):PE X e (lB t):=cY h λσ H Q ⟨B,F,δ,ts,Qd,c,q,k⟩=>⟨B,F,δ,ts,Qd,c,q,λd ah v F' H' hd sf sh c'=>k d ah v F' H' hd sf sh c'.pop c'.top⟩
noncomputable def o6(t:aI):aI:=λδ Q=>t δ λd ah=>d.pl=true/\Q d ah
theorem eT(h:PE X e (lB t)):PE X e (lE (o6 t)):=cY h λσ H Q ⟨B,F,δ,ts,Qd,c,q,k⟩=>⟨B,F,δ,ts,_,c,q,λd ah v F' H' hd sf sh c' s=>k d ah v F' H' hd.2 sf sh (c'.pushS s hd.1)⟩
noncomputable def m9(i:Nat):aI:=λδ Q=>match δ[i]? with
 | some (some d)=>Q d δ
 | _=>False
noncomputable def nh(i:Nat):aI:=λδ Q=>match δ[i]? with
 | some (some d)=>Q d (δ.set i none)
 | _=>False
theorem Y7{i:Nat}{δ:Dl}{Q:D->Dl->Prop}(h:m9 i δ Q):∃d,δ[i]?=some (some d)/\Q d δ:=by
 unfold m9 at h
 split at h
 ·rename_i d e;exact⟨d,e,h⟩
 ·exact h.elim
theorem Y8{i:Nat}{δ:Dl}{Q:D->Dl->Prop}(h:nh i δ Q):∃d,δ[i]?=some (some d)/\Q d (δ.set i none):=by
 unfold nh at h
 split at h
 ·rename_i d e;exact⟨d,e,h⟩
 ·exact h.elim
noncomputable def dC(d:D):aI:=λδ Q=>Q d δ
theorem bv(i:Nat){x:Str}(hN:X.N[i]?=some x:=by rfl)(hv:jT X.env.scope x:=by first | exact aq rfl | exact bh (aq rfl) | exact bh (bh rfl))(hd:(x==("__debug__":Str))=false:=by decide)
  (cA:(x==("__classdict__":Str))=false:=by decide):PE X (.Name x pos) (lB (m9 i)):=cY (oE hN hv hd cA) λσ H Q ⟨B,F,δ,ts,Qd,c,q,k⟩=>by
 obtain⟨d,e,q⟩:=Y7 q
 obtain⟨v,e1,s⟩:=c.look e
 exact⟨v,e1,k d δ v F H q (aa.refl _) (aa.refl _) c s⟩
theorem em(i:Nat){x:Str}(hN:X.N[i]?=some x:=by rfl)(hv:jT X.env.scope x:=by first | exact aq rfl | exact bh (aq rfl) | exact bh (bh rfl))(hd:(x==("__debug__":Str))=false:=by decide)
  (cA:(x==("__classdict__":Str))=false:=by decide):PE X (.Name x pos) (lE (nh i)):=cY (oE hN hv hd cA) λσ H Q ⟨B,F,δ,ts,Qd,c,q,k⟩=>by
 obtain⟨d,e,q⟩:=Y8 q
 obtain⟨v,e1,c'⟩:=c.move e
 exact⟨v,e1,k d _ v F H q (aa.refl _) (aa.refl _) c'⟩
theorem zL{B:Bs}{F H:Hp}{σ:L2.St}{δ:Dl}{ts:List (D × V)}{Qd:D->Dl->Prop}{Q:VK}{d:D}{v:V}(c:aj B F H σ δ ts)(q:Qd d δ)(s:S F H [d] [v])(p:d.pl=true)
  (k:∀d ah v F' H',Qd d ah->aa F F'->aa H H'->aj B F' H' σ ah ((d,v)::ts)->Q v H'):Q v H:=k d δ v F H q (aa.refl _) (aa.refl _) (c.pushS s p)
theorem az{i j}:PE X (.Constant (.int i) j pos) (lE (dC (.int i))):=cY vC λσ H Q ⟨B,F,δ,ts,Qd,c,q,k⟩=>zL c q (.int .nil) rfl k
theorem j9{i j}:PE X (.Constant (.bool i) j pos) (lE (dC (.bl i))):=cY U8 λσ H Q ⟨B,F,δ,ts,Qd,c,q,k⟩=>zL c q (.bl .nil) rfl k
theorem NS{j}:PE X (.Constant .none j pos) (lE (dC .ak)):=cY U9 λσ H Q ⟨B,F,δ,ts,Qd,c,q,k⟩=>zL c q (.ak .nil) rfl k
theorem NT{x j}:PE X (.Constant (.str x) j pos) (lE (dC (.str x))):=cY Va λσ H Q ⟨B,F,δ,ts,Qd,c,q,k⟩=>zL c q (.str .nil) rfl k
noncomputable abbrev ck:=D->D->(D->Prop)->Prop
noncomputable def zM(r:R2)(rd:ck):Prop:=∀{B:Bs} {F H:Hp} {σ:L2.St} {δ:Dl} {ts:List (D × V)} {x y:D} {v w:V} {Q:VK} {Qd:D->Prop},aj B F H σ δ ts->S F H [x] [v]->S F H [y] [w]->rd x y Qd ->
 (∀d z H',Qd d->aa H H'->aj B F H' σ δ ((d,z)::ts)->Q z H')->r v w H Q
noncomputable def bL(X:Cx)(f:Value->Value->Sem Value)(rd:ck):Prop:=∃r,cg X f r/\zM r rd
theorem bL.or{f:Value->Value->Sem Value}{r1 r2:ck}(h1:bL X f r1)(h2:bL X f r2):bL X f λx y Q=>r1 x y Q\/r2 x y Q:=by
 obtain⟨q1,a1,b1⟩:=h1
 obtain⟨q2,a2,b2⟩:=h2
 refine⟨_,a1.or a2,λ{B F H σ δ ts x y v w Q Qd} c sx sy h k=>?_⟩
 rcases h with h | h
 ·exact .inl (b1 c sx sy h k)
 ·exact .inr (b2 c sx sy h k)
theorem bL.imp{f:Value->Value->Sem Value}{r1 r2:ck}(h1:bL X f r1)(h:∀x y Q,r2 x y Q->r1 x y Q):bL X f r2:=by
 obtain⟨q1,a1,b1⟩:=h1
 exact⟨q1,a1,λ{B F H σ δ ts x y v w Q Qd} c sx sy h2 k=>b1 c sx sy (h _ _ _ h2) k⟩
noncomputable def lh(rd:ck)(ta tb:aI):aI:=λδ Q=>ta δ λx ao=>tb ao λy aM=>rd x y λd=>Q d aM
theorem D8{r:R2}{rd:ck}(hl:zM r rd):∀σ H Q,lE (lh rd ta tb) σ H Q->vJ r (lB ta) (lB tb) σ H Q:=λσ H Q ⟨B,F,δ,ts,Qd,c,q,k⟩ =>
 ⟨B,F,δ,ts,_,c,q,λx ao v F1 H1 q1 f1 h1 c1 s1=>⟨B,F1,ao,ts,_,c1,q1,λy aM w F2 H2 q2 f2 h2 c2 s2 =>
  hl c2 (s1.mono f2 h2) s2 q2 λd z H' hd hs c3=>k d aM z F2 H' hd (f1.trans f2) ((h1.trans h2).trans hs) c3⟩⟩
theorem aC{op:Operator}{rd:ck}(ho:bL X (binaryOp op) rd)(ha:PE X a (lB ta))(hb:PE X b (lB tb)):PE X (.BinOp a op b pos) (lE (lh rd ta tb)):=by
 obtain⟨r,h1,h2⟩:=ho
 exact cY (vK h1 ha hb) (D8 h2)
theorem wj{op:CmpOp}{rd:ck}(ho:bL X (compareOp op) rd)(ha:PE X a (lB ta))(hb:PE X b (lB tb))(hm:behindInMarks op b=false):PE X (.Compare a [op] [b] pos) (lE (lh rd ta tb)):=by
 obtain⟨r,h1,h2⟩:=ho
 exact cY (V7 h1 ha hb hm) (D8 h2)
noncomputable def dT(t:aI):fj:=λδ Q=>t δ λd ah=>∃k,d=.bl k/\Q k ah
theorem Y9{te:TE}(h:∀σ H Q,lE t σ H Q->te σ H Q):∀σ H Q,lT (dT t) σ H Q->MA te σ H Q:=λσ H Q zz=>by
 obtain⟨B,F,δ,ts,Qd,c,q,k⟩:=zz
 refine h σ H _ ⟨B,F,δ,ts,_,c,q,λd ah v F' H' hd sf sh c'=>?_⟩
 obtain⟨b,rfl,qb⟩:=hd
 have s:=c'.top
 cases s with
 | bl _=>exact⟨b,rfl,k b ah F' H' qb sf sh c'.pop⟩
theorem cO{op:CmpOp}{rd:ck}(ho:bL X (compareOp op) rd)(ha:PE X a (lB ta))(hb:PE X b (lB tb))(hm:behindInMarks op b=false):PT X (.Compare a [op] [b] pos) (lT (dT (lh rd ta tb))):=by
 obtain⟨r,h1,h2⟩:=ho
 exact D6 (V8 h1 ha hb hm) (Y9 (D8 h2))
noncomputable def o7(r r':ck)(ta tb tc:aI):aI:=λδ Q=>ta δ λx ao=>tb ao λy aM=>r x y λd=>∃k,d=.bl k/\if k=true then tc aM λz gA=>r' y z λd'=>Q d' gA else Q (.bl false) aM
theorem ni(h:PE X e (lB t))(he:∀whole,isTrue e X.env whole=(do let v<-whole;standAt e.pos;holding [v] (truthy v)):=by intro _;rfl):PT X e (lT (dT t)) :=
 D6 (C6 h he) λσ H Q ⟨B,F,δ,ts,Qd,c,q,k⟩=>⟨B,F,δ,ts,_,c,q,λd ah v F' H' hd sf sh c' s=>by
  obtain⟨b,rfl,qb⟩:=hd
  cases s with
  | bl _=>exact⟨b,rfl,k b ah F' H' qb sf sh c'⟩⟩
variable{tA tB:fj}{eQ:List Expr}
noncomputable def rk(t u:fj):fj:=λδ Q=>t δ λc ao=>if c=true then Q true ao else u ao Q
noncomputable def rl(t:fj):fj:=λδ Q=>t δ λc ao=>Q (!c) ao
theorem wk(ha:PT X a (lT tA))(hb:PW X (.BoolOp .Or (b::eQ) pos) (lT tB)):PW X (.BoolOp .Or (a::b::eQ) pos) (lT (rk tA tB)) :=
 Y6 (Ve ha hb) λσ H Q ⟨B,F,δ,ts,Qd,c,q,k⟩=>⟨B,F,δ,ts,_,c,q,λb ao F1 H1 q1 f1 h1 c1=>by
  cases b with
  | true=>exact oS (k true ao F1 H1 (by simpa using q1) f1 h1 c1)
  | false=>exact kP ⟨B,F1,ao,ts,Qd,c1,by simpa using q1,λb ah F' H' hd sf sh c'=>k b ah F' H' hd (f1.trans sf) (h1.trans sh) c'⟩⟩
theorem zN(ha:PT X a (lT tA)):PT X (.UnaryOp .Not a pos) (lT (rl tA)) :=
 D6 (C7 ha) λσ H Q ⟨B,F,δ,ts,Qd,c,q,k⟩=>⟨B,F,δ,ts,_,c,q,λb ao F1 H1 q1 f1 h1 c1=>k _ ao F1 H1 q1 f1 h1 c1⟩
noncomputable def rm(ta tb:aI):aI:=λδ Q=>ta δ λx ao=>∃c,x=.bl c/\if c=true then tb ao Q else Q (.bl false) ao
noncomputable def rn(ta:aI):aI:=λδ Q=>ta δ λx ao=>∃c,x=.bl c/\Q (.bl (!c)) ao
theorem wm(ha:PE X a (lB ta))(hb:PE X (.BoolOp .And (b::eQ) pos) (lE tb)):PE X (.BoolOp .And (a::b::eQ) pos) (lE (rm ta tb)) :=
 cY (Vh ha hb) λσ H Q ⟨B,F,δ,ts,Qd,c,q,k⟩=>⟨B,F,δ,ts,_,c,q,λd ao v F1 H1 q1 f1 h1 c1 s1=>by
  obtain⟨b,rfl,qb⟩:=q1
  cases s1 with
  | bl _ =>
   refine⟨b,rfl,?_⟩
   cases b with
   | true=>exact oS ⟨B,F1,ao,ts,Qd,c1,by simpa using qb,λd ah v F' H' hd sf sh c'=>k d ah v F' H' hd (f1.trans sf) (h1.trans sh) c'⟩
   | false=>exact kP (k _ ao _ F1 H1 (by simpa using qb) f1 h1 (c1.pushS (.bl .nil) rfl))⟩
theorem Za(ha:PE X a (lB ta)):PE X (.UnaryOp .Not a pos) (lE (rn ta)) :=
 cY (Vi ha) λσ H Q ⟨B,F,δ,ts,Qd,c,q,k⟩=>⟨B,F,δ,ts,_,c,q,λd ao v F1 H1 q1 f1 h1 c1 s1=>by
  obtain⟨b,rfl,qb⟩:=q1
  cases s1 with
  | bl _=>exact⟨b,rfl,k _ ao _ F1 H1 qb f1 h1 (c1.pushS (.bl .nil) rfl)⟩⟩
noncomputable def rq(t:fj)(ta tb:aI):aI:=λδ Q=>t δ λc ao=>if c=true then ta ao Q else tb ao Q
theorem Zb(hc:PT X c (lT tA))(ha:PE X a (lE ta))(hb:PE X b (lE tb)):PE X (.IfExp c a b pos) (lE (rq tA ta tb)) :=
 cY (Vk hc ha hb) λσ H Q ⟨B,F,δ,ts,Qd,c,q,k⟩=>⟨B,F,δ,ts,_,c,q,λb ao F1 H1 q1 f1 h1 c1=>by
  cases b with
  | true=>exact oS ⟨B,F1,ao,ts,Qd,c1,by simpa using q1,λd ah v F' H' hd sf sh c'=>k d ah v F' H' hd (f1.trans sf) (h1.trans sh) c'⟩
  | false=>exact kP ⟨B,F1,ao,ts,Qd,c1,by simpa using q1,λd ah v F' H' hd sf sh c'=>k d ah v F' H' hd (f1.trans sf) (h1.trans sh) c'⟩⟩
noncomputable def o8:cq:=λδ Q=>Q [] δ
noncomputable def o9(t:aI)(r:cq):cq:=λδ Q=>t δ λd ao=>r ao λds aM=>Q (d::ds) aM
theorem aB:PA X [] (lA o8):=wg iB λσ H Q ⟨B,F,δ,ts,Qd,c,q,k⟩=>k [] δ [] F H q (aa.refl _) (aa.refl _) c .nil
variable{tr:cq}
theorem ai(ha:PE X e (lB t))(hr:PA X es (lA tr))(hs:starEach (e::es) X.env=(false,eval e X.env)::starEach es X.env:=by rfl):PA X (e::es) (lA (o9 t tr)) :=
 wg (eS ha hr hs) λσ H Q ⟨B,F,δ,ts,Qd,c,q,k⟩=>⟨B,F,δ,ts,_,c,q,λd ao v F1 H1 q1 f1 h1 c1 s1=>⟨B,F1,ao,ts,_,c1,q1,λds aM vs F2 H2 q2 f2 h2 c2 s2 =>
  k (d::ds) aM (v::vs) F2 H2 q2 (f1.trans f2) (h1.trans h2) c2 ((s1.mono f2 h2).cons s2)⟩⟩
theorem eI:PA X [] (lO o8):=wg iB λσ H Q ⟨B,F,δ,ts,Qd,c,q,k⟩=>k [] δ F H q (aa.refl _) (aa.refl _) c
theorem gB(ha:PE X e (lE t))(hr:PA X es (lO tr))(hs:starEach (e::es) X.env=(false,eval e X.env)::starEach es X.env:=by rfl):PA X (e::es) (lO (o9 t tr)) :=
 wg (eS ha hr hs) λσ H Q ⟨B,F,δ,ts,Qd,c,q,k⟩=>⟨B,F,δ,ts,_,c,q,λd ao v F1 H1 q1 f1 h1 c1=>⟨B,F1,ao,(d,v)::ts,_,c1,q1,λps aM F2 H2 q2 f2 h2 c2 =>
  k ((d,v)::ps) aM F2 H2 q2 (f1.trans f2) (h1.trans h2) (c2.perm (List.perm_middle))⟩⟩
noncomputable def rz(t:cq):aI:=λδ Q=>t δ λds ah=>ds.length<=sizeLine/\Q (.lst true ds) ah
noncomputable def rA(t:cq):aI:=λδ Q=>t δ λds ah=>ds.length<=sizeLine/\Q (.tup ds) ah
theorem fk(h:PA X es (lO tr)):PE X (.List es pos) (lE (rz tr)) :=
 cY (WE h) λσ H Q ⟨B,F,δ,ts,Qd,c,q,k⟩=>⟨B,F,δ,ts,_,c,q,λps ao F1 H1 q1 f1 h1 c1=>⟨by simpa using q1.1,λp hp=>k _ ao _ F1 _ q1.2 f1 (h1.trans (aa.upd hp)) (c1.YX hp)⟩⟩
theorem D9{x1}(h:PA X es (lO tr)):PE X (.Tuple es x1 pos) (lE (rA tr)) :=
 cY (WD h) λσ H Q ⟨B,F,δ,ts,Qd,c,q,k⟩=>⟨B,F,δ,ts,_,c,q,λps ao F1 H1 q1 f1 h1 c1=>⟨by simpa using q1.1,λp hp=>k _ ao _ F1 _ q1.2 f1 (h1.trans (aa.upd hp)) (c1.YY hp)⟩⟩
end
end L3
namespace L3
open PySem L2 PySem.Spec PyProof.Rows
noncomputable abbrev bC:=List D->(D->Prop)->Prop
noncomputable def bE(sp:bC):Sp:=λvs H Q _=>∃F ds Qd,aa F H/\R F H ds vs []/\sp ds Qd/\∀d v F' H' A,Qd d->aa H H'->aa F F'->aa F' H'->(∀a ws,F' a=some (.lst ws)->F a=some (.lst ws)\/H a=none)->R F' H' [d] [v] A->A.Nodup->(∀a∈A,H a=none)->Q v H'
noncomputable def pd(sp:bC)(t:cq):aI:=λδ Q=>t δ λds ah=>sp (ds.map D.sh) λd=>(ds.all D.pl||d.fr)=true/\Q d ah
theorem zO{B:Bs}{F H:Hp}{σ:L2.St}{δ:Dl}{ts:List (D × V)}{Qd:D->Prop}{Q:VK}{E:XK}{ds:List D}{vs:List V}{sp:bC}(c:aj B F H σ δ ts)(s:S F H ds vs)(q:sp (ds.map D.sh) λd=>(ds.all D.pl||d.fr)=true/\Qd d)
  (k:∀d v F' H',Qd d->aa F F'->aa H H'->aj B F' H' σ δ ((d,v)::ts)->Q v H'):bE sp vs H Q E:=by
 by_cases hp:ds.all D.pl=true
 ·rw[j6 hp]at q
  exact⟨F,ds,_,c.ext,s.r hp,q,λd v F' H' A hd hs hf he h3 r nd fr=>k d v F' H' hd.2 hf hs (c.call hs hf he h3 r nd fr)⟩
 ·refine⟨H,ds.map D.sh,_,aa.refl _,s.frozen c.ext,q,λd v F' H' A hd hs hf he h3 r nd fr=>?_⟩
  have dM:d.fr=true:=by
   have:=hd.1
   rw[Bool.or_eq_true]at this
   exact this.resolve_left hp
  exact k d v F H' hd.2 (aa.refl _) hs (c.D4 hs (r.D3 (by simp[dM]) (c.ext.trans hf)) nd fr)
section
variable{X:Cx}{CX:dS}{n:Nat}{f:Addr}{fd:FuncData}{ps:List Str}{sp:bC}{E:XK}{x:Str}{p pos:Pos}{e:Expr}{es:List Expr}{t:cq}
theorem bG(F:aO X.prog X.w X.K X.mg X.base CX n f fd ps (bE sp))(hr:bN n X.A)(hg:Gl X x)(hm:X.mg x=some (.ref f))(hk:PySem.W.keepIn X.K (.ref f)=true)(hb:Binds X.K fd ps [])(hx:jX CX X E)
  (ha:PA X (e::es) (lA t)) (dU:(x==("__debug__":Str))=false:=by decide) (he:starEach (e::es) X.env=(false,eval e X.env)::starEach es X.env:=by rfl) (bJ:(backTo pos (starEach es X.env)).any (·.1)=false:=by rfl) :
  PE X (.Call (.Name x p) (e::es) [] pos) (lE (pd sp t)) :=
 cY (oK F hr hg hm hk hb .nil hx ha dU he bJ) λσ H Q ⟨B,F,δ,ts,Qd,c,q,k⟩=>⟨B,F,δ,ts,_,c,q,λds ao vs F1 H1 q1 f1 h1 c1 s1=>by
  show bE sp (vs++[]) H1 Q E
  rw[kC]
  exact zO c1 s1 q1 λd v F' H' hd hf hs c'=>k d ao v F' H' hd (f1.trans hf) (h1.trans hs) c'⟩
end
noncomputable def jz(N:List Str)(ds:List D):Dl:=ds.map some++aT (N.length-ds.length) none
section
variable{P:Program}{w:World}{K:PySem.W.Frag}{mg:Str->Option Value}{base:Heap}
theorem bX{x qual:Str}{st:Stmt}{f:Addr}{fd:FuncData}{N ps:List Str}{k:Nat}{sp:bC}(F:bx K x qual st f fd)(S:bA N ps (ay st))(len:∀ds Q,sp ds Q->ds.length=ps.length)
  (gr:∀(aH:Value) (A:Around) (outer:List Env) (s:Shared) (H:Hp) (E:XK),bN k (A.deeper (envOfC qual (ay st) s.heap.objs.size f aH)) ->
   ∃t:cC,PSs (gM aV P w K mg base N qual (ay st) f aH A outer s H E).eZ (bf st) (lS (gM aV P w K mg base N qual (ay st) f aH A outer s H E).eZ t)/\∀ds Q,sp ds Q->t { nx:=λ_=>Q .ak,rt:=Q } (jz N ds)):aO P w K mg base aV (k+1) f fd ps (bE sp):=by
 refine F.ok S (λvs H Q E ⟨F,ds,Qd,e,r,h,_⟩=>by rw[<-r.length];exact len ds Qd h) λaH A outer s H vs Q E hr zz=>?_
 obtain⟨F,ds,Qd,e,r,h,k⟩:=zz
 obtain⟨t,ht,hq⟩:=gr aH A outer s H E hr
 have fin:∀d v ah ax F' H',Qd d->aj ⟨H,F⟩ F' H' ax ah [(d,v)]->Q v H':=λd v ah ax F' H' hd c=>by
  obtain⟨A,C,r',s',nd,fr⟩:=c.own
  exact k d v F' H' A hd c.b1 c.b2 c.ext c.b3 r' (fi.mp nd).1 λa ha=>fr a (e7 _ ha)
 have e1:L2.start N vs=vs.map some++aT (N.length-ds.length) none:=by unfold L2.start;rw[r.length]
 refine⟨_,ht,⟨H,F⟩,F,jz N ds,_,?_,hq ds Qd h,λah ax F' H' hd c=>fin .ak .ak ah ax F' H' hd (c.pushS (.ak .nil) rfl),fin,λ_ _ _ _ z=>z.elim,λ_ _ _ _ z=>z.elim,XL.none (λ_ _ z=>z) λ_ _ z=>z⟩
 rw[e1]
 exact aj.start e r _
end
section
variable{X:Cx}{e a b c:Expr}{es:List Expr}{pos:Pos}{st:Stmt}{we eQ:List Stmt}{t u:cC}{te:aI}{tt:fj}
noncomputable def rB:cC:=λD δ=>D.nx δ
noncomputable def NU(t u:cC):cC:=λD δ=>t { D with nx:=u D } δ
theorem aD{t u:cC}{En:rj}{δ:Dl}(h:∀U:Dl->Prop,(∀ah,u En ah->U ah)->t { En with nx:=U } δ):NU t u En δ:=h (u En) λ_ z=>z
theorem cZ:PSs X [] (lS X rB):=D7 C8 λD σ H ⟨B,F,δ,Dd,c,q,k1,_⟩=>k1 δ σ F H q c
theorem aE(h1:PS X st (lS X t))(h2:PSs X eQ (lS X u)):PSs X (st::eQ) (lS X (NU t u)) :=
 D7 (jo h1 h2) λD σ H ⟨B,F,δ,Dd,c,q,k1,k2,k3,k4⟩=>⟨B,F,δ,{ Dd with nx:=u Dd },c,q,λah ax F' H' hq c'=>⟨B,F',ah,Dd,c',hq,k1,k2,k3,k4⟩,k2,k3,k4⟩
theorem aJ(h1:PS X st (lS X t)):PSs X [st] (lS X t):=qS h1
noncomputable def lj(i:Nat)(t:cC):cC:=λD δ=>∃d,δ[i]?=some (some d)/\t D (δ.set i (some d.sh))
theorem zP(i:Nat)(h:PSs X we (lS X t)):PSs X we (lS X (lj i t)):=D7 h λD σ H zz=>by
 obtain⟨B,F,δ,Dd,c,⟨d,e,q⟩,k⟩:=zz
 obtain⟨F',s,c'⟩:=c.freeze e
 exact⟨B,F',_,Dd,c',q,k⟩
noncomputable def pf(i:Nat)(t:aI):cC:=λD δ=>t δ λd ah=>D.nx (ah.set i (some d))
theorem bb{i:Nat}{x:Str}{pos':Pos}(hN:X.N.Nodup)(hi:X.N[i]?=some x)(hx:Loc X.env.scope x)(he:PE X e (lE te))(hs:swapsWith e (some (.Name x pos')) pos.line X.env=pure false:=by rfl)
  (hf:X.fn x=true\/X.env.scope.names.lookup x=some .local:=by first | exact .inl rfl | exact .inr rfl | assumption):PS X (.Assign [.Name x pos'] e pos) (lS X (pf i te)) :=
 j8 (Ms hN hi hx he hs hf) λD σ H ⟨B,F,δ,Dd,c,q,k1,k2,k3,k4⟩=>⟨B,F,δ,[],_,c,q,λd ah v F' H' hd sf sh c'=>k1 _ _ F' H' hd (c'.store i)⟩
noncomputable def rC(t:aI):cC:=λD δ=>t δ λd _=>D.rt d
theorem bc(he:PE X e (lE te)):PS X (.Return (some e) pos) (lS X (rC te)) :=
 j8 (Vq he) λD σ H ⟨B,F,δ,Dd,c,q,k1,k2,k3,k4⟩=>⟨B,F,δ,[],_,c,q,λd ah v F' H' hd sf sh c'=>k2 d v ah σ F' H' hd c'⟩
noncomputable def rD(tc:fj)(t u:cC):cC:=λD δ=>tc δ λb ah=>if b=true then t D ah else u D ah
theorem da{l r:List Stmt}(hc:PT X c (lT tt))(ha:PSs X l (lS X t))(hb:PSs X r (lS X u)):PS X (.If c l r pos) (lS X (rD tt t u)) :=
 j8 (C9 hc ha hb) λD σ H ⟨B,F,δ,Dd,c,q,k⟩=>⟨B,F,δ,[],_,c,q,λb ah F' H' hq sf sh c'=>by
  cases b with
  | true=>exact oS ⟨B,F',ah,Dd,c',by simpa using hq,k⟩
  | false=>exact kP ⟨B,F',ah,Dd,c',by simpa using hq,k⟩⟩
noncomputable def rE(i:Nat)(rd:ck)(t:aI):cC:=λD δ=>∃x,δ[i]?=some (some x)/\t δ λy ao=>rd x y λz=>D.nx (ao.set i (some z))
theorem zQ{i:Nat}{x:Str}{op:Operator}{rd:ck}{pos':Pos}(hN:X.N.Nodup)(hi:X.N[i]?=some x)(hx:Loc X.env.scope x)(he:PE X e (lB te))(ho:bL X (inplaceOp op) rd)
  (hf:X.fn x=true\/X.env.scope.names.lookup x=some .local:=by first | exact .inl rfl | exact .inr rfl | assumption):PS X (.AugAssign (.Name x pos') op e pos) (lS X (rE i rd te)):=by
 obtain⟨r,h1,h2⟩:=ho
 refine j8 (VD hN hi hx he (ti:=r) h1 hf) λD σ H zz=>?_
 obtain⟨B,F,δ,Dd,c,⟨d0,e0,q⟩,k1,k2,k3,k4⟩:=zz
 obtain⟨v0,e1,s0⟩:=c.look e0
 exact⟨v0,e1,B,F,δ,[],_,c,q,λd ah v F' H' hd sf sh c' s=>h2 c' (s0.mono sf sh) s hd λz w H2 hz h3 c3=>k1 _ _ F' H2 hz (c3.store i)⟩
noncomputable def rF(tc:fj)(tb:cC):cC:=λD δ=>∃W:Nat->Dl->Prop,(∃m,W m δ)/\∀m δ,W m δ->tc δ λb ah=>if b=true then tb { D with nx:=λah=>∃m',m'<m/\W m' ah,ct:=λah=>∃m',m'<m/\W m' ah,bk:=D.nx } ah else D.nx ah
theorem zR{body:List Stmt}(hp:PassesOwn (model X.prog X.w) X.A X.env X.xe)(hc:PT X c (lT tt))(hb:PSs X body (lS X t)):PS X (.While c body [] pos) (lS X (rF tt t)) :=
 j8 (VH hp hc hb) λD σ H zz=>by
  obtain⟨B,F,δ,Dd,c,⟨W,⟨m0,w0⟩,hw⟩,k1,k2,k3,k4⟩:=zz
  refine⟨λm σ H=>∃F δ,aj B F H σ δ []/\W m δ,⟨m0,F,δ,c,w0⟩,λm σ H ⟨F,δ,c,w⟩=>⟨B,F,δ,[],_,c,hw m δ w,λb ah F' H' hq sf sh c'=>?_⟩⟩
  cases b with
  | true =>
   refine oS ⟨λax H'=>∃m',m'<m/\∃F δ,aj B F H' ax δ []/\W m' δ,λax H' z=>z,B,F',ah,{ Dd with nx:=λah=>∃m',m'<m/\W m' ah,ct:=λah=>∃m',m'<m/\W m' ah,bk:=Dd.nx },c',by simpa using hq,λaM jV F2 H2 ⟨m',hm,w2⟩ c2=>⟨m',hm,F2,aM,c2,w2⟩,k2,λaM jV F2 H2 z c2=>k1 aM jV F2 H2 z c2,λaM jV F2 H2 ⟨m',hm,w2⟩ c2=>⟨m',hm,F2,aM,c2,w2⟩,k4.2⟩
  | false=>exact kP (k1 ah σ F' H' (by simpa using hq) c')
end
structure JD(J:It)(F:Hp)(xs:List D):Prop where
 go:∀i H,aa F H->i<xs.length->J.go i H
 i3:∀i H x H',aa F H->i<xs.length->J.i3 i H x H'->∃d,xs[i]?=some d/\aa H H'/\R F H' [d] [x] []
 stop:∀i H,aa F H->xs.length<=i->J.stop i H
noncomputable abbrev iG:=Dl->(Bool->List D->Dl->Prop)->Prop
noncomputable def lI(t:iG):TI:=λσ H Rr=>∃B F δ ts Qd,aj B F H σ δ ts/\t δ Qd/\∀g xs ah J F' H',Qd g xs ah->aa F F'->aa H H'->aj B F' H' σ ah ts->JD J H' (xs.map D.sh)->(g=true->xs.all D.pl=true/\JD J F' xs)->Rr J H'
noncomputable abbrev fW:=D->Dl->(Dl->Prop)->Prop
noncomputable def lG(m:Nat)(t:fW):TG:=λv σ H Q=>∃B F δ ts d Qd,aj B F H σ δ ((d,v)::ts)/\t d δ Qd/\∀ah ax,Qd ah->ax.length=σ.length->(∀j,j<m->ax[j]?=σ[j]?)->aj B F H ax ah ts->Q ax H
noncomputable def i6:D->Option (List D)
 | .lst _ xs=>some xs
 | .fz xs=>some xs
 | _=>none
section
variable{B:Bs}{F H F1:Hp}{σ:L2.St}{δ:Dl}{ts:List (D × V)}
end
section
variable{X:Cx}{e a b c tg l iter:Expr}{es:List Expr}{pos:Pos}{t u:cC}{te:aI}{tt:fj}{ta:cq}{m:Nat}
theorem rG{w w':TI}(h:PI X tg iter w)(m:∀σ H Q,w' σ H Q->w σ H Q):PI X tg iter w':=λpins s σ H Q I q=>h pins s σ H Q I (m σ H Q q)
theorem NV{w w':TG}(h:PG X tg w)(m:∀v σ H Q,w' v σ H Q->w v σ H Q):PG X tg w':=λpins s σ H v u Q I r q=>h pins s σ H v u Q I r (m v σ H Q q)
noncomputable def gN(i:Nat):fW:=λd δ Q=>Q (δ.set i (some d))
theorem dA{i:Nat}{x:Str}(hN:X.N.Nodup)(hi:X.N[i]?=some x)(hx:Loc X.env.scope x)(hm:m<=i:=by decide)(hf:X.fn x=true\/X.env.scope.names.lookup x=some .local:=by first | exact .inl rfl | exact .inr rfl | assumption):PG X (.Name x pos) (lG m (gN i)) :=
 NV (zx hN hi hx hf) λv σ H Q ⟨B,F,δ,ts,d,Qd,c,q,k⟩=>k _ _ q (by simp) (λj hj=>by rw[qt (by omega)]) (c.store i)
theorem lu{K:PySem.W.Frag}{F H:Hp}{p:Addr}{xs:List D}{ws:List V}(hp:Rd F p (.lst ws))(r:R F H xs ws [])(hF:Full F H):JD (Dh K p) F xs where
 go:=λi H' hs hi=>by
  have l:=r.length
  have eH:i<ws.length:=by omega
  exact⟨ws,ws[i],.inl (gz hp hs),aN eH⟩
 i3:=λi H' x H2 hs hi zz=>by
  obtain⟨e,y⟩:=zz
  subst e
  have hx:=y ws (.inl (gz hp hs))
  obtain⟨v,A1,e2,r1,sub⟩:=(r.full hF hs rfl).get (aN hi)
  rw[hx]at e2;cases e2
  have:A1=[]:=Us.mpr λa ha=>by simpa using sub ha
  subst this
  exact⟨_,aN hi,aa.refl _,r1⟩
 stop:=λi H' hs hi=>⟨ws,.inl (gz hp hs),by have:=r.length;omega⟩
theorem zS{F:Hp}(lo:Int)(n:Nat):JD (vF lo n) F ((aR n).map λ(k:Nat)=>D.int (lo+(k:Int))) where
 go:=λi H' hs hi=>by
  have eH:i<n:=by simpa using hi
  exact eH
 i3:=λi H' x H2 hs hi zz=>by
  obtain⟨e,y⟩:=zz
  subst e y
  have eH:i<n:=by simpa using hi
  exact⟨.int (lo+i),by simp[mQ eH],aa.refl _,.int .nil⟩
 stop:=λi H' hs hi=>by
  have eH:n<=i:=by simpa using hi
  exact eH
noncomputable def rH(t:aI):iG:=λδ Q=>t δ λd ah=>∃xs,i6 d=some xs/\Q true (xs.map D.sh) ah
theorem Zc(xs:List D){F H:Hp}{ws:List V}(r:R F H (xs.map D.sh) ws []):(xs.map D.sh).map D.sh=xs.map D.sh:=j6 r.pl
theorem Zd(h:PE X l (lE te)):PI X tg l (lI (rH te)) :=
 rG (Mv h) λσ H Q ⟨B,F,δ,ts,Qd,c,q,k⟩=>⟨B,F,δ,ts,_,c,q,λd ao v F1 H1 hd f1 h1 c1=>by
  obtain⟨xs,e,hq⟩:=hd
  obtain⟨F2,f2,c2⟩:=c1.NP
  have tp:=c2.top
  have c3:=c2.pop.snap
  have e2:=c2.ext
  have sn:=oZ e2
  cases d with
  | lst o ys =>
   obtain rfl:=cM e
   rw[eB]at tp
   cases tp with
   | @shr p ws _ _ _ hp r _ =>
    have r3:=r.shared sn (aa.refl _)
    refine⟨p,rfl,⟨ws,bu.of (e2 _ _ hp)⟩,k true _ ao _ _ H1 hq ((f1.trans f2).trans sn) h1 c3 ?_ λ_=>⟨r.pl,lu (.inl (sn _ _ hp)) r3 rh⟩⟩
    rw[Zc _ r]
    exact lu (.inl (e2 _ _ hp)) (r.shared e2 (aa.refl _)) (Full.refl _)
  | fz ys =>
   obtain rfl:=cM e
   cases tp with
   | @fz p o ws _ _ _ hp r _ =>
    have r3:=r.shared sn (aa.refl _)
    have es:=j6 r.pl
    rw[es]at hq
    refine⟨p,rfl,⟨ws,.inl (.inr ⟨o,e2 _ _ hp⟩)⟩,k true _ ao _ _ H1 hq ((f1.trans f2).trans sn) h1 c3 ?_ λ_=>⟨r.pl,lu (.inr ⟨o,sn _ _ hp⟩) r3 rh⟩⟩
    rw[es]
    exact lu (.inr ⟨o,e2 _ _ hp⟩) (r.shared e2 (aa.refl _)) (Full.refl _)
  | ak=>cases e
  | bl _=>cases e
  | int _=>cases e
  | str _=>cases e
  | tup _=>cases e
  | obj _ _ _=>cases e
  | aX _=>cases e⟩
noncomputable def rJ(t:aI):iG:=λδ Q=>t δ λd ah=>∃xs,i6 d=some xs/\Q d.pl xs ah
theorem nj(h:PE X l (lB te)):PI X tg l (lI (rJ te)) :=
 rG (Mv h) λσ H Q ⟨B,F,δ,ts,Qd,c,q,k⟩=>⟨B,F,δ,ts,_,c,q,λd ao v F1 H1 hd f1 h1 c1 s=>by
  obtain⟨xs,e,hq⟩:=hd
  have c3:=c1.snap
  have e2:=c1.ext
  have sn:=oZ e2
  cases s with
  | @shr p ws ys _ _ hp r _ =>
   obtain rfl:=cM e
   refine⟨p,rfl,⟨ws,bu.of (e2 _ _ hp)⟩,k _ _ ao _ _ H1 hq (f1.trans sn) h1 c3 ?_ λ_=>⟨r.pl,lu (.inl (sn _ _ hp)) (r.shared sn (aa.refl _)) rh⟩⟩
   rw[j6 r.pl]
   exact lu (.inl (e2 _ _ hp)) (r.shared e2 (aa.refl _)) (Full.refl _)
  | @own p ws ys _ _ hp r _ =>
   obtain rfl:=cM e
   refine⟨p,rfl,⟨ws,bu.of hp⟩,k _ _ ao _ _ H1 hq (f1.trans sn) h1 c3 (lu (.inl hp) (r.frozen e2) (Full.refl _)) λz=>by simp[gX]at z⟩
  | @fz p o ws ys _ _ hp r _ =>
   obtain rfl:=cM e
   refine⟨p,rfl,⟨ws,.inl (.inr ⟨o,e2 _ _ hp⟩)⟩,k _ _ ao _ _ H1 hq (f1.trans sn) h1 c3 ?_ λ_=>⟨r.pl,lu (.inr ⟨o,sn _ _ hp⟩) (r.shared sn (aa.refl _)) rh⟩⟩
   rw[j6 r.pl]
   exact lu (.inr ⟨o,e2 _ _ hp⟩) (r.shared e2 (aa.refl _)) (Full.refl _)
  | ak _=>cases e
  | bl _=>cases e
  | int _=>cases e
  | str _=>cases e
  | tup _ _ _=>cases e
  | obj _ _ _ _=>cases e
  | aX _ _=>cases e⟩
theorem wo(f:Nat->Int)(l:List Nat):(l.map λk=>D.int (f k)).map D.sh=l.map λk=>D.int (f k):=by simp[D.sh]
theorem NW(f:Nat->Int)(l:List Nat):(l.map λk=>D.int (f k)).all D.pl=true:=by simp[D.pl]
noncomputable def rK(t:cq):iG:=λδ Q=>t δ λds ah=>∃j:Int,ds=[.int j]/\(-(2 ^ 62)<=j/\j<2 ^ 62)/\Q true ((aR j.toNat).map λ(k:Nat)=>D.int (0+(k:Int))) ah
theorem i7{p:Pos}(hg:Gl X "range")(hm:X.mg "range"=none)(ha:PA X [a] (lA ta))(hs:starEach [a] X.env=[(false,eval a X.env)]:=by rfl):PI X tg (.Call (.Name "range" p) [a] [] pos) (lI (rK ta)) :=
 rG (VO hg hm ha hs) λσ H Q ⟨B,F,δ,ts,Qd,c,q,k⟩=>⟨B,F,δ,ts,_,c,q,λds ao vs F1 H1 hd f1 h1 c1 s=>by
  obtain⟨j,rfl,⟨b1,b2⟩,hq⟩:=hd
  cases s with
  | int s =>
   cases s
   refine⟨j,rfl,b1,b2,k true _ ao _ _ H1 hq f1 h1 c1 ?_ λ_=>⟨NW _ _,zS 0 _⟩⟩
   rw[wo]
   exact zS 0 _⟩
noncomputable def rL(t:cq):iG:=λδ Q=>t δ λds ah=>∃i j:Int,ds=[.int i,.int j]/\(-(2 ^ 62)<=i/\i<2 ^ 62/\-(2 ^ 62)<=j/\j<2 ^ 62)/\Q true ((aR (j-i).toNat).map λ(k:Nat)=>D.int (i+(k:Int))) ah
theorem zT{p:Pos}(hg:Gl X "range")(hm:X.mg "range"=none)(ha:PA X [a,b] (lA ta))(hs:starEach [a,b] X.env=[(false,eval a X.env),(false,eval b X.env)]:=by rfl)(gL:starEach [b] X.env=[(false,eval b X.env)]:=by rfl) :
  PI X tg (.Call (.Name "range" p) [a,b] [] pos) (lI (rL ta)) :=
 rG (VP hg hm ha hs gL) λσ H Q ⟨B,F,δ,ts,Qd,c,q,k⟩=>⟨B,F,δ,ts,_,c,q,λds ao vs F1 H1 hd f1 h1 c1 s=>by
  obtain⟨i,j,rfl,bd,hq⟩:=hd
  cases s with
  | int s =>
   cases s with
   | int s =>
    cases s
    refine⟨i,j,rfl,bd,k true _ ao _ _ H1 hq f1 h1 c1 ?_ λ_=>⟨NW _ _,zS i _⟩⟩
    rw[wo]
    exact zS i _⟩
noncomputable def gZ(xs:List D)(g:fW)(tb:cC):cC:=λEn ao=>∃Iv:Nat->Dl->Prop,Iv 0 ao /\
 (∀i d ah,xs[i]?=some d->Iv i ah->g d ah λaM=>tb { En with nx:=Iv (i+1),ct:=Iv (i+1),bk:=En.nx } aM)/\∀ah,Iv xs.length ah->En.nx ah
theorem gZ.mk{xs:List D}{g:fW}{tb:cC}{En:rj}{δ:Dl}(Iv:Nat->Dl->Prop)(h0:Iv 0 δ)(ht:∀i d ah,xs[i]?=some d->Iv i ah->g d ah λaM=>tb { En with nx:=Iv (i+1),ct:=Iv (i+1),bk:=En.nx } aM)
  (hf:∀ah,Iv xs.length ah->En.nx ah):gZ xs g tb En δ:=⟨Iv,h0,ht,hf⟩
noncomputable def rM(ti:iG)(g:fW)(tb:cC):cC:=λEn δ=>ti δ λsh xs ao=>sh=true/\gZ xs g tb En ao
theorem g5{ti:iG}{g:fW}{body:List Stmt}(hp:PassesOwn (model X.prog X.w) X.A X.env X.xe)(hc:X.calm=true)(hi:PI X tg iter (lI ti))(hg:PG X tg (lG 0 g))(hb:PSs X body (lS X t))
  (hs:∀x,foldedSetIterable iter X.env x=pure x:=by intro _;rfl):PS X (.For tg iter body [] pos) (lS X (rM ti g t)) :=
 j8 (VS hp hc hi hg hb hs) λEn σ H ⟨B,F,δ,Dd,c,q,k1,k2,k3,k4⟩=>⟨B,F,δ,[],_,c,q,λsh xs ao J F1 H1 hq f1 h1 c1 _ jd=>by
  obtain⟨mZ,Iv,i0,turn,fin⟩:=hq
  obtain⟨bJ,jd⟩:=jd mZ
  have un:∀{F' H':Hp} {ax:L2.St} {ah:Dl} {ts:List (D × V)},aj ⟨B.H0,F1⟩ F' H' ax ah ts->aj B F' H' ax ah ts:=λc'=>c'.Y0 c1.b2 c1.b3
  refine⟨λi m σ H=>m=xs.length-i/\i<=xs.length/\∃F δ,aj ⟨B.H0,F1⟩ F H σ δ []/\Iv i δ,⟨_,rfl,ji _,F1,ao,c1.rebase,i0⟩,?_⟩
  rintro i m jV H2 ⟨rfl,hi,F2,aM,c2,iv⟩
  have s2:aa F1 H2:=c2.b2.trans c2.ext
  by_cases eA:i<xs.length
  ·refine .inr ⟨jd.go i H2 s2 eA,λax H'=>∃F δ,aj ⟨B.H0,F1⟩ F H' ax δ []/\Iv (i+1) δ,λax H' z=>⟨xs.length-(i+1),by omega,rfl,eA,z⟩,λx H3 y=>?_⟩
   obtain⟨d,e,s3,r⟩:=jd.i3 i H2 x H3 s2 eA y
   have c3:=(c2.grow s3).pushS (d:=d) (v:=x) ((r.s).mono c2.b2 (aa.refl _)) (by have:=r.pl;simpa using this)
   refine⟨⟨B.H0,F1⟩,F2,aM,[],d,_,c3,turn i d aM e iv,λah ax hq _ _ c4=>?_⟩
   exact⟨⟨B.H0,F1⟩,F2,ah,_,c4,hq,λiH ly F5 H5 h5 c5=>⟨F5,iH,c5,h5⟩,λd5 v5 iH ly F5 H5 h5 c5=>k2 d5 v5 iH ly F5 H5 h5 (un c5),λiH ly F5 H5 h5 c5=>k1 iH ly F5 H5 h5 (un c5),λiH ly F5 H5 h5 c5=>⟨F5,iH,c5,h5⟩,⟨λC iH pins ly F5 H5 s5 a T h5 c5=>k4.2.1 C iH pins ly F5 H5 s5 a T h5 (un c5),λC iH pins ly F5 H5 s5 h' e vs h5 c5=>k4.2.2 C iH pins ly F5 H5 s5 h' e vs h5 (un c5)⟩⟩
  ·have e:i=xs.length:=by omega
   subst e
   exact .inl ⟨jd.stop _ H2 s2 (aZ _),k1 aM jV F2 H2 (fin aM iv) (un c2)⟩⟩
end
end L3
namespace L3
open PySem L2 PySem.Spec PyProof.Rows
noncomputable def iJ(δ:Dl)(q:Str × Nat):Option D:=(δ[q.2]?).getD none
noncomputable def g6(δ:Dl)(q:Str × Nat):Bool:=match iJ δ q with
 | some d=>d.pl
 | none=>true
noncomputable def e5(au:List (Str × Nat))(n:Nat)(δ:Dl):Dl:=(au.map λq=>(iJ δ q).map D.sh)++aT n none
noncomputable def ph(sh:Bool)(xs:List D)(au:List (Str × Nat))(n:Nat)(g:fW)(tt:fj)(te:aI)(ao:Dl)(Q:D->Dl->Prop):Prop:=∃(p:D->Bool) (f:D->D),
 (∀x∈xs.map D.sh,g x (e5 au n ao) λaM=>tt aM λb gA=>b=p x/\(p x=true->te gA λd _=>d=f x)) /\
 ((sh&&au.all (g6 ao))=true\/∀x∈xs.map D.sh,p x=true->(f x).fr=true)/\xs.length<=sizeLine/\Q (.lst true (((xs.map D.sh).filter p).map f)) ao
noncomputable def pj(ti:iG)(au:List (Str × Nat))(n:Nat)(g:fW)(tt:fj)(te:aI):aI:=λδ Q=>ti δ λsh xs ao=>ph sh xs au n g tt te ao Q
noncomputable def jA:fj:=λδ Q=>Q true δ
theorem Ze{sh:Bool}{xs:List D}{au:List (Str × Nat)}{n m:Nat}{te:aI}{ao:Dl}{Q:D->Dl->Prop}(f:D->D)(hx:∀x∈xs.map D.sh,te ((e5 au n ao).set m (some x)) λd _=>d=f x)
  (dM:(sh&&au.all (g6 ao))=true\/∀x∈xs.map D.sh,(f x).fr=true) (hl:xs.length<=sizeLine) (hq:Q (.lst true ((xs.map D.sh).map f)) ao):ph sh xs au n (gN m) jA te ao Q :=
 ⟨λ_=>true,f,λx h=>⟨rfl,λ_=>hx x h⟩,dM.imp id λh x hx _=>h x hx,hl,by rw[Ut.mpr (λ_ _=>rfl)];exact hq⟩
section
variable{B:Bs}{F H:Hp}{σ:L2.St}{δ:Dl}{ts:List (D × V)}
theorem NX(c:aj B F H σ δ ts)(n:Nat):∀(au:List (Str × Nat)),au.all (g6 δ)=true->RS F H (e5 au n δ) (fS au n σ) []
 | [],_=>by
  have z:∀n,RS F H (aT n none) (aT n none) []:=λn=>by
   induction n with
   | zero=>exact .nil
   | succ n ih=>exact .ak ih
  exact z n
 | q::r,h=>by
  rw[dX,du]at h
  have ih:=NX c n r h.2
  show RS F H ((iJ δ q).map D.sh::e5 r n δ) ((σ[q.2]?).getD none::fS r n σ) []
  cases e:iJ δ q with
  | none=>exact .ak ih
  | some d =>
   have e2:δ[q.2]?=some (some d):=by
    unfold iJ at e
    cases z:δ[q.2]? with
    | none=>rw[z]at e;cases e
    | some o=>rw[z]at e;exact congrArg some e
   have hp:d.pl=true:=by have:=h.1;unfold g6 at this;rw[e]at this;exact this
   obtain⟨v,e3,s⟩:=c.look e2
   rw[e3]
   show RS F H (some d.sh::_) (some v::_) []
   rw[D.zJ hp]
   exact .fh (A:=[]) (s.r (by simp[hp])) ih
theorem NY(c:aj B F H σ δ ts)(n:Nat):∀(au:List (Str × Nat)),RS H H (e5 au n δ) (fS au n σ) []
 | []=>by
  have z:∀n,RS H H (aT n none) (aT n none) []:=λn=>by
   induction n with
   | zero=>exact .nil
   | succ n ih=>exact .ak ih
  exact z n
 | q::r=>by
  have ih:=NY c n r
  show RS H H ((iJ δ q).map D.sh::e5 r n δ) ((σ[q.2]?).getD none::fS r n σ) []
  cases e:iJ δ q with
  | none=>exact .ak ih
  | some d =>
   have e2:δ[q.2]?=some (some d):=by
    unfold iJ at e
    cases z:δ[q.2]? with
    | none=>rw[z]at e;cases e
    | some o=>rw[z]at e;exact congrArg some e
   obtain⟨v,e3,s⟩:=c.look e2
   rw[e3]
   exact .fh (A:=[]) (s.frozen c.ext) ih
theorem NZ{α:Type}(xs:List α)(p:α->Bool)(i:Nat)(x:α)(h:xs[i]?=some x):(xs.take (i+1)).filter p=(xs.take i).filter p++(if p x=true then [x]else []):=by
 rw[yM,h,Uu]
 simp only[Option.toList_some]
 by_cases hp:p x=true<;>simp[hp]
end
section
variable{X:Cx}{elt iter tg:Expr}{pos:Pos}{ifs:List Expr}{scope:Scope}{cl:List (Str × Addr)}{ti:iG}{tt:fj}{te:aI}{g:fW}
theorem N0{B:Bs}{F1 H1:Hp}{σ:L2.St}{ao:Dl}{ts:List (D × V)}{J:It}{Qd:D->Dl->Prop}{Q:VK}{xs:List D}{sh:Bool}{au:List (Str × Nat)}{n:Nat}(c1:aj B F1 H1 σ ao ts)
  (pk:JD J H1 (xs.map D.sh)) (wq:sh=true->xs.all D.pl=true/\JD J F1 xs) (p:D->Bool) (f:D->D)
  (hx:∀x∈xs.map D.sh,g x (e5 au n ao) λaM=>tt aM λb gA=>b=p x/\(p x=true->te gA λd _=>d=f x))
  (dM:(sh&&au.all (g6 ao))=true\/∀x∈xs.map D.sh,p x=true->(f x).fr=true) (hlen:xs.length<=sizeLine) (hq:Qd (.lst true (((xs.map D.sh).filter p).map f)) ao)
  (k:∀d ah v F' H',Qd d ah->aa F1 F'->aa H1 H'->aj B F' H' σ ah ((d,v)::ts)->Q v H'):Ny J au n (lG au.length g) (lT tt) (lE te) σ H1 Q:=by
 intro Dp hD
 have cD:aj B F1 (upd H1 Dp (.lst [])) σ ao ((.lst true [],.ref Dp)::ts):=c1.kZ hD .nil rfl
 refine⟨λi m acc H2=>m=xs.length-i/\i<=xs.length/\H2 Dp=some (.lst acc)/\aa H1 H2/\acc.length<=i/\∃F2,aa F1 F2 /\
  aj B F2 H2 σ ao ((.lst true ((((xs.map D.sh).take i).filter p).map f),.ref Dp)::ts),⟨xs.length,rfl,ji _,bW,aa.upd hD,aZ _,F1,aa.refl _,by simpa using cD⟩,?_⟩
 rintro i m acc H2 ⟨rfl,hi,pq,wt,Zf,F2,ka,c2⟩
 refine⟨pq,?_⟩
 by_cases eA:i<xs.length
 case neg =>
  have e:i=xs.length:=by omega
  subst e
  refine .inl ⟨pk.stop _ H2 wt (by simp),k _ ao _ F2 H2 ?_ ka wt c2⟩
  have:(xs.map D.sh).take xs.length=xs.map D.sh:=by rw[yN (by simp)]
  rw[this]
  exact hq
 case pos =>
  refine .inr ⟨pk.go i H2 wt (by simpa using eA),λx H3 y=>?_⟩
  obtain⟨d0,e0,Ea,r0⟩:=pk.i3 i H2 x H3 wt (by simpa using eA) y
  have lC:d0∈xs.map D.sh:=n6 e0
  have N1:H3 Dp=some (.lst acc):=Ea _ _ pq
  have c3:=c2.grow Ea
  have Eb:=wt.trans Ea
  refine⟨N1,?_⟩
  have wu:=hx d0 lC
  have turn:∀Fi,aa Fi H3->RS Fi H3 (e5 au n ao) (fS au n σ) []->S Fi H3 [d0] [x]->d0.pl=true ->
    (∀d v F' H' A,d=f d0->p d0=true->aa H3 H'->aa Fi F'->aa F' H'->(∀a ws,F' a=some (.lst ws)->Fi a=some (.lst ws)\/H3 a=none)->R F' H' [d] [v] A->A.Nodup->(∀a∈A,H3 a=none) ->
     ∃F4,aa F2 F4/\aj B F4 H' σ ao ((d,v)::(.lst true ((((xs.map D.sh).take i).filter p).map f),.ref Dp)::ts)) ->
    lG au.length g x (fS au n σ) H3 λfH H4 =>
     (fH.length=(fS au n σ).length/\∀j,j<au.length->fH[j]?=(fS au n σ)[j]?)/\lT tt fH H4 λb H5=>H5 Dp=some (.lst acc) /\
     if b=true then lE te fH H5 λy H6=>H6 Dp=some (.lst acc)/\acc.length<sizeLine/\∃m',m'<xs.length-i /\
      (m'=xs.length-(i+1)/\i+1<=xs.length/\upd H6 Dp (.lst (acc++[y])) Dp=some (.lst (acc++[y]))/\aa H1 (upd H6 Dp (.lst (acc++[y])))/\(acc++[y]).length<=i+1/\∃F2,aa F1 F2 /\
       aj B F2 (upd H6 Dp (.lst (acc++[y]))) σ ao ((.lst true ((((xs.map D.sh).take (i+1)).filter p).map f),.ref Dp)::ts))
     else ∃m',m'<xs.length-i/\(m'=xs.length-(i+1)/\i+1<=xs.length/\H5 Dp=some (.lst acc)/\aa H1 H5/\acc.length<=i+1/\∃F2,aa F1 F2 /\
       aj B F2 H5 σ ao ((.lst true ((((xs.map D.sh).take (i+1)).filter p).map f),.ref Dp)::ts)):=by
   intro Fi Zg Zh hS bJ back
   have ci:aj ⟨H3,Fi⟩ Fi H3 (fS au n σ) (e5 au n ao) []:=⟨Zg,aa.refl _,aa.refl _,λ_ _ q=>.inl q,[],[],.nil,Zh,by simp,by simp⟩
   refine⟨⟨H3,Fi⟩,Fi,e5 au n ao,[],d0,_,ci.pushS hS bJ,wu,λah fH Zi l1 k1 c4=>⟨⟨l1,k1⟩,⟨H3,Fi⟩,Fi,ah,[],_,c4,Zi,λb iH F5 H5 hb f5 h5 c5=>?_⟩⟩
   obtain⟨hb,ht⟩:=hb
   have zU:H5 Dp=some (.lst acc):=h5 _ _ N1
   refine⟨zU,?_⟩
   by_cases hp:p d0=true
   ·rw[hb,hp]
    refine oS ⟨⟨H3,Fi⟩,F5,iH,[],_,c5,ht hp,λd δ6 v F6 H6 hd f6 h6 c6=>?_⟩
    have N2:H6 Dp=some (.lst acc):=h6 _ _ zU
    obtain⟨A,C,r,s,nd,fr⟩:=c6.own
    obtain⟨F4,rN,c7⟩:=back d v F6 H6 A hd hp c6.b1 c6.b2 c6.ext c6.b3 r (fi.mp nd).1 λa ha=>fr a (e7 _ ha)
    have c8:=c7.Y4 N2
    refine⟨N2,by omega,xs.length-(i+1),by omega,rfl,eA,bW,?_,by simpa using Zf,F4,ka.trans rN,?_⟩
    ·have N3:=Eb.trans c6.b1
     exact⟨λa o q n=>by rw[aP (dZ q hD)];exact N3.get a o q n,λa ps q=>by rw[aP (dZ q hD)];exact N3.tb a ps q⟩
    ·have e9:(((xs.map D.sh).take (i+1)).filter p).map f=(((xs.map D.sh).take i).filter p).map f++[d]:=by
      rw[NZ _ p i d0 e0,hp,hd];simp
     rw[e9]
     exact c8
   ·have N4:p d0=false:=by simpa using hp
    rw[hb,N4]
    refine kP ⟨xs.length-(i+1),by omega,rfl,eA,zU,Eb.trans h5,by omega,F2,ka,?_⟩
    have e9:(((xs.map D.sh).take (i+1)).filter p).map f=(((xs.map D.sh).take i).filter p).map f:=by
     rw[NZ _ p i d0 e0,N4];simp
    rw[e9]
    exact c3.grow h5
  by_cases hA:(sh&&au.all (g6 ao))=true
  ·rw[du]at hA
   obtain⟨bJ,jd⟩:=wq hA.1
   have mZ:=j6 bJ
   rw[mZ]at e0
   obtain⟨d1,e1,_,r1⟩:=jd.i3 i H2 x H3 (ka.trans c2.ext) eA y
   rw[e0]at e1;cases e1
   have Zj:d0.pl=true:=by have:=r1.pl;simpa using this
   refine turn F2 c3.ext (NX c3 n au hA.2) ((r1.s).mono ka (aa.refl _)) Zj λd v F' H' A hd hp hs hf he h3 r nd fr=>⟨F',hf,c3.call hs hf he h3 r nd fr⟩
  ·have Zk:=dM.resolve_left hA
   refine turn H3 (aa.refl _) (NY c3 n au) ((r0.shared Eb (aa.refl _)).s) (by have:=r0.pl;simpa using this) λd v F' H' A hd hp hs hf he h3 r nd fr=>⟨F2,aa.refl _,?_⟩
   exact c3.D4 hs (r.D3 (by rw[hd];simp[Zk d0 lC hp]) (c3.ext.trans hf)) nd fr
theorem fm{Y:Cx}:kT Y [] (lT jA):=λ_ _ _ H _ I ⟨B,F,δ,ts,Qd,c,q,k⟩=>Yf _ _ _ H _ I (k true δ F H q (aa.refl _) (aa.refl _) c)
theorem N5{Y:Cx}{c:Expr}(h:PT Y c (lT tt)):kT Y [c] (lT tt):=Yg h
end
end L3
namespace L3
open PySem L2 PySem.Spec PyProof.Rows
section
variable{X:Cx}{F H:Hp}{v w:V}
noncomputable def l2(rd:ck):R2:=λv w H Q=>∃B F σ δ ts x y Qd,aj B F H σ δ ts/\S F H [x] [v]/\S F H [y] [w]/\rd x y Qd/\∀d z H',Qd d->aa H H'->aj B F H' σ δ ((d,z)::ts)->Q z H'
theorem bL.of{f:Value->Value->Sem Value}{rd:ck}(h:cg X f (l2 rd)):bL X f rd:=⟨_,h,λ{B F H σ δ ts x y v w Q Qd} c sx sy q k=>⟨B,F,σ,δ,ts,x,y,Qd,c,sx,sy,q,k⟩⟩
theorem wz{f:Value->Value->Sem Value}{C:Int->Int->Prop}{g:Int->Int->V}{gd:Int->Int->D}(ho:cg X f (rI C g))(hg:∀i j F H,S F H [gd i j] [g i j])(hp:∀i j,(gd i j).pl=true):bL X f λx y Q=>∃i j,x=.int i/\y=.int j/\C i j/\Q (gd i j) :=
 ⟨_,ho,λ{B F H σ δ ts x y v w Q Qd} c sx sy h k=>by
  obtain⟨i,j,rfl,rfl,hc,q⟩:=h
  cases sx;cases sy
  exact⟨i,j,rfl,rfl,hc,k _ _ _ q (aa.refl _) (c.pushS (hg i j F H) (hp i j))⟩⟩
theorem kb{f:Value->Value->Sem Value}{g:Int->Int->V}{gd:Int->Int->D}(ho:cg X f (iA g))(hg:∀i j F H,S F H [gd i j] [g i j])(hp:∀i j,(gd i j).pl=true):bL X f λx y Q=>∃i j,x=.int i/\y=.int j/\Q (gd i j) :=
 ⟨_,ho,λ{B F H σ δ ts x y v w Q Qd} c sx sy h k=>by
  obtain⟨i,j,rfl,rfl,q⟩:=h
  cases sx;cases sy
  exact⟨i,j,rfl,rfl,k _ _ _ q (aa.refl _) (c.pushS (hg i j F H) (hp i j))⟩⟩
theorem fJ{o:Bool}{xs:List D}(s:S F H [.lst o xs] [v])(e:aa F H):∃p ws,v=.ref p/\H p=some (.lst ws)/\S F H xs ws:=by
 cases s with
 | shr h r _=>exact⟨_,_,rfl,e _ _ h,r.s⟩
 | own h r _=>exact⟨_,_,rfl,h,r⟩
theorem iK{xs:List D}(s:S F H [.tup xs] [v]):∃p ws,v=.ref p/\H p=some (.tup ws)/\S F H xs ws:=by
 cases s with
 | tup h r _=>exact⟨_,_,rfl,h,r⟩
theorem lD{d:D}{xs:List D}(s:S F H [d] [v])(e:aa F H)(h:i6 d=some xs):∃p ws,v=.ref p/\Rd H p (.lst ws)/\S F H xs ws:=by
 cases s with
 | shr h' r _=>cases h;exact⟨_,_,rfl,.inl (e _ _ h'),r.s⟩
 | own h' r _=>cases h;exact⟨_,_,rfl,.inl h',r⟩
 | fz h' r _=>cases h;exact⟨_,_,rfl,.inr ⟨_,e _ _ h'⟩,r.s⟩
 | ak _=>cases h
 | bl _=>cases h
 | int _=>cases h
 | str _=>cases h
 | tup _ _ _=>cases h
 | obj _ _ _ _=>cases h
 | aX _ _=>cases h
theorem S.rep{xs:List D}{ws:List V}(s:S F H xs ws):∀k:Nat,S F H (aT k xs).flatten (aT k ws).flatten
 | 0=>by simpa using S.nil
 | k+1=>by
  rw[n8,n8,qA,qA]
  exact s.append (S.rep s k)
noncomputable def pz:ck:=λx y Q=>match x,y with
 | .int i,.int j=>Q (.int (i+j))
 | .str a,.str b=>a.length+b.length<=sizeLine/\Q (.str (a++b))
 | .lst _ xs,.lst _ ys=>(xs.length+ys.length<=sizeLine/\xs.all D.pl=true/\ys.all D.pl=true)/\Q (.lst true (xs++ys))
 | _,_=>False
theorem Zl:bL X (binaryOp .Add) λx y Q=>∃o xs o' ys,x=.lst o xs/\y=.lst o' ys/\(xs.length+ys.length<=sizeLine/\xs.all D.pl=true/\ys.all D.pl=true)/\Q (.lst true (xs++ys)) :=
 ⟨_,M3,λ{B F H σ δ ts x y v w Q Qd} c sx sy h k=>by
  obtain⟨o,xs,o',ys,rfl,rfl,⟨hz,h1,h2⟩,q⟩:=h
  obtain⟨p,ws,rfl,e1,s1⟩:=fJ sx c.ext
  obtain⟨p',dv,rfl,e2,s2⟩:=fJ sy c.ext
  refine⟨p,p',ws,dv,rfl,rfl,e1,e2,by rw[<-s1.length,<- s2.length];exact hz,λr hr=>?_⟩
  exact k _ _ _ q (aa.upd hr) (c.kZ hr (s1.append s2) (by simp[h1,h2]))⟩
theorem Zm:bL X (binaryOp .Add) λx y Q=>∃i j,x=.str i/\y=.str j/\i.length+j.length<=sizeLine/\Q (.str (i++j)) :=
 ⟨_,Wa,λ{B F H σ δ ts x y v w Q Qd} c sx sy h k=>by
  obtain⟨i,j,rfl,rfl,hz,q⟩:=h
  cases sx;cases sy
  exact⟨i,j,rfl,rfl,hz,k _ _ _ q (aa.refl _) (c.pushS (.str .nil) rfl)⟩⟩
theorem eC:bL X (binaryOp .Add) pz:=((kb (gd:=λi j=>.int (i+j)) VU (λ_ _ _ _=>.int .nil) λ_ _=>rfl).or (Zm.or Zl)).imp λx y Q h=>by
 unfold pz at h
 split at h
 ·exact .inl ⟨_,_,rfl,rfl,h⟩
 ·exact .inr (.inl ⟨_,_,rfl,rfl,h.1,h.2⟩)
 ·exact .inr (.inr ⟨_,_,_,_,rfl,rfl,h.1,h.2⟩)
 ·exact h.elim
noncomputable def iI(C:Int->Int->Prop)(g:Int->Int->D):ck:=λx y Q=>match x,y with
 | .int i,.int j=>C i j/\Q (g i j)
 | _,_=>False
noncomputable def fX(g:Int->Int->D):ck:=λx y Q=>match x,y with
 | .int i,.int j=>Q (g i j)
 | _,_=>False
theorem zV{f:Value->Value->Sem Value}{C:Int->Int->Prop}{g:Int->Int->D}(h:bL X f λx y Q=>∃i j,x=.int i/\y=.int j/\C i j/\Q (g i j)):bL X f (iI C g):=h.imp λx y Q h=>by
 unfold iI at h
 split at h
 ·exact⟨_,_,rfl,rfl,h.1,h.2⟩
 ·exact h.elim
theorem lF{f:Value->Value->Sem Value}{g:Int->Int->D}(h:bL X f λx y Q=>∃i j,x=.int i/\y=.int j/\Q (g i j)):bL X f (fX g):=h.imp λx y Q h=>by
 unfold fX at h
 split at h
 ·exact⟨_,_,rfl,rfl,h⟩
 ·exact h.elim
noncomputable def rO:ck:=fX λi j=>.int (i-j)
theorem iM:bL X (binaryOp .Sub) rO:=lF (kb Dq (λ_ _ _ _=>.int .nil) λ_ _=>rfl)
noncomputable def Ec(_ j:Int):Prop:=0<j/\j.natAbs.log2<9000
theorem nk{i j:Int}(h1:0<j)(h2:j<1073741824):Ec i j:=⟨h1,by
 have h:j.natAbs<2 ^ 30:=by omega
 have:=(Nat.log2_lt (show j.natAbs≠0 by omega)).mpr h
 omega⟩
theorem Zn:cg X (binaryOp .FloorDiv) (rI Ec λi j=>.int (i/j)):=vL λi j _ _ _ _ _ hc q =>
 floordiv_int (show j≠0 by have:=hc.1;omega) (by rw[Uh i (by have:=hc.1;omega)];exact q) (.inl (PyProof.noPylong_of_log2 hc.2))
noncomputable def rP:ck:=iI Ec λi j=>.int (i/j)
theorem nq:bL X (binaryOp .FloorDiv) rP:=zV (wz Zn (λ_ _ _ _=>.int .nil) λ_ _=>rfl)
noncomputable def rQ:ck:=iI (λ_ j=>0<j) λi j=>.int (i%j)
theorem df:bL X (binaryOp .Mod) rQ:=zV (wz VV (λ_ _ _ _=>.int .nil) λ_ _=>rfl)
noncomputable def rS:ck:=iI Nw λi j=>.int (i*2 ^ j.toNat)
theorem rU:bL X (binaryOp .LShift) rS:=zV (wz Nx (λ_ _ _ _=>.int .nil) λ_ _=>rfl)
noncomputable def rV:ck:=iI (λ_ j=>0<=j) λi j=>.int (i/2 ^ j.toNat)
theorem N6:bL X (binaryOp .RShift) rV:=zV (wz VW (λ_ _ _ _=>.int .nil) λ_ _=>rfl)
noncomputable def rW:ck:=fX λi j=>.int (mG i j)
theorem N7:bL X (binaryOp .BitAnd) rW:=lF (kb VX (λ_ _ _ _=>.int .nil) λ_ _=>rfl)
noncomputable def rX:ck:=fX λi j=>.int (mH i j)
theorem rY:bL X (binaryOp .BitXor) rX:=lF (kb VY (λ_ _ _ _=>.int .nil) λ_ _=>rfl)
theorem Zo:cg X (binaryOp .Mult) (rI IntMulOk λi j=>.int (i*j)):=vL λ_ _ _ _ _ _ _ hc q=>mul_int q hc
noncomputable def pB:ck:=λx y Q=>match x,y with
 | .int i,.int j=>IntMulOk i j/\Q (.int (i*j))
 | .lst _ xs,.int k=>(-(2 ^ 63)<=k/\k<2 ^ 63/\xs.length*k.toNat<=sizeLine/\xs.all D.pl=true)/\Q (.lst true (aT k.toNat xs).flatten)
 | _,_=>False
theorem Zp:bL X (binaryOp .Mult) λx y Q=>∃o xs k,x=.lst o xs/\y=.int k/\(-(2 ^ 63)<=k/\k<2 ^ 63/\xs.length*k.toNat<=sizeLine/\xs.all D.pl=true)/\Q (.lst true (aT k.toNat xs).flatten) :=
 ⟨_,Xs,λ{B F H σ δ ts x y v w Q Qd} c sx sy h k=>by
  obtain⟨o,xs,n,rfl,rfl,⟨b1,b2,hz,h1⟩,q⟩:=h
  obtain⟨p,ws,rfl,e1,s1⟩:=fJ sx c.ext
  cases sy
  refine⟨p,n,ws,rfl,rfl,e1,b1,b2,by rw[<-s1.length];exact hz,λr hr=>?_⟩
  refine k _ _ _ q (aa.upd hr) (c.kZ hr (s1.rep _) ?_)
  rw[dy]
  intro x hx
  obtain⟨l,hl,jB⟩:=List.mem_flatten.mp hx
  rw[(LQ.mp hl).2]at jB
  exact dy.mp h1 x jB⟩
theorem i8:bL X (binaryOp .Mult) pB:=((wz (gd:=λi j=>.int (i*j)) Zo (λ_ _ _ _=>.int .nil) λ_ _=>rfl).or Zp).imp λx y Q h=>by
 unfold pB at h
 split at h
 ·exact .inl ⟨_,_,rfl,rfl,h.1,h.2⟩
 ·exact .inr ⟨_,_,_,rfl,rfl,h.1,h.2⟩
 ·exact h.elim
theorem Zq:bL X (inplaceOp .Add) (fX λi j=>.int (i+j)):=lF (kb VZ (λ_ _ _ _=>.int .nil) λ_ _=>rfl)
theorem Ee:bL X (inplaceOp .BitXor) (fX λi j=>.int (mH i j)):=lF (kb V0 (λ_ _ _ _=>.int .nil) λ_ _=>rfl)
noncomputable def rZ:ck:=fX λi j=>.bl (decide (i<j))
noncomputable def r6:ck:=fX λi j=>.bl (decide (i<=j))
noncomputable def r9:ck:=fX λi j=>.bl (decide (j<i))
noncomputable def se:ck:=fX λi j=>.bl (decide (j<=i))
theorem sg:bL X (compareOp .Lt) rZ:=lF (kb V2 (λ_ _ _ _=>.bl .nil) λ_ _=>rfl)
theorem wA:bL X (compareOp .LtE) r6:=lF (kb V3 (λ_ _ _ _=>.bl .nil) λ_ _=>rfl)
theorem Zr:bL X (compareOp .Gt) r9:=lF (kb V4 (λ_ _ _ _=>.bl .nil) λ_ _=>rfl)
theorem Zs:bL X (compareOp .GtE) se:=lF (kb V5 (λ_ _ _ _=>.bl .nil) λ_ _=>rfl)
noncomputable def nr:D->Bool
 | .ak=>true
 | _=>false
noncomputable def pF:ck:=λx y Q=>match y with
 | .ak=>Q (.bl (!nr x))
 | _=>False
theorem Zt{d:D}(s:S F H [d] [v]):decide (v=.ak)=nr d:=by cases s<;>simp[nr]
theorem Zu:bL X (compareOp .IsNot) pF:=⟨_,V6,λ{B F H σ δ ts x y v w Q Qd} c sx sy h k=>by
 unfold pF at h
 split at h
 ·cases sy
  refine⟨rfl,?_⟩
  rw[Zt sx]
  exact k _ _ _ h (aa.refl _) (c.pushS (.bl .nil) rfl)
 ·exact h.elim⟩
noncomputable def bF:D->D->Bool
 | .ak,.ak=>true
 | .bl a,.bl b=>a==b
 | .bl a,.int b=>(if a then 1 else 0)==b
 | .int a,.bl b=>a==(if b then 1 else 0)
 | .int a,.int b=>a==b
 | .str a,.str b=>a==b
 | .lst _ xs,.lst _ ys=>eU xs ys
 | .tup xs,.tup ys=>eU xs ys
 | _,_=>false
where eU:List D->List D->Bool
 | [],[]=>true
 | x::xs,y::ys=>bF x y&&eU xs ys
 | _,_=>false
noncomputable def aL:Nat->D->Bool
 | _,.ak=>true
 | _,.bl _=>true
 | _,.int _=>true
 | _,.str _=>true
 | n+1,.lst _ xs=>xs.all (aL n)
 | n+1,.tup xs=>xs.all (aL n)
 | _,_=>false
theorem Ef:∀(xs ys:List D),xs.length=ys.length->bF.eU xs ys=(aR xs.length).all λj=>bF (xs.getD j .ak) (ys.getD j .ak)
 | [],[],_=>rfl
 | x::xs,y::ys,h=>by
  rw[jh,Uv,dX,oi]
  show(bF x y&&bF.eU xs ys)=_
  rw[Ef xs ys (by simpa using h)]
  rfl
theorem Eg:∀(xs ys:List D),xs.length≠ys.length->bF.eU xs ys=false
 | [],[],h=>absurd rfl h
 | [],_::_,_=>rfl
 | _::_,[],_=>rfl
 | x::xs,y::ys,h=>by
  show(bF x y&&bF.eU xs ys)=false
  rw[Eg xs ys (by simpa using h),Bool.and_false]
noncomputable def Zv:V->D
 | .bl b=>.bl b
 | .int i=>.int i
 | .str z=>.str z
 | _=>.ak
theorem N8{x:D}{v:V}(h:aL 0 x=true)(s:S F H [x] [v]):x=Zv v:=by
 cases s with
 | ak _=>rfl
 | bl _=>rfl
 | int _=>rfl
 | str _=>rfl
 | _=>cases h
theorem Zw{x:D}(h:aL 0 x=true):bF x x=true:=by
 cases x with
 | ak=>rfl
 | bl b=>exact beq_self_eq_true b
 | int i=>exact beq_self_eq_true i
 | str z=>exact beq_self_eq_true z
 | _=>cases h
theorem N9:∀(n:Nat) {xs ys:List D} {vs:List V},xs.all (aL n)=true->ys.all (aL n)=true->S F H xs vs->S F H ys vs->aa F H->bF.eU xs ys=true:=by
 intro n
 induction n with
 | zero =>
  intro xs
  induction xs with
  | nil=>intro ys vs _ _ s1 s2 _;cases s1;cases s2;rfl
  | cons x xs ih =>
   intro ys vs h1 h2 s1 s2 e
   obtain⟨v,cj,rfl,q1,r1⟩:=s1.cL
   cases ys with
   | nil=>cases s2
   | cons y ys =>
    obtain⟨v',NO,ee,q2,r2⟩:=s2.cL
    cases ee
    rw[dX,du]at h1 h2
    show(bF x y&&bF.eU xs ys)=true
    rw[ih h1.2 h2.2 r1 r2 e,mR]
    have e1:=N8 h1.1 q1
    have e2:=N8 h2.1 q2
    rw[e2,<- e1]
    exact Zw h1.1
 | succ n Oa =>
  intro xs
  induction xs with
  | nil=>intro ys vs _ _ s1 s2 _;cases s1;cases s2;rfl
  | cons x xs ih =>
   intro ys vs h1 h2 s1 s2 e
   obtain⟨v,cj,rfl,q1,r1⟩:=s1.cL
   cases ys with
   | nil=>cases s2
   | cons y ys =>
    obtain⟨v',NO,ee,q2,r2⟩:=s2.cL
    cases ee
    rw[dX,du]at h1 h2
    show(bF x y&&bF.eU xs ys)=true
    rw[ih h1.2 h2.2 r1 r2 e,mR]
    cases x with
    | lst o1 a1 =>
     obtain⟨p,ws,rfl,e1,t1⟩:=fJ q1 e
     cases y with
     | lst o2 a2 =>
      obtain⟨p2,Eh,ev,e2,t2⟩:=fJ q2 e
      cases ev
      rw[e1]at e2;cases e2
      exact Oa h1.1 h2.1 t1 t2 e
     | tup a2=>obtain⟨p2,Eh,ev,e2,t2⟩:=iK q2;cases ev;rw[e1]at e2;cases e2
     | _=>first | (cases q2;done) | (exact absurd h2.1 (by simp[aL]))
    | tup a1 =>
     obtain⟨p,ws,rfl,e1,t1⟩:=iK q1
     cases y with
     | tup a2 =>
      obtain⟨p2,Eh,ev,e2,t2⟩:=iK q2
      cases ev
      rw[e1]at e2;cases e2
      exact Oa h1.1 h2.1 t1 t2 e
     | lst o2 a2=>obtain⟨p2,Eh,ev,e2,t2⟩:=fJ q2 e;cases ev;rw[e1]at e2;cases e2
     | _=>first | (cases q2;done) | (exact absurd h2.1 (by simp[aL]))
    | ak=>cases q1;cases q2;simp[bF]
    | bl _=>cases q1;cases q2;simp[bF]
    | int _=>cases q1;cases q2;simp[bF]
    | str _=>cases q1;cases q2;simp[bF]
    | obj _ _ _=>exact absurd h1.1 (by simp[aL])
    | fz _=>exact absurd h1.1 (by simp[aL])
    | aX _=>exact absurd h1.1 (by simp[aL])
end
end L3
namespace L3
open PySem L2 PySem.Spec PyProof.Rows
structure Zx(A:Around)(s:Shared)(u w:Value)(b:Bool):Prop where
 rc:SeqAt.RcAt A s u w b
 ne:SeqAt.RcNeAt A s u w (!b)
 eq:Ci A s u w b
section
variable{X:Cx}{F H:Hp}{v w:V}
theorem Ob{xs:List V}{us:List Value}(r:Vals xs us){j:Nat}(h:j<us.toArray.size):∃x,xs[j]?=some x/\RelV x us.toArray[j]:=by
 have l:=r.length
 have hj:j<xs.length:=by rw[l];simpa using h
 obtain⟨u,e,q⟩:=r.get (aN hj)
 obtain⟨_,z⟩:=iW.mp e
 refine⟨_,aN hj,?_⟩
 have:us.toArray[j]=u:=by simpa using z
 rw[this];exact q
theorem Oc{xs:List D}{j:Nat}{d:D}(h:xs[j]?=some d):xs.getD j .ak=d:=by rw[aQ,h];rfl
theorem Od{pins:List (Addr × Obj)}{σ:L2.St}{s:Shared}(I:Inv X pins σ H s)(e:aa F H):∀(n:Nat) (x y:D) (v w:V) (u u':Value) (A:Around),aL n x=true->aL n y=true->S F H [x] [v]->S F H [y] [w]->RelV v u->RelV w u' ->
  A.units+n<cLine->Zx A s u u' (bF x y):=by
 intro n
 induction n with
 | zero =>
  intro x y v w u u' A hx hy sx sy rv aW hu
  cases sx with
  | ak _ =>
   cases rv
   cases sy with
   | ak _=>cases aW;exact⟨.none_none,.none_none,.same _⟩
   | bl _=>cases aW;exact⟨.none_bool _,.none_bool _,.none_bool _⟩
   | int _=>obtain⟨t,rfl⟩:=aW;exact⟨.none_int _ _,.none_int _ _,.none_int _ _⟩
   | str _=>obtain⟨t,rfl⟩:=aW;exact⟨.none_str _ _,.none_str _ _,.none_str _ _⟩
   | _=>simp[aL]at hy
  | bl _ =>
   cases rv
   cases sy with
   | ak _=>cases aW;exact⟨.bool_none _,.bool_none _,.bool_none _⟩
   | bl _=>cases aW;exact⟨.bool_bool _ _,.bool_bool _ _,.bool_bool _ _⟩
   | int _=>obtain⟨t,rfl⟩:=aW;exact⟨.bool_int _ _ _,.bool_int _ _ _,.bool_int _ _ _⟩
   | str _=>obtain⟨t,rfl⟩:=aW;exact⟨.bool_str _ _ _,.bool_str _ _ _,.bool_str _ _ _⟩
   | _=>simp[aL]at hy
  | int _ =>
   obtain⟨t0,rfl⟩:=rv
   cases sy with
   | ak _=>cases aW;exact⟨.int_none _ _,.int_none _ _,.int_none _ _⟩
   | bl _=>cases aW;exact⟨.int_bool _ _ _,.int_bool _ _ _,.int_bool _ _ _⟩
   | int _=>obtain⟨t,rfl⟩:=aW;exact⟨.int_int _ _ _ _,.int_int _ _ _ _,.int_int _ _ _ _⟩
   | str _=>obtain⟨t,rfl⟩:=aW;exact⟨.int_str _ _ _ _,.int_str _ _ _ _,.int_str _ _ _ _⟩
   | _=>simp[aL]at hy
  | str _ =>
   obtain⟨t0,rfl⟩:=rv
   cases sy with
   | ak _=>cases aW;exact⟨.str_none _ _,.str_none _ _,.str_none _ _⟩
   | bl _=>cases aW;exact⟨.str_bool _ _ _,.str_bool _ _ _,.str_bool _ _ _⟩
   | int _=>obtain⟨t,rfl⟩:=aW;exact⟨.str_int _ _ _ _,.str_int _ _ _ _,.str_int _ _ _ _⟩
   | str _=>obtain⟨t,rfl⟩:=aW;exact⟨.str_str _ _ _ _,.str_str _ _ _ _,.str_str _ _ _ _⟩
   | _=>simp[aL]at hy
  | _=>simp[aL]at hx
 | succ n ih =>
  intro x y v w u u' A hx hy sx sy rv aW hu
  have aY:A.units<cLine:=by omega
  have Zy:A.in1.units+n<cLine:=by show A.units+1+n<cLine;omega
  have items:∀{xs ys:List D} {vs ws:List V} {us si:List Value},xs.all (aL n)=true->ys.all (aL n)=true->S F H xs vs->S F H ys ws->Vals vs us->Vals ws si ->
    ∀j (h1:j<us.toArray.size) (h2:j<si.toArray.size),Ci A.in1 s us.toArray[j] si.toArray[j] (bF (xs.getD j .ak) (ys.getD j .ak)):=by
   intro xs ys vs ws us si hx hy sx sy r1 r2 j h1 h2
   obtain⟨a,e1,q1⟩:=Ob r1 h1
   obtain⟨b,e2,q2⟩:=Ob r2 h2
   obtain⟨d1,g1,t1⟩:=sx.get' e1
   obtain⟨d2,g2,t2⟩:=sy.get' e2
   rw[Oc g1,Oc g2]
   exact(ih d1 d2 a b _ _ A.in1 (dy.mp hx d1 (n6 g1)) (dy.mp hy d2 (n6 g2)) t1 t2 q1 q2 Zy).eq
  have low:∀x:D,(aL 0 x=true)\/(∃o xs,x=.lst o xs)\/(∃xs,x=.tup xs)\/aL (n+1) x=false:=by
   intro x;cases x<;>simp[aL]
  cases x with
  | lst o xs =>
   obtain⟨p,ws,rfl,e1,t1⟩:=fJ sx e
   cases rv
   obtain⟨its,r1,p1,z1⟩:=I.list (bu.of (K:=X.K) e1)
   have l1:=r1.length
   cases y with
   | lst o' ys =>
    obtain⟨p',dv,rfl,e2,t2⟩:=fJ sy e
    cases aW
    obtain⟨fK,r2,p2,z2⟩:=I.list (bu.of (K:=X.K) e2)
    have l2:=r2.length
    have k1:=t1.length
    have k2:=t2.length
    by_cases hl:xs.length=ys.length
    ·have jW:its.toArray.size=fK.toArray.size:=by simp;omega
     have ev:(aR its.toArray.size).all (λj=>bF (xs.getD j .ak) (ys.getD j .ak))=bF (.lst o xs) (.lst o' ys):=by
      show _=bF.eU xs ys
      rw[Ef xs ys hl,dq,<- l1,<- k1]
     have a:=SeqAt.RcAt.lists (e:=λj=>bF (xs.getD j .ak) (ys.getD j .ak)) p1.isList p2.isList jW aY (items hx hy t1 t2 r1 r2)
     have b:=SeqAt.RcNeAt.lists (e:=λj=>bF (xs.getD j .ak) (ys.getD j .ak)) p1.isList p2.isList jW aY (items hx hy t1 t2 r1 r2)
     rw[ev]at a b
     refine⟨a,b,?_⟩
     by_cases pG:p=p'
     ·subst pG
      rw[e1]at e2;cases e2
      have:bF (.lst o xs) (.lst o' ys)=true:=N9 n hx hy t1 t2 e
      rw[this]
      exact .same _
     ·exact .of_refs pG a
    ·have jW:(its.toArray.size != fK.toArray.size)=true:=by simp;omega
     have ev:bF (.lst o xs) (.lst o' ys)=false:=Eg xs ys hl
     rw[ev]
     have a:=SeqAt.RcAt.lists_lengths p1.isList p2.isList jW aY
     refine⟨a,SeqAt.RcNeAt.lists_lengths p1.isList p2.isList jW aY,.of_refs (λpG=>?_) a⟩
     subst pG
     rw[e1]at e2;cases e2
     omega
   | tup ys =>
    obtain⟨p',dv,rfl,e2,t2⟩:=iK sy
    cases aW
    obtain⟨fK,r2,p2,z2⟩:=I.tuple (eY.of (K:=X.K) e2)
    exact⟨.list_tuple p1.isList p2 aY,.list_tuple p1.isList p2 aY,.list_tuple p1.isList p2 aY⟩
   | ak=>cases sy;cases aW;exact⟨.list_none p1.isList aY,.list_none p1.isList aY,.list_none p1.isList aY⟩
   | bl _=>cases sy;cases aW;exact⟨.list_bool _ p1.isList aY,.list_bool _ p1.isList aY,.list_bool _ p1.isList aY⟩
   | int _=>cases sy;obtain⟨t,rfl⟩:=aW;exact⟨.list_int _ _ p1.isList aY,.list_int _ _ p1.isList aY,.list_int _ _ p1.isList aY⟩
   | str _=>cases sy;obtain⟨t,rfl⟩:=aW;exact⟨.list_str _ _ p1.isList aY,.list_str _ _ p1.isList aY,.list_str _ _ p1.isList aY⟩
   | obj _ _ _=>simp[aL]at hy
   | fz _=>simp[aL]at hy
   | aX _=>simp[aL]at hy
  | tup xs =>
   obtain⟨p,ws,rfl,e1,t1⟩:=iK sx
   cases rv
   obtain⟨its,r1,p1,z1⟩:=I.tuple (eY.of (K:=X.K) e1)
   have l1:=r1.length
   cases y with
   | tup ys =>
    obtain⟨p',dv,rfl,e2,t2⟩:=iK sy
    cases aW
    obtain⟨fK,r2,p2,z2⟩:=I.tuple (eY.of (K:=X.K) e2)
    have l2:=r2.length
    have k1:=t1.length
    have k2:=t2.length
    have ev:((aR (min its.toArray.size fK.toArray.size)).all (λj=>bF (xs.getD j .ak) (ys.getD j .ak))&&its.toArray.size==fK.toArray.size)=bF (.tup xs) (.tup ys):=by
     show _=bF.eU xs ys
     by_cases hl:xs.length=ys.length
     ·have e3:its.length=fK.length:=by omega
      rw[Ef xs ys hl,dq,dq,<- e3,Cv,<- l1,<- k1];simp
     ·have e3:(its.length==fK.length)=false:=by simp;omega
      rw[Eg xs ys hl,dq,dq,e3,Bool.and_false]
    have a:=SeqAt.RcAt.tuples (e:=λj=>bF (xs.getD j .ak) (ys.getD j .ak)) p1 p2 aY (items hx hy t1 t2 r1 r2)
    have b:=SeqAt.RcNeAt.tuples (e:=λj=>bF (xs.getD j .ak) (ys.getD j .ak)) p1 p2 aY (items hx hy t1 t2 r1 r2)
    rw[ev]at a b
    refine⟨a,b,?_⟩
    by_cases pG:p=p'
    ·subst pG
     rw[e1]at e2;cases e2
     have:bF (.tup xs) (.tup ys)=true:=N9 n hx hy t1 t2 e
     rw[this]
     exact .same _
    ·exact .of_refs pG a
   | lst o' ys =>
    obtain⟨p',dv,rfl,e2,t2⟩:=fJ sy e
    cases aW
    obtain⟨fK,r2,p2,z2⟩:=I.list (bu.of (K:=X.K) e2)
    exact⟨.tuple_list p1 p2.isList aY,.tuple_list p1 p2.isList aY,.tuple_list p1 p2.isList aY⟩
   | ak=>cases sy;cases aW;exact⟨.tuple_none p1 aY,.tuple_none p1 aY,.tuple_none p1 aY⟩
   | bl _=>cases sy;cases aW;exact⟨.tuple_bool _ p1 aY,.tuple_bool _ p1 aY,.tuple_bool _ p1 aY⟩
   | int _=>cases sy;obtain⟨t,rfl⟩:=aW;exact⟨.tuple_int _ _ p1 aY,.tuple_int _ _ p1 aY,.tuple_int _ _ p1 aY⟩
   | str _=>cases sy;obtain⟨t,rfl⟩:=aW;exact⟨.tuple_str _ _ p1 aY,.tuple_str _ _ p1 aY,.tuple_str _ _ p1 aY⟩
   | obj _ _ _=>simp[aL]at hy
   | fz _=>simp[aL]at hy
   | aX _=>simp[aL]at hy
  | ak =>
   cases sx;cases rv
   cases y with
   | lst o' ys =>
    obtain⟨p',dv,rfl,e2,t2⟩:=fJ sy e;cases aW
    obtain⟨fK,r2,p2,z2⟩:=I.list (bu.of (K:=X.K) e2)
    exact⟨.none_list p2.isList aY,.none_list p2.isList aY,.none_list p2.isList aY⟩
   | tup ys =>
    obtain⟨p',dv,rfl,e2,t2⟩:=iK sy;cases aW
    obtain⟨fK,r2,p2,z2⟩:=I.tuple (eY.of (K:=X.K) e2)
    exact⟨.none_tuple p2 aY,.none_tuple p2 aY,.none_tuple p2 aY⟩
   | ak=>exact ih _ _ _ _ _ _ A (by simp[aL]) (by simp[aL]) (.ak .nil) sy rfl aW (by omega)
   | bl _=>exact ih _ _ _ _ _ _ A (by simp[aL]) (by simp[aL]) (.ak .nil) sy rfl aW (by omega)
   | int _=>exact ih _ _ _ _ _ _ A (by simp[aL]) (by simp[aL]) (.ak .nil) sy rfl aW (by omega)
   | str _=>exact ih _ _ _ _ _ _ A (by simp[aL]) (by simp[aL]) (.ak .nil) sy rfl aW (by omega)
   | obj _ _ _=>simp[aL]at hy
   | fz _=>simp[aL]at hy
   | aX _=>simp[aL]at hy
  | bl b =>
   cases sx;cases rv
   cases y with
   | lst o' ys =>
    obtain⟨p',dv,rfl,e2,t2⟩:=fJ sy e;cases aW
    obtain⟨fK,r2,p2,z2⟩:=I.list (bu.of (K:=X.K) e2)
    exact⟨.bool_list _ p2.isList aY,.bool_list _ p2.isList aY,.bool_list _ p2.isList aY⟩
   | tup ys =>
    obtain⟨p',dv,rfl,e2,t2⟩:=iK sy;cases aW
    obtain⟨fK,r2,p2,z2⟩:=I.tuple (eY.of (K:=X.K) e2)
    exact⟨.bool_tuple _ p2 aY,.bool_tuple _ p2 aY,.bool_tuple _ p2 aY⟩
   | ak=>exact ih _ _ _ _ _ _ A (by simp[aL]) (by simp[aL]) (.bl .nil) sy rfl aW (by omega)
   | bl _=>exact ih _ _ _ _ _ _ A (by simp[aL]) (by simp[aL]) (.bl .nil) sy rfl aW (by omega)
   | int _=>exact ih _ _ _ _ _ _ A (by simp[aL]) (by simp[aL]) (.bl .nil) sy rfl aW (by omega)
   | str _=>exact ih _ _ _ _ _ _ A (by simp[aL]) (by simp[aL]) (.bl .nil) sy rfl aW (by omega)
   | obj _ _ _=>simp[aL]at hy
   | fz _=>simp[aL]at hy
   | aX _=>simp[aL]at hy
  | int b =>
   cases sx
   cases y with
   | lst o' ys =>
    obtain⟨t0,rfl⟩:=rv
    obtain⟨p',dv,rfl,e2,t2⟩:=fJ sy e;cases aW
    obtain⟨fK,r2,p2,z2⟩:=I.list (bu.of (K:=X.K) e2)
    exact⟨.int_list _ _ p2.isList aY,.int_list _ _ p2.isList aY,.int_list _ _ p2.isList aY⟩
   | tup ys =>
    obtain⟨t0,rfl⟩:=rv
    obtain⟨p',dv,rfl,e2,t2⟩:=iK sy;cases aW
    obtain⟨fK,r2,p2,z2⟩:=I.tuple (eY.of (K:=X.K) e2)
    exact⟨.int_tuple _ _ p2 aY,.int_tuple _ _ p2 aY,.int_tuple _ _ p2 aY⟩
   | ak=>exact ih _ _ _ _ _ _ A (by simp[aL]) (by simp[aL]) (.int .nil) sy rv aW (by omega)
   | bl _=>exact ih _ _ _ _ _ _ A (by simp[aL]) (by simp[aL]) (.int .nil) sy rv aW (by omega)
   | int _=>exact ih _ _ _ _ _ _ A (by simp[aL]) (by simp[aL]) (.int .nil) sy rv aW (by omega)
   | str _=>exact ih _ _ _ _ _ _ A (by simp[aL]) (by simp[aL]) (.int .nil) sy rv aW (by omega)
   | obj _ _ _=>simp[aL]at hy
   | fz _=>simp[aL]at hy
   | aX _=>simp[aL]at hy
  | str b =>
   cases sx
   cases y with
   | lst o' ys =>
    obtain⟨t0,rfl⟩:=rv
    obtain⟨p',dv,rfl,e2,t2⟩:=fJ sy e;cases aW
    obtain⟨fK,r2,p2,z2⟩:=I.list (bu.of (K:=X.K) e2)
    exact⟨.str_list _ _ p2.isList aY,.str_list _ _ p2.isList aY,.str_list _ _ p2.isList aY⟩
   | tup ys =>
    obtain⟨t0,rfl⟩:=rv
    obtain⟨p',dv,rfl,e2,t2⟩:=iK sy;cases aW
    obtain⟨fK,r2,p2,z2⟩:=I.tuple (eY.of (K:=X.K) e2)
    exact⟨.str_tuple _ _ p2 aY,.str_tuple _ _ p2 aY,.str_tuple _ _ p2 aY⟩
   | ak=>exact ih _ _ _ _ _ _ A (by simp[aL]) (by simp[aL]) (.str .nil) sy rv aW (by omega)
   | bl _=>exact ih _ _ _ _ _ _ A (by simp[aL]) (by simp[aL]) (.str .nil) sy rv aW (by omega)
   | int _=>exact ih _ _ _ _ _ _ A (by simp[aL]) (by simp[aL]) (.str .nil) sy rv aW (by omega)
   | str _=>exact ih _ _ _ _ _ _ A (by simp[aL]) (by simp[aL]) (.str .nil) sy rv aW (by omega)
   | obj _ _ _=>simp[aL]at hy
   | fz _=>simp[aL]at hy
   | aX _=>simp[aL]at hy
  | obj _ _ _=>simp[aL]at hx
  | fz _=>simp[aL]at hx
  | aX _=>simp[aL]at hx
noncomputable def sj:ck:=λx y Q=>(aL 6 x=true/\aL 6 y=true)/\Q (.bl (bF x y))
noncomputable def sq:ck:=λx y Q=>(aL 6 x=true/\aL 6 y=true)/\Q (.bl (!bF x y))
theorem fY(hu:X.A.units+6<cLine):bL X (compareOp .Eq) sj:=bL.of λpins s σ H v w u u' Q I rv aW zz=>by
 obtain⟨B,F,ax,δ,ts,x,y,Qd,c,sx,sy,⟨⟨hx,hy⟩,q⟩,k⟩:=zz
 exact(Od I c.ext 6 x y v w u u' X.A hx hy sx sy rv aW hu).rc _ _ _ _ ⟨.bl _,H,I,rfl,k _ _ _ q (aa.refl _) (c.pushS (.bl .nil) rfl)⟩
theorem lH(hu:X.A.units+6<cLine):bL X (compareOp .NotEq) sq:=bL.of λpins s σ H v w u u' Q I rv aW zz=>by
 obtain⟨B,F,ax,δ,ts,x,y,Qd,c,sx,sy,⟨⟨hx,hy⟩,q⟩,k⟩:=zz
 exact(Od I c.ext 6 x y v w u u' X.A hx hy sx sy rv aW hu).ne _ _ _ _ ⟨.bl _,H,I,rfl,k _ _ _ q (aa.refl _) (c.pushS (.bl .nil) rfl)⟩
end
end L3
namespace L3
open PySem L2 PySem.Spec PyProof.Rows
section
variable{X:Cx}{F H:Hp}{v w:V}{e a b c o:Expr}{es:List Expr}{pos p p2 apos bR:Pos}{t ta tb tc te:aI}{tr:cq}{x:Str}
theorem Zz{r r':R2}{rd wB:ck}(hl:zM r rd)(qR:zM r' wB):∀σ H Q,lE (o7 rd wB ta tb tc) σ H Q->MB r r' (lB ta) (lB tb) (lB tc) σ H Q:=λσ H Q ⟨B,F,δ,ts,Qd,c,q,k⟩ =>
 ⟨B,F,δ,ts,_,c,q,λx ao v F1 H1 q1 f1 h1 c1 s1=>⟨B,F1,ao,ts,_,c1,q1,λy aM w F2 H2 q2 f2 h2 c2 s2=>by
  refine hl c2 (s1.mono f2 h2) s2 q2 λd z H' hd hs c3=>?_
  obtain⟨b,rfl,qb⟩:=hd
  have st:=c3.top
  cases st with
  | bl _ =>
   refine⟨b,rfl,?_⟩
   cases b with
   | true =>
    refine oS ⟨B,F2,aM,ts,_,c3.pop,by simpa using qb,λz gA w3 F3 H3 q3 f3 h3 c4 s3=>?_⟩
    exact qR c4 (s2.mono f3 (hs.trans h3)) s3 q3 λd z H' hd ZA c5=>k d gA z F3 H' hd ((f1.trans f2).trans f3) ((((h1.trans h2).trans hs).trans h3).trans ZA) c5
   | false=>exact kP (k _ aM _ F2 H' (by simpa using qb) (f1.trans f2) ((h1.trans h2).trans hs) (c3.pop.pushS (.bl .nil) rfl))⟩⟩
theorem Ei{op oI:CmpOp}{rd wB:ck}(ho:bL X (compareOp op) rd)(jm:bL X (compareOp oI) wB)(ha:PE X a (lB ta))(hb:PE X b (lB tb))(hc:PE X c (lB tc))
  (hm:lastMarks [op,oI] [b,c]=false:=by with_unfolding_all rfl):PE X (.Compare a [op,oI] [b,c] pos) (lE (o7 rd wB ta tb tc)):=by
 obtain⟨r,h1,h2⟩:=ho
 obtain⟨r',i5,iC⟩:=jm
 exact cY (V9 h1 i5 ha hb hc hm) (Zz h2 iC)
noncomputable abbrev iN:=List D->(D->Prop)->Prop
noncomputable def lc(rd:iN):List V->Hp->VK->Prop:=λvs H Q=>∃B F σ δ ts ds Qd,aj B F H σ δ ts/\S F H ds vs/\rd ds Qd/\∀d z H',Qd d->aa H H'->aj B F H' σ δ ((d,z)::ts)->Q z H'
noncomputable def gC(X:Cx)(f:Value)(rd:iN):Prop:=fg X f (lc rd)
theorem gC.of{f:Value}{r:List V->Hp->VK->Prop}{rd:iN}(h:fg X f r)(m:∀vs H Q,lc rd vs H Q->r vs H Q):gC X f rd:=λpins s σ H xs us Q I r q=>h pins s σ H xs us Q I r (m xs H Q q)
noncomputable def lJ(rd:iN)(t:cq):aI:=λδ Q=>t δ λds ah=>rd ds λd=>Q d ah
theorem Oe{rd:iN}:∀σ H Q,lE (lJ rd tr) σ H Q->Dv (lc rd) (lA tr) σ H Q:=λσ H Q ⟨B,F,δ,ts,Qd,c,q,k⟩=>⟨B,F,δ,ts,_,c,q,λds ao vs F1 H1 q1 f1 h1 c1 s1 =>
 ⟨B,F1,σ,ao,ts,ds,_,c1,s1,q1,λd z H' hd hs c'=>k d ao z F1 H' hd f1 (h1.trans hs) c'⟩⟩
theorem fo{id:String}{rd:iN}(hc:gC X (.builtin id) rd)(hg:Gl X x)(hm:X.mg x=none)(hv:bootBuiltins x=some (.builtin id))(ha:PA X (e::es) (lA tr))(hn:x≠"__name__":=by decide)(dU:(x==("__debug__":Str))=false:=by decide)
  (he:starEach (e::es) X.env=(false,eval e X.env)::starEach es X.env:=by rfl) (bJ:(backTo pos (starEach es X.env)).any (·.1)=false:=by rfl):PE X (.Call (.Name x p) (e::es) [] pos) (lE (lJ rd tr)) :=
 cY (Dw hc hg hm hv ha hn dU he bJ) Oe
theorem Ej{T:String}{rd:iN}(hc:gC X (.type T) rd)(hg:Gl X x)(hm:X.mg x=none)(hv:bootBuiltins x=some (.type T))(ha:PA X (e::es) (lA tr))(hn:x≠"__name__":=by decide)(dU:(x==("__debug__":Str))=false:=by decide)
  (he:starEach (e::es) X.env=(false,eval e X.env)::starEach es X.env:=by rfl) (bJ:(backTo pos (starEach es X.env)).any (·.1)=false:=by rfl):PE X (.Call (.Name x p) (e::es) [] pos) (lE (lJ rd tr)) :=
 cY (ML hc hg hm hv ha hn dU he bJ) Oe
theorem i9{d:D}{vs:List V}(s:S F H [d] vs):∃v,vs=[v]/\S F H [d] [v]:=by
 obtain⟨v,cj,rfl,h1,h2⟩:=s.cL
 cases h2
 exact⟨v,rfl,h1⟩
theorem ZC{d d':D}{vs:List V}(s:S F H [d,d'] vs):∃v v',vs=[v,v']/\S F H [d] [v]/\S F H [d'] [v']:=by
 obtain⟨v,cj,rfl,h1,h2⟩:=s.cL
 obtain⟨v',rfl,h3⟩:=i9 h2
 exact⟨v,v',rfl,h1,h3⟩
theorem ke{K:PySem.W.Frag}{p:Addr}{ws:List V}(h:Rd H p (.lst ws)):bu K H p ws:=.inl h
noncomputable def pH:iN:=λds Q=>match ds with
 | [.lst _ xs]=>Q (.int xs.length)
 | [.fz xs]=>Q (.int xs.length)
 | [.tup xs]=>Q (.int xs.length)
 | [.str z]=>z.length<=sizeLine/\Q (.int z.length)
 | _=>False
theorem g7:gC X (.builtin "len") pH:=gC.of (Xf.or Xg) λvs H Q zz=>by
 obtain⟨B,F,σ,δ,ts,ds,Qd,c,s,q,k⟩:=zz
 unfold pH at q
 split at q
 ·obtain⟨v,rfl,s1⟩:=i9 s
  obtain⟨p,ws,rfl,h,t⟩:=lD s1 c.ext rfl
  refine .inl ⟨p,ws,rfl,.inl (ke h),?_⟩
  rw[<-t.length]
  exact k _ _ _ q (aa.refl _) (c.pushS (.int .nil) rfl)
 ·obtain⟨v,rfl,s1⟩:=i9 s
  obtain⟨p,ws,rfl,h,t⟩:=lD s1 c.ext rfl
  refine .inl ⟨p,ws,rfl,.inl (ke h),?_⟩
  rw[<-t.length]
  exact k _ _ _ q (aa.refl _) (c.pushS (.int .nil) rfl)
 ·obtain⟨v,rfl,s1⟩:=i9 s
  obtain⟨p,ws,rfl,h,t⟩:=iK s1
  refine .inl ⟨p,ws,rfl,.inr (eY.of h),?_⟩
  rw[<-t.length]
  exact k _ _ _ q (aa.refl _) (c.pushS (.int .nil) rfl)
 ·obtain⟨v,rfl,s1⟩:=i9 s
  cases s1
  exact .inr ⟨_,rfl,q.1,k _ _ _ q.2 (aa.refl _) (c.pushS (.int .nil) rfl)⟩
 ·exact q.elim
noncomputable def pI:iN:=λds Q=>match ds with
 | [.lst _ xs]=>xs.all D.pl=true/\Q (.lst true xs)
 | [.fz xs]=>Q (.lst true xs)
 | [.tup xs]=>xs.all D.pl=true/\Q (.lst true xs)
 | _=>False
theorem ZD:gC X (.type "list") pI:=gC.of Xh λvs H Q zz=>by
 obtain⟨B,F,σ,δ,ts,ds,Qd,c,s,q,k⟩:=zz
 unfold pI at q
 split at q
 ·obtain⟨v,rfl,s1⟩:=i9 s
  obtain⟨p,ws,rfl,h,t⟩:=lD s1 c.ext rfl
  exact⟨p,ws,rfl,.inl (ke h),λl hl=>k _ _ _ q.2 (aa.upd hl) (c.kZ hl t q.1)⟩
 ·obtain⟨v,rfl,s1⟩:=i9 s
  cases s1 with
  | fz h r _=>exact⟨_,_,rfl,.inl (ke (.inr ⟨_,c.ext _ _ h⟩)),λl hl=>k _ _ _ q (aa.upd hl) (c.kZ hl r.s r.pl)⟩
 ·obtain⟨v,rfl,s1⟩:=i9 s
  obtain⟨p,ws,rfl,h,t⟩:=iK s1
  exact⟨p,ws,rfl,.inr (eY.of h),λl hl=>k _ _ _ q.2 (aa.upd hl) (c.kZ hl t q.1)⟩
 ·exact q.elim
noncomputable def ii(g:Int->Int->Int):iN:=λds Q=>match ds with
 | [.int i,.int j]=>Q (.int (g i j))
 | _=>False
theorem ZE{f:Value}{g:Int->Int->Int}(h:fg X f (λxs H Q=>∃i j,xs=[.int i,.int j]/\Q (.int (g i j)) H)):gC X f (ii g):=gC.of h λvs H Q zz=>by
 obtain⟨B,F,σ,δ,ts,ds,Qd,c,s,q,k⟩:=zz
 unfold ii at q
 split at q
 ·obtain⟨v,v',rfl,s1,s2⟩:=ZC s
  cases s1;cases s2
  exact⟨_,_,rfl,k _ _ _ q (aa.refl _) (c.pushS (.int .nil) rfl)⟩
 ·exact q.elim
theorem ZF(hc:X.calm=true):gC X (.builtin "max") (ii λi j=>if j>i then j else i):=ZE (Wc hc)
noncomputable def wC(bs:List Bool):List D:=bs.map D.bl
theorem Of:∀{bs:List Bool} {ws:List V},S F H (wC bs) ws->ws=bs.map V.bl
 | [],_,s=>by cases s;rfl
 | b::bs,_,s=>by
  cases s with
  | bl s=>rw[Of s];rfl
noncomputable def pJ:iN:=λds Q=>match ds with
 | [.lst _ xs]=>∃bs,xs=wC bs/\Q (.bl (bs.all id))
 | _=>False
theorem Ek(hc:X.calm=true):gC X (.builtin "all") pJ:=gC.of (Yl hc) λvs H Q zz=>by
 obtain⟨B,F,σ,δ,ts,ds,Qd,c,s,q,k⟩:=zz
 unfold pJ at q
 split at q
 ·obtain⟨v,rfl,s1⟩:=i9 s
  obtain⟨bs,rfl,q⟩:=q
  obtain⟨p,ws,rfl,h,t⟩:=lD s1 c.ext rfl
  rw[Of t]at h
  exact⟨p,bs,rfl,ke h,k _ _ _ q (aa.refl _) (c.pushS (.bl .nil) rfl)⟩
 ·exact q.elim
noncomputable def El:D->Option String
 | .int _=>some "int"
 | .bl _=>some "bool"
 | .ak=>some "NoneType"
 | .str _=>some "str"
 | .lst _ _=>some "list"
 | .fz _=>some "list"
 | .tup _=>some "tuple"
 | _=>none
noncomputable def Em(k n:String):Option Bool:=([("int","int",true),("int","bool",false),("int","list",false),("int","tuple",false),("int","str",false),("bool","int",true),("bool","bool",true),("bool","list",false),("bool","tuple",false),("bool","str",false),
 ("NoneType","int",false),("NoneType","bool",false),("NoneType","list",false),("NoneType","tuple",false),("NoneType","str",false),("str","int",false),("str","bool",false),("str","list",false),("str","tuple",false),("str","str",true),
 ("list","int",false),("list","bool",false),("list","list",true),("list","tuple",false),("list","str",false),("tuple","int",false),("tuple","bool",false),("tuple","list",false),("tuple","tuple",true),("tuple","str",false)].find? λz=>z.1==k&&z.2.1==n).map (·.2.2)
noncomputable def kg(n:String)(d:D):Option Bool:=(El d).bind λk=>Em k n
theorem ZG{K:PySem.W.Frag}{k n:String}{r:Bool}(h:Em k n=some r):PySem.W.kitOne K (.type k) (.type n)=some r:=by
 unfold Em at h
 obtain⟨z,hz,rfl⟩:=Cw.mp h
 have hm:=Uw hz
 have hp:=List.find?_some hz
 rw[du,beq_iff_eq,beq_iff_eq]at hp
 obtain⟨rfl,rfl⟩:=hp
 simp only[bU,ik,or_false]at hm
 repeat' (rcases hm with hm | hm)
 all_goals rfl
theorem ZH{K:PySem.W.Frag}{d:D}(s:S F H [d] [v])(e:aa F H){k:String}(h:El d=some k):gq K H v (.type k):=by
 cases s with
 | int _=>cases h;exact .int _
 | bl _=>cases h;exact .bl _
 | ak _=>cases h;exact .ak
 | str _=>cases h;exact .str _
 | shr h' _ _=>cases h;exact .lst (e _ _ h')
 | own h' _ _=>cases h;exact .lst h'
 | fz h' _ _=>cases h;exact .bQ (e _ _ h')
 | tup h' _ _=>cases h;exact .tup h'
 | obj _ _ _ _=>cases h
 | aX _ _=>cases h
theorem ZI{K:PySem.W.Frag}{d:D}(s:S F H [d] [v])(e:aa F H){n:String}{r:Bool}(h:kg n d=some r):∃t,gq K H v t/\PySem.W.kitOne K t (.type n)=some r:=by
 unfold kg at h
 cases hk:El d with
 | none=>rw[hk]at h;cases h
 | some k=>rw[hk]at h;exact⟨_,ZH s e hk,ZG h⟩
noncomputable def sr(n:String)(t:aI):aI:=λδ Q=>t δ λd ah=>∃r,kg n d=some r/\Q (.bl r) ah
theorem zW{n:String}{y:Str}{q:Pos}(hg:Gl X "isinstance")(hm:X.mg "isinstance"=none)(Eo:Gl X y)(zX:X.mg y=none)(Ep:bootBuiltins y=some (.type n))(ha:PE X a (lB ta))
  (hn:y≠"__name__":=by decide) (hd:(y==("__debug__":Str))=false:=by decide)
  (hs:starEach [a,.Name y q] X.env=(false,eval a X.env)::starEach [.Name y q] X.env:=by rfl) (gL:starEach [.Name y q] X.env=(false,eval (.Name y q) X.env)::starEach [] X.env:=by rfl) (bJ:(backTo pos (starEach [.Name y q] X.env)).any (·.1)=false:=by rfl) :
  PE X (.Call (.Name "isinstance" p) [a,.Name y q] [] pos) (lE (sr n ta)) :=
 cY (Dw Ya hg hm X4 (eS ha (eS (X8 Eo zX Ep hn hd) iB gL) hs) (by decide) (by decide) hs bJ) λσ H Q ⟨B,F,δ,ts,Qd,c,q,k⟩=>⟨B,F,δ,ts,_,c,q,λd ao v F1 H1 q1 f1 h1 c1 s1=>by
  obtain⟨r,e,qr⟩:=q1
  obtain⟨t,h2,h3⟩:=ZI (K:=X.K) s1 c1.ext e
  exact⟨v,n,t,r,rfl,h2,h3,k _ ao _ F1 H1 qr f1 h1 (c1.pushS (.bl .nil) rfl)⟩⟩
theorem Er{xs:List D}{ws:List V}{i:Int}{d:D}(s:S F H xs ws)(h:dH xs i=some d):∃v,dH ws i=some v/\S F H [d] [v]:=by
 unfold dH at h ⊢
 rw[<-s.length]
 cases e:gu xs.length i with
 | none=>rw[e]at h;cases h
 | some j =>
  rw[e]at h
  exact s.get h
noncomputable def pK(x y:D)(Q:D->Prop):Prop:=match x,y with
 | .lst _ xs,.int i=>∃d,dH xs i=some d/\Q d
 | .fz xs,.int i=>∃d,dH xs i=some d/\Q d
 | .tup xs,.int i=>∃d,dH xs i=some d/\Q d
 | .str z,.int i=>z.length<=sizeLine/\∃ch,dH z.cps.toList i=some ch/\Q (.str ⟨#[ch]⟩)
 | _,_=>False
noncomputable def su(ta tb:aI):aI:=λδ Q=>ta δ λx ao=>tb ao λy aM=>pK x y λd=>Q d aM
theorem bV(ha:PE X a (lB ta))(hb:PE X b (lB tb))(hs:MN b):PE X (.Subscript a b pos) (lB (su ta tb)) :=
 cY (WY W4 ha hb hs) λσ H Q ⟨B,F,δ,ts,Qd,c,q,k⟩=>⟨B,F,δ,ts,_,c,q,λx ao v F1 H1 q1 f1 h1 c1 s1=>⟨B,F1,ao,ts,_,c1,q1,λy aM w F2 H2 q2 f2 h2 c2 s2=>by
  have lM:=s1.mono f2 h2
  have fin:∀d z,Qd d aM->S F2 H2 [d] [z]->Q z H2:=λd z hd s=>k d aM z F2 H2 hd (f1.trans f2) (h1.trans h2) c2 s
  unfold pK at q2
  split at q2
  ·obtain⟨d,ed,qd⟩:=q2
   cases s2
   obtain⟨p,ws,rfl,h,t⟩:=lD lM c2.ext rfl
   obtain⟨z,ez,sz⟩:=Er t ed
   exact .inl ⟨p,ws,_,z,rfl,rfl,ke h,ez,fin d z qd sz⟩
  ·obtain⟨d,ed,qd⟩:=q2
   cases s2
   obtain⟨p,ws,rfl,h,t⟩:=lD lM c2.ext rfl
   obtain⟨z,ez,sz⟩:=Er t ed
   exact .inl ⟨p,ws,_,z,rfl,rfl,ke h,ez,fin d z qd sz⟩
  ·obtain⟨d,ed,qd⟩:=q2
   cases s2
   obtain⟨p,ws,rfl,h,t⟩:=iK lM
   obtain⟨z,ez,sz⟩:=Er t ed
   exact .inr (.inl ⟨p,ws,_,z,rfl,rfl,eY.of h,ez,fin d z qd sz⟩)
  ·obtain⟨hz,ch,ec,qc⟩:=q2
   cases lM
   cases s2
   exact .inr (.inr ⟨_,_,ch,rfl,rfl,hz,ec,fin _ _ qc (.str .nil)⟩)
  ·exact q2.elim⟩⟩
noncomputable abbrev sA:=Dl->(Option Int->Dl->Prop)->Prop
noncomputable def lP(t:sA):TO:=λσ H Q=>∃B F δ ts Qd,aj B F H σ δ ts/\t δ Qd/\∀o ah F' H',Qd o ah->aa F F'->aa H H'->aj B F' H' σ ah ts->Q o H'
theorem Og{oe:Option Expr}{u u':TO}(h:PO X oe u)(m:∀σ H Q,u' σ H Q->u σ H Q):PO X oe u':=λpins s σ H Q I q=>h pins s σ H Q I (m σ H Q q)
noncomputable def sC:sA:=λδ Q=>Q none δ
noncomputable def sD(t:aI):sA:=λδ Q=>t δ λd ah=>match d with
 | .int i=>Q (some i) ah
 | _=>False
theorem wD:PO X none (lP sC):=Og WT λσ H Q ⟨B,F,δ,ts,Qd,c,q,k⟩=>k none δ F H q (aa.refl _) (aa.refl _) c
theorem wF(h:PE X e (lB t)):PO X (some e) (lP (sD t)):=Og (WU h) λσ H Q ⟨B,F,δ,ts,Qd,c,q,k⟩=>⟨B,F,δ,ts,_,c,q,λd ao v F1 H1 q1 f1 h1 c1 s1=>by
 cases s1 with
 | int _=>exact⟨_,rfl,k _ ao F1 H1 q1 f1 h1 c1⟩
 | _=>exact q1.elim⟩
noncomputable def eJ{α:Type}(xs:List α)(lo hi:Option Int):List α:=(xs.drop (HT.cJ xs.length 0 lo)).take (HT.cJ xs.length xs.length hi-HT.cJ xs.length 0 lo)
theorem S.cut{xs:List D}{ws:List V}(s:S F H xs ws)(lo hi:Option Int):S F H (eJ xs lo hi) (qW ws lo hi):=by
 unfold eJ qW
 rw[<-s.length]
 exact(s.drop _).take _
theorem Oh{xs:List D}{p:D->Bool}(h:xs.all p=true)(lo hi:Option Int):(eJ xs lo hi).all p=true:=by
 rw[dy]at h ⊢
 intro x hx
 exact h x (Cy (yO hx))
noncomputable def sE(t:aI):aI:=λδ Q=>t δ λd ah=>match d with
 | .int i=>Q (.int (Mf.bl i.natAbs:Nat)) ah
 | _=>False
theorem lN(ho:PE X o (lB t))(ju:attributeBase o "bit_length" X.env (eval o X.env)=eval o X.env:=by rfl)(jv:(apos.endLine==bR.line)=true:=by rfl):PE X (.Call (.Attribute o "bit_length" apos) [] [] bR) (lE (sE t)) :=
 cY (DQ ho ju jv) λσ H Q ⟨B,F,δ,ts,Qd,c,q,k⟩=>⟨B,F,δ,ts,_,c,q,λd ao v F1 H1 q1 f1 h1 c1 s1=>by
  cases s1 with
  | int _=>exact⟨rfl,_,rfl,rfl,k _ ao _ F1 H1 q1 f1 h1 (c1.pushS (.int .nil) rfl)⟩
  | _=>exact q1.elim⟩
end
end L3
namespace L3
open PySem L2 PySem.Spec PyProof.Rows
section
variable{X:Cx}{F H:Hp}{v w:V}{e a b c o tg:Expr}{es:List Expr}{pos p p2 apos bR pos':Pos}{t ta tb tc te ti:aI}{tr:cq}{x:Str}{i:Nat}
noncomputable def sF(i:Nat)(t:aI):cC:=λD δ=>(∃xs,δ[i]?=some (some (.lst true xs)))/\t δ λd ah=>∃xs,ah[i]?=some (some (.lst true xs))/\xs.length<sizeLine/\D.nx (ah.set i (some (.lst true (xs++[d]))))
theorem nt(hN:X.N[i]?=some x)(hv:jT X.env.scope x)(he:PE X e (lE t))(hd:(x==("__debug__":Str))=false:=by decide)(cA:(x==("__classdict__":Str))=false:=by decide)
  (ju:attributeBase (.Name x p) "append" X.env (eval (.Name x p) X.env)=eval (.Name x p) X.env:=by rfl)
  (DC:((backTo bR (starEach [e] X.env)).all (λx=>!x.1)&&(backToKw bR (keywordEach [] X.env)).all (λx=>x.1.isSome)
   && decide ([e].length+([]:List Keyword).length+(if([]:List Keyword).isEmpty then 0 else 1)<30))=true:=by rfl)
  (jv:(apos.endLine==bR.line)=true:=by rfl) (hs:starEach [e] X.env=(false,eval e X.env)::starEach [] X.env:=by rfl) (DD:(backTo bR (starEach [] X.env)).any (·.1)=false:=by rfl)
  (pM:swapsWith (.Call (.Attribute (.Name x p) "append" apos) [e] [] bR) none pos.line X.env=pure false:=by rfl) :
  PS X (.Expr (.Call (.Attribute (.Name x p) "append" apos) [e] [] bR) pos) (lS X (sF i t)) :=
 j8 (zt (Xj PySem.F.plainAttrs_list PySem.F.slot_list_append PySem.F.type_list_append M1 (oE hN hv hd cA) (eS he iB hs) ju DC jv hs DD) pM) λEn σ H zz=>by
  obtain⟨B,F,δ,Dd,c,⟨⟨ys,ey⟩,q⟩,k1,k2,k3,k4⟩:=zz
  obtain⟨p0,wc,g1,g2,g3⟩:=c.ownAt ey
  refine⟨.ref p0,g1,.inl ⟨rfl,_,bu.of g2⟩,B,F,δ,[],_,c,q,λd ah v F' H' hd sf sh c'=>?_⟩
  obtain⟨xs,ex,hl,hn⟩:=hd
  obtain⟨p1,ws,r1,r2,r3⟩:=c'.ownAt ex
  rw[g1]at r1;cases r1
  exact⟨p0,ws,v,rfl,rfl,r2,by omega,k1 _ _ F' _ hn (c'.app ex g1 r2)⟩
noncomputable def sG(i:Nat)(te ti:aI):cC:=λD δ=>te δ λd ao=>∃ys,ao[i]?=some (some (.lst true ys))/\o6 ti ao λk aM=>match k with
 | .int n=>∃xs j,aM[i]?=some (some (.lst true xs))/\gu xs.length n=some j/\D.nx (aM.set i (some (.lst true (xs.set j d))))
 | _=>False
theorem zY(hN:X.N[i]?=some x)(hv:jT X.env.scope x)(he:PE X e (lE te))(hi:PE X b (lB ti))(hd:(x==("__debug__":Str))=false:=by decide)(cA:(x==("__classdict__":Str))=false:=by decide)
  (ha:∀v,assign (.Subscript (.Name x p) b pos') X.env v=(do
   let ov<-holding [v] (eval (.Name x p) X.env)
   let iv<-holding [v,ov] (eval b X.env)
   standAt pos'
   holding [v,ov,iv] (setItem ov iv v)
   release [v,ov,iv] []):=by intro _;rfl)
  (hs:swapsWithSole [.Subscript (.Name x p) b pos'] e pos.line X.env=pure false:=by rfl) (hw:swappedStores [.Subscript (.Name x p) b pos'] e X.env=pure none:=by rfl)
  (h1:(assignEach [.Subscript (.Name x p) b pos'] X.env).map (·.2)=[assign (.Subscript (.Name x p) b pos') X.env]:=by rfl) :
  PS X (.Assign [.Subscript (.Name x p) b pos'] e pos) (lS X (sG i te ti)) :=
 j8 (VB he (VA (oE hN hv hd cA) (eT hi) W8 ha) hs hw h1) λEn σ H ⟨B,F,δ,Dd,c,q,k1,k2,k3,k4⟩=>⟨B,F,δ,[],_,c,q,λd ao v F1 H1 hq f1 h1 c1=>by
  obtain⟨ys,ey,hq⟩:=hq
  obtain⟨p0,wc,g1,g2,g3⟩:=c1.ownAt ey
  refine⟨.ref p0,g1,B,F1,ao,[(d,v)],_,c1,hq,λkd aM kv F2 H2 hk f2 h2 c2=>?_⟩
  have st:=c2.top
  split at hk
  ·obtain⟨xs,j,ex,ej,hn⟩:=hk
   cases st
   have c3:=c2.pop
   obtain⟨p1,ws,r1,r2,r3⟩:=c3.ownAt ex
   rw[g1]at r1;cases r1
   exact⟨p0,ws,_,j,rfl,rfl,r2,by rw[<-r3];exact ej,k1 _ _ F2 _ hn (c3.Y5 ex g1 r2 j)⟩
  ·exact hk.elim⟩
end
end L3
namespace L3
open PySem L2 PySem.Spec PyProof.Rows
theorem dB{A:Around}{k:Nat}(hr:bN k A):A.units+6<cLine:=by have:=hr.un;omega
noncomputable def nums(ns:List Int):List D:=ns.map D.int
noncomputable def Es(o:Obj):Bool:=match o.cls with
 | .type n=>n != "list"
 | _=>true
noncomputable def Oi:bC:=λds Q=>∃ns:List Int,ds=[.fz (nums ns)]/\ns.length<=63/\Q (.bl true)
theorem jC{F H:Hp}:∀ns:List Int,R F H (nums ns) (ns.map V.int) []
 | []=>.nil
 | n::ns=>.int (jC ns)
theorem ZJ{K:PySem.W.Frag}{a:Addr}{o:Obj}(h:K.lookup a=some o):(a,o)∈K:=by
 induction K with
 | nil=>cases h
 | cons p K ih =>
  obtain⟨b,u⟩:=p
  rw[fc]at h
  split at h
  ·rename_i z
   have:a=b:=by simpa using z
   cases h;subst this;simp
  ·exact fQ _ (ih h)
end L3
namespace L3
open PySem L2 PySem.Spec PyProof.Rows
section
variable{B:Bs}{F H:Hp}{σ:L2.St}{δ:Dl}{ts ps:List (D × V)}{i k:Nat}{p q:Addr}{l1 l2 ys NJ:List D}{ws si:List V}
end
section
variable{X:Cx}{F H:Hp}{e b:Expr}{pos p pr apos bR zZ:Pos}{t ti te:aI}{x y:Str}{i j:Nat}
end
end L3
namespace L3
open PySem L2 PySem.Spec PyProof.Rows
theorem wG(i:Int):(D.int i).pl=true:=rfl
theorem wH(i:Bool):(D.bl i).pl=true:=rfl
theorem wI(i:Str):(D.str i).pl=true:=rfl
theorem wJ:D.ak.pl=true:=rfl
theorem wL(xs:List D):(D.fz xs).pl=true:=rfl
theorem wM(C:Addr)(ns:List Str)(xs:List D):(D.obj C ns xs).pl=true:=rfl
theorem sH(i:Int):(D.int i).fr=true:=rfl
theorem wN(i:Bool):(D.bl i).fr=true:=rfl
theorem wO(i:Str):(D.str i).fr=true:=rfl
theorem wQ:D.ak.fr=true:=rfl
theorem nu(i:Int):(D.int i).sh=.int i:=rfl
theorem wR(i:Bool):(D.bl i).sh=.bl i:=rfl
theorem wU(i:Str):(D.str i).sh=.str i:=rfl
theorem wV:D.ak.sh=.ak:=rfl
theorem wW(xs:List D):(D.fz xs).sh=.fz xs:=rfl
theorem wX(C:Addr)(ns:List Str)(xs:List D):(D.obj C ns xs).sh=.obj C ns xs:=rfl
theorem wY{α:Type}(n:Nat)(x:α):(aT n [x]).flatten=aT n x:=by
 induction n with
 | zero=>rfl
 | succ n ih=>rw[n8,qA,ih];rfl
theorem lQ(ns:List Int):(nums ns).length=ns.length:=by simp[nums]
theorem nv(ns:List Int):(nums ns).all D.pl=true:=by simp[nums,D.pl]
theorem pO(ns:List Int):(nums ns).all D.fr=true:=by simp[nums,D.fr]
theorem jc(ns:List Int):(nums ns).map D.sh=nums ns:=by simp[nums,D.sh]
theorem pP(a b:List Int):nums a++nums b=nums (a++b):=by simp[nums]
theorem wZ(n:Nat)(i:Int):aT n (D.int i)=nums (aT n i):=by simp[nums]
theorem sI(n:Nat)(i:Int):aL n (.int i)=true:=by cases n<;>rfl
theorem w4(n:Nat)(i:Str):aL n (.str i)=true:=by cases n<;>rfl
theorem ny(i j:Int):bF (.int i) (.int j)=decide (i=j):=by
 show(i==j)=_
 rw[Bool.beq_eq_decide_eq]
theorem Oj:∀(a b:List Int),bF.eU (nums a) (nums b)=decide (a=b)
 | [],[]=>rfl
 | [],_::_=>by simp[nums,bF.eU]
 | _::_,[]=>by simp[nums,bF.eU]
 | x::xs,y::ys=>by
  show(bF (.int x) (.int y)&&bF.eU (nums xs) (nums ys))=_
  rw[Oj xs ys,ny,qD];simp
theorem sJ(o o':Bool)(a b:List Int):bF (.lst o (nums a)) (.lst o' (nums b))=decide (a=b):=Oj a b
theorem ZK{ns:List Int}{k:Nat}(h:k<ns.length):(nums ns)[k]?=some (.int ns[k]):=by simp[nums,h]
theorem kh{ns:List Int}{k:Int}(h0:0<=k)(h:k<ns.length):dH (nums ns) k=some (.int (ns.getD k.toNat 0)):=by
 unfold dH gu
 rw[if_pos h0,lQ,if_pos h]
 show(nums ns)[k.toNat]?=_
 have hk:k.toNat<ns.length:=by omega
 rw[ZK hk,aQ,aN hk];rfl
theorem sM(ns:List Int)(lo hi:Option Int):eJ (nums ns) lo hi=nums (eJ ns lo hi):=by simp[eJ,nums,LR,LS]
theorem w5(i:Int):kg "int" (.int i)=some true:=by rfl
theorem w6(i:Int):kg "bool" (.int i)=some false:=by rfl
theorem w9(i:Int):kg "list" (.int i)=some false:=by rfl
theorem xa(o:Bool)(xs:List D):kg "list" (.lst o xs)=some true:=by rfl
theorem xb:kg "int" .ak=some false:=by rfl
theorem xf(x:Str):kg "str" (.str x)=some true:=by rfl
theorem xg(xs:List D):kg "tuple" (.tup xs)=some true:=by rfl
theorem sL:sizeLine=16777216:=rfl
theorem xh{p:Prop}[Decidable p]:(decide p=true)=p:=by simp
theorem ZL{α:Type}(xs:List α)(a b:Nat):eJ xs (some (a:Int)) (some (b:Int))=(xs.drop a).take (b-a):=by
 unfold eJ
 rw[HT.Dx,HT.Dx]
 by_cases h:a<=xs.length
 ·rw[Nat.min_eq_left h]
  apply Cz
  intro i
  rw[Ux,Ux,List.getElem?_drop]
  by_cases hi:i<b-a
  ·rw[if_pos hi]
   by_cases hb:a+i<xs.length
   ·rw[if_pos (by omega)]
   ·rw[iq (by omega)];simp
  ·rw[if_neg hi,if_neg (by omega)]
 ·rw[Nat.min_eq_right (show xs.length<=a by omega),LU (aZ _),LU (show xs.length<=a by omega)];simp
end L3
namespace L2
open PySem PySem.Spec PyProof.Rows
section
variable{X:Cx}{e:Expr}{te:TE}{lo hi:Option Expr}{st:Expr}{tl th ts:TO}{pos p2:Pos}
noncomputable def Et{α:Type}(xs:List α)(lo hi st:Option Int):List α:=(sliceRange (sliceBounds lo hi st xs.length).1 (sliceBounds lo hi st xs.length).2.1 (sliceBounds lo hi st xs.length).2.2).filterMap (xs[·]?)
end
end L2
namespace L3
open PySem L2 PySem.Spec PyProof.Rows
section
variable{X:Cx}{F H:Hp}{e:Expr}{t:aI}{lo hi:Option Expr}{st:Expr}{tl th td:sA}{pos p2:Pos}
theorem Ol:∀{a:List Int} {ws:List V},S F H (nums a) ws->ws=a.map V.int
 | [],_,s=>by cases s;rfl
 | b::bs,_,s=>by
  cases s with
  | int s=>rw[Ol s];rfl
theorem S.Eu{xs:List D}{ws:List V}(s:S F H xs ws):∀ix:List Nat,S F H (ix.filterMap (xs[·]?)) (ix.filterMap (ws[·]?))
 | []=>.nil
 | i::ix=>by
  rw[qq,qq]
  cases e:xs[i]? with
  | none =>
   have:ws[i]?=none:=by
    have:=s.length
    rw[LC]at e ⊢
    omega
   rw[this];exact S.Eu s ix
  | some x =>
   obtain⟨u,e2,q⟩:=s.get e
   rw[e2]
   exact q.cons (S.Eu s ix)
theorem S.pick{xs:List D}{ws:List V}(s:S F H xs ws)(l u d:Option Int):S F H (Et xs l u d) (Et ws l u d):=by
 unfold Et;rw[<-s.length];exact s.Eu _
noncomputable def Ew:Expr->Option Int
 | .Constant (.int i) _ _=>some i
 | _=>none
noncomputable def z4:List Expr->Option (List Int)
 | []=>some []
 | e::es=>(Ew e).bind λi=>(z4 es).map (i :: ·)
theorem ZM{e:Expr}{i:Int}(h:Ew e=some i):∃a b,e=.Constant (.int i) a b:=by
 cases e with
 | Constant c a b =>
  cases c with
  | int j=>cases h;exact⟨_,_,rfl⟩
  | _=>cases h
 | _=>cases h
noncomputable def ZN(ns:List Int):cq:=λδ Q=>Q (nums ns) δ
theorem Om:∀(es:List Expr) (ns:List Int),z4 es=some ns->PA X es (lO (ZN ns))
 | [],ns,h=>by cases h;exact eI
 | e::es,ns,h=>by
  obtain⟨i,hi,h2⟩:=Option.bind_eq_some_iff.mp (show(Ew e).bind (λi=>(z4 es).map (i :: ·))=some ns from h)
  obtain⟨ms,hm,rfl⟩:=Cw.mp h2
  obtain⟨a,b,rfl⟩:=ZM hi
  exact wg (gB (az (i:=i)) (Om es ms hm)) λ_ _ _ q=>q
noncomputable def sN(ns:List Int):aI:=λδ Q=>ns.length<=sizeLine/\Q (.lst true (nums ns)) δ
theorem Oo{es:List Expr}{ns:List Int}(h:z4 es=some ns):PE X (.List es pos) (lE (sN ns)) :=
 cY (fk (Om es ns h)) λ_ _ _ ⟨B,F,δ,ts,Qd,c,q,k⟩=>⟨B,F,δ,ts,Qd,c,by
  show(nums ns).length<=sizeLine/\_
  rw[lQ];exact q,k⟩
noncomputable def tab(f:Nat->Int)(n:Nat):List Int:=(aR n).map f
theorem xi{n:Nat}{g:fW}{tb:cC}{En:rj}{δ:Dl}(Iv:Nat->Dl->Prop)(h0:Iv 0 δ)(ht:∀k ah,k<n->Iv k ah->g (.int k) ah λaM=>tb { En with nx:=Iv (k+1),ct:=Iv (k+1),bk:=En.nx } aM)
  (hf:∀ah,Iv n ah->En.nx ah):gZ (CA (λ(k:Nat)=>D.int (0+(k:Int))) (aR (n:Int).toNat)) g tb En δ:=by
 rw[dR]
 refine gZ.mk Iv h0 (λi d ah hd iv=>?_) λah iv=>hf ah (by simpa using iv)
 rw[cy]at hd
 obtain⟨k,hk,rfl⟩:=Cw.mp hd
 have hi:i<n:=by have:=(iW.mp hk).1;simpa using this
 rw[mQ hi]at hk
 cases hk
 rw[LV]
 exact ht i ah hi iv
theorem mX{xs:List D}{k:Int}{d:D}(h0:0<=k)(h:xs[k.toNat]?=some d):dH xs k=some d:=by
 unfold dH gu
 have hk:k.toNat<xs.length:=(iW.mp h).1
 rw[if_pos h0,if_pos (by omega)]
 exact h
end
end L3
namespace L3
open PySem L2 PySem.Spec PyProof.Rows
noncomputable abbrev nB:=List D->(D->Prop)->(Addr->Prop)->Prop
noncomputable def xj(sp:nB):Sp:=λvs H Q E=>∃F ds Qd Ed,aa F H/\R F H ds vs []/\sp ds Qd Ed/\(∀d v F' H' A,Qd d->aa H H'->aa F F'->aa F' H'->(∀a ws,F' a=some (.lst ws)->F a=some (.lst ws)\/H a=none)->R F' H' [d] [v] A->A.Nodup->(∀a∈A,H a=none)->Q v H') /\
 ∀C H',Ed C->aa H H'->E (.ref C) none H'
section
variable{P:Program}{w:World}{K:PySem.W.Frag}{mg:Str->Option Value}{base:Heap}
theorem Oq{x qual:Str}{st:Stmt}{f:Addr}{fd:FuncData}{N ps:List Str}{k:Nat}{sp:nB}(F:bx K x qual st f fd)(S:bA N ps (ay st))(len:∀ds Q E,sp ds Q E->ds.length=ps.length)
  (gr:∀(aH:Value) (A:Around) (outer:List Env) (s:Shared) (H:Hp) (E:XK),bN k (A.deeper (envOfC qual (ay st) s.heap.objs.size f aH)) ->
   ∃t:cC,PSs (gM (kX P w) P w K mg base N qual (ay st) f aH A outer s H E) (bf st) (lS (gM (kX P w) P w K mg base N qual (ay st) f aH A outer s H E) t) /\
    ∀ds Q Ex,sp ds Q Ex->t { nx:=λ_=>Q .ak,rt:=Q,xc:=λC _=>Ex C,xr:=λC _=>Ex C } (jz N ds)):aO P w K mg base (kX P w) (k+1) f fd ps (xj sp):=by
 obtain⟨oc,od,kV,doc,pm,an,aH,ct,jY,rfl,lk,cA⟩:=F.ex
 refine Du lk cA S (λvs H Q E ⟨F,ds,Qd,Ed,e,r,h,_⟩=>by rw[<-r.length];exact len ds Qd Ed h) λA outer s H vs Q E hr zz=>?_
 obtain⟨F,ds,Qd,Ed,e,r,h,k,kx⟩:=zz
 obtain⟨t,ht,hq⟩:=gr aH A outer s H E hr
 have fin:∀d v ah ax F' H',Qd d->aj ⟨H,F⟩ F' H' ax ah [(d,v)]->Q v H':=λd v ah ax F' H' hd c=>by
  obtain⟨A,C,r',s',nd,fr⟩:=c.own
  exact k d v F' H' A hd c.b1 c.b2 c.ext c.b3 r' (fi.mp nd).1 λa ha=>fr a (e7 _ ha)
 have e1:L2.start N vs=vs.map some++aT (N.length-ds.length) none:=by unfold L2.start;rw[r.length]
 refine⟨_,ht,⟨H,F⟩,F,jz N ds,_,?_,hq ds Qd Ed h,λah ax F' H' hd c=>fin .ak .ak ah ax F' H' hd (c.pushS (.ak .nil) rfl),fin,λ_ _ _ _ z=>z.elim,λ_ _ _ _ z=>z.elim,λC ah pins ax F' H' s' a T hx c I tr pa pT=>?_,λC ah pins ax F' H' s' h' e vs hx c I hm=>?_⟩
 ·rw[e1]
  exact aj.start e r _
 ·exact Yw I rfl rfl rfl tr pa pT λh' T' g=>⟨a,T',.ref C,H',rfl,I.os,I.bare,g.un,g.aA,g.vY,g.a0,g.a1,g.t0,g.t1,kx C H' hx c.b1⟩
 ·exact Yx I rfl rfl rfl hm λh' T' g=>⟨e,T',.ref C,H',rfl,I.os,I.bare,g.un,g.aA,g.vY,g.a0,g.a1,g.t0,g.t1,kx C H' hx c.b1⟩
end
noncomputable abbrev ZO:=Dl->(D->Dl->Prop)->(Addr->Dl->Prop)->Prop
section
variable{X:Cx}{n:Nat}{f:Addr}{fd:FuncData}{ps:List Str}{sp:nB}{x:Str}{p pos:Pos}{e:Expr}{es:List Expr}{t:cq}{tx:ZO}
noncomputable def sO(t:cC):cC:=λD δ=>t { D with xc:=λ_ _=>False,xr:=λ_ _=>False } δ
theorem ZP{st:Stmt}{u:cC}(h:PS X.eZ st (lS X.eZ u)):PS X st (lS X (sO u)):=by
 intro pins s σ H D I zz
 obtain⟨B,F,δ,Dd,c,q,k1,k2,k3,k4,xl⟩:=zz
 exact wpAny_mono (h pins s σ H D (I.iz _) ⟨B,F,δ,_,c,q,k1,k2,k3,k4,XL.none (λ_ _ z=>z) λ_ _ z=>z⟩) (λ_ _ q=>q.jn) λ_ _ z=>eE z
noncomputable def sP(C:Addr)(t:cq):cC:=λD δ=>t δ λds ah=>ds.length<=9/\D.xr C ah
structure Ey(K:PySem.W.Frag)(mg:Str->Option Value)(x:Str)(C:Addr):Prop where
 own:∀h:Heap,K.In h->h.Ns mainGlobals mg->∃newId Bn ki Ot B Ou Ov z5,OwnCls x C z5 newId mg h/\ExcBaseFacts Bn newId ki Ot/\z5.contains (.type Bn)=true/\ExcBaseFacts B Ou Ov z5
theorem Ow{C:Addr}{np bR:Pos}(hm:Ey X.K X.mg x C)(hc:X.calm=true)(hg:Gl X x)(ha:PA X (e::es) (lA t))(dU:(x==("__debug__":Str))=false:=by decide)
  (he:starEach (e::es) X.env=(false,eval e X.env)::starEach es X.env:=by rfl) (bJ:(backTo bR (starEach es X.env)).any (·.1)=false:=by rfl) :
  PS X (.Raise (some (.Call (.Name x np) (e::es) [] bR)) none pos) (lS X (sP C t)):=by
 intro pins s σ H D I zz
 obtain⟨B,F,δ,Dd,c,q,k1,k2,k3,k4,xl⟩:=zz
 obtain⟨newId,Bn,ki,Ot,B',Ou,Ov,z5,O,Fn,ZQ,FB⟩:=hm.own X.base I.ok.mod.kL I.ok.mod.glob
 obtain⟨tl,N,nm,qn,bs,hdct,sn,sub,ab,col,dd,k0,ZR,ZS,ZT,k5,mN,hC,hN,nC,T⟩:=O.obj
 refine wpAny_Raise_call_subU (k5:=k5) (k3:=ZT) (k2:=ZS) (k1:=ZR) (k0:=k0) (dd:=dd) (col:=col) (ab:=ab) (sub:=sub) (sn:=sn) (hdct:=hdct) (bs:=bs) (N:=N) (q:=qn) (nm:=nm) (C:=C) Fn ZQ FB (mN:=mN) (T.hasType FB.hasBase) (I.ok.hd hc) (by rw[he];show(false||(backTo bR (starEach es X.env)).any (·.1))=false;rw[bJ];rfl) nC (zo I hg O.bound ⟨rfl,?_⟩ dU)
 have Ez:=ha bR pins s σ H (λvs H1=>vs.length<=9/\∃ah F',Dd.xr C ah/\aj B F' H1 σ ah []) I ⟨B,F,δ,[],_,c,q,λds ao vs F1 H1 q1 f1 h1 c1 s1=>⟨by rw[<-s1.length];exact q1.1,ao,F1,q1.2,c1⟩⟩
 rw[he]at Ez ⊢
 refine Calls.evalArgs_plain (wpAny_mono Ez (λus s2 h2=>?_) λ_ _ y=>y)
 obtain⟨vs,H1,I1,r,hl,ah,F',hx,c'⟩:=h2
 exact⟨rfl,by rw[<-r.length];exact dP hl (by decide),I1.bk _ _ hC,hN.keeps I1.bk,T.keeps I1.bk,λh' e' ZU=>xl.2 C ah pins σ F' H1 s2 h' e' _ hx c' I1 ZU⟩
end
end L3
namespace L3
open PySem L2 PySem.Spec PyProof.Rows
section
variable{X:Cx}{pins C4:List (Addr × Obj)}{σ:L2.St}{H:Hp}{s:Shared}{a:Addr}
noncomputable abbrev tr(X:Cx)(xe:Value->Shared->Prop)(pn:List (Addr × Obj)):Cx:={ X with xe:=xe,pn:=pn }
end
noncomputable abbrev exc(C:Addr):D:=.aX (.ext λa=>YA a C)
section
variable{X:Cx}{tb th:cC}{body ZV:List Stmt}{ZW:Stmt}{K n:Str}{Kc:Addr}{i:Nat}{kp ZX pos:Pos}
end
end L3
namespace L3
open PySem L2 PySem.Spec PyProof.Rows
section
variable{X:Cx}{F H:Hp}{v:V}{a:Expr}{ta:aI}{p pos:Pos}
end
section
variable{K:PySem.W.Frag}{mg:Str->Option Value}{x:Str}{C:Addr}
theorem ZY(hm:mg x=some (.ref C))(q:PySem.W.excIn K C [.type "ValueError",.type "Exception",.type "BaseException",.type "object"] "ValueError.__new__"=true):Ey K mg x C:=by
 refine⟨λh X G=>⟨"ValueError.__new__","ValueError",_,_,"ValueError",_,_,[.type "ValueError",.type "Exception",.type "BaseException",.type "object"],?_,PySem.F.excBase_ValueError,rfl,PySem.F.excBase_ValueError⟩⟩
 refine⟨hm,?_⟩
 unfold PySem.W.excIn at q
 split at q
 ·rename_i dd cd sl ho
  split at q
  ·rename_i C' bm k0 k1 k2 k3 n k5 hm hs
   simp only[du,beq_iff_eq,Bool.not_eq_true']at q
   obtain⟨⟨⟨⟨⟨rfl,rfl⟩,Ox⟩,ht⟩,aA⟩,nC⟩:=q
   obtain⟨nm,bs,mro,ns,qn,hd,sn,sub,ab,col,del⟩:=cd
   dsimp only at hm Ox aA nC
   subst hm Ox
   have ZZ:sl=#[k0,k1,k2,k3,some (.builtin "ValueError.__new__"),k5]:=by
    obtain⟨l⟩:=sl
    simp only at hs
    rw[hs]
   subst ZZ
   exact⟨bm,ns,nm,qn,bs,hd,sn,sub,ab,col,dd,k0,k1,k2,k3,k5,_,X _ _ ho,.of_isNs (PySem.W.isNs_of_in X aA),PySem.W.nsMap_none_of_in X aA nC,PySem.W.tail_of_in X ht⟩
  ·cases q
 ·cases q
end
theorem EA{P:Program}{w:World}{X:Cx}:jX (kX P w) X E0:=by
 rintro _ _ _ _ _ _ _ ⟨_,_,_,_,_,_,_,_,_,_,_,_,_,_,z⟩
 exact z.elim
theorem EB{P:Program}{w:World}{K:PySem.W.Frag}{mg:Str->Option Value}{base:Heap}{k:Nat}{f:Addr}{fd:FuncData}{ps:List Str}{sp:nB}(h:aO P w K mg base (kX P w) k f fd ps (xj sp)) :
  aO P w K mg base (kX P w) k f fd ps (bE λds Q=>sp ds Q λ_=>False) :=
 h.imp λvs H Q E ⟨F,ds,Qd,e,r,q,k⟩=>⟨F,ds,Qd,_,e,r,q,k,λ_ _ z=>z.elim⟩
end L3
namespace L3
open PySem L2 PySem.Spec PyProof.Rows
theorem xk{CX:dS}{P:Program}{w:World}{K:PySem.W.Frag}{mg:Str->Option Value}{base:Heap}{N:List Str}{q:Str}{sc:Scope}{f:Addr}{aH:Value}{A:Around}{outer:List Env}{s:Shared}{H:Hp}{E:XK}:(gM CX P w K mg base N q sc f aH A outer s H E).K=K:=rfl
theorem xm(φ:q9):(D.aX φ).pl=true:=rfl
theorem xn(φ:q9):(D.aX φ).sh=.aX φ:=rfl
end L3
namespace L3
open PySem L2 PySem.Spec PyProof.Rows
theorem xo{X:Cx}:X.eZ.K=X.K:=rfl
end L3
namespace L3
open PySem L2 PySem.Spec PyProof.Rows
noncomputable def dw(xs ys:List D):List D:=fE (λx y=>D.tup [x,y]) xs ys
noncomputable def eV(xs:List D):List D:=xs.mapIdx λi x=>D.tup [.int i,x]
theorem Oy(xs ys:List D):(dw xs ys).map D.sh=dw (xs.map D.sh) (ys.map D.sh):=by
 unfold dw
 rw[CB,LW]
 congr 1
theorem Z0{xs ys:List D}(h1:xs.all D.pl=true)(h2:ys.all D.pl=true):(dw xs ys).all D.pl=true:=by
 unfold dw
 rw[dy]at h1 h2 ⊢
 intro d hd
 obtain⟨i,hi,e⟩:=fC hd
 rw[List.getElem_zipWith]at e
 subst e
 rw[j5]
 simp only[dX,qE,mR,du]
 exact⟨h1 _ (eF _),h2 _ (eF _)⟩
theorem Z1(xs:List D):(eV xs).map D.sh=eV (xs.map D.sh):=by
 unfold eV
 apply Cz
 intro i
 simp only[cy,yP,Option.map_map]
 cases xs[i]? with
 | none=>rfl
 | some x =>
  show some (D.sh (.tup [.int i,x]))=some (D.tup [.int i,x.sh])
  rw[kY];rfl
theorem Z2{xs:List D}(h1:xs.all D.pl=true):(eV xs).all D.pl=true:=by
 unfold eV
 rw[dy]at h1 ⊢
 intro d hd
 obtain⟨i,hi,e⟩:=fC hd
 rw[List.getElem_mapIdx]at e
 subst e
 rw[j5]
 simp only[dX,qE,mR,du]
 exact⟨rfl,h1 _ (eF _)⟩
theorem pQ(xs:List D):(eV xs).length=xs.length:=by simp[eV]
theorem EC(xs ys:List D):(dw xs ys).length=min xs.length ys.length:=by simp[dw]
section
variable{F H:Hp}{d:D}{v:V}{xs ys:List D}{ws us:List V}{p q:Addr}{K:PySem.W.Frag}
theorem ED(s:S F H [d] [v])(e2:aa F H)(e:i6 d=some xs):∃p ws,v=.ref p/\Rd H p (.lst ws)/\R H H (xs.map D.sh) ws []/\(d.pl=true->xs.all D.pl=true/\Rd F p (.lst ws)/\R F H xs ws []):=by
 cases s with
 | @shr p ws ys _ _ hp r _ =>
  obtain rfl:=cM e
  refine⟨p,ws,rfl,.inl (e2 _ _ hp),?_,λ_=>⟨r.pl,.inl hp,r⟩⟩
  rw[j6 r.pl]
  exact r.shared e2 (aa.refl _)
 | @own p ws ys _ _ hp r _ =>
  obtain rfl:=cM e
  exact⟨p,ws,rfl,.inl hp,r.frozen e2,λz=>by simp[gX]at z⟩
 | @fz p o ws ys _ _ hp r _ =>
  obtain rfl:=cM e
  refine⟨p,ws,rfl,.inr ⟨o,e2 _ _ hp⟩,?_,λ_=>⟨r.pl,.inr ⟨o,hp⟩,r⟩⟩
  rw[j6 r.pl]
  exact r.shared e2 (aa.refl _)
 | ak _=>cases e
 | bl _=>cases e
 | int _=>cases e
 | str _=>cases e
 | tup _ _ _=>cases e
 | obj _ _ _ _=>cases e
 | aX _ _=>cases e
theorem EE(r:R F H xs ws []){i:Nat}(hi:i<xs.length){x:V}(hx:ws[i]?=some x):R F H [xs[i]] [x] []:=by
 obtain⟨v,A1,e2,r1,sub⟩:=r.get (aN hi)
 rw[hx]at e2;cases e2
 have:A1=[]:=Us.mpr λa ha=>by simpa using sub ha
 subst this
 exact r1
theorem Oz(hp:Rd F p (.lst ws))(r:R F H xs ws [])(hq:Rd F q (.lst us))(t:R F H ys us [])(hF:Full F H):JD (DU K p q) F (dw xs ys) where
 go:=λi H' hs hi=>by
  rw[EC]at hi
  have l1:=r.length
  have l2:=t.length
  exact⟨ws,us,_,_,.inl (gz hp hs),.inl (gz hq hs),aN (show i<ws.length by omega),aN (show i<us.length by omega)⟩
 i3:=λi H' v H2 hs hi zz=>by
  obtain⟨T,x,y,e1,e2,e3,hx,hy⟩:=zz
  subst e1 e3
  have sQ:=hi
  rw[EC]at sQ
  have h1:=EE (r.full hF hs rfl) (show i<xs.length by omega) (hx ws (.inl (gz hp hs)))
  have h2:=EE (t.full hF hs rfl) (show i<ys.length by omega) (hy us (.inl (gz hq hs)))
  have sm:=aa.upd (o:=.tup [x,y]) e2
  refine⟨_,aN hi,sm,?_⟩
  have eg:(dw xs ys)[i]=.tup [xs[i]'(by omega),ys[i]'(by omega)]:=by simp[dw]
  rw[eg]
  exact R.tup (A:=[]) (B:=[]) bW ((h1.shared (aa.refl _) sm).cons (h2.shared (aa.refl _) sm)) .nil
 stop:=λi H' hs hi=>by
  rw[EC]at hi
  have l1:=r.length
  have l2:=t.length
  exact⟨ws,us,.inl (gz hp hs),.inl (gz hq hs),by omega⟩
theorem OA(hp:Rd F p (.lst ws))(r:R F H xs ws [])(hF:Full F H):JD (DZ K p) F (eV xs) where
 go:=λi H' hs hi=>by
  rw[pQ]at hi
  have l1:=r.length
  exact⟨ws,_,.inl (gz hp hs),aN (show i<ws.length by omega)⟩
 i3:=λi H' v H2 hs hi zz=>by
  obtain⟨T,x,e1,e2,e3,hx⟩:=zz
  subst e1 e3
  have sQ:=hi
  rw[pQ]at sQ
  have h1:=EE (r.full hF hs rfl) sQ (hx ws (.inl (gz hp hs)))
  have sm:=aa.upd (o:=.tup [.int i,x]) e2
  refine⟨_,aN hi,sm,?_⟩
  have eg:(eV xs)[i]=.tup [.int i,xs[i]]:=by simp[eV]
  rw[eg]
  exact R.tup (A:=[]) (B:=[]) bW (.int (h1.shared (aa.refl _) sm)) .nil
 stop:=λi H' hs hi=>by
  rw[pQ]at hi
  have l1:=r.length
  exact⟨ws,.inl (gz hp hs),by omega⟩
end
section
variable{X:Cx}{a b:Expr}{ta:cq}{p pos kM:Pos}{elts:List Expr}{x1:Nat}
noncomputable def sR(t:cq):iG:=λδ Q=>t δ λds ah=>match ds with
 | [d1,d2]=>∃xs ys,i6 d1=some xs/\i6 d2=some ys/\Q (d1.pl&&d2.pl) (dw xs ys) ah
 | _=>False
theorem xp(hg:Gl X "zip")(hm:X.mg "zip"=none)(ha:PA X [a,b] (lA ta))(hs:starEach [a,b] X.env=[(false,eval a X.env),(false,eval b X.env)]:=by rfl)(gL:starEach [b] X.env=[(false,eval b X.env)]:=by rfl) :
  PI X (.Tuple elts x1 kM) (.Call (.Name "zip" p) [a,b] [] pos) (lI (sR ta)) :=
 rG (YL hg hm ha hs gL) λσ H Q ⟨B,F,δ,ts,Qd,c,q,k⟩=>⟨B,F,δ,ts,_,c,q,λds ao vs F1 H1 hd f1 h1 c1 s=>by
  match ds,hd,s with
  | [d1,d2],⟨xs,ys,i1,i2,hq⟩,s =>
   obtain⟨v1,cj,rfl,s1,s2⟩:=s.cL
   obtain⟨v2,dY1,rfl,s2,s3⟩:=s2.cL
   cases s3
   have e2:=c1.ext
   have sn:=oZ e2
   obtain⟨p1,w1,rfl,r1,t1,u1⟩:=ED s1 e2 i1
   obtain⟨p2,w2,rfl,r2,t2,u2⟩:=ED s2 e2 i2
   refine⟨p1,p2,rfl,⟨w1,.inl r1⟩,⟨w2,.inl r2⟩,k _ _ ao _ _ H1 hq (f1.trans sn) h1 c1.snap ?_ λz=>?_⟩
   ·rw[Oy]
    exact Oz r1 t1 r2 t2 (Full.refl _)
   ·rw[du]at z
    obtain⟨a1,a2,a3⟩:=u1 z.1
    obtain⟨b1,b2,b3⟩:=u2 z.2
    exact⟨Z0 a1 b1,Oz (gz a2 sn) (a3.shared sn (aa.refl _)) (gz b2 sn) (b3.shared sn (aa.refl _)) rh⟩⟩
noncomputable def sS(t:cq):iG:=λδ Q=>t δ λds ah=>match ds with
 | [d1]=>∃xs,i6 d1=some xs/\Q d1.pl (eV xs) ah
 | _=>False
theorem z6(hg:Gl X "enumerate")(hm:X.mg "enumerate"=none)(ha:PA X [a] (lA ta))(hs:starEach [a] X.env=[(false,eval a X.env)]:=by rfl) :
  PI X (.Tuple elts x1 kM) (.Call (.Name "enumerate" p) [a] [] pos) (lI (sS ta)) :=
 rG (YO hg hm ha hs) λσ H Q ⟨B,F,δ,ts,Qd,c,q,k⟩=>⟨B,F,δ,ts,_,c,q,λds ao vs F1 H1 hd f1 h1 c1 s=>by
  match ds,hd,s with
  | [d1],⟨xs,i1,hq⟩,s =>
   obtain⟨v1,cj,rfl,s1,s2⟩:=s.cL
   cases s2
   have e2:=c1.ext
   have sn:=oZ e2
   obtain⟨p1,w1,rfl,r1,t1,u1⟩:=ED s1 e2 i1
   refine⟨p1,rfl,⟨w1,.inl r1⟩,k _ _ ao _ _ H1 hq (f1.trans sn) h1 c1.snap ?_ λz=>?_⟩
   ·rw[Z1]
    exact OA r1 t1 (Full.refl _)
   ·obtain⟨a1,a2,a3⟩:=u1 z
    exact⟨Z2 a1,OA (gz a2 sn) (a3.shared sn (aa.refl _)) rh⟩⟩
end
end L3
namespace L3
open PySem L2 PySem.Spec PyProof.Rows
section
variable{X:Cx}{F H:Hp}{e b:Expr}{pos p p2 p3 pr apos bR zZ:Pos}{t ti te:aI}{x y:Str}{i j:Nat}
theorem Dy{α:Type}{xs:List α}{k:Nat}{v:α}(h:xs[k]?=some v):dH xs (k:Int)=some v:=by
 unfold dH gu
 have hk:k<xs.length:=(iW.mp h).1
 rw[if_pos (by omega),if_pos (by omega)]
 exact h
theorem cB1{B:Bs}{σ:L2.St}{δ:Dl}{ts:List (D × V)}{l1 l2 ys:List D}{p0:Addr}{ws:List V}(c:aj B F H σ δ ts)(e1:δ[i]?=some (some (.lst true (l1++.lst true ys::l2))))(g1:σ[i]?=some (some (.ref p0)))(g2:H p0=some (.lst ws)) :
  ∃q us,ws[l1.length]?=some (.ref q)/\H q=some (.lst us)/\ys.length=us.length/\S F H [.lst true ys] [.ref q]:=by
 obtain⟨v,ev,sv⟩:=c.look e1
 rw[g1]at ev;cases ev
 cases sv with
 | own hh sx _ =>
  rw[g2]at hh;cases hh
  obtain⟨v2,e2,s3⟩:=sx.get (i:=l1.length) (d:=D.lst true ys) (by rw[u7 (aZ _),yQ];rfl)
  have s4:=s3
  cases s3 with
  | own h3 s5 _=>exact⟨_,_,e2,h3,s5.length,s4⟩
end
section
variable{X:Cx}{CX:dS}{k:Nat}{f:Addr}{fd:FuncData}{ps:List Str}{sp:bC}{E:XK}{fn x1 x2 y1 y2:Str}{i1 i2 j1 j2:Nat}{tk:Nat}
 {tp t1 t2 zp dY3 q1 q2 fp dY4 a1 a2 dY5 dY6 dY7 cp zZ pr apos bR dY8 pos:Pos}
end
end L3
namespace L3
open PySem L2 PySem.Spec PyProof.Rows
theorem aj.Z3{B:Bs}{F H:Hp}{σ:L2.St}{δ:Dl}{ts:List (D × V)}{a b:D}{v:V}(c:aj B F H σ δ ((.tup [a,b],v)::ts)):∃p u w,v=.ref p/\H p=some (.tup [u,w])/\aj B F H σ δ ((a,u)::(b,w)::ts):=by
 obtain⟨A,C,r,s,nd,fr⟩:=c.own
 cases r with
 | @tup p ws xs A1 _ _ B1 hp r1 r2 =>
  obtain⟨u,dv,A2,A3,rfl,rfl,h1,h2⟩:=r1.cL
  obtain⟨w,dY9,A4,A5,rfl,rfl,h3,h4⟩:=h2.cL
  cases h4
  refine⟨p,u,w,rfl,hp,c.ext,c.b1,c.b2,c.b3,A2++(A4++B1),C,h1.cons (h3.cons r2),s,?_,?_⟩
  ·simpa using nd
  ·intro a ha;exact fr a (by simpa using ha)
section
variable{X:Cx}{y1 y2:Str}{i1 i2 tk m:Nat}{t1 t2 tp:Pos}
noncomputable def iO(i1 i2:Nat):fW:=λd δ Q=>match d with
 | .tup [a,b]=>Q ((δ.set i1 (some a)).set i2 (some b))
 | _=>False
theorem lR(hc:X.calm=true)(OB:X.N.Nodup)(m1:X.N[i1]?=some y1)(l1:Loc X.env.scope y1)(m2:X.N[i2]?=some y2)(l2:Loc X.env.scope y2)(hm1:m<=i1:=by decide)(zX:m<=i2:=by decide)
  (f1:X.fn y1=true\/X.env.scope.names.lookup y1=some .local:=by first | exact .inl rfl | exact .inr rfl | assumption) (f2:X.fn y2=true\/X.env.scope.names.lookup y2=some .local:=by first | exact .inl rfl | exact .inr rfl | assumption)
  (Z4:(assignEach [.Name y1 t1,.Name y2 t2] X.env).map (·.2)=assign (.Name y1 t1) X.env::(assignEach [.Name y2 t2] X.env).map (·.2):=by rfl) (Z5:(assignEach [.Name y2 t2] X.env).map (·.2)=assign (.Name y2 t2) X.env::(assignEach [] X.env).map (·.2):=by rfl)
  (hn:(assignEach [.Name y1 t1,.Name y2 t2] X.env).length=2:=by rfl) (cH:(assignEach [.Name y1 t1,.Name y2 t2] X.env).findIdx? (·.1)=none:=by rfl) :
  PG X (.Tuple [.Name y1 t1,.Name y2 t2] tk tp) (lG m (iO i1 i2)) :=
 NV (Vy hc (Mr (zx OB m1 l1 f1) (Mr (zx OB m2 l2 f2) Vw Z5) Z4) hn cH) λv σ H Q zz=>by
  obtain⟨B,F,δ,ts,d,Qd,c,q,k⟩:=zz
  obtain⟨a,b,rfl,q⟩:∃a b,d=D.tup [a,b]/\Qd ((δ.set i1 (some a)).set i2 (some b)):=by
   unfold iO at q
   split at q
   ·exact⟨_,_,rfl,q⟩
   ·exact q.elim
  obtain⟨p,u,w,rfl,hp,c2⟩:=c.Z3
  refine⟨p,[u,w],rfl,eY.of hp,rfl,u,[w],rfl,w,[],rfl,rfl,k _ _ q (by simp) (λj hj=>?_) ((c2.store i1).store i2)⟩
  rw[qt (by omega),qt (by omega)]
end
open Classical in
theorem gD{α:Type}{sh:Bool}{xs:List D}{au:List (Str × Nat)}{n m:Nat}{te:aI}{ao:Dl}{Q:D->Dl->Prop}(l:List α)(e g:α->D)(g8:xs.map D.sh=l.map e)(inj:∀a b,e a=e b->a=b)
  (hx:∀a∈l,te ((e5 au n ao).set m (some (e a))) λd _=>d=g a) (dM:(sh&&au.all (g6 ao))=true\/∀a∈l,(g a).fr=true) (hl:l.length<=sizeLine) (hq:Q (.lst true (l.map g)) ao):ph sh xs au n (gN m) jA te ao Q:=by
 let f:D->D:=λx=>if h:∃a∈l,e a=x then g h.choose else .ak
 have hf:∀a∈l,f (e a)=g a:=λa ha=>by
  have h:∃b∈l,e b=e a:=⟨a,ha,rfl⟩
  show(if h:∃b∈l,e b=e a then g h.choose else .ak)=g a
  rw[dif_pos h]
  exact congrArg g (inj _ _ h.choose_spec.2)
 refine Ze f (λx h=>?_) (dM.imp id λh x hx=>?_) ?_ ?_
 ·rw[g8]at h
  obtain⟨a,ha,rfl⟩:=bP.mp h
  rw[hf a ha];exact hx a ha
 ·rw[g8]at hx
  obtain⟨a,ha,rfl⟩:=bP.mp hx
  rw[hf a ha];exact h a ha
 ·have:=congrArg Cg g8
  simp at this
  omega
 ·rw[g8,dG,show l.map (f ∘ e)=l.map g from qF λa ha=>hf a ha]
  exact hq
end L3
namespace L3
open PySem L2 PySem.Spec PyProof.Rows
end L3
namespace L2
open PySem PySem.Spec PyProof.Rows
section
variable{X:Cx}
end
end L2
namespace L3
open PySem L2 PySem.Spec PyProof.Rows
noncomputable abbrev tx(l:List Nat):D:=.str ⟨l.toArray⟩
section
variable{X:Cx}{F H:Hp}{e:Expr}{es:List Expr}{t:aI}{pos p p2 apos bR:Pos}
noncomputable def pS(x:D)(lo hi:Option Int)(Q:D->Prop):Prop:=match x with
 | .lst _ xs=>xs.all D.pl=true/\Q (.lst true (eJ xs lo hi))
 | .fz xs=>Q (.lst true (eJ xs lo hi))
 | .str z=>z.length<=sizeLine/\Q (tx (eJ z.cps.toList lo hi))
 | _=>False
noncomputable def sT(t:aI)(tl th:sA):aI:=λδ Q=>t δ λx ao=>tl ao λl aM=>th aM λu gA=>pS x l u λd=>Q d gA
theorem xq{lo hi:Option Expr}{tl th:sA}(he:PE X e (lB t))(hl:PO X lo (lP tl))(hu:PO X hi (lP th)):PE X (.Subscript e (.Slice lo hi none p2) pos) (lE (sT t tl th)) :=
 cY (WW (Xb.or YS) he hl hu) λσ H Q ⟨B,F,δ,ts,Qd,c,q,k⟩=>⟨B,F,δ,ts,_,c,q,λx ao v F1 H1 q1 f1 h1 c1 s1=>⟨B,F1,ao,ts,_,c1,q1,λl aM F2 H2 q2 f2 h2 c2=>⟨B,F2,aM,ts,_,c2,q2,λu gA F3 H3 q3 f3 h3 c3=>by
  have lM:=s1.mono (f2.trans f3) (h2.trans h3)
  unfold pS at q3
  split at q3
  ·obtain⟨p,ws,rfl,h,t⟩:=lD lM c3.ext rfl
   exact .inl ⟨p,ws,rfl,ke h,λr hr=>k _ gA _ F3 _ q3.2 ((f1.trans f2).trans f3) (((h1.trans h2).trans h3).trans (aa.upd hr)) (c3.kZ hr (t.cut _ _) (Oh q3.1 _ _))⟩
  ·obtain⟨p,ws,rfl,h,t⟩:=lD lM c3.ext rfl
   cases lM with
   | fz h' r _=>exact .inl ⟨_,_,rfl,ke (.inr ⟨_,c3.ext _ _ h'⟩),λr' hr=>k _ gA _ F3 _ q3 ((f1.trans f2).trans f3) (((h1.trans h2).trans h3).trans (aa.upd hr)) (c3.kZ hr (r.s.cut _ _) (Oh r.pl _ _))⟩
  ·cases lM with
   | str _=>exact .inr ⟨_,rfl,q3.1,k _ gA _ F3 H3 q3.2 ((f1.trans f2).trans f3) ((h1.trans h2).trans h3) (c3.pushS (.str .nil) rfl)⟩
  ·exact q3.elim⟩⟩⟩
noncomputable def NQ:ck:=λx y Q=>match x,y with
 | .str z,.str w=>∃ch,z=⟨#[ch]⟩/\Q (.bl (decide (ch∈w.cps.toList)))
 | _,_=>False
end
end L3
namespace L3
open PySem L2 PySem.Spec PyProof.Rows
noncomputable def av(l:List Nat):List D:=nums (l.map λ(n:Nat)=>(n:Int))
theorem fL(l:List Nat):(av l).length=l.length:=by unfold av;rw[lQ,bO]
theorem dN(l:List Nat):av l=l.map λ(n:Nat)=>D.int (n:Int):=by unfold av nums;rw[dG];rfl
theorem EF(l:List Nat):(av l).map D.sh=l.map λ(n:Nat)=>D.int (n:Int):=by unfold av;rw[jc];exact dN l
theorem lU(a b:Nat)(h:D.int (a:Int)=D.int (b:Int)):a=b:=by injection h with h;omega
theorem nD(l:List Nat):(av l).all D.pl=true:=nv _
theorem pU(l:List Nat):(av l).map D.sh=av l:=jc _
theorem nE(a b:List Nat):av a++av b=av (a++b):=by unfold av;rw[pP,jQ]
theorem xt(l:List Nat)(lo hi:Option Int):eJ (av l) lo hi=av (eJ l lo hi):=by
 unfold av
 rw[sM]
 congr 1
 unfold eJ
 rw[bO,LS,LR]
theorem EG{α:Type}(xs:List α)(b:Nat):eJ xs none (some (b:Int))=xs.take b:=by
 have:=ZL xs 0 b
 unfold eJ at this ⊢
 simpa[HT.cJ]using this
theorem OC{α:Type}(xs:List α)(a:Nat):eJ xs (some (a:Int)) none=xs.drop a:=by
 unfold eJ
 rw[HT.Dx]
 show(xs.drop (min a xs.length)).take (xs.length-min a xs.length)=_
 by_cases h:a<=xs.length
 ·rw[Nat.min_eq_left h,yN (by rw[mJ];exact aZ _)]
 ·rw[Nat.min_eq_right (by omega),List.drop_length,LU (by omega)];simp
noncomputable def vl(c:List Nat):Nat:=c.foldl (λa c=>2*a+(c-48)) 0
end L3
namespace L2
open PySem PySem.Spec PyProof.Rows
section
variable{X:Cx}{tg l o e:Expr}{tl to te:TE}{apos bR:Pos}
end
end L2
namespace L3
open PySem L2 PySem.Spec PyProof.Rows
section
variable{X:Cx}{F H:Hp}{tg l e:Expr}{te t tb:aI}{apos bR pos:Pos}
variable{o:Expr}
noncomputable def ki:ck:=λx y Q=>match x,y with
 | .int i,.lst _ xs=>∃ns:List Int,xs=nums ns/\Q (.bl (decide (i∈ns)))
 | _,_=>False
theorem z7:∀{ns:List Int} {ws:List V},S F H (nums ns) ws->ws=ns.map V.int
 | [],_,s=>by cases s;rfl
 | n::ns,_,s=>by
  cases s with
  | int s=>rw[z7 s];rfl
theorem Z6:bL X (compareOp .In) ki :=
 ⟨_,Xd,λ{B F H σ δ ts x y v w Q Qd} c sx sy h k=>by
  unfold ki at h
  split at h
  ·rename_i i o xs
   obtain⟨ns,rfl,q⟩:=h
   obtain⟨p,ws,rfl,e1,s1⟩:=fJ sy c.ext
   have e:=z7 s1
   subst e
   cases sx
   refine⟨p,_,rfl,.inl (bu.of e1),rfl,by simp[jZ],?_⟩
   have ei:oO (.int i) (ns.map V.int)=decide (i∈ns):=by
    unfold oO
    rw[List.any_map,qD,CC,decide_eq_true_iff]
    constructor
    ·rintro⟨x,hx,he⟩
     have:x=i:=by simpa[i4]using he
     rw[<-this];exact hx
    ·intro hx
     exact⟨i,hx,by simp[i4]⟩
   show Q (.bl (if false then _ else oO (.int i) (ns.map V.int))) H
   rw[if_neg (by decide),ei]
   exact k _ _ _ q (aa.refl _) (c.pushS (.bl .nil) rfl)
  ·exact h.elim⟩
end
end L3
namespace L3
open PySem L2 PySem.Spec PyProof.Rows
end L3
namespace L2
open PySem PySem.Spec PyProof.Rows
noncomputable def Tb(ts:List Addr)(H:Hp):Prop:=∀P∈ts,∃ps,H P=some (.cP ps)
structure sU(ts:List Addr)(H:Hp):Prop where
 any:∀b,H b=none\/(∃o xs,H b=some (.bQ o (.lst xs)))\/(b∈ts/\H b=some (.cP #[]))
 tab:∀P∈ts,H P=some (.cP #[])
theorem sU.tb{ts:List Addr}{H:Hp}(h:sU ts H):Tb ts H:=λP hP=>⟨#[],h.tab P hP⟩
noncomputable def Bm(mg:Str->Option Value)(base:Heap):Prop:=∃bm o,mg "__builtins__"=some (.ref bm)/\bm≠builtinsNs/\bm≠mainGlobals/\base.get? bm=some o/\o.cls=.type "module"/\o.dict=some builtinsNs/\o.data=.plain
theorem Z7{P:Program}{w:World}{K:PySem.W.Frag}{mg mb:Str->Option Value}{CX:dS}{k:Nat}{fa a:Addr}{fd:FuncData}{x:Str}{sp:Sp}{bw:Shared}{vs:List Value}{ns:List Int}{ts:List Addr}
  (KX:K.In bw.heap) (z8:bw.heap.Ns mainGlobals mg) (hb:bw.heap.Ns builtinsNs mb) (Z8:∀x:Str,x≠"__name__"->mb x=bootBuiltins x) (Z9:bw.heap.NoLimit) (hg:bw.gens=#[])
  (ht:∀P∈ts,bw.heap.get? P=some (PySem.W.tabObj #[])) (EH:∀P∈ts,isCodeTable bw.heap P) (γ:∀P∈ts,K.lookup P=none)
  (ha:bw.heap.get? a=some { cls:=.type "list",data:=.seq vs.toArray }) (hi:IntsAre vs ns) (hl:ns.length<=sizeLine) (hr:bN k callerA)
  (xu:Bm mg bw.heap) (F:∀base:Heap,K.In base->base.Ns mainGlobals mg->Bm mg base->aO P w K mg base CX k fa fd [x] sp) (ε:∀(s:Shared) (u:Value),BindsTo s fd ⟨[u],[]⟩ [(x,u)])
  (gO:∀H:Hp,sU ts H->bu K H a (ns.map V.int)->sp [.ref a] H (λv _=>v=.bl true) λ_ _ _=>False)
  (EI:∀H e s',CX [] H bw (λ_ _ _=>False) e s'->False) :
  codeAny (model P w) callerA (.call (.ref fa) ⟨[.ref a],[]⟩) (λr s'=>r=.ok (.ret (.bool true))/\OldK bw.heap s'.heap/\s'.os=bw.os/\AllBare s'.gens) bw:=by
 have rv:=M5 hi
 have ζ:=hi.length
 have nat:a ∉ ts:=λz=>by
  have:=ht a z
  rw[ha]at this
  cases this
 have core:∀H:Hp,sU ts H->bu K H a (ns.map V.int)->cn P w H bw.heap->(∀b,H b≠none->b=a\/b∈ts)->(H a≠none->K.lookup a=none) ->
   codeAny (model P w) callerA (.call (.ref fa) ⟨[.ref a],[]⟩) (λr s'=>r=.ok (.ret (.bool true))/\OldK bw.heap s'.heap/\s'.os=bw.os/\AllBare s'.gens) bw:=by
  intro H hO hS aA hA hK
  have EJ:∀{b:Addr} {o:Obj},bw.heap.get? b=some o->H b=none->(jS bw.heap H).get? b=some o:=λe n=>UY e n
  have vO:∀{b:Addr} {o:Obj} {es:Array DictEntry} {ep:Nat},bw.heap.get? b=some o->o.data=.dict es ep->H b=none:=λ{b o es ep} e d=>by
   cases q:H b with
   | none=>rfl
   | some u =>
    rcases hA b (by rw[q];simp)with e' | e'
    ·subst e'
     rw[ha]at e;cases e
     have d':Data.seq vs.toArray _=Data.dict es ep:=d
     cases d'
    ·rw[ht b e']at e;cases e
     have d':Data.fields #[]=Data.dict es ep:=d
     cases d'
  have z9:∀{b:Addr} {m:Str->Option Value},bw.heap.Ns b m->(jS bw.heap H).Ns b m:=λ{b m} ⟨o,es,ep,e,d,r⟩=>⟨o,es,ep,EJ e (vO e d),d,r⟩
  have OD:K.In (jS bw.heap H):=λb o e=>EJ (KX b o e) (by
   cases q:H b with
   | none=>rfl
   | some u =>
    rcases hA b (by rw[q];simp)with e' | e'
    ·subst e'
     rw[hK (by rw[q];simp)]at e;cases e
    ·rw[γ b e']at e;cases e)
  have η:Bm mg (jS bw.heap H):=by
   obtain⟨bm,o,b1,b2,b3,b4,b5,b6,b7⟩:=xu
   refine⟨bm,o,b1,b2,b3,EJ b4 ?_,b5,b6,b7⟩
   cases q:H bm with
   | none=>rfl
   | some u =>
    rcases hA bm (by rw[q];simp)with e' | e'
    ·rw[e',ha]at b4;cases b4
     have d':Data.seq vs.toArray _=Data.plain:=b7
     cases d'
    ·rw[ht bm e']at b4;cases b4
     have d':Data.fields #[]=Data.plain:=b7
     cases d'
  have hM:Mod K mg (jS bw.heap H):=⟨OD,z9 z8,⟨mb,z9 hb,Z8⟩,let⟨mc,h1,h2⟩:=Z9;⟨mc,z9 h1,h2⟩⟩
  have e0:fI P w K mg (jS bw.heap H) callerA [] bw H:=⟨rfl,hM,λb o e=>UZ e,yE (UX _ _),trivial,λb hb=>absurd (show b∈([]:List Addr) from hb) (by simp),aA,.of_eq hg⟩
  refine codeAny_mono ((F _ OD (z9 z8) η).run callerA [] bw H ⟨[.ref a],[]⟩ [.ref a] [.ref a] _ _ hr e0 (ε bw (.ref a)) (.cons rfl .nil) (gO H hO hS)) λr s' h=>?_
  cases r with
  | error e=>exact(EI H e s' h).elim
  | ok fl =>
   cases fl with
   | next=>exact eE h
   | brk=>exact eE h
   | cont=>exact eE h
   | ret u =>
    obtain⟨v,H',os,bare,un,OE,r',q⟩:=h
    have q':v=.bl true:=q
    subst q'
    obtain rfl:u=Ce true:=r'
    have each:∀b o,bw.heap.get? b=some o->asItWas bw.heap s'.heap b o/\∃o',s'.heap.get? b=some o':=λb o e=>by
     cases q:H b with
     | none =>
      have z:=un.keep b o e q (by intro z;exact absurd (show b∈([]:List Addr) from z) (by simp)) (by simp)
      exact⟨.inl z,o,z⟩
     | some u =>
      rcases hO.any b with z | ⟨ob,xs,z⟩ | ⟨iP,z⟩
      ·rw[q]at z;cases z
      ·have z2:=un.fe b ob _ z
       obtain⟨e1,_⟩:=aA b _ z
       obtain⟨e2,_⟩:=OE b _ z2
       rw[e]at e1;cases e1
       exact⟨.inl e2,_,e2⟩
      ·obtain⟨more,z2⟩:=un.eP b _ z
       have e2:=(OE b _ z2).1
       rw[ht b iP]at e;cases e
       exact⟨.inr (.inl ⟨EH b iP,rfl,#[],more,rfl,e2⟩),_,e2⟩
    exact⟨rfl,⟨λb o e=>(each b o e).1,λb o e=>(each b o e).2⟩,os,bare⟩
 have tok:∀(H:Hp) (b:Addr),b∈ts->cW P w H bw.heap b (.cP #[]):=λH b hb=>⟨ht b hb,trivial,λpos cv q=>by cases q⟩
 cases hk:K.lookup a with
 | some o =>
  have e:=KX a o hk
  rw[ha]at e
  cases e
  refine core (λb=>if b∈ts then some (.cP #[])else none) ⟨λb=>?_,λb hb=>if_pos hb⟩ (.inr ⟨_,vs.toArray,_,hk,rfl,rfl,rfl,by rw[dq,ζ];exact hl,by simpa using rv⟩) (λb u z=>?_) (λb z=>?_) λz=>absurd (if_neg nat) z
  ·by_cases hb:b∈ts
   ·exact .inr (.inr ⟨hb,if_pos hb⟩)
   ·exact .inl (if_neg hb)
  ·by_cases hb:b∈ts
   ·have z':=(if_pos hb).symm.trans z
    cases z'
    exact tok _ b hb
   ·have z':=(if_neg hb).symm.trans z
    cases z'
  ·by_cases hb:b∈ts
   ·exact .inr hb
   ·exact absurd (if_neg hb) z
 | none =>
  refine core (λb=>if b=a then some (.bQ { cls:=.type "list",data:=.seq vs.toArray } (.lst (ns.map V.int)))else if b∈ts then some (.cP #[])else none) ⟨λb=>?_,λb hb=>?_⟩ (.inl (.inr ⟨{ cls:=.type "list",data:=.seq vs.toArray },if_pos rfl⟩)) (λb u z=>?_) (λb z=>?_) λ_=>hk
  ·by_cases hb:b=a
   ·exact .inr (.inl ⟨_,_,if_pos hb⟩)
   ·by_cases iP:b∈ts
    ·exact .inr (.inr ⟨iP,(if_neg hb).trans (if_pos iP)⟩)
    ·exact .inl ((if_neg hb).trans (if_neg iP))
  ·have oX:b≠a:=λz=>nat (z ▸ hb)
   exact(if_neg oX).trans (if_pos hb)
  ·by_cases hb:b=a
   ·have z':=(if_pos hb).symm.trans z
    cases z'
    subst hb
    exact⟨ha,by rw[bO];exact hl,vs,_,rv,ha⟩
   ·by_cases iP:b∈ts
    ·have z':=((if_neg hb).trans (if_pos iP)).symm.trans z
     cases z'
     exact tok _ b iP
    ·have z':=((if_neg hb).trans (if_neg iP)).symm.trans z
     cases z'
  ·by_cases hb:b=a
   ·exact .inl hb
   ·by_cases iP:b∈ts
    ·exact .inr iP
    ·exact absurd ((if_neg hb).trans (if_neg iP)) z
theorem θ{l:PySem.W.OpenLaw}{n k:Nat}{q:Program}{loose:List Str}{XP:(Str->Option Value)->Heap->Prop}{YP:World->Heap->Prop}{d:DefRec}{K:Params->PySem.W.Frag}{CX:World->dS}{sp:World->Sp}{x:Str}{ts:List Addr}
  (hn:l.most=some n) (qV:n<=sizeLine) (vS:d.params.defaults=[]) (hr:bN k callerA)
  (hY:∀(w:World) (h:Heap),YP w h->(K w.params).In h/\∀P∈ts,h.get? P=some (PySem.W.tabObj #[]))
  (hC:∀(w:World) (h:Heap),(K w.params).In h->∀P∈ts,(K w.params).lookup P=none/\∃c,PySem.W.CodeHd h c P)
  (F:∀(w:World) (mg:Str->Option Value) (fa:Addr) (h:Heap),(K w.params).In h->h.Ns mainGlobals mg->mg d.name=some (.ref fa) ->
   ∃fd:FuncData,(∀(s:Shared) (u:Value),BindsTo s fd ⟨[u],[]⟩ [(x,u)]) /\
    ∀base:Heap,(K w.params).In base->base.Ns mainGlobals mg->Bm mg base->aO l.prog w (K w.params) mg base (CX w) k fa fd [x] (sp w))
  (gO:∀(w:World) (H:Hp) (a:Addr) (ns:List Int),ns.length<=n->sU ts H->bu (K w.params) H a (ns.map V.int)->sp w [.ref a] H (λv _=>v=.bl true) λ_ _ _=>False)
  (EI:∀(w:World) (H:Hp) (s:Shared) (e:Value) (s':Shared),CX w [] H s (λ_ _ _=>False) e s'->False) :
  PySem.W.WalkO q loose XP YP l.row.toRowW d [] (λf vs=>PySem.call f vs):=by
 refine Att.XB hn vS λw bY bw mg mb fa o pm cd doc a vs ns G Y ho hd cA vT DF hints hlen hg=>?_
 obtain⟨KX,hT⟩:=hY w _ Y
 obtain⟨fd,hb,hF⟩:=F w mg fa _ KX G.T.g vT
 have EH:∀P∈ts,isCodeTable bw.heap P:=λP hP=>by
  obtain⟨_,c,C⟩:=hC w _ KX P hP
  exact(C.tab (hT P hP)).isCodeTable
 have xu:Bm mg bw.heap:=by
  obtain⟨bm,ob,b1,b2,b3,b4,b5,b6⟩:=G.T.bmain
  refine⟨bm,ob,b1,b2,λq=>?_,b3,b4,b5,b6⟩
  obtain⟨o,es,ep,e,hd,_⟩:=G.T.g
  rw[q,e]at b3;cases b3;rw[hd]at b6;cases b6
 exact Z7 KX G.T.g G.T.b G.T.builtins G.T.nolimit hg hT EH (λP hP=>(hC w _ KX P hP).1) DF hints (dP hlen qV) hr xu hF hb (λH hO hS=>gO w H a ns hlen hO hS) λH e s'=>EI w H bw e s'
end L2
namespace L3
open PySem L2 PySem.Spec PyProof.Rows
noncomputable def xv(ts:List Addr)(sp:Sp):Sp:=λvs H Q E=>Tb ts H/\sp vs H Q E
theorem OF{X:Cx}{pins:List (Addr × Obj)}{σ:L2.St}{H:Hp}{s:Shared}{ts:List Addr}(I:Inv X pins σ H s)(h:Tb ts X.jl):Tb ts H:=λP hP=>by
 obtain⟨ps,e⟩:=h P hP
 obtain⟨m,e2⟩:=I.base.eP P ps e
 exact⟨_,e2⟩
noncomputable def Aa(ts:List Addr)(K:PySem.W.Frag):Sp:=λvs H Q _=>∃(a:Addr) (ns:List Int),vs=[.ref a]/\sU ts H/\bu K H a (ns.map V.int)/\ns.length<=63/\∀H',Q (.bl true) H'
theorem ι{ts:List Addr}{K:PySem.W.Frag}(nl:K.all (λp=>Es p.2)=true){vs:List V}{H:Hp}{Q:VK}{E:XK}(h:Aa ts K vs H Q E):xv ts (bE Oi) vs H Q E:=by
 obtain⟨a,ns,rfl,hO,hS,hl,q⟩:=h
 have hz:∃o,H a=some (.bQ o (.lst (ns.map V.int))):=by
  rcases hS with (hS | hS) | ⟨o,its,n,hk,hc,_⟩
  ·rcases hO.any a with z | ⟨o,xs,z⟩ | ⟨_,z⟩
   ·rw[hS]at z;cases z
   ·rw[hS]at z;cases z
   ·rw[hS]at z;cases z
  ·exact hS
  ·have hm:=ZJ hk
   have:=dy.mp nl _ hm
   simp[Es,hc]at this
 obtain⟨o,ho⟩:=hz
 refine⟨hO.tb,H,[.fz (nums ns)],λd=>d=.bl true,aa.refl _,.fz ho (jC ns) .nil,⟨ns,rfl,hl,rfl⟩,λd v F' H' A hd hs hf he h3 r nd fr=>?_⟩
 subst hd
 cases r
 exact q H'
end L3
namespace L2
open PySem PySem.Spec PyProof.Rows
noncomputable def rem(H:Hp)(f c:Addr):Hp:=λb=>if b=f\/b=c then none else H b
noncomputable def lV(H H':Hp)(f c:Addr):Hp:=λb=>if b=f\/b=c then H b else H' b
section
variable{P:Program}{w:World}{H H':Hp}{h:Heap}{a b f c:Addr}{o:HO}{of oc:Obj}
theorem OG:rem H f c f=none:=if_pos (.inl rfl)
theorem Ab:rem H f c c=none:=if_pos (.inr rfl)
theorem fZ(h1:b≠f)(h2:b≠c):rem H f c b=H b:=if_neg (by simp[h1,h2])
theorem sV(e:H b=none):rem H f c b=none:=by unfold rem;split;rfl;exact e
theorem OH(e:rem H f c b=some o):b≠f/\b≠c/\H b=some o:=by
 unfold rem at e
 split at e
 ·cases e
 ·rename_i n
  exact⟨λz=>n (.inl z),λz=>n (.inr z),e⟩
theorem nF(h1:b≠f)(h2:b≠c):lV H H' f c b=H' b:=if_neg (by simp[h1,h2])
theorem OI:lV H H' f c f=H f:=if_pos (.inl rfl)
theorem EK:lV H H' f c c=H c:=if_pos (.inr rfl)
theorem cW.rem{φ:Heap->Prop}(x:cW P w H h a o)(ha:a≠f)(hf:H f=some (.ext φ))(hc:H c=some (.own f)\/H c=none)(EL:¬ ∀h',φ h'->∃q,h'.CodeRec (.ref f) q):cW P w (rem H f c) h a o:=by
 have own:∀b,H b=some (.own a)->L2.rem H f c b=some (.own a):=λb e=>by
  rw[fZ (λz=>by subst z;rw[hf]at e;cases e) (λz=>by subst z;rcases hc with hc | hc<;>(rw[hc]at e;cases e);exact ha rfl)];exact e
 have tup:∀b xs,H b=some (.tup xs)->L2.rem H f c b=some (.tup xs):=λb xs e=>by
  rw[fZ (λz=>by subst z;rw[hf]at e;cases e) (λz=>by subst z;rcases hc with hc | hc<;>(rw[hc]at e;cases e))];exact e
 induction o with
 | lst xs=>exact x
 | tup xs=>exact x
 | dK cS=>exact x
 | dT cS =>
  obtain⟨z,y,xs,r,ob⟩:=x
  exact⟨z,y,xs,Paired.CY r λp q z=>⟨z.1,tup _ _ z.2.1,z.2.2⟩,ob⟩
 | set S n=>exact x
 | ins C dx fs =>
  obtain⟨d,r⟩:=x
  exact⟨own _ d,r⟩
 | own y=>exact x
 | xd fs=>exact x
 | vp lo hi=>exact x
 | bQ ob u ih=>obtain⟨e,q⟩:=x;exact⟨e,ih q⟩
 | cP ps =>
  obtain⟨e,t,cc⟩:=x
  refine⟨e,t,λpos cv q=>?_⟩
  obtain⟨d,φ,e1,e2,e3⟩:=cc pos cv q
  refine⟨d,φ,e1,?_,e3⟩
  rw[fZ (λz=>?_) (λz=>by subst z;rcases hc with hc | hc<;>(rw[hc]at e2;cases e2))]
  ·exact e2
  ·subst z
   rw[hf]at e2;cases e2
   exact EL e3
 | met f y=>exact x
 | ext φ=>obtain⟨p,r,st⟩:=x;exact⟨p,r,λh1 h2 p1 kk=>st h1 h2 p1 λb o hb q=>kk b o (hb.imp id (own b)) q⟩
theorem OJ{φ:Heap->Prop}{fd:FuncData}(p:φ h)(g:∀h',φ h'->h'.get? f=some of)(hd:of.data=.func fd):¬ ∀h',φ h'->∃q,h'.CodeRec (.ref f) q:=λz=>by
 obtain⟨q,k,ok,vs,t,q1,q2,q3,_⟩:=z h p
 cases q1
 rw[g h p]at q2;cases q2
 rw[hd]at q3;cases q3
theorem cn.lam(ok:cn P w H h)(hf:H f=some (.ext (L3.iD of oc c f))):L3.iD of oc c f h:=(ok f _ hf).1
theorem cn.rem{fd:FuncData}(ok:cn P w H h)(hf:H f=some (.ext (L3.iD of oc c f)))(hc:H c=some (.own f))(hd:of.data=.func fd):cn P w (rem H f c) h:=λb o e =>
 let⟨h1,_,h3⟩:=OH e;(ok b o h3).rem h1 hf (.inl hc) (OJ (ok.lam hf) (λ_ p=>p.1) hd)
end
theorem fI.rem{P:Program}{w:World}{K:PySem.W.Frag}{mg:Str->Option Value}{base:Heap}{A:Around}{outer:List Env}{s:Shared}{H:Hp}{f c:Addr}{of oc:Obj}{fd:FuncData}(e:fI P w K mg base A outer s H)
  (hf:H f=some (.ext (L3.iD of oc c f))) (hc:H c=some (.own f)) (hd:of.data=.func fd):fI P w K mg base A outer s (rem H f c) :=
 ⟨e.frames,e.mod,λb o q=>⟨(e.bs b o q).1,sV (e.bs b o q).2⟩,e.gI,e.ff,λb hb=>sV (e.iy b hb),e.aA.rem hf hc hd,e.bare⟩
theorem CE.add{P:Program}{w:World}{K:PySem.W.Frag}{mg:Str->Option Value}{base:Heap}{A:Around}{outer:List Env}{s s':Shared}{H:Hp}{f c:Addr}{of oc:Obj}{Q Q':VK}{u:Value}(e0:fI P w K mg base A outer s H)
  (hf:H f=some (.ext (L3.iD of oc c f))) (hc:H c=some (.own f)) (h:CE outer P w (rem H f c) s Q u s') (hQ:∀v H',Q v H'->H' f=none->H' c=none->Q' v (lV H H' f c)):CE outer P w H s Q' u s':=by
 obtain⟨v,H',os,bare,un,aA,r,q⟩:=h
 obtain⟨gf,gc⟩:=e0.aA.lam hf
 have OK:∀{b o},H b=some o->b ∉ cT outer:=λ{b o} e z=>by rw[e0.iy b z]at e;cases e
 have nf:H' f=none:=un.free f _ gf OG (by simp)
 have nc:H' c=none:=un.free c _ gc Ab (by simp)
 have kf:=un.keep f _ gf OG (OK hf) (by simp)
 have kc:=un.keep c _ gc Ab (OK hc) (by simp)
 refine⟨v,lV H H' f c,os,bare,⟨λb o e n=>un.keep b o e (sV n),λb o e n=>un.slot b o e (sV n),λb o e n x=>?_,un.there,λb xs e=>?_,λb ob xs e=>?_,λb ps e=>?_⟩,λb o e=>?_,r,hQ v H' q nf nc⟩
 ·rw[nF (λz=>by subst z;rw[hf]at n;cases n) (λz=>by subst z;rw[hc]at n;cases n)]
  exact un.free b o e (sV n) x
 ·have n1:b≠f:=λz=>by subst z;rw[hf]at e;cases e
  have n2:b≠c:=λz=>by subst z;rw[hc]at e;cases e
  rw[nF n1 n2]
  exact un.fG b xs (by rw[fZ n1 n2];exact e)
 ·have n1:b≠f:=λz=>by subst z;rw[hf]at e;cases e
  have n2:b≠c:=λz=>by subst z;rw[hc]at e;cases e
  rw[nF n1 n2]
  exact un.fe b ob xs (by rw[fZ n1 n2];exact e)
 ·have n1:b≠f:=λz=>by subst z;rw[hf]at e;cases e
  have n2:b≠c:=λz=>by subst z;rw[hc]at e;cases e
  rw[nF n1 n2]
  exact un.eP b ps (by rw[fZ n1 n2];exact e)
 ·by_cases z:b=f
  ·subst z
   rw[OI,hf]at e;cases e
   refine⟨⟨kf,kc⟩,⟨_,kf⟩,λh1 h2 p kk=>⟨kk b _ (.inl rfl) p.1,kk c _ (.inr ?_) p.2⟩⟩
   rw[EK];exact hc
  ·by_cases z2:b=c
   ·subst z2
    rw[EK,hc]at e;cases e
    exact⟨_,kc⟩
   ·rw[nF z z2]at e
    have up:∀{b' o'},H' b'=some o'->lV H H' f c b'=some o':=λ{b' o'} q=>by
     rw[nF (λz=>by subst z;rw[nf]at q;cases q) (λz=>by subst z;rw[nc]at q;cases q)];exact q
    exact(aA b o e).iZ (λ_ _ _ q=>q) (λ_ q=>up q) (λ_ _ q=>up q) λ_ _ q=>up q
theorem μ{prog:Program}{w:World}{A:Around}{R:Result->Shared->Prop}{s:Shared}{a:Addr}{args:Args}{o:Obj}{fd:FuncData}{body:Expr}{q:Str}(ν:A.depth<recursionLimit)
  (ho:s.heap.get? a=some o)
  (vw:o.data=.func fd) (ξ:fd.scope.isCoroutine=false) (ο:fd.scope.isGenerator=false) (gr:fd.body=.expr body) (cA:s.heap.CodeRec fd.code q)
  (h:wpAny (model prog w) A.in1 (bindArgs fd args) (λbinds bw =>
   wpAny (model prog w) A.in1 (newFunctionEnv fd.scope fd.globals fd.closure binds (q++".<locals>.") (some a) fd.code none fd.builtins)
    (λenv jq=>jq.heap.NoLimit/\codeAny (model prog w) A (.expr body env) R jq) (λe s'=>R (.error e) s') bw) (λe s'=>R (.error e) s') s) :
  codeAny (model prog w) A (.call (.ref a) args) R s:=by
 refine codeAny_of_tree ?_
 show wpAny _ A.in1 (callAny (.ref a) args) _ _ s
 simp only[callAny]
 refine wpAny_bind (wpAny_load ho ?_)
 obtain⟨c,oc,vs,tq,hc,gJ,EM,hq⟩:=cA
 simp only[vw,callFunction,ξ,ο,gr,hc]
 rw[hc]at h
 refine wpAny_bind (m:=field (.ref c) 1) (wpAny_field gJ EM hq (wpAny_bind (wpAny_pure ?_)))
 exact wpAny_bind (wpAny_mono h (λbinds bw Ac=>wpAny_bind (wpAny_mono Ac (λenv jq OL=>wpAny_bind (wpAny_enterFrame OL.1 ν
  (wpAny_pure (And.intro rfl OL.2)))) λ_ _ h'=>h')) λ_ _ h'=>h')
structure OM(p1 p2 x:Str)(sc:Scope):Prop where
 kind:sc.kind=.function
 co:sc.isCoroutine=false
 gen:sc.isGenerator=false
 nd:[p1,p2,x].Nodup
 l1:sc.names.lookup p1=some .local
 l2:sc.names.lookup p2=some .local
 ON:∀y∈sc.names,y.2≠.cell
 only:∀y∈sc.names,y.2=.free->y.1=x
 lx:sc.names.lookup x=some .free
noncomputable def pV(CX:dS)(P:Program)(w:World)(K:PySem.W.Frag)(mg:Str->Option Value)(base:Heap)(N:List Str)(qual:Str)(scope:Scope)(f:Addr)(cd:Value)(cl:List (Str × Addr))(A:Around)(outer:List Env)(s:Shared)(H:Hp)(E:XK):Cx where
 prog:=P
 w:=w
 K:=K
 mg:=mg
 base:=base
 A:=A.deeper (PySem.W.envX qual scope s.heap.objs.size f cd cl)
 N:=N
 bY:=s
 jl:=H
 env:=PySem.W.envX qual scope s.heap.objs.size f cd cl
 outer:=outer
 stack:=PySem.W.envX qual scope s.heap.objs.size f cd cl::outer
 ex:=[]
 calm:=true
 fn:=λ_=>false
 pn:=[]
 xe:=λe s'=>wpAny (model P w) (A.deeper (PySem.W.envX qual scope s.heap.objs.size f cd cl)) (leaving (PySem.W.envX qual scope s.heap.objs.size f cd cl) e) (λ_ oM=>CX outer H s E e oM) (λe' oM=>CX outer H s E e' oM) s'
theorem π{CX:dS}{P:Program}{w:World}{K:PySem.W.Frag}{mg:Str->Option Value}{base:Heap}{p1 p2 x qn q:Str}{params:Arguments}{body:Expr}{scope:Scope}{pm g9:Value}{f c c':Addr}{k:Nat}{A:Around}{outer:List Env}{s:Shared}{H:Hp}{E:XK}
  {u1 u2 uc:Value} {v1 v2 vc:V} {Q:VK} {t:TE} {args:Args} (S:OM p1 p2 x scope) (e0:fI P w K mg base A outer s H) (hr:bN (k+1) A)
  (hf:s.heap.get? f=some (PySem.W.kla_obj "<lambda>" qn params body scope [(x,c)] pm c' g9)) (hc:s.heap.IsCell c (some uc)) (rc:RelV vc uc) (hH:H c=none) (cA:s.heap.CodeRec (.ref c') q)
  (hb:bindArgs (PySem.W.kla_fn "<lambda>" qn params body scope [(x,c)] pm (.ref c') g9) args=pure [(p1,u1),(p2,u2)]) (r1:RelV v1 u1) (r2:RelV v2 u2)
  (ht:PE (pV CX P w K mg base [p1,p2,x] q scope f (.ref c') [(x,c)] A outer s H E) body t) (h:t [some v1,some v2,some vc] H Q) :
  codeAny (model P w) A (.call (.ref f) args) (CR CX outer P w H s Q E) s:=by
 have lim:s.heap.NoLimit:=e0.mod.nolimit.keeps λb o e=>(e0.bs b o e).1
 refine μ hr.depth hf rfl S.co S.gen rfl cA ?_
 rw[hb]
 have ρ:∀y∈[(p1,u1),(p2,u2)],scope.names.lookup y.1=some .local:=λy hy=>by
  simp at hy
  rcases hy with rfl | rfl
  ·exact S.l1
  ·exact S.l2
 refine wpAny_pure (wpAny_newFunctionEnv S.ON ρ (λAc z8 OO=>⟨lim.fresh _ OO,?_⟩) S.kind)
 show codeAny _ _ (.expr body (PySem.W.envX q scope s.heap.objs.size f (.ref c') [(x,c)])) _ _
 have hk:∀b o,s.heap.get? b=some o->Ac.get? b=some o:=λb o e=>OO.extBut b o (cR (br e)) (cm _ e)
 have eM:p1≠p2/\p1≠x/\p2≠x:=by have:=S.nd;simp at this;exact⟨this.1.1,this.1.2,this.2⟩
 have look:∀y d,([(x,c)]:List (Str × Addr)).lookup y=some d->y=x/\d=c:=λy d e=>by
  rw[fc]at e
  split at e
  ·rename_i z;exact⟨beq_iff_eq.mp z,(cM e).symm⟩
  ·cases e
 have I:Inv (pV CX P w K mg base [p1,p2,x] q scope f (.ref c') [(x,c)] A outer s H E) [] [some v1,some v2,some vc] H { s with heap:=Ac,toks:=s.toks+[(p1,u1),(p2,u2)].length }:=by
  refine⟨⟨e0.mod,S.kind,rfl,rfl,aZ _,λy z d h1 h2=>?_,λy hy=>?_,λy d z _=>absurd z (by simp[pV]),λ_=>hr.hd,Around.frames_deeper e0.frames,.inr ⟨rfl,rfl⟩,λb z=>absurd z (by simp[pV]),e0.bs,e0.gI,λb _ _=>by simp[pV],λb z=>absurd z (by simp[pV]),e0.ff,e0.iy⟩,
   rfl,e0.bare,Un.kept hk,⟨_,z8,λi y v h1 h2 h3=>?_⟩,λy d h=>?_,e0.aA.fresh (aZ _),λy d h=>?_,λp hp=>absurd (show p∈([]:List (Addr × Obj)) from hp) (by simp),e0.aA.kept hk,rfl⟩
  ·exact(look y d h1).1.trans (look z d h2).1.symm
  ·have hy:scope.names.lookup y=some .cell\/scope.names.lookup y=some .free:=hy
   rcases hy with hy | hy
   ·exact absurd rfl (S.ON _ (PySem.mem_of_lookup hy))
   ·obtain rfl:y=x:=S.only _ (PySem.mem_of_lookup hy) rfl
    exact⟨c,by show([(y,c)]:List (Str × Addr)).lookup y=_;rw[fc,beq_self_eq_true]⟩
  ·match i,h1,h2 with
   | 0,h1,h2 =>
    cases h1;cases h2
    exact⟨u1,r1,.inl ⟨S.l1,by
     show([(p1,u1),(p2,u2)]:List (Str × Value)).reverse.lookup p1=_
     simp[fc,beq_eq_false_iff_ne.mpr eM.1]⟩⟩
   | 1,h1,h2 =>
    cases h1;cases h2
    exact⟨u2,r2,.inl ⟨S.l2,by
     show([(p1,u1),(p2,u2)]:List (Str × Value)).reverse.lookup p2=_
     simp[fc]⟩⟩
   | 2,h1,h2 =>
    cases h1;cases h2
    exact⟨uc,rc,.inr ⟨.inr S.lx,c,by show([(x,c)]:List (Str × Addr)).lookup x=_;rw[fc,beq_self_eq_true],hc.keeps hk⟩⟩
   | n+3,h1,h2=>cases h2
  ·obtain⟨rfl,rfl⟩:=look y d h
   exact⟨_,hc.keeps hk⟩
  ·obtain⟨rfl,rfl⟩:=look y d h
   exact hH
 refine PySem.W.kla_codeExpr (wpAny_mono (ht [] _ _ H _ I h) (λu s' hs=>?_) λe s' hs=>hs)
 obtain⟨v,H',J,rv,q⟩:=hs
 exact⟨v,H',J.os,J.bare,J.base,J.aA,rv,q⟩
end L2
namespace L3
open PySem L2 PySem.Spec PyProof.Rows
theorem aa.lV{H H':Hp}{f c:Addr}{o1 o2:HO}(h:aa (rem H f c) H')(h1:H f=some o1)(n1:gW o1=true)(h2:H c=some o2)(n2:gW o2=true):aa H (lV H H' f c) where
 get b o e n:=by
  by_cases z:b=f
  ·rw[z,OI,<- z];exact e
  ·by_cases z2:b=c
   ·rw[z2,EK,<- z2];exact e
   ·rw[nF z z2];exact h.get b o (by rw[fZ z z2];exact e) n
 tb b ps e:=by
  have z:b≠f:=λz=>by subst z;rw[h1]at e;cases e;cases n1
  have z2:b≠c:=λz=>by subst z;rw[h2]at e;cases e;cases n2
  rw[nF z z2]
  exact h.tb b ps (by rw[fZ z z2];exact e)
noncomputable abbrev sW:=Int->Int->(Int->Prop)->Prop
structure xw(P:Program)(w:World)(K:PySem.W.Frag)(mg:Str->Option Value)(base:Heap)(n:Nat)(of oc:Obj)(c k:Addr)(sp:sW):Prop where
 fn:∃o1 od fd sl,of=⟨o1,od,.func fd,sl⟩
 run:∀(A:Around) (outer:List Env) (s:Shared) (H:Hp) (f:Addr) (t u:Tok) (i j:Int) (Qd:Int->Prop),bN n A->fI P w K mg base A outer s H->s.heap.get? f=some of->s.heap.get? c=some oc->H c=none->(∃q,s.heap.CodeRec (.ref k) q)->sp i j Qd ->
  codeAny (model P w) A (.call (.ref f) ⟨[.int i t,.int j u],[]⟩) (CR aV outer P w H s (λv H'=>∃r,v=.int r/\Qd r/\aa H H') (λ_ _ _=>False)) s
noncomputable def sX(L:Obj->Obj->Addr->Addr->sW->Prop)(i:Nat)(ta:cq):aI:=λδ Q=>∃of oc c k sp,δ[i]?=some (some (.aX (.lam of oc c k)))/\L of oc c k sp/\ta δ λds ah=>∃a b,ds=[.int a,.int b]/\sp a b λr=>Q (.int r) ah
theorem OP{X:Cx}{n i:Nat}{x:Str}{p pos:Pos}{e1 e2:Expr}{ta:cq}(hN:X.N[i]?=some x)(hv:jT X.env.scope x)(hr:bN n X.A)(ha:PA X [e1,e2] (lA ta))
  (hd:(x==("__debug__":Str))=false:=by decide) (cA:(x==("__classdict__":Str))=false:=by decide) (he:starEach [e1,e2] X.env=(false,eval e1 X.env)::starEach [e2] X.env:=by rfl) (bJ:(backTo pos (starEach [e2] X.env)).any (·.1)=false:=by rfl) :
  PE X (.Call (.Name x p) [e1,e2] [] pos) (lE (sX (xw X.prog X.w X.K X.mg X.base n) i ta)):=by
 intro pins s σ H Q I zz
 obtain⟨B,F,δ,ts,Qd,c,⟨of,oc,cc,k,sp,ed,L,q⟩,kk⟩:=zz
 obtain⟨v,ev,sv⟩:=c.look ed
 obtain⟨f,rfl,lam⟩:∃f,v=.ref f/\gy H f of oc cc k:=by
  cases sv with
  | aX h _=>exact⟨_,rfl,h⟩
 refine wpAny_Call_Name_kw (aK (oE hN hv hd cA pins s σ H (λv' H'=>v'=.ref f/\H'=H) I ⟨_,ev,rfl,rfl⟩) λu s1 zz=>?_)
 obtain⟨v',H',I1,r1,e1,e2⟩:=zz
 subst e1 e2
 obtain rfl:u=.ref f:=r1
 have fnAt:∀{H1:Hp} {s2:Shared},Inv X pins σ H1 s2->gy H1 f of oc cc k->PySem.W.FnAt f s2.heap:=λ{H1 s2} J l=>by
  obtain⟨o1,od,fd,sl,e⟩:=L.fn
  exact⟨o1,od,fd,sl,by rw[<-e];exact(J.aA.lam l.fn).1⟩
 refine PySem.W.callWith_F (fnAt I1 lam) (aK (ha pos pins s1 σ H' (λvs H2=>∃a b ah F',vs=[.int a,.int b]/\(sp a b λr=>Qd (.int r) ah)/\aa F F'/\aa H' H2/\aj B F' H2 σ ah ts) I1
  ⟨B,F,δ,ts,_,c,q,λds ah vs F' H2 ⟨a,b,τ,q2⟩ f1 h1 c1 s1=>?_⟩) λus s2 ⟨vs,H2,I2,r2,a,b,ah,F',υ,q2,f1,h1,c1⟩=>⟨fnAt I2 ((show m8 H' f (.lam of oc cc k) from lam).mono λa o e _ t=>h1.get a o e t),?_⟩) he bJ
 ·subst τ
  refine⟨a,b,ah,F',?_,q2,f1,h1,c1⟩
  cases s1 with
  | int s1=>cases s1 with
   | int s1=>cases s1;rfl
 ·subst υ
  have nG:gy H2 f of oc cc k:=(show m8 H' f (.lam of oc cc k) from lam).mono λa o e _ t=>h1.get a o e t
  obtain⟨o1,od,fd,sl,eof⟩:=L.fn
  have χ:of.data=.func fd:=by rw[eof]
  obtain⟨gf,gc⟩:=I2.aA.lam nG.fn
  obtain⟨ψ,ω,xx⟩:=nG.D2
  obtain⟨u1,u2,t1,t2,rfl⟩:∃(u1 u2:Unit) (t1 t2:Tok),us=[.int a t1,.int b t2]:=by
   cases r2 with
   | cons ra r2=>cases r2 with
    | cons rb r2 =>
     cases r2
     obtain⟨t1,rfl⟩:=ra
     obtain⟨t2,rfl⟩:=rb
     exact⟨(),(),t1,t2,rfl⟩
  refine wpAny_call (codeAny_mono (L.run X.A X.stack s2 (rem H2 f cc) f t1 t2 a b _ hr (I2.vN.rem nG.fn nG.cell χ) gf gc Ab (xx _ (I2.aA k _ ω).1) q2) λr s' hq=>?_)
  cases r with
  | error e=>exact hq.elim
  | ok fl =>
   cases fl with
   | ret u =>
    refine I2.after (CE.add I2.vN nG.fn nG.cell hq (Q':=Q) ?_)
    rintro v H3 ⟨r,rfl,Δ,hs⟩ nf nc
    have sm:=hs.lV nG.fn rfl nG.cell rfl
    exact kk _ ah _ F' _ Δ f1 (h1.trans sm) ((c1.grow sm).pushS (.int .nil) rfl)
   | next=>exact eE hq
   | brk=>exact eE hq
   | cont=>exact eE hq
end L3
namespace L2
open PySem PySem.Spec PyProof.Rows
theorem Θ{p:Pos}{c:Value}(l:List Value)(h:TriplesOk l):TriplesOk (l++[rawInt p.line,rawInt p.col,c]):=by
 fun_induction TriplesOk l with
 | case1=>simp[TriplesOk,rawInt]
 | case2 a b d e f eQ ih=>exact ih h
 | case3=>exact h.elim
theorem Λ{p q:Pos}{c cv:Value}(l:List Value)(h:TriplesOk l)(e:codeAmong q (l++[rawInt p.line,rawInt p.col,c])=some cv):codeAmong q l=some cv\/cv=c:=by
 fun_induction TriplesOk l with
 | case1 =>
  simp only[qB,rawInt,codeAmong]at e
  split at e
  ·exact .inr (cM e).symm
  ·cases e
 | case2 a b d e' f eQ ih =>
  simp only[vg,codeAmong]at e ⊢
  split at e
  ·rename_i z;rw[if_pos z];exact .inl e
  ·rename_i z;rw[if_neg z];exact ih h e
 | case3=>exact h.elim
noncomputable def lW(f:Addr)(o:Obj):Heap->Prop:=λh=>h.get? f=some o
noncomputable def Ξ(P c:Addr)(x:Str)(params:Arguments)(body:Expr)(scope:Scope):TE:=λ_ H Q=>(∃ps,H P=some (.cP ps)) /\
 ∀f k qn pm g9 H',H f=none->H' f=some (.ext (lW f (PySem.W.kla_obj "<lambda>" qn params body scope [(x,c)] pm k g9)))->L3.D1 H' k->k≠f->L3.aa H H'->(∀a ws,H' a=some (.lst ws)->H a=some (.lst ws))->Q (.ref f) H'
theorem OQ{X:Cx}{P c cc:Addr}{x:Str}{params:Arguments}{body:Expr}{scope:Scope}{pos:Pos}(fM:closureFor scope X.env=pure [(x,c)])(Ad:X.env.code=.ref cc)(hK:PySem.W.codeHdIn X.K cc P=true)(xu:Bm X.mg X.base)
  (Φ:defaultsOf params X.env=([],[]):=by rfl):PE X (.Lambda params body scope pos) (Ξ P c x params body scope):=by
 intro pins s σ H Q I zz
 obtain⟨⟨ps,hP⟩,q⟩:=zz
 obtain⟨bm,ob,b1,b2,b3,b4,b5,b6,b7⟩:=xu
 have C:=PySem.W.codeHd_of_K I.cN hK
 obtain⟨oP,Ae,codes⟩:=I.aA P _ hP
 have hg:=I.mod.glob.keeps I.bk
 have OR:∀{b o},X.base.get? b=some o->b≠P:=λ{b o} e z=>by
  have:=(I.bs b o e).2
  rw[z,hP]at this;cases this
 have Ψ:mainGlobals≠P:=by
  obtain⟨o,es,ep,e,_⟩:=I.mod.glob
  exact OR e
 have OS:s.heap.BuiltinsAt X.mg P:=⟨bm,ob,b1,b2,b3,OR b4,I.bk _ _ b4,b5,b6,b7⟩
 refine PySem.W.kla_eval Φ ?_
 have fresh:∀{b:Addr},s.heap.objs.size<=b->H b=none:=λ{b} h=>I.aA.fresh h
 cases sY:codeAmong pos ps.toList with
 | none =>
  refine PySem.W.kla_makeFunction (mg:=X.mg) fM I.ok.glob hg Ad C oP Ae sY Ψ OS λk g9 h' tk hx xy eA Ω OT=>?_
  have EN:P<s.heap.objs.size:=br oP
  have hPk:k≠P:=λz=>by rw[z]at xy;exact absurd EN (kI.mpr xy)
  have pW:s.heap.objs.size<=h'.objs.size:=dP xy (nZ eA)
  have hPf:h'.objs.size≠P:=λz=>by rw[<-z]at EN;exact absurd EN (kI.mpr pW)
  have OU:k≠h'.objs.size:=cR eA
  generalize OV:PySem.W.kla_obj "<lambda>" (X.env.qual++"<lambda>") params body scope [(x,c)] ((X.mg "__name__").getD .none) k g9=obj
  have dM:obj.isFreed=false:=by rw[<-OV];rfl
  have xA:∀b,b≠P->b≠k->b≠h'.objs.size->upd (upd (upd H P (.cP (ps++#[rawInt pos.line,rawInt pos.col,.ref k]))) k (.ext λh=>∃q,h.CodeRec (.ref k) q)) h'.objs.size (.ext (lW h'.objs.size obj)) b=H b:=λb n1 n2 n3=>by
   rw[aP n3,aP n2,aP n1]
  have Af:upd (upd (upd H P (.cP (ps++#[rawInt pos.line,rawInt pos.col,.ref k]))) k (.ext λh=>∃q,h.CodeRec (.ref k) q)) h'.objs.size (.ext (lW h'.objs.size obj)) h'.objs.size=some (.ext (lW h'.objs.size obj)):=bW
  have atK:upd (upd (upd H P (.cP (ps++#[rawInt pos.line,rawInt pos.col,.ref k]))) k (.ext λh=>∃q,h.CodeRec (.ref k) q)) h'.objs.size (.ext (lW h'.objs.size obj)) k=some (.ext λh=>∃q,h.CodeRec (.ref k) q):=by rw[aP OU,bW]
  have Ag:upd (upd (upd H P (.cP (ps++#[rawInt pos.line,rawInt pos.col,.ref k]))) k (.ext λh=>∃q,h.CodeRec (.ref k) q)) h'.objs.size (.ext (lW h'.objs.size obj)) P=some (.cP (ps++#[rawInt pos.line,rawInt pos.col,.ref k])):=by rw[aP hPf.symm,aP hPk.symm,bW]
  generalize hHn:upd (upd (upd H P (.cP (ps++#[rawInt pos.line,rawInt pos.col,.ref k]))) k (.ext λh=>∃q,h.CodeRec (.ref k) q)) h'.objs.size (.ext (lW h'.objs.size obj))=Hn at xA Af atK Ag
  have old:∀{b o},H b=some o->b≠P->Hn b=some o:=λ{b o} e n=>by
   have hb:b<s.heap.objs.size:=I.aA.lt e
   rw[xA b n (λz=>absurd hb (kI.mpr (z ▸ xy))) (λz=>absurd hb (kI.mpr (z ▸ pW)))];exact e
  have kept:∀b o,b≠P->s.heap.get? b=some o->(h'.push obj).get? b=some o:=λb o n e=>cm _ (hx b o n e)
  have un:Un X.fs [] H Hn s.heap (h'.push obj):=by
   refine⟨λb o e n _ _=>kept b o (λz=>by rw[z,hP]at n;cases n) e,λb o e n _ _=>⟨o.slots,kept b o (λz=>by rw[z,hP]at n;cases n) e⟩,λb o e n _=>?_,λb o e _=>?_,λb xs e=>old e (λz=>by rw[z,hP]at e;cases e),λb ob xs e=>old e (λz=>by rw[z,hP]at e;cases e),λb OW e=>?_⟩
   ·have hb:=br e
    rw[xA b (λz=>by rw[z,hP]at n;cases n) (λz=>absurd hb (kI.mpr (z ▸ xy))) (λz=>absurd hb (kI.mpr (z ▸ pW)))];exact n
   ·by_cases z:b=P
    ·rw[z];exact⟨_,cm _ OT⟩
    ·exact⟨o,kept b o z e⟩
   ·by_cases z:b=P
    ·subst z
     rw[hP]at e;cases e
     exact⟨_,Ag⟩
    ·exact⟨#[],by rw[old e z];simp⟩
  have aA:cn X.prog X.w Hn (h'.push obj):=λb o e=>by
   by_cases z1:b=h'.objs.size
   ·subst z1
    rw[Af]at e;cases e
    exact⟨dn _ dM,⟨_,dn _ dM⟩,λh1 h2 p kk=>kk _ _ (.inl rfl) p⟩
   ·by_cases z2:b=k
    ·subst z2
     rw[atK]at e;cases e
     have hr:=Ω.push obj
     refine⟨⟨_,hr⟩,?_,λh1 h2 ⟨q,c1,o1,vs,t,e1,e2,r⟩ kk=>?_⟩
     ·obtain⟨c1,o1,vs,t,e1,e2,_⟩:=hr
      cases e1
      exact⟨o1,e2⟩
     ·cases e1
      exact⟨q,_,o1,vs,t,rfl,kk _ _ (.inl rfl) e2,r⟩
    ·by_cases z3:b=P
     ·subst z3
      rw[Ag]at e;cases e
      refine⟨cm _ OT,by rw[Uy];exact Θ _ Ae,λp' cv e'=>?_⟩
      rw[Uy]at e'
      rcases Λ _ Ae e' with e' | e'
      ·obtain⟨d,φ,e1,e2,e3⟩:=codes p' cv e'
       exact⟨d,φ,e1,old e2 (λz=>by rw[z,hP]at e2;cases e2),e3⟩
      ·exact⟨k,_,e',atK,λh' p=>p⟩
     ·rw[xA b z3 z2 z1]at e
      have nP:∀{b' o'},H b'=some o'->(∀ps,o'≠.cP ps)->b'≠P:=λ{b' o'} e n z=>by rw[z,hP]at e;cases e;exact n _ rfl
      refine(I.aA b o e).iZ (λb' u Ah e'=>kept b' u ?_ e') (λb' e'=>old e' (nP e' (λps z=>by cases z))) (λb' xs e'=>old e' (nP e' (λps z=>by cases z))) λb' φ e'=>old e' (nP e' (λps z=>by cases z))
      rcases Ah with rfl | Ah
      ·exact z3
      ·exact nP Ah (λps z=>by cases z)
  refine⟨.ref h'.objs.size,Hn,I.un un aA,rfl,q _ k _ _ _ _ (fresh pW) (by rw[OV];exact Af) ⟨_,atK,λh p=>p⟩ OU ⟨λb o e n=>old e (λz=>by rw[z,hP]at e;cases e;cases n),λb OW e=>?_⟩ λa ws e=>?_⟩
  ·exact un.eP b OW e
  ·by_cases z1:a=h'.objs.size
   ·subst z1;rw[Af]at e;cases e
   ·by_cases z2:a=k
    ·subst z2;rw[atK]at e;cases e
    ·by_cases z3:a=P
     ·subst z3;rw[Ag]at e;cases e
     ·rw[xA a z3 z2 z1]at e;exact e
 | some cv =>
  obtain⟨k,φ,rfl,hk,EL⟩:=codes pos cv sY
  refine PySem.W.kla_makeFunctionHit (mg:=X.mg) fM I.ok.glob hg Ad C oP Ae sY OS λg9 h' tk hx pW=>?_
  have hf:=fresh pW
  refine⟨.ref h'.objs.size,upd H h'.objs.size (.ext (lW h'.objs.size (PySem.W.kla_obj "<lambda>" (X.env.qual++"<lambda>") params body scope [(x,c)] ((X.mg "__name__").getD .none) k g9))),I.laid (λb u e=>cm _ (hx b u e)) pW ?_,rfl,q _ k (X.env.qual++"<lambda>") ((X.mg "__name__").getD .none) g9 _ hf bW ⟨φ,?_,EL⟩ (dZ hk hf) (L3.aa.of λb o e=>?_) λa ws e=>?_⟩
  ·exact⟨dn _ rfl,⟨_,dn _ rfl⟩,λh1 h2 p kk=>kk _ _ (.inl rfl) p⟩
  ·rw[aP (dZ hk hf)];exact hk
  ·rw[aP (dZ e hf)];exact e
  ·by_cases z:a=h'.objs.size
   ·subst z;rw[bW]at e;cases e
   ·rw[aP z]at e;exact e
end L2
namespace L2
open PySem PySem.Spec PyProof.Rows
structure Ai(K:PySem.W.Frag)(C:Addr)(m:Str)(f:Addr):Prop where
 ga:PySem.W.specialIn K (.ref C) "__getattribute__"=some (some (.builtin "type.__getattribute__"))
 rd:PySem.W.readsIn K C (.type "type")=true
 at_:PySem.W.findCls K (.ref C) (.type "type") m=some (.val (.ref f))
 kp:PySem.W.keepIn K (.ref f)=true
section
variable{X:Cx}{CX:dS}{k:Nat}{f C:Addr}{fd:FuncData}{ps:List Str}{sp:Sp}{E:XK}{x m:Str}{p pos apos:Pos}{e o:Expr}{es:List Expr}{ta:TE}{t:TA}
theorem bR5{pins:List (Addr × Obj)}{σ:St}{H:Hp}{s:Shared}{pl:Sem Bool}{A:Around}{E':Value->Shared->Prop}{Q:Value × List Value->Shared->Prop}(I:Inv X pins σ H s)(M:Ai X.K C m f)(h:∀s',Inv X pins σ H s'->Q (.ref f,[]) s') :
  wpAny (model X.prog X.w) A (getMethod (.ref C) m pl) Q E' s :=
 PySem.W.method_cls I.cN M.ga (PySem.W.cls_value (mc:=.type "type") I.cN M.rd M.at_ rfl (h _ (I.tok _)))
theorem b76{pins:List (Addr × Obj)}{σ:St}{H:Hp}{s:Shared}{pl:Sem Bool}{Q:Value->Shared->Prop}{QA:List V->Hp->Prop}(I:Inv X pins σ H s)(M:Ai X.K C m f)(hg:Gl X x)(hm:X.mg x=some (.ref C))(ha:PA X (e::es) t)(h:t σ H QA)
  (hq:∀us s1 vs H1,Inv X pins σ H1 s1->Vals vs us->QA vs H1->wpAny (model X.prog X.w) X.A (call (.ref f) us) Q X.xe s1)
  (dU:(x==("__debug__":Str))=false:=by decide) (cH:starEach (e::es) X.env=(false,eval e X.env)::starEach es X.env:=by rfl) (bJ:(backTo pos (starEach es X.env)).any (·.1)=false:=by rfl)
  (ht:eval (.Call (.Attribute (.Name x p) m apos) (e::es) [] pos) X.env=(do
   let ov<-eval (.Name x p) X.env
   standAt apos.atName
   let (f,first)<-holding [ov] (getMethod ov m pl)
   callWith pos f first (backTo pos (starEach (e::es) X.env)) (backToKw pos (keywordEach [] X.env))):=by rfl) :
  wpAny (model X.prog X.w) X.A (eval (.Call (.Attribute (.Name x p) m apos) (e::es) [] pos) X.env) Q X.xe s:=by
 refine PySem.W.methodCall_KW (pl:=pl) (zo I hg hm ?_ dU) ht
 refine bR5 I M λs1 I1=>?_
 refine PySem.W.callWith_K (first:=[]) (h₀:=X.base) I.ok.mod.kL M.kp (aK (ha pos pins s1 σ H _ I1 h) λus s2 ⟨vs,H2,I2,r,q2⟩=>⟨I2.cN,?_⟩) cH bJ
 exact hq us s2 vs H2 I2 r q2
noncomputable def cr8(sp:Sp)(E:XK)(c:Addr)(i:Nat)(t:TA):TE:=λσ H Q=>t σ H λvs H1=>∃f of fd v,H1 f=some (.ext (lW f of))/\of.data=.func fd/\σ[i]?=some (some v) /\
 ∀oc u,oc.data=.cell (some u)->RelV v u->H1 c=none->c≠f->sp vs (upd (upd H1 f (.ext (L3.iD of oc c f))) c (.own f)) (λr H2=>H2 f=some (.ext (L3.iD of oc c f))/\H2 c=some (.own f)/\Q r (rem H2 f c)) E
theorem OX{pl:Sem Bool}{y:Str}{c:Addr}{i:Nat}(M:Ai X.K C m f)(F:aO X.prog X.w X.K X.mg X.base aV k f fd ps sp)(hr:bN k X.A)(hb:Binds X.K fd ps [])(hg:Gl X x)(hm:X.mg x=some (.ref C))
  (hN:X.N[i]?=some y) (hy:X.env.scope.names.lookup y=some .cell) (fM:X.env.cells.lookup y=some c) (vA:X.fn y=true) (ha:PA X (e::es) t)
  (dU:(x==("__debug__":Str))=false:=by decide) (cH:starEach (e::es) X.env=(false,eval e X.env)::starEach es X.env:=by rfl) (bJ:(backTo pos (starEach es X.env)).any (·.1)=false:=by rfl)
  (ht:eval (.Call (.Attribute (.Name x p) m apos) (e::es) [] pos) X.env=(do
   let ov<-eval (.Name x p) X.env
   standAt apos.atName
   let (f,first)<-holding [ov] (getMethod ov m pl)
   callWith pos f first (backTo pos (starEach (e::es) X.env)) (backToKw pos (keywordEach [] X.env))):=by rfl) :
  PE X (.Call (.Attribute (.Name x p) m apos) (e::es) [] pos) (cr8 sp E c i t):=by
 intro pins s σ H Q I h
 refine b76 (pl:=pl) I M hg hm ha h (λus s1 vs H1 I1 r ⟨fa,of,fdd,v,hf,hd,hv,hq⟩=>?_) dU cH bJ ht
 obtain⟨ml,_,hl⟩:=I1.loc
 obtain⟨u,rv,lk⟩:=hl i y v hN hv (.inr (.inl hy))
 obtain⟨oc,gc,gJ⟩:∃oc,s1.heap.get? c=some oc/\oc.data=.cell (some u):=by
  rcases lk with⟨hk,_⟩ | ⟨_,c',vB,ic⟩
  ·rw[show X.env.kindOf y=some .cell from hy]at hk;cases hk
  ·rw[fM]at vB;cases vB;exact ic
 have nc:H1 c=none:=I1.gn y c fM
 have nH:c≠fa:=λz=>by rw[z,hf]at nc;cases nc
 have gf:s1.heap.get? fa=some of:=(I1.aA fa _ hf).1
 have kN:=hq oc u gJ rv nc nH
 have OY:=I1.ok.oB y c vA fM
 generalize hH:upd (upd H1 fa (.ext (L3.iD of oc c fa))) c (.own fa)=Hp at kN
 have OZ:Hp c=some (.own fa):=by rw[<-hH,bW]
 have atf:Hp fa=some (.ext (L3.iD of oc c fa)):=by rw[<-hH,aP nH.symm,bW]
 have kj:∀b,b≠fa->b≠c->Hp b=H1 b:=λb n1 n2=>by rw[<-hH,aP n2,aP n1]
 have nfs:c ∉ X.fs:=λhb=>by
  obtain⟨_,o,ho,_⟩:=I1.ok.ff.mem hb
  exact absurd (cG (br ho) OY) (fP _)
 have nst:∀b∈cT X.stack,b≠c:=λb hb z=>by
  rcases bU.mp (I1.vx b hb)with e | hb
  ·exact I1.mT y c fM (z ▸ e)
  ·exact nfs (z ▸ hb)
 have cD6:cn X.prog X.w Hp s1.heap:=λb ob q=>by
  by_cases z1:b=c
  ·subst z1;rw[OZ]at q;cases q;exact⟨_,gc⟩
  ·by_cases z2:b=fa
   ·subst z2;rw[atf]at q;cases q
    exact⟨⟨gf,gc⟩,⟨_,gf⟩,λh1 h2 p kk=>⟨kk _ _ (.inl rfl) p.1,kk _ _ (.inr OZ) p.2⟩⟩
   ·rw[kj b z2 z1]at q
    have x1:=(I1.aA b ob q).rem (f:=fa) (c:=c) z2 hf (.inr nc) (OJ gf (λ_ p=>p) hd)
    have up:∀{b' o'},rem H1 fa c b'=some o'->Hp b'=some o':=λ{b' o'} q=>by
     obtain⟨n1,n2,q'⟩:=OH q
     rw[kj b' n1 n2];exact q'
    exact x1.iZ (λ_ _ _ q=>q) (λ_ q=>up q) (λ_ _ q=>up q) λ_ _ q=>up q
 have e0:fI X.prog X.w X.K X.mg X.base X.A X.stack s1 Hp:=by
  have e1:=I1.vN
  refine⟨e1.frames,e1.mod,λb ob q=>⟨(e1.bs b ob q).1,?_⟩,e1.gI,e1.ff,λb hb=>?_,cD6,e1.bare⟩
  ·have hb0:=(I1.ok.bs b ob q).1
   rw[kj b (λz=>by have:=(e1.bs b ob q).2;rw[z,hf]at this;cases this) (λz=>absurd (cG (br hb0) (z ▸ OY)) (fP _))]
   exact(e1.bs b ob q).2
  ·have nb:=e1.iy b hb
   rw[kj b (λz=>by rw[z,hf]at nb;cases nb) (nst b hb)];exact nb
 have hlen:us.length=ps.length:=by rw[<-r.length];exact F.len _ _ _ _ kN
 refine wpAny_call (codeAny_mono (F.run X.A X.stack s1 Hp ⟨us,[]⟩ us vs _ E hr e0 (by have:=hb s1 us I1.cN (by rw[kC];exact hlen);rwa [kC]at this) r kN) λrr s' hz=>?_)
 cases rr with
 | error e=>exact hz.elim
 | ok fl =>
  cases fl with
  | next=>exact eE hz
  | brk=>exact eE hz
  | cont=>exact eE hz
  | ret u' =>
   obtain⟨v',H2,os,bare,un,O0,rv',q1,q2,q3⟩:=hz
   obtain⟨_,O1⟩:=O0.lam q1
   refine I1.after ⟨v',rem H2 fa c,os,bare,⟨λb ob g n hb hx=>?_,λb ob g n hb hx=>?_,λb ob g n hx=>?_,un.there,λb xs g=>?_,λb ob xs g=>?_,λb ps g=>?_⟩,O0.rem q1 q2 hd,rv',q3⟩
   ·by_cases z:b=c
    ·rw[z,gc]at g;cases g;rw[z];exact O1
    ·exact un.keep b ob g (by rw[kj b (λz=>by rw[z,hf]at n;cases n) z];exact n) hb hx
   ·by_cases z:b=c
    ·rw[z,gc]at g;cases g;rw[z];exact⟨_,O1⟩
    ·exact un.slot b ob g (by rw[kj b (λz=>by rw[z,hf]at n;cases n) z];exact n) hb hx
   ·by_cases z:b=c
    ·rw[z];exact Ab
    ·exact sV (un.free b ob g (by rw[kj b (λz=>by rw[z,hf]at n;cases n) z];exact n) hx)
   ·have n1:b≠fa:=λz=>by rw[z,hf]at g;cases g
    have n2:b≠c:=λz=>by rw[z,nc]at g;cases g
    rw[fZ n1 n2]
    exact un.fG b xs (by rw[kj b n1 n2];exact g)
   ·have n1:b≠fa:=λz=>by rw[z,hf]at g;cases g
    have n2:b≠c:=λz=>by rw[z,nc]at g;cases g
    rw[fZ n1 n2]
    exact un.fe b ob xs (by rw[kj b n1 n2];exact g)
   ·have n1:b≠fa:=λz=>by rw[z,hf]at g;cases g
    have n2:b≠c:=λz=>by rw[z,nc]at g;cases g
    rw[fZ n1 n2]
    exact un.eP b ps (by rw[kj b n1 n2];exact g)
end
end L2
namespace L3
open PySem L2 PySem.Spec PyProof.Rows
theorem EO{ts:List Addr}{H H':Hp}(h:Tb ts H)(s:aa H H'):Tb ts H':=λP hP=>by
 obtain⟨ps,e⟩:=h P hP
 obtain⟨m,e2⟩:=s.tb P ps e
 exact⟨_,e2⟩
theorem O2{P:Program}{w:World}{K:PySem.W.Frag}{mg:Str->Option Value}{base:Heap}{n:Nat}{p1 p2 x qn:Str}{params:Arguments}{body:Expr}{scope:Scope}{pm g9:Value}{oc:Obj}{c k:Addr}{m:Int}{tm:Tok}{sp:sW}(S:OM p1 p2 x scope)
  (gJ:oc.data=.cell (some (.int m tm))) (hb:∀u1 u2:Value,bindArgs (PySem.W.kla_fn "<lambda>" qn params body scope [(x,c)] pm (.ref k) g9) ⟨[u1,u2],[]⟩=pure [(p1,u1),(p2,u2)])
  (gr:∀(q:Str) (f:Addr) (A:Around) (outer:List Env) (s:Shared) (H:Hp) (E:XK),bN n (A.deeper (PySem.W.envX q scope s.heap.objs.size f (.ref k) [(x,c)])) ->
   ∃t:aI,PE (pV aV P w K mg base [p1,p2,x] q scope f (.ref k) [(x,c)] A outer s H E).eZ body (lE t)/\∀i j Qd,sp i j Qd->t [some (.int i),some (.int j),some (.int m)] λd _=>∃r,d=.int r/\Qd r) :
  xw P w K mg base (n+1) (PySem.W.kla_obj "<lambda>" qn params body scope [(x,c)] pm k g9) oc c k sp where
 fn:=⟨_,_,_,_,rfl⟩
 run A outer s H f t u i j Qd hr e0 gf gc hH cA h:=by
  obtain⟨q,cA⟩:=cA
  obtain⟨tt,ht,hq⟩:=gr q f A outer s H (λ_ _ _=>False) (hr.deeper _)
  refine π (v1:=.int i) (v2:=.int j) (vc:=.int m) (E:=λ_ _ _=>False) S e0 hr gf ⟨oc,gc,gJ⟩ ⟨tm,rfl⟩ hH cA (hb _ _) ⟨t,rfl⟩ ⟨u,rfl⟩ ht.eZ ?_
  refine⟨⟨H,H⟩,H,_,[],_,?_,hq i j Qd h,λd ah v F' H' hd f1 h1 c1=>?_⟩
  ·exact aj.start (ds:=[.int i,.int j,.int m]) (vs:=[.int i,.int j,.int m]) (aa.refl H) (.int (.int (.int .nil))) 0
  ·obtain⟨r,rfl,hd⟩:=hd
   have s1:=c1.top
   cases s1
   exact⟨r,rfl,hd,h1⟩
section
variable{X:Cx}{CX:dS}{n:Nat}{f:Addr}{fd:FuncData}{ps:List Str}{sp:bC}{E:XK}{x:Str}{p pos:Pos}{e:Expr}{es:List Expr}{t:cq}{tl:List Addr}
theorem cb8(hT:Tb tl X.jl)(F:aO X.prog X.w X.K X.mg X.base CX n f fd ps (xv tl (bE sp)))(hr:bN n X.A)(hg:Gl X x)(hm:X.mg x=some (.ref f))(hk:PySem.W.keepIn X.K (.ref f)=true)(hb:Binds X.K fd ps [])(hx:jX CX X E)
  (ha:PA X (e::es) (lA t)) (dU:(x==("__debug__":Str))=false:=by decide) (he:starEach (e::es) X.env=(false,eval e X.env)::starEach es X.env:=by rfl) (bJ:(backTo pos (starEach es X.env)).any (·.1)=false:=by rfl) :
  PE X (.Call (.Name x p) (e::es) [] pos) (lE (pd sp t)):=by
 intro pins s σ H Q I zz
 obtain⟨B,F',δ,ts,Qd,c,q,k⟩:=zz
 have tb:=OF I hT
 refine oK F hr hg hm hk hb .nil hx ha dU he bJ pins s σ H Q I ⟨B,F',δ,ts,_,c,q,λds ao vs F1 H1 q1 f1 h1 c1 s1=>?_⟩
 refine⟨EO tb h1,?_⟩
 rw[kC]
 exact zO c1 s1 q1 λd v F' H' hd hf hs c'=>k d ao v F' H' hd (f1.trans hf) (h1.trans hs) c'
end
section
variable{P:Program}{w:World}{K:PySem.W.Frag}{mg:Str->Option Value}{base:Heap}
theorem O3{x qual:Str}{st:Stmt}{f:Addr}{fd:FuncData}{N ps:List Str}{k:Nat}{sp:bC}{tl:List Addr}(F:bx K x qual st f fd)(S:bA N ps (ay st))(len:∀ds Q,sp ds Q->ds.length=ps.length)
  (gr:∀(aH:Value) (A:Around) (outer:List Env) (s:Shared) (H:Hp) (E:XK),Tb tl H->bN k (A.deeper (envOfC qual (ay st) s.heap.objs.size f aH)) ->
   ∃t:cC,PSs (gM aV P w K mg base N qual (ay st) f aH A outer s H E).eZ (bf st) (lS (gM aV P w K mg base N qual (ay st) f aH A outer s H E).eZ t)/\∀ds Q,sp ds Q->t { nx:=λ_=>Q .ak,rt:=Q } (jz N ds)):aO P w K mg base aV (k+1) f fd ps (xv tl (bE sp)):=by
 refine F.ok S (λvs H Q E ⟨_,F,ds,Qd,e,r,h,_⟩=>by rw[<-r.length];exact len ds Qd h) λaH A outer s H vs Q E hr zz=>?_
 obtain⟨tb,F,ds,Qd,e,r,h,k⟩:=zz
 obtain⟨t,ht,hq⟩:=gr aH A outer s H E tb hr
 have fin:∀d v ah ax F' H',Qd d->aj ⟨H,F⟩ F' H' ax ah [(d,v)]->Q v H':=λd v ah ax F' H' hd c=>by
  obtain⟨A,C,r',s',nd,fr⟩:=c.own
  exact k d v F' H' A hd c.b1 c.b2 c.ext c.b3 r' (fi.mp nd).1 λa ha=>fr a (e7 _ ha)
 have e1:L2.start N vs=vs.map some++aT (N.length-ds.length) none:=by unfold L2.start;rw[r.length]
 refine⟨_,ht,⟨H,F⟩,F,jz N ds,_,?_,hq ds Qd h,λah ax F' H' hd c=>fin .ak .ak ah ax F' H' hd (c.pushS (.ak .nil) rfl),fin,λ_ _ _ _ z=>z.elim,λ_ _ _ _ z=>z.elim,XL.none (λ_ _ z=>z) λ_ _ z=>z⟩
 rw[e1]
 exact aj.start e r _
theorem O4{x qual:Str}{st:Stmt}{f cc:Addr}{fd:FuncData}{N ps:List Str}{k:Nat}{sp:Sp}(F:bx K x qual st f fd)(Ad:fd.code=.ref cc)(S:bA N ps (ay st))(len:∀vs H Q E,sp vs H Q E->vs.length=ps.length)
  (gr:∀(A:Around) (outer:List Env) (s:Shared) (H:Hp) (vs:List V) (Q:VK) (E:XK),bN k (A.deeper (envOfC qual (ay st) s.heap.objs.size f (.ref cc)))->sp vs H Q E ->
   ∃t,PSs (gM aV P w K mg base N qual (ay st) f (.ref cc) A outer s H E).eZ (bf st) t/\t { nx:=λ_ H'=>Q .ak H',rt:=Q } (L2.start N vs) H):aO P w K mg base aV (k+1) f fd ps sp:=by
 obtain⟨oc,od,kV,doc,pm,an,aH,ct,jY,rfl,lk,cA⟩:=F.ex
 obtain rfl:aH=.ref cc:=Ad
 refine Du lk cA S len λA outer s H vs Q E hr gO=>?_
 obtain⟨t,h,q⟩:=gr A outer s H vs Q E hr gO
 exact⟨t,h.eZ,q⟩
end
end L3
namespace L3
open PySem L2 PySem.Spec PyProof.Rows
theorem bB0{ns:List Str}{xs:List D}{ws:List V}{F H:Hp}{f:Str}{d:D}(r:R F H xs ws [])(h:(ns.zip xs).lookup f=some d):∃w,(ns.zip ws).lookup f=some w/\R F H [d] [w] []:=by
 generalize e:([]:List Addr)=A at r
 induction ns generalizing xs ws A with
 | nil=>simp at h
 | cons n ns ih =>
  cases xs with
  | nil=>simp at h
  | cons x xs =>
   obtain⟨v,cj,A1,A2,rfl,rfl,h1,h2⟩:=R.cL r
   obtain⟨rfl,rfl⟩:=Ct.mp e.symm
   rw[Uz]at h ⊢
   by_cases z:f=n
   ·subst z
    rw[fc,beq_self_eq_true]at h
    cases h
    refine⟨v,?_,h1⟩
    rw[fc,beq_self_eq_true]
   ·have z':(f==n)=false:=beq_eq_false_iff_ne.mpr z
    rw[fc,z']at h
    obtain⟨w,e1,e2⟩:=ih h [] rfl h2
    refine⟨w,?_,e2⟩
    rw[fc,z']
    exact e1
theorem O5{ns:List Str}{ws:List V}{f:Str}(h:f ∉ ns):(ns.zip ws).lookup f=none:=by
 induction ns generalizing ws with
 | nil=>simp
 | cons n ns ih =>
  cases ws with
  | nil=>simp
  | cons w ws =>
   rw[Uz,fc]
   have hn:(f==n)=false:=beq_eq_false_iff_ne.mpr λz=>h (by rw[z];simp)
   simp only[hn]
   exact ih λz=>h (by simp[z])
theorem ER{F H:Hp}{C:Addr}{ns:List Str}{xs:List D}{v:V}(s:S F H [.obj C ns xs] [v]):∃p dx ws,v=.ref p/\H p=some (.ins C dx (ns.zip ws))/\ns.length=ws.length/\R F H xs ws []:=by
 cases s with
 | obj h l r _=>exact⟨_,_,_,rfl,h,l,r⟩
section
variable{X:Cx}{e o:Expr}{es:List Expr}{f m x:Str}{pos p apos:Pos}{t to:aI}{ta:cq}{n:Nat}
noncomputable def pX(K:PySem.W.Frag)(t:aI)(f:Str):aI:=λδ Q=>t δ λd ah=>∃C ns xs v,d=.obj C ns xs/\et K C/\cB K C f/\(ns.zip xs).lookup f=some v/\Q v ah
theorem cw0(he:PE X e (lB t))(hb:attributeBase e f X.env (eval e X.env)=eval e X.env:=by rfl):PE X (.Attribute e f pos) (lB (pX X.K t f)) :=
 cY (zD he hb) λσ H Q ⟨B,F,δ,ts,Qd,c,q,k⟩=>⟨B,F,δ,ts,_,c,q,λd ah v F' H' ⟨C,ns,xs,w,ed,hc,hn,hl,hq⟩ f1 h1 c1 s1=>by
  subst ed
  obtain⟨p,dx,ws,rfl,hp,_,r⟩:=ER s1
  obtain⟨u,hu,ru⟩:=bB0 r hl
  exact⟨p,C,dx,_,u,rfl,hp,hc,hn,hu,k w ah u F' H' hq f1 h1 c1 ru.s⟩⟩
structure sZ(P:Program)(w:World)(K:PySem.W.Frag)(mg:Str->Option Value)(base:Heap)(n:Nat)(m:Str)(C:Addr)(sp:bC):Prop where
 cls:et K C
 ex:∃f fd ps,Meth K C m f/\aO P w K mg base aV n f fd ps (bE sp)/\Binds K fd ps []
noncomputable def pY(MO:Addr->bC->Prop)(m:Str)(to:aI)(ta:cq):aI:=λδ Q=>to δ λd ao=>∃C ns xs sp,d=.obj C ns xs/\MO C sp/\m ∉ ns/\ta ao λds aM=>sp ((D.obj C ns xs::ds).map D.sh) λr=>((D.obj C ns xs::ds).all D.pl||r.fr)=true/\Q r aM
theorem co5{pl:Sem Bool}(ho:PE X o (lB to))(hr:bN n X.A)(ha:PA X (e::es) (lA ta))
  (cH:starEach (e::es) X.env=(false,eval e X.env)::starEach es X.env:=by rfl) (bJ:(backTo pos (starEach es X.env)).any (·.1)=false:=by rfl)
  (ht:eval (.Call (.Attribute o m apos) (e::es) [] pos) X.env=(do
   let ov<-eval o X.env
   standAt apos.atName
   let (f,first)<-holding [ov] (getMethod ov m pl)
   callWith pos f first (backTo pos (starEach (e::es) X.env)) (backToKw pos (keywordEach [] X.env))):=by rfl) :
  PE X (.Call (.Attribute o m apos) (e::es) [] pos) (lE (pY (sZ X.prog X.w X.K X.mg X.base n m) m to ta)):=by
 intro pins s σ H Q I zz
 obtain⟨B,F,δ,ts,Qd,c,q,k⟩:=zz
 refine PySem.W.methodCall_KW (pl:=pl) (aK (ho pins s σ H (λx H1=>∃d ao F1,S F1 H1 [d] [x]/\aj B F1 H1 σ ao ts/\aa F F1/\aa H H1/\∃C ns xs sp,d=.obj C ns xs/\sZ X.prog X.w X.K X.mg X.base n m C sp/\m ∉ ns/\ta ao λds aM=>sp ((D.obj C ns xs::ds).map D.sh) λr=>((D.obj C ns xs::ds).all D.pl||r.fr)=true/\Qd r aM) I
  ⟨B,F,δ,ts,_,c,q,λd ao v F1 H1 hq f1 h1 c1 s1=>⟨d,ao,F1,s1,c1,f1,h1,hq⟩⟩) λu s1 ⟨x,H1,I1,rx,d,ao,F1,sd,c1,f1,h1,C,ns,xs,sp,ed,M,hm,hq⟩=>?_) ht
 subst ed
 obtain⟨a,dx,ws,rfl,ea,hl,r0⟩:=ER sd
 obtain rfl:u=eD a:=rx
 obtain⟨f,fd,ps,xB,FO,hb⟩:=M.ex
 refine Ds I1 ea M.cls xB (O5 hm) ?_
 refine PySem.W.callWith_K (first:=[.ref a]) (h₀:=X.base) I.ok.mod.kL xB.kp (aK (ha pos pins s1 σ H1 (λvs H2=>∃ds aM F2,S F2 H2 ds vs/\aj B F2 H2 σ aM ts/\aa F1 F2/\aa H1 H2/\sp ((D.obj C ns xs::ds).map D.sh) λr=>((D.obj C ns xs::ds).all D.pl||r.fr)=true/\Qd r aM) I1
  ⟨B,F1,ao,ts,_,c1,hq,λds aM vs F2 H2 hq f2 h2 c2 s2=>⟨ds,aM,F2,s2,c2,f2,h2,hq⟩⟩) λus s2 ⟨vs,H2,I2,r,ds,aM,F2,ES,c2,f2,h2,gO⟩=>⟨I2.cN,?_⟩) cH bJ
 refine zE (us:=.ref a::us) (vs:=.ref a::vs) (eG:=[]) FO hr hb .nil bj I2 (.cons rfl r) ?_
 rw[kC]
 exact zO c2 (.obj (h2 _ _ ea) hl (r0.shared f2 h2) ES) gO λd v F' H' hd hf hs c'=>k d aM v F' H' hd (f1.trans (f2.trans hf)) (h1.trans (h2.trans hs)) c'
end
structure dg(x:Addr)(H H':Hp):Prop where
 get:∀b o,b≠x->H b=some o->gW o=true->H' b=some o
 tb:∀b ps,H b=some (.cP ps)->∃more,H' b=some (.cP (ps++more))
theorem dg.trans{x:Addr}{H H1 H2:Hp}(a:dg x H H1)(b:dg x H1 H2):dg x H H2 :=
 ⟨λc o n h t=>b.get c o n (a.get c o n h t) t,λc ps h=>by
  obtain⟨m1,e1⟩:=a.tb c ps h
  obtain⟨m2,e2⟩:=b.tb c _ e1
  exact⟨m1++m2,by rw[e2,u4]⟩⟩
theorem aa.x{x:Addr}{H H':Hp}(h:aa H H'):dg x H H':=⟨λb o _ e n=>h.get b o e n,h.tb⟩
theorem dg.upd{x C dx:Addr}{H:Hp}{o o':HO}(h:H x=some o)(n:gW o=true):dg x H (upd H x o') :=
 ⟨λb o z e _=>by rw[aP z];exact e,λb ps e=>⟨#[],by rw[aP (λz=>by rw[z,h]at e;cases e;cases n),e];simp⟩⟩
noncomputable def ET(tl:List Addr)(C:Addr)(s8:List D->List Str->List D->Prop):Sp:=λvs H Q _=>∃x dx cj ds ns xs,vs=.ref x::cj/\Tb tl H/\H x=some (.ins C dx [])/\R H H ds cj []/\s8 ds ns xs /\
 ∀H' ws A,dg x H H'->H' x=some (.ins C dx (ns.zip ws))->ns.length=ws.length->R (λ_=>none) H' xs ws A->A.Nodup->(∀a∈A,H a=none)->Q .ak H'
noncomputable def s9(C:Addr)(s8:List D->List Str->List D->Prop)(ta:cq):aI:=λδ Q=>ta δ λds ah=>∃ns xs,s8 (ds.map D.sh) ns xs/\Q (.obj C ns (xs.map D.sh)) ah
theorem aj.made{B:Bs}{F H H':Hp}{σ:L2.St}{δ:Dl}{ts:List (D × V)}{C dx x:Addr}{ns:List Str}{xs:List D}{ws:List V}{A:List Addr}(c:aj B F H σ δ ts)(hs:aa H H')(hx:H' x=some (.ins C dx (ns.zip ws)))(hl:ns.length=ws.length)
  (r:R (λ_=>none) H' xs ws A) (fr:∀a∈A,H a=none):aa F (L3.bQ F H' A)/\aj B (L3.bQ F H' A) H' σ δ ((.obj C ns (xs.map D.sh),.ref x)::ts):=by
 have c1:=c.grow hs
 have hF:∀a∈A,F a=none:=λa ha=>c.ext.free (fr a ha)
 have r1:R F H' xs ws A:=r.keep (aa.of λb o e=>by cases e) (fV.same (aa.refl _)) gY.nil hF (by simp)
 have r2:=r1.bQ c1.ext A (λ_ h=>h)
 have fs:aa F (L3.bQ F H' A):=j7 c1.ext
 obtain⟨A',C',r',s',nd,Aj⟩:=c.own
 have out:∀a,(∃ws,H a=some (.lst ws))/\F a=none->L3.bQ F H' A a=none:=λa zz=>by
  obtain⟨⟨ws,h⟩,hf⟩:=zz
  rw[zK (λz=>by rw[fr a z]at h;cases h)];exact hf
 have g1:=r'.grow fs hs λa ha=>out a (r'.lists a ha)
 have g2:=s'.keep fs (fV.same hs) gY.nil (λa ha=>out a (s'.lists a ha)) (by simp)
 refine⟨fs,NN c1.ext,c1.b1,c1.b2.trans fs,λa ws h=>?_,A',C',?_,g2,nd,Aj⟩
 ·by_cases z:a∈A
  ·exact .inr (c.b1.free (fr a z))
  ·rw[zK z]at h;exact c.b3 a ws h
 ·exact R.obj hx hl r2 g1
section
variable{X:Cx}{CX:dS}{n:Nat}{f C:Addr}{fd:FuncData}{ps:List Str}{s8:List D->List Str->List D->Prop}{E:XK}{x:Str}{p pos:Pos}{e:Expr}{es:List Expr}{t:cq}{tl:List Addr}
theorem O6(hT:Tb tl X.jl)(M:Mk X.K C f)(F:aO X.prog X.w X.K X.mg X.base CX n f fd ps (ET tl C s8))(hr:bN (n+1) X.A)(hg:Gl X x)(hm:X.mg x=some (.ref C))(hb:Binds X.K fd ps [])(hx:jX CX X E)
  (ha:PA X (e::es) (lA t)) (dU:(x==("__debug__":Str))=false:=by decide) (he:starEach (e::es) X.env=(false,eval e X.env)::starEach es X.env:=by rfl) (bJ:(backTo pos (starEach es X.env)).any (·.1)=false:=by rfl) :
  PE X (.Call (.Name x p) (e::es) [] pos) (lE (s9 C s8 t)):=by
 intro pins s σ H Q I zz
 obtain⟨B,F',δ,ts,Qd,c,q,k⟩:=zz
 have tb:=OF I hT
 refine WM M F hr hg hm hb .nil hx ha dU he bJ pins s σ H Q I ⟨B,F',δ,ts,_,c,q,λds ao vs F1 H1 q1 f1 h1 c1 s1=>?_⟩
 intro x dx eM fq oX
 obtain⟨ns,xs,hI,hq⟩:=q1
 have sm:aa H1 (upd (upd H1 dx (.own x)) x (.ins C dx [])):=.of λb o e=>by rw[aP (dZ e eM),aP (dZ e fq)];exact e
 refine⟨x,dx,vs,ds.map D.sh,ns,xs,by rw[kC],EO (EO tb h1) sm,bW,(s1.frozen c1.ext).shared sm sm,hI,λH' ws A O7 cX hl r nd fr=>⟨rfl,?_⟩⟩
 have s2:aa H1 H':=⟨λb o e n=>O7.get b o (dZ e eM) (sm.get b o e n) n,λb ps e=>by
  obtain⟨m1,e1⟩:=sm.tb b ps e
  obtain⟨m2,e2⟩:=O7.tb b _ e1
  exact⟨m1++m2,by rw[e2,u4]⟩⟩
 obtain⟨fs,c2⟩:=c1.made s2 cX hl r λa ha=>sm.free (fr a ha)
 exact k _ ao _ _ H' hq (f1.trans fs) (h1.trans s2) c2
end
end L3
namespace Mf
open PySem L2 L3
noncomputable def gm(m:Bool × Nat)(a b:Nat):Nat:=if m.1 then md (cl a b) m.2 else a*b%m.2
noncomputable def ae(m:Bool × Nat):Nat:=if m.1 then 2 ^ (bl m.2-1)else m.2
noncomputable def Ak(g:Nat->Nat->Nat)(a:Nat):Nat->Nat->List Int->Option (List Int)
 | 0,_,_=>none
 | f+1,p,acc=>if p=1 then some acc else if p<64 then Ak g a f (g p a) (acc++[(p:Int)])else none
noncomputable def EU(g:Nat->Nat->Nat)(a:Nat):Option (List Int):=Ak g a 64 (g 1 a) [1]
noncomputable def Al(g:Nat->Nat->Nat)(many:Nat):Nat->Nat->List Int->Option (List Int)
 | 0,_,_=>none
 | f+1,st,l=>if l.length+1<many then(match EU g (st+1)with | some l'=>Al g many f (st+1) l' | none=>none)else some l
noncomputable def xC(g:Nat->Nat->Nat)(many:Nat):Option (List Int):=match EU g 1 with | some l=>Al g many 62 1 l | none=>none
noncomputable def xD(g:Nat->Nat->Nat):sW:=λi j Q=>∃a b:Nat,i=a/\j=b/\a<64/\b<64/\Q (g a b:Nat)
noncomputable def gb:List Nat:=[7,11,13,19,25,31,37,41,47,55,59,61,67,73,87,91,97,103,109,115,117]
noncomputable def lX:List Nat:=[2,3,5,7,11,13,17,19,23,29,31,37,41,43,47,53,59,61]
noncomputable def aF:List (Bool × Nat):=gb.map (λn=>(true,n))++lX.map λn=>(false,n)
noncomputable def lY(l:List Int):Nat->List Int
 | 0=>aT (l.length+1) 0
 | i+1=>(lY l i).set (l.getD i 0).toNat (i:Int)
noncomputable def dD(l:List Int):List Int:=lY l l.length
theorem xE(l:List Int):∀i,(lY l i).length=l.length+1
 | 0=>by simp[lY]
 | i+1=>by simp[lY,xE l i]
noncomputable def nJ(l g:List Int)(a:Nat):List Int:=if a=0 then aT (l.length+1) 0 else 0::(aR l.length).map λ(b:Nat)=>l.getD ((g.getD a 0+g.getD (b+1) 0)%(l.length:Int)).toNat 0
noncomputable def tf(l g:List Int)(n:Nat):List D:=(aR n).map λa=>D.lst true (nums (nJ l g a))
noncomputable def nK(l g:List Int):List D:=tf l g (l.length+1)
end Mf
namespace L3
open PySem L2 Mf
noncomputable def LI(H:Hp)(p:Addr)(ns:List Int):Prop:=H p=some (.lst (ns.map V.int))
theorem LI.same{H H':Hp}{p:Addr}{ns:List Int}(h:LI H p ns)(s:aa H H'):LI H' p ns:=s.get _ _ h
theorem LI.upd{H:Hp}{p x:Addr}{ns:List Int}{o o':HO}(h:LI H p ns)(hx:H x=some o)(n:∀ws,o≠.lst ws):LI (upd H x o') p ns:=by
 unfold LI
 rw[aP (λz=>by rw[z]at h;unfold LI at h;rw[hx]at h;cases h;exact n _ rfl)];exact h
theorem O8{F' H' H:Hp}{v:V}{A:List Addr}{ns:List Int}(r:R F' H' [.lst true (nums ns)] [v] A)(fr:∀a∈A,H a=none):∃p,v=.ref p/\LI H' p ns/\H p=none:=by
 cases r with
 | @own p ws xs A1 _ _ B1 hp hf r1 r2 =>
  have:=Ol r1.s
  subst this
  exact⟨p,rfl,hp,fr p (by simp)⟩
structure cE3(K:PySem.W.Frag)(C f:Addr):Prop where
 cls:et K C
 many:cB K C "many"
 wide:cB K C "wide"
 EV:cB K C "powers"
 cE4:cB K C "logs"
 step:cB K C "step"
 sp:Meth K C "step_power" f
structure O9(g:Nat->Nat->Nat)(many:Nat)(l:List Int)(st:Int):Prop where
 lo:2<=many
 hi:many<=64
 step:xC g many=some l
 len:l.length+1=many
 ins:∀x∈l,0<=x/\x.toNat<=l.length
 st:l[((1:Int)%((many:Int)-1)).toNat]?=some st
noncomputable def gg(b:Str):List Str:=[b,"many","wide","powers","logs","step"]
noncomputable def Am(n0:Int)(many:Nat)(p1 p2:Addr)(st:Int):List V:=[.int n0,.int many,.int ((bl many:Nat)-1),.ref p1,.ref p2,.int st]
theorem tu{f:Str}{v:V}:∀{fs:List (Str × V)},(∀p∈fs,p.1≠f)->eR f v fs=fs++[(f,v)]
 | [],_=>rfl
 | (g,x)::r,h=>by
  unfold eR
  rw[if_neg (h (g,x) (by simp)),tu λp hp=>h p (by simp[hp])];rfl
theorem gy.xF{H:Hp}{x C dx f c k:Addr}{fs:List (Str × V)}{o':HO}{of oc:Obj}(h:gy H f of oc c k)(hx:H x=some (.ins C dx fs)):gy (L2.upd H x o') f of oc c k:=by
 obtain⟨ψ,e,xx⟩:=h.D2
 exact⟨by rw[aP (λz=>by rw[<-z,h.fn]at hx;cases hx)];exact h.fn,by rw[aP (λz=>by rw[<-z,h.cell]at hx;cases hx)];exact h.cell,ψ,by rw[aP (λz=>by rw[<-z,e]at hx;cases hx)];exact e,xx⟩
theorem gy.same{H H':Hp}{f c k:Addr}{of oc:Obj}(h:gy H f of oc c k)(s:aa H H'):gy H' f of oc c k:=m8.mono (z:=.lam of oc c k) h λa o e _ t=>s.get a o e t
theorem xG{H:Hp}{x p:Addr}{o o':HO}(hx:H x=some o)(h:L2.upd H x o' p=none):H p=none:=by
 by_cases z:p=x
 ·subst z;rw[bW]at h;cases h
 ·rw[aP z]at h;exact h
theorem An{α:Type}{b f:Str}{v:α}{r:List (Str × α)}(h:b≠f):((b,v)::r).lookup f=r.lookup f:=by
 rw[fc,beq_eq_false_iff_ne.mpr (dF h)]
section
variable{H2 H3 H':Hp}{x f c p:Addr}{o1 o2:HO}
theorem xH{b:Addr}{o:HO}(e:H3 b=some o)(nb:b≠f)(nc:H3 c=none):L2.upd (L2.upd H3 f o1) c o2 b=some o:=by
 rw[aP (dZ e nc),aP nb];exact e
theorem Pa(hs:aa H2 H3)(nf:H2 f=none)(nc:H3 c=none)(s:dg x (L2.upd (L2.upd H3 f o1) c o2) H'):dg x H2 (rem H' f c) where
 get b o n e t:=by
  have z1:=dZ e nf
  have e3:=hs.get b o e t
  rw[fZ z1 (dZ e3 nc)]
  exact s.get b o n (xH e3 z1 nc) t
 tb b ps e:=by
  have z1:=dZ e nf
  obtain⟨m,e3⟩:=hs.tb b ps e
  obtain⟨m2,e4⟩:=s.tb b _ (xH e3 z1 nc)
  exact⟨m++m2,by rw[fZ z1 (dZ e3 nc),e4,u4]⟩
theorem Ao(hs:aa H2 H3)(h:L2.upd (L2.upd H3 f o1) c o2 p=none):H2 p=none:=by
 refine hs.free ?_
 by_cases z:p=c
 ·subst z;rw[bW]at h;cases h
 ·rw[aP z]at h
  by_cases z2:p=f
  ·subst z2;rw[bW]at h;cases h
  ·rw[aP z2]at h;exact h
theorem LI.rem{l:List Int}{φ:Heap->Prop}{y:Addr}(h:LI H' p l)(hf:H' f=some (.ext φ))(hc:H' c=some (.own y)):LI (rem H' f c) p l:=by
 unfold LI at h ⊢
 rw[fZ (λz=>by rw[z,hf]at h;cases h) (λz=>by rw[z,hc]at h;cases h)];exact h
theorem Pb{of oc:Obj}{k:Addr}(oX:c≠f)(nc:H3 c=none)(hk:D1 H3 k)(kf:k≠f):gy (L2.upd (L2.upd H3 f (.ext (iD of oc c f))) c (.own f)) f of oc c k:=by
 obtain⟨ψ,e,xx⟩:=hk
 exact⟨by rw[aP oX.symm,bW],bW,ψ,xH e kf nc,xx⟩
end
noncomputable def fl(m:Bool × Nat):List Int:=(xC (gm m) (ae m)).getD []
noncomputable def fst(m:Bool × Nat):Int:=(fl m).getD ((1:Int)%((ae m:Int)-1)).toNat 0
noncomputable def Pc(m:Bool × Nat):Bool:=decide (2<=ae m)&&decide (ae m<=64)&&(xC (gm m) (ae m)).isSome&&decide ((fl m).length+1=ae m)&&(fl m).all (λx=>decide (0<=x)&&decide (x.toNat<=(fl m).length))&&decide (((1:Int)%((ae m:Int)-1)).toNat<(fl m).length)
theorem ca2:aF.all Pc=true:=by decide +kernel
theorem dE{m:Bool × Nat}(h:m∈aF):O9 (gm m) (ae m) (fl m) (fst m):=by
 have h:=dy.mp ca2 m h
 simp only[Pc,du,decide_eq_true_eq,dy]at h
 obtain⟨⟨⟨⟨⟨h1,h2⟩,h3⟩,h4⟩,h5⟩,h6⟩:=h
 obtain⟨l,e⟩:=Ui.mp h3
 have el:fl m=l:=by unfold fl;rw[e];rfl
 refine⟨h1,h2,by rw[e,el],h4,λx hx=>h5 x hx,?_⟩
 unfold fst
 rw[aQ,aN h6];rfl
theorem bS9:∀p∈lX,(decide (2<=(p:Int))&&decide ((p:Int)<=61)&&(aR ((p:Int).toNat-2)).all λi=>(p:Int)%(2+(i:Int)) != 0)=true:=by decide +kernel
theorem ce8:∀p∈gb,(decide (4<=(p:Int))&&decide ((p:Int)<=127)&&al (p:Int).toNat)=true:=by decide +kernel
theorem R.xF{F H:Hp}{x C dx:Addr}{fs:List (Str × V)}{o':HO}{ds:List D}{vs:List V}{A:List Addr}(r:R F H ds vs A)(hx:H x=some (.ins C dx fs))(hd:ds.all D.fr=true):R F (L2.upd H x o') ds vs A:=by
 have up:∀{a o},H a=some o->(∀C dx fs,o≠.ins C dx fs)->L2.upd H x o' a=some o:=λ{a o} e n=>by
  rw[aP (λz=>by rw[z,hx]at e;cases e;exact n _ _ _ rfl)];exact e
 induction r with
 | nil=>exact .nil
 | ak _ ih=>exact .ak (ih (by simpa[D.fr]using hd))
 | bl _ ih=>exact .bl (ih (by simpa[D.fr]using hd))
 | int _ ih=>exact .int (ih (by simpa[D.fr]using hd))
 | str _ ih=>exact .str (ih (by simpa[D.fr]using hd))
 | shr h x _ i1 ih=>simp[fU]at hd
 | own h f _ _ i1 i2 =>
  rw[dX,fU,du,og]at hd
  exact .own (up h λ_ _ _ z=>by cases z) f (i1 hd.1) (i2 hd.2)
 | tup h _ _ i1 i2 =>
  rw[dX,oY,du]at hd
  exact .tup (up h λ_ _ _ z=>by cases z) (i1 hd.1) (i2 hd.2)
 | obj h l x _ i1 ih=>simp[D.fr]at hd
 | fz h x _ i1 ih=>simp[D.fr]at hd
 | @aX p z _ _ _ h r ih =>
  refine .aX ?_ (ih (by simpa[D.fr]using hd))
  cases z with
  | ext φ=>exact up h λ_ _ _ z=>by cases z
  | lam of oc c k=>exact gy.xF h hx
theorem Pd(l g:List Int):(nK l g).all D.fr=true:=by
 unfold nK tf
 rw[oi,dy]
 intro a _
 show(D.lst true (nums _)).fr=true
 rw[fU,pO];rfl
theorem dg.free{x a:Addr}{H H':Hp}(s:dg x H H')(hx:H' x≠none)(h:H' a=none):H a=none:=by
 cases q:H a with
 | none=>rfl
 | some o =>
  by_cases z:a=x
  ·subst z;exact absurd h hx
  ·cases n:gW o with
   | true=>rw[s.get a o z q n]at h;cases h
   | false =>
    obtain⟨ps,rfl⟩:=D0 n
    obtain⟨m,e⟩:=s.tb a ps q
    rw[e]at h;cases h
theorem Pe(l:List Int):∀i,∀x∈lY l i,0<=x
 | 0=>λx hx=>by rw[(LQ.mp hx).2];exact Int.le_refl _
 | i+1=>λx hx=>by
  unfold lY at hx
  rcases LX hx with h | h
  ·exact Pe l i x h
  ·rw[h];exact LD _
theorem Pf:∀p∈gb,bl p<=7:=by decide +kernel
theorem Pg:∀p∈gb,1<=bl p:=by decide +kernel
theorem bV7(a b:Nat):bl (cl a b)<=bl a+bl b:=by
 by_cases ha:a=0
 ·subst ha;rw[m5];exact ji _
 ·by_cases hb:b=0
  ·subst hb
   have:cl a 0=0:=rfl
   rw[this];exact ji _
  ·rw[Nl ha hb];omega
noncomputable def tw(l g:List Int):List D:=(aR (l.length+1)).map λa=>D.lst false (nums (nJ l g a))
theorem bW5(l g:List Int):(D.lst true (nK l g)).sh=.lst false (tw l g):=by
 rw[eB]
 unfold nK tf tw
 rw[dG]
 congr 1
 apply qF
 intro a _
 show D.sh (.lst true (nums _))=_
 rw[eB,jc]
noncomputable abbrev pD(m:Bool × Nat):List D:=[.int m.2,.int (ae m),.int ((bl (ae m):Nat)-1),.lst false (nums (fl m)),.lst false (nums (dD (fl m))),.int (fst m)]
noncomputable def xI(C:Addr)(p:Nat):D:=.obj C (gg "prime") (pD (false,p))
noncomputable def Ap(C:Addr)(p:Nat):D:=.obj C (gg "bits"++[("products":Str)]) (pD (true,p)++[.lst false (tw (fl (true,p)) (dD (fl (true,p))))])
noncomputable def fD(cb cp:Addr)(m:Bool × Nat):D:=if m.1 then Ap cb m.2 else xI cp m.2
end L3
namespace L3
open PySem L2 Mf
theorem xJ{u p:Nat}(h:bl u<bl p):md u p=u:=vX (q:=0) (by rw[m5,mO]) h
theorem bP5{u v n:Nat}(hu:bl u<n)(hv:bl v<n):bl (u ^^^ v)<n:=by
 have h1:u<2 ^ (n-1):=dJ.mp (by omega)
 have h2:v<2 ^ (n-1):=dJ.mp (by omega)
 have:=dJ.mpr (qZ h1 h2)
 omega
theorem Aq{p:Nat}(hp:p≠0)(u v:Nat):md (u ^^^ v) p=md u p ^^^ md v p:=by
 obtain⟨⟨q1,e1⟩,l1⟩:=vW hp u
 obtain⟨⟨q2,e2⟩,l2⟩:=vW hp v
 refine vX (q:=q1 ^^^ q2) ?_ (bP5 l1 l2)
 rw[m4,<- Na,<- e1,<- e2]
theorem Ph{p:Nat}(hp:p≠0)(w:Nat):md (cl p w) p=0:=by rw[vV];exact XX w hp
theorem cQ:∀m∈aF,0<m.2:=by decide +kernel
theorem gE(m:Bool × Nat)(a b:Nat):gm m a b=gm m b a:=by
 unfold gm
 split
 ·rw[vV]
 ·rw[kF]
theorem Pj{n:Nat}(hn:n≠0)(u c:Nat):md (cl (md u n) c) n=md (cl u c) n:=by
 obtain⟨⟨q,e⟩,_⟩:=vW hn u
 have h:cl u c=cl n (cl q c) ^^^ cl (md u n) c:=by
  conv=>lhs;rw[e]
  rw[m4,vV n q,by4]
 rw[h,Aq hn,Ph hn,mO]
theorem je{m:Bool × Nat}(h:0<m.2)(a b c:Nat):gm m (gm m a b) c=gm m a (gm m b c):=by
 unfold gm
 split
 ·rw[Pj (by omega),vV (md (cl b c) m.2) a,Pj (by omega),by4 a b c,vV (cl b c) a]
 ·rw[vh,LY,<- vh,vh a (b*c%m.2),LY,<- vh,qC]
theorem Pk{m:Bool × Nat}(h:m.1=true){a:Nat}:a<ae m↔bl a<=bl m.2-1:=by
 unfold ae
 rw[if_pos h];exact dJ.symm
theorem jD{m:Bool × Nat}{a:Nat}(ha:a<ae m):gm m 1 a=a:=by
 obtain⟨k,n⟩:=m
 cases k with
 | true =>
  show md (cl 1 a) n=a
  rw[DI]
  have h1:=(Pk (m:=(true,n)) rfl).mp ha
  have h1:bl a<=bl n-1:=h1
  by_cases z:bl n=0
  ·have a0:a=0:=by
    have:=dJ (n:=a) (m:=0)
    have:=this.mp (by omega)
    omega
   subst a0
   have n0:n=0:=by
    have:=(dJ (n:=n) (m:=0)).mp (by omega)
    omega
   subst n0
   decide
  ·exact xJ (by omega)
 | false=>show 1*a%n=a;rw[Nat.one_mul];exact yR ha
theorem nL{m:Bool × Nat}{a:Nat}(ha:a<ae m):gm m a 1=a:=by rw[gE];exact jD ha
noncomputable def lg(m:Bool × Nat)(a:Nat):Int:=(dD (fl m)).getD a 0
noncomputable def pw(m:Bool × Nat)(k:Nat):Int:=(fl m).getD k 0
noncomputable def EW(m:Bool × Nat):Bool:=((aR (ae m-1)).all λk=>decide (1<=pw m k)&&decide (pw m k<ae m)&&decide (lg m (pw m k).toNat=k))&&((aR (ae m-1)).all λa=>decide (0<=lg m (a+1))&&decide (lg m (a+1)<(ae m:Int)-1)&&decide (pw m (lg m (a+1)).toNat=((a+1:Nat):Int)))
theorem Pl:aF.all EW=true:=by decide +kernel
theorem EX{m:Bool × Nat}(hm:m∈aF){k:Nat}(hk:k<ae m-1):1<=pw m k/\pw m k<ae m/\lg m (pw m k).toNat=k:=by
 have h:=dy.mp Pl m hm
 simp only[EW,du,dy,decide_eq_true_eq,dO]at h
 have:=h.1 k hk
 exact⟨this.1.1,this.1.2,this.2⟩
theorem EY{m:Bool × Nat}(hm:m∈aF){a:Nat}(h1:1<=a)(h2:a<ae m):0<=lg m a/\lg m a<(ae m:Int)-1/\pw m (lg m a).toNat=a:=by
 have h:=dy.mp Pl m hm
 simp only[EW,du,dy,decide_eq_true_eq,dO]at h
 have:=h.2 (a-1) (by omega)
 rw[show a-1+1=a by omega]at this
 exact⟨this.1.1,this.1.2,this.2⟩
theorem hE(m:Bool × Nat)(b:Nat)(h:0<m.2):gm m 0 b=0:=by
 unfold gm
 split
 ·rw[m5];exact xJ (by rw[kQ];exact fR (by omega))
 ·rw[Nat.zero_mul,Nat.zero_mod]
theorem tD(m:Bool × Nat)(b:Nat)(h:0<m.2):gm m b 0=0:=by rw[gE];exact hE m b h
noncomputable def stC(m:Bool × Nat):Bool:=decide (pw m 0=1)&&(aR (ae m-1)).all λk=>decide (gm m (pw m k).toNat (pw m (1%(ae m-1))).toNat=(pw m ((k+1)%(ae m-1))).toNat)
theorem Pm:aF.all stC=true:=by decide +kernel
theorem b85(m:Bool × Nat)(hm:m∈aF):pw m 0=1:=by
 have h:=dy.mp Pm m hm
 simp only[stC,du,decide_eq_true_eq]at h
 exact h.1
noncomputable def pN(m:Bool × Nat)(k:Nat):Nat:=(pw m (k%(ae m-1))).toNat
theorem cw8{m:Bool × Nat}(hm:m∈aF)(k:Nat):pN m k<ae m:=by
 have jw:=(dE hm).lo
 have:=EX hm (oj k (show 0<ae m-1 by omega))
 unfold pN
 omega
theorem Pn{m:Bool × Nat}(hm:m∈aF)(k:Nat):gm m (pN m k) (pN m 1)=pN m (k+1):=by
 have jw:=(dE hm).lo
 have h:=dy.mp Pm m hm
 simp only[stC,du,decide_eq_true_eq,dy,dO]at h
 have h2:=h.2 (k%(ae m-1)) (oj k (by omega))
 rw[CD]at h2
 exact h2
theorem Po{m:Bool × Nat}(hm:m∈aF)(i:Nat):∀j,gm m (pN m i) (pN m j)=pN m (i+j)
 | 0=>by
  have e:pN m 0=1:=by unfold pN;rw[Nat.zero_mod,b85 m hm];rfl
  rw[e,nL (cw8 hm i)];rfl
 | j+1=>by rw[<-Pn hm j,<- je (cQ m hm),Po hm i j,Pn hm];rfl
theorem Pp{m:Bool × Nat}(hm:m∈aF){a b:Nat}(a1:1<=a)(a2:a<ae m)(b1:1<=b)(b2:b<ae m):((gm m a b:Nat):Int)=pw m ((lg m a+lg m b)%((ae m:Int)-1)).toNat:=by
 have jw:=(dE hm).lo
 obtain⟨g0,g1,g2⟩:=EY hm a1 a2
 obtain⟨f0,f1,f2⟩:=EY hm b1 b2
 have ea:pN m (lg m a).toNat=a:=by unfold pN;rw[yR (by omega),g2];rfl
 have eb:pN m (lg m b).toNat=b:=by unfold pN;rw[yR (by omega),f2];rfl
 have e:=Po hm (lg m a).toNat (lg m b).toNat
 rw[ea,eb]at e
 rw[e]
 have ei:((lg m a+lg m b)%((ae m:Int)-1)).toNat=((lg m a).toNat+(lg m b).toNat)%(ae m-1):=by
  have:(((lg m a).toNat+(lg m b).toNat)%(ae m-1):Nat)=((lg m a+lg m b)%((ae m:Int)-1)):=by
   rw[qG,CF,yS g0,yS f0,Int.natCast_sub (by omega)];rfl
  omega
 rw[ei]
 have:=EX hm (oj ((lg m a).toNat+(lg m b).toNat) (show 0<ae m-1 by omega))
 unfold pN
 omega
theorem b81{p a:Nat}(hp:p∈gb)(ha:a<ae (true,p)):nJ (fl (true,p)) (dD (fl (true,p))) a=(aR (ae (true,p))).map λb=>((gm (true,p) a b:Nat):Int):=by
 have hm:(true,p)∈aF:=e7 _ (CG hp)
 have h0:=cQ _ hm
 have hF:=dE hm
 have hlen:=hF.len
 unfold nJ
 split
 ·rename_i h
  subst h
  rw[hlen]
  refine qH (by simp) λi h1 h2=>?_
  simp[hE _ _ h0]
 ·rename_i h
  rw[<-hlen,Uv,dW,dG,tD _ _ h0]
  congr 1
  apply qF
  intro b hb
  have hb:=dO.mp hb
  show(fl (true,p)).getD (((dD (fl (true,p))).getD a 0+(dD (fl (true,p))).getD (b+1) 0)%((fl (true,p)).length:Int)).toNat 0=((gm (true,p) a (b+1):Nat):Int)
  rw[Pp hm (by omega) ha (by omega) (by omega),show(((fl (true,p)).length:Nat):Int)=(ae (true,p):Int)-1 by omega]
  rfl
theorem Pq{p a b:Nat}(hp:p∈gb)(ha:a<ae (true,p))(hb:b<ae (true,p)):dH (nums (nJ (fl (true,p)) (dD (fl (true,p))) a)) (b:Int)=some (.int (gm (true,p) a b:Nat)):=by
 refine mX (by omega) ?_
 rw[b81 hp ha]
 unfold nums
 rw[dR,cy,cy,mQ hb];rfl
theorem Pr{p a:Nat}(hp:p∈gb)(ha:a<ae (true,p)):dH (tw (fl (true,p)) (dD (fl (true,p)))) (a:Int)=some (.lst false (nums (nJ (fl (true,p)) (dD (fl (true,p))) a))):=by
 have hF:=dE (m:=(true,p)) (e7 _ (CG hp))
 refine mX (by omega) ?_
 unfold tw
 rw[dR,cy,mQ (by rw[hF.len];exact ha)];rfl
end L3
namespace L3
open PySem L2 Mf
theorem cp8(C:Addr)(p:Nat):D.obj C (gg "bits"++[("products":Str)]) (CA D.sh [.int p,.int (ae (true,p)),.int ((bl (ae (true,p)):Nat)-1),.lst true (nums (fl (true,p))),.lst true (nums (dD (fl (true,p)))),.int (fst (true,p)),.lst true (nK (fl (true,p)) (dD (fl (true,p))))])=Ap C p:=by
 simp only[dW,mI]
 rw[bW5]
 simp only[eB,nu,jc];rfl
theorem bS6(C:Addr)(p:Nat):D.obj C (gg "prime") (CA D.sh [.int p,.int p,.int ((bl p:Nat)-1),.lst true (nums (fl (false,p))),.lst true (nums (dD (fl (false,p)))),.int (fst (false,p))])=xI C p:=by
 simp only[dW,mI,eB,nu,jc];rfl
theorem Ar{n:Nat}(h:(true,n)∈aF):n∈gb:=by
 rcases cx.mp h with h | h
 ·obtain⟨x,hx,e⟩:=bP.mp h
  cases e;exact hx
 ·obtain⟨x,hx,e⟩:=bP.mp h
  cases e
theorem bt1{n:Nat}(h:(false,n)∈aF):n∈lX:=by
 rcases cx.mp h with h | h
 ·obtain⟨x,hx,e⟩:=bP.mp h
  cases e
 ·obtain⟨x,hx,e⟩:=bP.mp h
  cases e;exact hx
open Classical in
theorem bP9{α:Type}{sh:Bool}{xs:List D}{au:List (Str × Nat)}{n:Nat}{g0:fW}{te:aI}{ao:Dl}{Q:D->Dl->Prop}(l:List α)(e g:α->D)(g8:xs.map D.sh=l.map e)(inj:∀a b,e a=e b->a=b)
  (hx:∀a∈l,g0 (e a) (e5 au n ao) λaM=>te aM λd _=>d=g a) (hg:∀d δ (P P':Dl->Prop),(∀ah,P ah->P' ah)->g0 d δ P->g0 d δ P') (dM:(sh&&au.all (g6 ao))=true\/∀a∈l,(g a).fr=true) (hl:l.length<=sizeLine) (hq:Q (.lst true (l.map g)) ao):ph sh xs au n g0 jA te ao Q:=by
 let f:D->D:=λx=>if h:∃a∈l,e a=x then g h.choose else .ak
 have hf:∀a∈l,f (e a)=g a:=λa ha=>by
  have h:∃b∈l,e b=e a:=⟨a,ha,rfl⟩
  show(if h:∃b∈l,e b=e a then g h.choose else .ak)=g a
  rw[dif_pos h]
  exact congrArg g (inj _ _ h.choose_spec.2)
 refine⟨λ_=>true,f,λx h=>?_,dM.imp id λh x hx _=>?_,?_,?_⟩
 ·rw[g8]at h
  obtain⟨a,ha,rfl⟩:=bP.mp h
  rw[hf a ha]
  exact hg _ _ _ _ (λah h=>⟨rfl,λ_=>h⟩) (hx a ha)
 ·rw[g8]at hx
  obtain⟨a,ha,rfl⟩:=bP.mp hx
  rw[hf a ha];exact h a ha
 ·have:=congrArg Cg g8
  simp at this
  omega
 ·rw[g8,Ut.mpr (λ_ _=>rfl),dG,show l.map (f ∘ e)=l.map g from qF λa ha=>hf a ha]
  exact hq
theorem bR3{i1 i2:Nat}(d:D)(δ:Dl)(P P':Dl->Prop)(h:∀ah,P ah->P' ah)(q:iO i1 i2 d δ P):iO i1 i2 d δ P':=by
 unfold iO at q ⊢
 split at q
 ·exact h _ q
 ·exact q
theorem bM5(xs ys:List Int):(dw (nums xs) (nums ys)).map D.sh=(xs.zip ys).map λz=>D.tup [.int z.1,.int z.2]:=by
 rw[Oy,jc,jc]
 unfold dw nums
 rw[LW,CH,CB]
theorem cc3{p x y:Nat}(hp:p≠0)(hx:bl x<bl p):md (cl x y) p=(if y%2=1 then x else 0) ^^^ md (cl (if bl (2*x)=bl p then 2*x ^^^ p else 2*x) (y/2)) p:=by
 have e0:md (if y%2=1 then x else 0) p=(if y%2=1 then x else 0):=by
  split
  ·exact xJ hx
  ·exact xJ (by rw[kQ];exact fR hp)
 rw[Ni,Aq hp,e0]
 congr 1
 split
 ·rw[m4,Aq hp,Ph hp,jP]
 ·rfl
theorem cg2{p x:Nat}(hp:p≠0)(hx:bl x<bl p):bl (if bl (2*x)=bl p then 2*x ^^^ p else 2*x)<bl p:=by
 have h2:=XZ x
 have h0:=fR hp
 split
 ·rename_i h
  have n0:2*x≠0:=λz=>by rw[z,kQ]at h;omega
  have a1:=gQ (2*x)
  have a2:=gQ p
  have b1:=qX n0
  have b2:=qX hp
  rw[h]at a1 b1
  obtain⟨k,hk⟩:∃k,bl p=k+1:=⟨bl p-1,by omega⟩
  rw[hk]at a1 a2 b1 b2 ⊢
  have:=dJ.mpr (M8 a1 a2 b1 b2)
  omega
 ·omega
end L3
namespace L3
open PySem L2 PySem.Spec PyProof.Rows
structure As(P:Program)(w:World)(K:PySem.W.Frag)(mg:Str->Option Value)(base:Heap)(n:Nat)(m:Str)(C:Addr)(sp:nB):Prop where
 cls:et K C
 ex:∃f fd ps,Meth K C m f/\aO P w K mg base (kX P w) n f fd ps (xj sp)/\Binds K fd ps []
section
variable{X:Cx}{e o:Expr}{es:List Expr}{f m x:Str}{pos p apos:Pos}{to:aI}{ta:cq}{n:Nat}
noncomputable def pZ(MO:Addr->nB->Prop)(m:Str)(to:aI)(ta:cq):aI:=λδ Q=>to δ λd ao=>∃C ns xs sp,d=.obj C ns xs/\MO C sp/\m ∉ ns/\ta ao λds aM=>sp ((D.obj C ns xs::ds).map D.sh) (λr=>((D.obj C ns xs::ds).all D.pl||r.fr)=true/\Q r aM) λ_=>False
theorem ca7{pl:Sem Bool}(ho:PE X o (lB to))(hr:bN n X.A)(ha:PA X (e::es) (lA ta))
  (cH:starEach (e::es) X.env=(false,eval e X.env)::starEach es X.env:=by rfl) (bJ:(backTo pos (starEach es X.env)).any (·.1)=false:=by rfl)
  (ht:eval (.Call (.Attribute o m apos) (e::es) [] pos) X.env=(do
   let ov<-eval o X.env
   standAt apos.atName
   let (f,first)<-holding [ov] (getMethod ov m pl)
   callWith pos f first (backTo pos (starEach (e::es) X.env)) (backToKw pos (keywordEach [] X.env))):=by rfl) :
  PE X (.Call (.Attribute o m apos) (e::es) [] pos) (lE (pZ (As X.prog X.w X.K X.mg X.base n m) m to ta)):=by
 intro pins s σ H Q I zz
 obtain⟨B,F,δ,ts,Qd,c,q,k⟩:=zz
 refine PySem.W.methodCall_KW (pl:=pl) (aK (ho pins s σ H (λx H1=>∃d ao F1,S F1 H1 [d] [x]/\aj B F1 H1 σ ao ts/\aa F F1/\aa H H1/\∃C ns xs sp,d=.obj C ns xs/\As X.prog X.w X.K X.mg X.base n m C sp/\m ∉ ns/\ta ao λds aM=>sp ((D.obj C ns xs::ds).map D.sh) (λr=>((D.obj C ns xs::ds).all D.pl||r.fr)=true/\Qd r aM) λ_=>False) I
  ⟨B,F,δ,ts,_,c,q,λd ao v F1 H1 hq f1 h1 c1 s1=>⟨d,ao,F1,s1,c1,f1,h1,hq⟩⟩) λu s1 ⟨x,H1,I1,rx,d,ao,F1,sd,c1,f1,h1,C,ns,xs,sp,ed,M,hm,hq⟩=>?_) ht
 subst ed
 obtain⟨a,dx,ws,rfl,ea,hl,r0⟩:=ER sd
 obtain rfl:u=eD a:=rx
 obtain⟨f,fd,ps,xB,FO,hb⟩:=M.ex
 refine Ds I1 ea M.cls xB (O5 hm) ?_
 refine PySem.W.callWith_K (first:=[.ref a]) (h₀:=X.base) I.ok.mod.kL xB.kp (aK (ha pos pins s1 σ H1 (λvs H2=>∃ds aM F2,S F2 H2 ds vs/\aj B F2 H2 σ aM ts/\aa F1 F2/\aa H1 H2/\sp ((D.obj C ns xs::ds).map D.sh) (λr=>((D.obj C ns xs::ds).all D.pl||r.fr)=true/\Qd r aM) λ_=>False) I1
  ⟨B,F1,ao,ts,_,c1,hq,λds aM vs F2 H2 hq f2 h2 c2 s2=>⟨ds,aM,F2,s2,c2,f2,h2,hq⟩⟩) λus s2 ⟨vs,H2,I2,r,ds,aM,F2,ES,c2,f2,h2,gO⟩=>⟨I2.cN,?_⟩) cH bJ
 refine zE (us:=.ref a::us) (vs:=.ref a::vs) (eG:=[]) (EB FO) hr hb .nil EA I2 (.cons rfl r) ?_
 rw[kC]
 exact zO (sp:=λds Q=>sp ds Q λ_=>False) c2 (.obj (h2 _ _ ea) hl (r0.shared f2 h2) ES) gO λd v F' H' hd hf hs c'=>k d aM v F' H' hd (f1.trans (f2.trans hf)) (h1.trans (h2.trans hs)) c'
end
section
variable{X:Cx}{tb th:cC}{body ZV:List Stmt}{ZW:Stmt}{K:Str}{Kc:Addr}{kp ZX pos:Pos}
end
structure Pt(K:PySem.W.Frag)(C:Addr):Prop where
 cls:et K C
 ha:PySem.W.findIn K (.ref C) "__class__"=some (some (.builtin "object.__class__"))
 hn:PySem.W.specialIn K (.builtin "object.__class__") "__get__"=some (some (.builtin "getset_descriptor.__get__"))
 Dt:PySem.W.takesIn K (.builtin "object.__class__")=some true
 hm:PySem.W.mroIn K C (.type "object")=some true
end L3
namespace L3
open PySem L2 Mf
theorem Pu{m:Bool × Nat}(hm:m∈aF){a b:Nat}(a1:1<=a)(a2:a<ae m)(b1:1<=b)(b2:b<ae m):∃r:Nat,pw m ((lg m a-lg m b)%((ae m:Int)-1)).toNat=r/\r<ae m/\gm m r b=a:=by
 have hF:=dE hm
 have jw:=hF.lo
 have n0:=iX (lg m a-lg m b) (show(ae m:Int)-1≠0 by omega)
 have n1:=iY (lg m a-lg m b) (show(0:Int)<(ae m:Int)-1 by omega)
 obtain⟨p1,p2,p3⟩:=EX hm (k:=((lg m a-lg m b)%((ae m:Int)-1)).toNat) (by omega)
 obtain⟨g0,g1,g2⟩:=EY hm a1 a2
 refine⟨(pw m ((lg m a-lg m b)%((ae m:Int)-1)).toNat).toNat,by omega,by omega,?_⟩
 have e:=Pp hm (a:=(pw m ((lg m a-lg m b)%((ae m:Int)-1)).toNat).toNat) (by omega) (by omega) b1 b2
 rw[p3,yS n0,Int.emod_add_emod,Int.sub_add_cancel,Int.emod_eq_of_lt g0 g1,g2]at e
 omega
end L3
namespace L3
open PySem L2 PySem.Spec PyProof.Rows
section
variable{X:Cx}{e o a:Expr}{es:List Expr}{f m y:Str}{pos p apos q:Pos}{t to ta':aI}{ta:cq}{n:Nat}{P:Program}{w:World}{K:PySem.W.Frag}{mg:Str->Option Value}{base:Heap}
theorem lZ(he:PE X e (lB t))(hK:K=X.K:=by rfl)(hb:attributeBase e f X.env (eval e X.env)=eval e X.env:=by rfl):PE X (.Attribute e f pos) (lB (pX K t f)):=by
 subst hK;exact cw0 he hb
theorem Au{pl:Sem Bool}(ho:PE X o (lB to))(hr:bN n X.A)(ha:PA X (e::es) (lA ta))(hP:P=X.prog:=by rfl)(hw:w=X.w:=by rfl)(hK:K=X.K:=by rfl)(hm:mg=X.mg:=by rfl)(hb:base=X.base:=by rfl)
  (cH:starEach (e::es) X.env=(false,eval e X.env)::starEach es X.env:=by rfl) (bJ:(backTo pos (starEach es X.env)).any (·.1)=false:=by rfl)
  (ht:eval (.Call (.Attribute o m apos) (e::es) [] pos) X.env=(do
   let ov<-eval o X.env
   standAt apos.atName
   let (f,first)<-holding [ov] (getMethod ov m pl)
   callWith pos f first (backTo pos (starEach (e::es) X.env)) (backToKw pos (keywordEach [] X.env))):=by rfl) :
  PE X (.Call (.Attribute o m apos) (e::es) [] pos) (lE (pY (sZ P w K mg base n m) m to ta)):=by
 subst hP hw hK hm hb;exact co5 ho hr ha cH bJ ht
theorem bQ9{pl:Sem Bool}(ho:PE X o (lB to))(hr:bN n X.A)(ha:PA X (e::es) (lA ta))(hP:P=X.prog:=by rfl)(hw:w=X.w:=by rfl)(hK:K=X.K:=by rfl)(hm:mg=X.mg:=by rfl)(hb:base=X.base:=by rfl)
  (cH:starEach (e::es) X.env=(false,eval e X.env)::starEach es X.env:=by rfl) (bJ:(backTo pos (starEach es X.env)).any (·.1)=false:=by rfl)
  (ht:eval (.Call (.Attribute o m apos) (e::es) [] pos) X.env=(do
   let ov<-eval o X.env
   standAt apos.atName
   let (f,first)<-holding [ov] (getMethod ov m pl)
   callWith pos f first (backTo pos (starEach (e::es) X.env)) (backToKw pos (keywordEach [] X.env))):=by rfl) :
  PE X (.Call (.Attribute o m apos) (e::es) [] pos) (lE (pZ (As P w K mg base n m) m to ta)):=by
 subst hP hw hK hm hb;exact ca7 ho hr ha cH bJ ht
end
theorem EZ:∀m∈Mf.aF,1<=Mf.bl m.2/\Mf.bl m.2<=7:=by decide +kernel
end L3
namespace L3
open PySem L2 Mf
noncomputable def gp(m:Bool × Nat)(a b:Nat):Nat:=if m.1 then a ^^^ b else(a+b)%m.2
noncomputable def gl(m:Bool × Nat)(a b:Nat):Int:=if m.1 then(a ^^^ b:Nat)else((a:Int)-b)%m.2
noncomputable def gd(m:Bool × Nat)(xs ys:List Nat):Nat:=(fE (gm m) xs ys).foldl (gp m) 0
noncomputable def nM(c:Int):Bool × Nat:=if c%2=0 then(true,gb.getD (c/2%21).toNat 0)else(false,lX.getD (c/2%18).toNat 0)
theorem bX8(c:Int):nM c∈aF:=by
 unfold nM
 split
 ·refine e7 _ (bP.mpr ⟨_,?_,rfl⟩)
  have h:(c/2%21).toNat<gb.length:=by
   have:=iY (c/2) (show(0:Int)<21 by decide)
   show _<21
   omega
  rw[aQ,aN h]
  exact eF _
 ·refine dQ _ (bP.mpr ⟨_,?_,rfl⟩)
  have h:(c/2%18).toNat<lX.length:=by
   have:=iY (c/2) (show(0:Int)<18 by decide)
   show _<18
   omega
  rw[aQ,aN h]
  exact eF _
noncomputable def cu(m:Bool × Nat):D:=.tup [.bl m.1,.int m.2]
theorem Av(cb cp:Addr)(m:Bool × Nat):fD cb cp m=.obj (if m.1 then cb else cp) (if m.1 then gg "bits"++[("products":Str)]else gg "prime") (if m.1 then pD (true,m.2)++[.lst false (tw (fl (true,m.2)) (dD (fl (true,m.2))))]else pD (false,m.2)):=by
 obtain⟨k,n⟩:=m
 cases k<;>rfl
theorem cx5(m:Bool × Nat)(x:Str)(h:x ∉ (["bits","prime","many","wide","powers","logs","step","products"]:List Str)):x ∉ (if m.1 then gg "bits"++[("products":Str)]else gg "prime"):=by
 obtain⟨k,n⟩:=m
 intro z
 apply h
 cases k
 ·have z:x∈gg "prime":=z
  simp[gg]at z
  simp only[bU]
  rcases z with z | z | z | z | z | z<;>simp[z]
 ·have z:x∈gg "bits"++[("products":Str)]:=z
  simp[gg]at z
  simp only[bU]
  rcases z with z | z | z | z | z | z | z<;>simp[z]
theorem cy2(cb cp:Addr)(m:Bool × Nat):(fD cb cp m).sh=fD cb cp m:=by rw[Av];rfl
theorem cx8(cb cp:Addr)(m:Bool × Nat):(fD cb cp m).pl=true:=by rw[Av];rfl
theorem cg0(m:Bool × Nat):(cu m).sh=cu m:=rfl
theorem cc7(m:Bool × Nat):(cu m).pl=true:=rfl
theorem E1(m:Bool × Nat)(a b:Nat):gp m a b=gp m b a:=by
 unfold gp
 split
 ·rw[LH]
 ·rw[Nat.add_comm]
theorem bV1(m:Bool × Nat)(a b c:Nat):gp m (gp m a b) c=gp m a (gp m b c):=by
 unfold gp
 split
 ·rw[oa]
 ·rw[CD,Nat.add_mod_mod,Nat.add_assoc]
theorem cs3{m:Bool × Nat}(h:0<m.2)(a b c:Nat):gm m (gp m a b) c=gp m (gm m a c) (gm m b c):=by
 unfold gm gp
 split
 ·rw[m4,Aq (by omega)]
 ·rw[vh,LY,<- vh,Nat.add_mul,CD,Nat.add_mod_mod]
theorem cn7{m:Bool × Nat}(h:0<m.2)(a b c:Nat):gm m c (gp m a b)=gp m (gm m c a) (gm m c b):=by rw[gE,cs3 h,gE m a,gE m b]
theorem bX9:∀m∈aF,m.1=true->2<=bl m.2:=by decide +kernel
theorem cs8{m:Bool × Nat}(hm:m∈aF){a b:Nat}(ha:a<ae m)(hb:b<ae m):gp m a b<ae m:=by
 have h0:=cQ m hm
 obtain⟨k,n⟩:=m
 cases k with
 | true=>exact qZ ha hb
 | false=>exact oj _ h0
theorem dh{m:Bool × Nat}(hm:m∈aF)(a b:Nat):gm m a b<ae m:=by
 have h0:=cQ m hm
 obtain⟨k,n⟩:=m
 cases k with
 | true =>
  have h2:=bX9 (true,n) hm rfl
  have:=(vW (show n≠0 by have:0<n:=h0;omega) (cl a b)).2
  refine(Pk rfl).mpr ?_
  show bl (md (cl a b) n)<=bl n-1
  omega
 | false=>exact oj _ h0
theorem Pw{m:Bool × Nat}{a:Nat}(ha:a<ae m):gp m 0 a=a:=by
 obtain⟨k,n⟩:=m
 cases k with
 | true=>exact mO a
 | false=>show(0+a)%n=a;rw[Nat.zero_add];exact yR ha
theorem bS4{m:Bool × Nat}{a:Nat}(ha:a<ae m):gp m a 0=a:=by rw[E1];exact Pw ha
theorem cu3{m:Bool × Nat}(hm:m∈aF){a b:Nat}(ha:a<ae m)(hb:b<ae m):∃r:Nat,gl m a b=r/\r<ae m/\gp m r b=a:=by
 have h0:=cQ m hm
 obtain⟨k,n⟩:=m
 cases k with
 | true=>exact⟨a ^^^ b,rfl,qZ ha hb,by show a ^^^ b ^^^ b=a;rw[oa,yL,jP]⟩
 | false =>
  have h0:0<n:=h0
  have ha:a<n:=ha
  have hb:b<n:=hb
  refine⟨(a+(n-b))%n,?_,oj _ h0,?_⟩
  ·show((a:Int)-b)%n=_
   rw[qG,CF,Int.natCast_sub (by omega),show((a:Int)+((n:Int)-b))=((a:Int)-b)+n by omega,Int.add_emod_right]
  ·show((a+(n-b))%n+b)%n=a
   rw[CD,show a+(n-b)+b=a+n by omega,Nat.add_mod_right,yR ha]
end L3
namespace L2
open PySem PySem.Spec PyProof.Rows
section
variable{X:Cx}{a:Expr}{ta:TA}{p pos:Pos}{tg:Expr}
end
end L2
namespace L3
open PySem L2 PySem.Spec PyProof.Rows
section
variable{F H:Hp}{K:PySem.W.Frag}{p:Addr}{ws:List V}{xs:List D}
end
section
variable{X:Cx}{a:Expr}{ta:cq}{p pos:Pos}{tg:Expr}
end
end L3
namespace L3
open PySem L2 Mf
noncomputable def px(m:Bool × Nat)(x:Nat):Nat->Nat
 | 0=>1
 | k+1=>gm m (px m x k) x
noncomputable def AllLt(n:Nat)(l:List Nat):Prop:=∀a∈l,a<n
theorem AllLt.getD{n:Nat}{l:List Nat}(h:AllLt n l)(h0:0<n)(k:Nat):l.getD k 0<n:=by
 rw[aQ]
 cases e:l[k]? with
 | none=>exact h0
 | some v=>exact h v (n6 e)
end L3
namespace L3
open PySem L2 PySem.Spec PyProof.Rows
theorem bO1(n:Nat)(l:List Nat):(av l).all (aL n)=true:=by
 rw[dN,oi,dy]
 intro a _
 exact sI n _
theorem Px(n:Nat)(o:Bool)(l:List Nat):aL (n+1) (.lst o (av l))=true:=bO1 n l
theorem Aw(o o':Bool)(a b:List Nat):bF (.lst o (av a)) (.lst o' (av b))=decide (a=b):=by
 unfold av
 rw[sJ]
 congr 1
 apply propext
 constructor
 ·intro h
  have:=congrArg (CA yT) h
  have e:(yT ∘ λ(n:Nat)=>(n:Int))=id:=by funext x;rfl
  rw[dG,dG,e,LZ,LZ]at this
  exact this
 ·intro h;rw[h]
theorem p5{l:List Nat}{k:Int}(h0:0<=k)(h:k.toNat<l.length):dH (av l) k=some (.int ((l.getD k.toNat 0:Nat):Int)):=by
 refine mX h0 ?_
 rw[dN,cy,aN h,aQ,aN h];rfl
theorem E2{n:Nat}{k:Int}(h0:0<=k)(h:k.toNat<n):gu n k=some k.toNat:=by
 unfold gu
 rw[if_pos h0,if_pos (by omega)]
theorem tE{n:Nat}(k:Int)(h:k=n):(((aR k.toNat).map λ(k:Nat)=>D.int (0+(k:Int))).map D.sh)=(aR n).map λ(i:Nat)=>D.int (i:Int):=by
 subst h
 rw[wo,dR]
 simp
theorem Py{n nn:Nat}{k:Int}(h:k=n)(hn:n<=1000000){δ:Dl}{Q:D->Dl->Prop}(q:Q (.lst true (av (aT n 0))) δ):ph true ((aR k.toNat).map λ(k:Nat)=>D.int (0+(k:Int))) [] nn (gN 0) jA (dC (D.int 0)) δ Q:=by
 refine gD (aR n) (λ(i:Nat)=>D.int (i:Int)) (λ_=>D.int ((0:Nat):Int)) (tE _ h) lU (λk hk=>?_) (.inr λ_ _=>rfl) (by rw[cV,sL];omega) ?_
 ·exact rfl
 ·rw[show((aR n).map λ_=>D.int ((0:Nat):Int))=av (aT n 0) by rw[dN,L0,List.map_const',cV]]
  exact q
theorem E3(l:List Nat)(k v:Nat):(av l).set k (.int (v:Nat))=av (l.set k v):=by
 rw[dN,dN,List.map_set]
theorem bW7(l:List Nat):(av l).all D.fr=true:=pO _
theorem E4(o:Bool)(l:List Nat):(D.lst o (av l)).sh=.lst false (av l):=by rw[eB,pU]
theorem xK(l:List Nat):(D.lst true (av l)).fr=true:=by rw[fU,bW7];rfl
theorem ce2{xs:List D}{i:Nat}{d:D}(h:(eV xs)[i]?=some d):∃hi:i<xs.length,d=.tup [.int i,xs[i]]:=by
 have hi:i<(eV xs).length:=(iW.mp h).1
 rw[pQ]at hi
 refine⟨hi,?_⟩
 unfold eV at h
 rw[yP,aN hi]at h
 exact(cM h).symm
theorem bU1{l:List Nat}{i:Nat}{d:D}(h:(eV (av l))[i]?=some d):∃hi:i<l.length,d=.tup [.int i,.int (l[i]:Nat)]:=by
 obtain⟨hi,e⟩:=ce2 h
 rw[fL]at hi
 refine⟨hi,?_⟩
 rw[e]
 simp only[dN,qI]
section
variable{X:Cx}
noncomputable def p7:iN:=λds Q=>match ds with
 | [.int i]=>Q (.int i)
 | [.bl b]=>Q (.int (if b then 1 else 0))
 | _=>False
theorem Pz:gC X (.type "int") p7:=gC.of Wd λvs H Q zz=>by
 obtain⟨B,F,σ,δ,ts,ds,Qd,c,s,q,k⟩:=zz
 unfold p7 at q
 split at q
 ·obtain⟨v,rfl,s1⟩:=i9 s
  cases s1
  exact .inl ⟨_,rfl,k _ _ _ q (aa.refl _) (c.pushS (.int .nil) rfl)⟩
 ·obtain⟨v,rfl,s1⟩:=i9 s
  cases s1
  exact .inr ⟨_,rfl,k _ _ _ q (aa.refl _) (c.pushS (.int .nil) rfl)⟩
 ·exact q.elim
end
end L3
namespace L3
open PySem L2 Mf
noncomputable def cE(m:Bool × Nat)(a b:Nat):Nat:=(gl m a b).toNat
theorem nN{m:Bool × Nat}(hm:m∈aF){a b:Nat}(ha:a<ae m)(hb:b<ae m):gl m a b=(cE m a b:Nat)/\cE m a b<ae m/\gp m (cE m a b) b=a:=by
 obtain⟨r,e,h1,h2⟩:=cu3 hm ha hb
 have:cE m a b=r:=by unfold cE;rw[e];rfl
 rw[this]
 exact⟨e,h1,h2⟩
theorem PB{n:Nat}{f:Nat->Nat->Nat}:∀{a b:List Nat},(∀x∈a,∀y∈b,f x y<n)->AllLt n (fE f a b)
 | [],_,_=>by intro x hx;simp at hx
 | _::_,[],_=>by intro x hx;simp at hx
 | x::a,y::b,h=>by
  intro z hz
  rw[List.zipWith_cons_cons]at hz
  rcases bU.mp hz with rfl | hz
  ·exact h x (by simp) y (by simp)
  ·exact PB (λx hx y hy=>h x (by simp[hx]) y (by simp[hy])) z hz
theorem bA8(xs ys:List Nat):(dw (av xs) (av ys)).map D.sh=(xs.zip ys).map λz=>D.tup [.int (z.1:Int),.int (z.2:Int)]:=by
 unfold av
 rw[bM5,List.zip_map,dG];rfl
theorem PC{sh:Bool}{au:List (Str × Nat)}{n i1 i2:Nat}{te:aI}{ao:Dl}{Q:D->Dl->Prop}(f:Nat->Nat->Nat){A B:List Nat}(hx:∀x∈A,∀y∈B,iO i1 i2 (.tup [.int (x:Int),.int (y:Int)]) (e5 au n ao) λaM=>te aM λd _=>d=.int ((f x y:Nat):Int))
  (hl:A.length<=100000) (hq:Q (.lst true (av (fE f A B))) ao):ph sh (dw (av A) (av B)) au n (iO i1 i2) jA te ao Q:=by
 refine bP9 (A.zip B) (λz=>D.tup [.int (z.1:Int),.int (z.2:Int)]) (λz=>D.int ((f z.1 z.2:Nat):Int)) (bA8 A B) (λa b h=>?_) (λz hz=>hx z.1 (yG hz).1 z.2 (yG hz).2) bR3 (.inr λ_ _=>rfl) (by rw[CI,sL];omega) ?_
 ·injection h with h
  simp at h
  exact Prod.ext (by omega) (by omega)
 ·rw[show((A.zip B).map λz=>D.int ((f z.1 z.2:Nat):Int))=av (fE f A B) by rw[dN,CH,CB,CB]]
  exact hq
end L3
namespace L3
open PySem L2 PySem.Spec PyProof.Rows
theorem aj.cI2{B:Bs}{F H:Hp}{σ:L2.St}{δ:Dl}{ps ts:List (D × V)}{p:Addr}{o:HO}{A1:List Addr}(c:aj B F H σ δ (ps++ts))(hp:H p=none)(r:R F (upd H p o) (ps.map (·.1)) (ps.map (·.2)) A1):p ∉ A1:=λh=>by
 obtain⟨A,C,r0,_,_,_⟩:=c.own
 rw[jQ,jQ]at r0
 obtain⟨v1,v2,B1,B2,e,rfl,h1,h2⟩:=R.split r0
 have l1:(ps.map (·.2)).length=v1.length:=by rw[<-h1.length];simp
 obtain⟨rfl,rfl⟩:=Cu e l1
 have g1:=h1.grow (aa.refl F) (aa.upd (o:=o) hp) λa ha=>(h1.lists a ha).2
 have:A1=B1:=R.inj r g1
 subst this
 obtain⟨ws,e⟩:=(h1.lists p h).1
 rw[hp]at e;cases e
theorem aj.join{B:Bs}{F H:Hp}{σ:L2.St}{δ:Dl}{ts:List (D × V)}{p p' r:Addr}{xs ys:List D}{ws dv:List V}(c:aj B F H σ δ ((.lst true ys,.ref p')::(.lst true xs,.ref p)::ts))(e1:H p=some (.lst ws))(e2:H p'=some (.lst dv))(hr:H r=none) :
  aj B F (upd H r (.lst (ws++dv))) σ δ ((.lst true (xs++ys),.ref r)::ts):=by
 refine aj.pack (ps:=[(.lst true ys,.ref p'),(.lst true xs,.ref p)]) c (aa.upd hr) λA1 r1 nd=>?_
 have nin:=aj.cI2 (ps:=[(.lst true ys,.ref p'),(.lst true xs,.ref p)]) (ts:=ts) c hr r1
 have n1:p≠r:=λz=>by rw[z,hr]at e1;cases e1
 have n2:p'≠r:=λz=>by rw[z,hr]at e2;cases e2
 have r1:R F (upd H r (.lst (ws++dv))) [.lst true ys,.lst true xs] [.ref p',.ref p] A1:=r1
 cases r1 with
 | @own _ wy _ Ay _ _ By hy fy ry rb =>
  cases rb with
  | @own _ wx _ Ax _ _ Bx hx fx rx rc =>
   cases rc
   rw[aP n2,e2]at hy;cases hy
   rw[aP n1,e1]at hx;cases hx
   refine⟨r::(Ax++Ay),by simpa using R.own bW (c.ext.free hr) (rx.append ry) .nil,?_,λa ha=>?_⟩
   ·refine ij.mpr ⟨λz=>nin ?_,?_⟩
    ·rcases cx.mp z with z | z<;>simp[z]
    ·have sl:(Ay++Ax).Sublist (p'::Ay++(p::Ax++[])):=by
      rw[kC]
      exact(((UA p Ax).append_left Ay).trans (UA p' _))
     exact mP.nodup_iff.mp (nd.sublist sl)
   ·simp only[bU,cx]at ha ⊢
    rcases ha with rfl | ha | ha
    ·exact .inr hr
    ·simp[ha]
    ·simp[ha]
section
variable{X:Cx}{a b:Expr}{ta tb:aI}{pos:Pos}
noncomputable def tF(ta tb:aI):aI:=λδ Q=>ta δ λx ao=>tb ao λy aM=>∃xs ys,x=.lst true xs/\y=.lst true ys/\xs.length+ys.length<=sizeLine/\Q (.lst true (xs++ys)) aM
theorem cj6(ha:PE X a (lE ta))(hb:PE X b (lE tb)):PE X (.BinOp a .Add b pos) (lE (tF ta tb)) :=
 cY (vK M3 ha hb) λσ H Q ⟨B,F,δ,ts,Qd,c,q,k⟩ =>
  ⟨B,F,δ,ts,_,c,q,λx ao v F1 H1 q1 f1 h1 c1=>⟨B,F1,ao,(x,v)::ts,_,c1,q1,λy aM w F2 H2 q2 f2 h2 c2=>by
   obtain⟨xs,ys,rfl,rfl,hz,hq⟩:=q2
   obtain⟨p',dv,rfl,e2,s2⟩:=fJ c2.top c2.ext
   obtain⟨p,ws,rfl,e1,s1⟩:=fJ c2.pop.top c2.ext
   refine⟨p,p',ws,dv,rfl,rfl,e1,e2,by rw[<-s1.length,<- s2.length];exact hz,λr hr=>?_⟩
   exact k _ aM _ F2 _ hq (f1.trans f2) ((h1.trans h2).trans (aa.upd hr)) (c2.join e1 e2 hr)⟩⟩
end
theorem bM3{a b:List Nat}(h:av a=av b):a=b:=by
 have:=Aw true true a b
 rw[h,show bF (D.lst true (av b)) (D.lst true (av b))=true from(Aw _ _ _ _).trans (decide_eq_true rfl)]at this
 exact of_decide_eq_true this.symm
theorem xM{o:Bool}(a b:List Nat)(h:D.lst o (av a)=D.lst o (av b)):a=b:=bM3 (by injection h)
end L3
namespace L3
open PySem L2 Mf
end L3
namespace L2
open PySem PySem.Spec PyProof.Rows
end L2
namespace L3
open PySem L2 PySem.Spec PyProof.Rows Mf
theorem PD{l:List Nat}{x k:Nat}(h:k<l.length):(l++[x]).getD k 0=l.getD k 0:=by
 rw[aQ,va h,aQ]
end L3
namespace L3
open PySem L2 Mf
noncomputable def cf(l:List Nat)(k:Nat):Nat:=l.getD k 0
theorem jE{l:List Nat}{k:Nat}(h:l.length<=k):cf l k=0:=by
 unfold cf;rw[aQ,iq h];rfl
theorem fu{m:Bool × Nat}(hm:m∈aF){l:List Nat}(h:AllLt (ae m) l)(k:Nat):cf l k<ae m:=h.getD (by have:=(dE hm).lo;omega) k
theorem cx3(a:Nat)(l:List Nat)(k:Nat):cf (a::l) (k+1)=cf l k:=rfl
theorem PF(m:Bool × Nat)(x:Nat):cE m x x=0:=by
 obtain⟨k,n⟩:=m
 cases k with
 | true=>show(((x ^^^ x:Nat):Int)).toNat=0;rw[yL];rfl
 | false=>show(((x:Int)-(x:Int))%(n:Int)).toNat=0;rw[Int.sub_self,Int.zero_emod];rfl
end L3
namespace L3
open PySem L2 PySem.Spec PyProof.Rows
section
variable{B:Bs}{F H:Hp}{σ:L2.St}{δ:Dl}{ts ps:List (D × V)}{i k:Nat}{p q:Addr}{l1 l2 ys NJ:List D}{ws si:List V}
end
section
variable{X:Cx}{F H:Hp}{e b:Expr}{pos p p2 p3 pr apos bR zZ:Pos}{t ti te:aI}{x y:Str}{i j:Nat}
end
end L3
namespace L3
structure Rg(N:Nat)(p q:Nat->Nat->Nat):Prop where
 pc:∀a b,p a b=p b a
 pa:∀a b c,p (p a b) c=p a (p b c)
 mc:∀a b,q a b=q b a
 ma:∀{a b c},a<N->b<N->c<N->q (q a b) c=q a (q b c)
 dl:∀a b c,q a (p b c)=p (q a b) (q a c)
 z:∀{a},a<N->p 0 a=a
 qz:∀a,q a 0=0
 one:∀{a},a<N->q 1 a=a
 lp:∀{a b},a<N->b<N->p a b<N
 lq:∀a b,q a b<N
 ng:∀{a},a<N->∃b,b<N/\p a b=0
section
variable{N:Nat}{p q:Nat->Nat->Nat}
noncomputable def sm(p:Nat->Nat->Nat):Nat->(Nat->Nat)->Nat
 | 0,_=>0
 | n+1,f=>p (sm p n f) (f n)
theorem Rg.pos(r:Rg N p q):0<N:=kH (ji _) (r.lq 0 0)
theorem Rg.z'(r:Rg N p q){a:Nat}(h:a<N):p a 0=a:=by rw[r.pc];exact r.z h
theorem Rg.can(r:Rg N p q){a b c:Nat}(ha:a<N)(hb:b<N)(hc:c<N)(h:p a c=p b c):a=b:=by
 obtain⟨d,_,e⟩:=r.ng hc
 have:=congrArg (λx=>p x d) h
 simp only[r.pa,e]at this
 rw[r.z' ha,r.z' hb]at this
 exact this
theorem di{f g:Nat->Nat}:∀{n:Nat},(∀j,j<n->f j=g j)->sm p n f=sm p n g
 | 0,_=>rfl
 | n+1,h=>by rw[sm,sm,di λj hj=>h j (by omega),h n (by omega)]
theorem kl(r:Rg N p q){f:Nat->Nat}:∀{n:Nat},(∀j,j<n->f j<N)->sm p n f<N
 | 0,_=>r.pos
 | n+1,h=>r.lp (kl r λj hj=>h j (by omega)) (h n (by omega))
theorem fv(r:Rg N p q){f:Nat->Nat}:∀{n:Nat},(∀j,j<n->f j=0)->sm p n f=0
 | 0,_=>rfl
 | n+1,h=>by rw[sm,fv r λj hj=>h j (by omega),h n (by omega)];exact r.z r.pos
theorem Rg.four(r:Rg N p q)(a b c d:Nat):p (p a b) (p c d)=p (p a c) (p b d):=by
 rw[r.pa,r.pa,<- r.pa b,<- r.pa c,r.pc b c]
theorem me(r:Rg N p q)(f g:Nat->Nat):∀n,sm p n (λj=>p (f j) (g j))=p (sm p n f) (sm p n g)
 | 0=>(r.z r.pos).symm
 | n+1=>by rw[sm,me r f g n,sm,sm,r.four]
theorem mf(r:Rg N p q)(c:Nat)(f:Nat->Nat):∀n,sm p n (λj=>q c (f j))=q c (sm p n f)
 | 0=>(r.qz c).symm
 | n+1=>by rw[sm,mf r c f n,sm,r.dl]
theorem E5(r:Rg N p q)(F:Nat->Nat->Nat)(k:Nat):∀n,sm p n (λi=>sm p k λj=>F i j)=sm p k λj=>sm p n λi=>F i j
 | 0=>(fv r λ_ _=>rfl).symm
 | n+1=>by
  rw[sm,E5 r F k n,<- me r];rfl
theorem Az(r:Rg N p q){f:Nat->Nat}(n:Nat):∀k,(∀j,j<n+k->f j<N)->sm p (n+k) f=p (sm p n f) (sm p k λj=>f (n+j))
 | 0,h=>(r.z' (kl r λj hj=>h j (by omega))).symm
 | k+1,h=>by
  rw[<-Nat.add_assoc,sm,Az r n k λj hj=>h j (by omega),sm,r.pa]
theorem PH(r:Rg N p q){f:Nat->Nat}{n n':Nat}(hn:n<=n')(h:∀j,j<n'->f j<N)(hz:∀j,n<=j->j<n'->f j=0):sm p n' f=sm p n f:=by
 obtain⟨k,rfl⟩:=UB hn
 rw[Az r n k h,fv r (f:=λj=>f (n+j)) λj hj=>hz _ (by omega) (by omega),r.z' (kl r λj hj=>h j (by omega))]
noncomputable def ds(p q:Nat->Nat->Nat)(s c:Nat->Nat)(n:Nat):Nat:=sm p (n+1) λj=>q (c j) (s (n-j))
theorem cv4(r:Rg N p q)(s c:Nat->Nat)(n:Nat):ds p q s c n<N:=kl r λj _=>r.lq _ _
noncomputable def fN(k:Nat)(b:Nat->Nat)(j:Nat):Nat:=if j<k then 0 else b (j-k)
theorem PJ(r:Rg N p q)(s b:Nat->Nat){k n:Nat}(h:k<=n):ds p q s (fN k b) n=ds p q s b (n-k):=by
 unfold ds
 obtain⟨d,rfl⟩:=UB h
 rw[show k+d+1=k+(d+1) by omega,Az r k (d+1) λj _=>r.lq _ _,fv r (n:=k),r.z (kl r λj _=>r.lq _ _)]
 ·rw[CJ]
  refine di λj _=>?_
  unfold fN
  rw[if_neg (by omega),CJ,show k+d-(k+j)=d-j by omega]
 ·intro j hj
  unfold fN
  rw[if_pos hj,r.mc,r.qz]
structure BI(N:Nat)(p q:Nat->Nat->Nat)(s:Nat->Nat)(n L:Nat)(c b:Nat->Nat)(o:Nat):Prop where
 c0:c 0=1
 cz:∀j,L<j->c j=0
 cl:∀j,c j<N
 ln:L<=n
 kp:∀i,L<=i->i<n->ds p q s c i=0
 mn:∀L1 c1,c1 0=1->(∀j,L1<j->c1 j=0)->(∀j,c1 j<N)->(∀i,L1<=i->i<n->ds p q s c1 i=0)->L<=L1
 b0:b 0=0
 bz:∀j,n+1-L<j->b j=0
 bl:∀j,b j<N
 bk:∀i,n+1-L<=i->i<n->ds p q s b i=0
 bo:n+1-L<=n->ds p q s b n=o
theorem PK(r:Rg N p q){b:Nat->Nat}(h:∀j,b j<N)(j:Nat):fN 1 b j<N:=by
 unfold fN
 split
 ·exact r.pos
 ·exact h _
theorem PL{b:Nat->Nat}{n:Nat}(h:∀j,n<j->b j=0)(j:Nat)(hj:n+1<j):fN 1 b j=0:=by
 unfold fN
 rw[if_neg (by omega)]
 exact h _ (by omega)
theorem BI.same(r:Rg N p q){s c b:Nat->Nat}{n L o:Nat}(I:BI N p q s n L c b o)(h:ds p q s c n=0):BI N p q s (n+1) L c (fN 1 b) o where
 c0:=I.c0
 cz:=I.cz
 cl:=I.cl
 ln:=by have:=I.ln;omega
 kp:=λi h1 h2=>by
  by_cases e:i=n
  ·rw[e];exact h
  ·exact I.kp i h1 (by omega)
 mn:=λL1 c1 h1 h2 h3 h4=>I.mn L1 c1 h1 h2 h3 λi a b=>h4 i a (by omega)
 b0:=rfl
 bz:=λj hj=>PL I.bz j (by have:=I.ln;omega)
 bl:=PK r I.bl
 bk:=λi h1 h2=>by
  have:=I.ln
  rw[PJ r s b (show 1<=i by omega)]
  exact I.bk _ (by omega) (by omega)
 bo:=λh1=>by
  rw[PJ r s b (by omega)]
  exact I.bo (by have:=I.ln;omega)
end
end L3
namespace L3
section
variable{N:Nat}{p q:Nat->Nat->Nat}
theorem PM{s:Nat->Nat}{j n:Nat}(h:n<j):fN j s n=0:=if_pos h
theorem xN(s:Nat->Nat){j n:Nat}(h:j<=n):fN j s n=s (n-j):=if_neg (by omega)
theorem Rg.zq(r:Rg N p q)(a:Nat):q 0 a=0:=by rw[r.mc];exact r.qz a
theorem AA(r:Rg N p q)(s c:Nat->Nat){n M:Nat}(h:n<M):ds p q s c n=sm p M λj=>q (c j) (fN j s n):=by
 unfold ds
 rw[PH r (show n+1<=M by omega) (λj _=>r.lq _ _) λj h1 _=>by rw[PM (by omega),r.qz]]
 exact di λj hj=>by rw[xN s (by omega)]
theorem b75(r:Rg N p q)(s a b:Nat->Nat)(n:Nat):ds p q s (λj=>p (a j) (b j)) n=p (ds p q s a n) (ds p q s b n):=by
 unfold ds
 rw[<-me r]
 exact di λj _=>by rw[r.mc (p _ _),r.dl,r.mc (a j),r.mc (b j)]
theorem b97(r:Rg N p q)(s t c:Nat->Nat)(n:Nat):ds p q (λj=>p (s j) (t j)) c n=p (ds p q s c n) (ds p q t c n):=by
 unfold ds
 rw[<-me r]
 exact di λj _=>r.dl _ _ _
theorem bT8(r:Rg N p q){a b s:Nat->Nat}(ha:∀j,a j<N)(hb:∀j,b j<N)(hs:∀j,s j<N)(n:Nat):ds p q s (ds p q b a) n=ds p q (ds p q s b) a n:=by
 have mZ:∀(s:Nat->Nat) (k j:Nat),(∀j,s j<N)->fN k s j<N:=λs k j h=>by
  unfold fN
  split
  ·exact r.pos
  ·exact h _
 rw[AA r (ds p q s b) a (qv n),AA r s (ds p q b a) (qv n)]
 have e1:sm p (n+1) (λk=>q (ds p q b a k) (fN k s n))=sm p (n+1) λk=>sm p (n+1) λi=>q (a i) (q (fN i b k) (fN k s n)):=di λk hk=>by
  rw[AA r b a hk,r.mc,<- mf r]
  exact di λi _=>by rw[r.mc,r.ma (ha i) (mZ b i k hb) (mZ s k n hs)]
 rw[e1,E5 r]
 refine di λi hi=>?_
 rw[mf r (a i)]
 congr 1
 rw[xN _ (by omega),AA r s b (show n-i<n+1-i by omega),show n+1=i+(n+1-i) by omega,Az r i _ λj _=>r.lq _ _,fv r (n:=i) λj hj=>by rw[PM hj,r.zq]]
 rw[r.z (kl r λj _=>r.lq _ _),CJ]
 refine di λj hj=>?_
 rw[xN b (by omega),CJ,xN s (by omega),xN s (by omega),show n-(i+j)=n-i-j by omega]
theorem cl1(r:Rg N p q){u s:Nat->Nat}{d e:Nat}(hu:∀j,d<=j->u j=0)(hs:∀j,e<=j->s j=0)(n:Nat)(h:d+e<=n):ds p q s u n=0:=fv r λj _=>by
 by_cases h1:d<=j
 ·rw[hu j h1,r.zq]
 ·rw[hs _ (by omega),r.qz]
noncomputable def Mk(N:Nat)(p q:Nat->Nat->Nat)(a r0 r1:Nat->Nat):Prop:=∃(u0 u1:Nat->Nat) (d:Nat),(∀j,u0 j<N)/\(∀j,u1 j<N)/\(∀j,d<=j->u0 j=0)/\(∀j,d<=j->u1 j=0)/\∀k,a k=p (ds p q r0 u0 k) (ds p q r1 u1 k)
theorem Mk.next(r:Rg N p q){a r0 r1 r2 t:Nat->Nat}{e:Nat}(h:Mk N p q a r0 r1)(l1:∀j,r1 j<N)(lt:∀j,t j<N)(ft:∀j,e<=j->t j=0)(h2:∀k,r0 k=p (ds p q r1 t k) (r2 k)):Mk N p q a r1 r2:=by
 obtain⟨u0,u1,d,a1,a2,a3,a4,a5⟩:=h
 refine⟨λj=>p (ds p q t u0 j) (u1 j),u0,d+e,λj=>r.lp (cv4 r _ _ _) (a2 j),a1,λj hj=>?_,λj hj=>a3 j (by omega),λk=>?_⟩
 ·show p (ds p q t u0 j) (u1 j)=0
  rw[cl1 r a3 ft j hj,a4 j (by omega)];exact r.z r.pos
 ·rw[a5 k,b75 r,bT8 r a1 lt l1,show r0=λk=>p (ds p q r1 t k) (r2 k) from funext h2,b97 r,r.pa,r.pa,r.pc (ds p q r2 u0 k)]
end
end L3
namespace L3
open PySem L2 Mf
theorem rg{m:Bool × Nat}(hm:m∈aF):Rg (ae m) (gp m) (gm m) where
 pc:=E1 m
 pa:=bV1 m
 mc:=gE m
 ma:=λ_ _ _=>je (cQ m hm) _ _ _
 dl:=λa b c=>cn7 (cQ m hm) b c a
 z:=Pw
 qz:=λa=>tD m a (cQ m hm)
 one:=jD
 lp:=cs8 hm
 lq:=dh hm
 ng:=λ{a} ha=>by
  have g:=nN hm (a:=0) (b:=a) (by omega) ha
  exact⟨_,g.2.1,(E1 m _ _).trans g.2.2⟩
theorem bV6(p:Nat->Nat->Nat)(l:List Nat):l.foldl p 0=sm p l.length λj=>l.getD j 0:=by
 have key:∀n,n<=l.length->(l.take n).foldl p 0=sm p n λj=>l.getD j 0:=by
  intro n
  induction n with
  | zero=>intro _;rfl
  | succ n ih =>
   intro h
   rw[yM,aN (by omega),yU,ih (by omega),sm,aQ,aN (show n<l.length by omega)]
   rfl
 have:=key l.length (aZ _)
 rw[LN]at this
 exact this
theorem ck4{m:Bool × Nat}(hm:m∈aF)(f:Nat)(b:List Nat)(j:Nat):cf (b.map (gm m f)) j=gm m f (cf b j):=by
 unfold cf
 rw[aQ,cy,aQ]
 cases b[j]? with
 | none=>exact(tD m f (cQ m hm)).symm
 | some x=>rfl
theorem PN{m:Bool × Nat}(hm:m∈aF){a b:Nat}(ha:a<ae m)(hb:b<ae m)(h0:b≠0):∃r,r<ae m/\gm m r b=a:=by
 by_cases a0:a=0
 ·exact⟨0,by have:=(dE hm).lo;omega,by rw[a0];exact hE m b (cQ m hm)⟩
 ·obtain⟨r,_,h1,h2⟩:=Pu hm (show 1<=a by omega) ha (show 1<=b by omega) hb
  exact⟨r,h1,h2⟩
theorem E6{p q:Nat->Nat->Nat}{s s' c:Nat->Nat}{n:Nat}(h:∀j,j<n+1->s j=s' j):ds p q s c n=ds p q s' c n:=di λj hj=>by rw[h (n-j) (by omega)]
theorem BI.other{N:Nat}{p q:Nat->Nat->Nat}(r:Rg N p q){s s' c b:Nat->Nat}{n L o:Nat}(I:BI N p q s n L c b o)(h:∀j,j<n->s j=s' j):BI N p q s' n L c b o where
 c0:=I.c0
 cz:=I.cz
 cl:=I.cl
 ln:=I.ln
 kp:=λi h1 h2=>by rw[<-E6 λj hj=>h j (by omega)];exact I.kp i h1 h2
 mn:=λL1 c1 h1 h2 h3 h4=>I.mn L1 c1 h1 h2 h3 λi a b=>by rw[E6 λj hj=>h j (by omega)];exact h4 i a b
 b0:=I.b0
 bz:=I.bz
 bl:=I.bl
 bk:=λi h1 h2=>by rw[<-E6 λj hj=>h j (by omega)];exact I.bk i h1 h2
 bo:=λh1=>by
  rw[<-I.bo h1]
  refine di λj hj=>?_
  by_cases e:j=0
  ·rw[e,I.b0,r.mc,r.qz,r.mc,r.qz]
  ·rw[h (n-j) (by omega)]
theorem BI.start{m:Bool × Nat}(hm:m∈aF)(s:Nat->Nat):BI (ae m) (gp m) (gm m) s 0 0 (cf [1]) (fN 1 (cf [1])) 1:=by
 have lo:=(dE hm).lo
 have cl:∀j,cf [1] j<ae m:=λj=>by
  cases j with
  | zero=>exact lo
  | succ j=>exact cG (show 0<2 by decide) lo
 have cz:∀j,0<j->cf [1] j=0:=λj hj=>jE (show([1]:List Nat).length<=j from hj)
 exact⟨rfl,cz,cl,aZ _,λi _ h=>absurd h (yV i),λ_ _ _ _ _ _=>ji _,rfl,λj hj=>PL cz j hj,PK (rg hm) cl,λi _ h=>absurd h (yV i),λh=>absurd h (by omega)⟩
end L3
namespace L3
open PySem L2 PySem.Spec PyProof.Rows
section
variable{X:Cx}{i j:Nat}{x y:Str}{p pos pos' apos bR:Pos}
end
section
variable{X:Cx}{e:Expr}{t:aI}{p pos:Pos}
end
section
variable{X:Cx}
theorem bV2(i:Int)(ns:List Int):oO (.int i) (ns.map V.int)=decide (i∈ns):=by
 unfold oO
 rw[List.any_map,qD,CC,decide_eq_true_iff]
 exact⟨λ⟨x,hx,he⟩=>(show x=i by simpa[i4]using he) ▸ hx,λhx=>⟨i,hx,by simp[i4]⟩⟩
noncomputable def p8:ck:=λx y Q=>match x,y with
 | .int i,.lst _ xs=>∃ns:List Int,xs=nums ns/\Q (.bl (!decide (i∈ns)))
 | _,_=>False
theorem PQ:bL X (compareOp .NotIn) p8 :=
 ⟨_,Xe,λ{B F H σ δ ts x y v w Q Qd} c sx sy h k=>by
  unfold p8 at h
  split at h
  ·rename_i i o xs
   obtain⟨ns,rfl,q⟩:=h
   obtain⟨p,ws,rfl,e1,s1⟩:=fJ sy c.ext
   have e:=z7 s1
   subst e
   cases sx
   refine⟨p,_,rfl,.inl (bu.of e1),rfl,by simp[jZ],?_⟩
   rw[if_pos rfl,bV2]
   exact k _ _ _ q (aa.refl _) (c.pushS (.bl .nil) rfl)
  ·exact h.elim⟩
end
end L3
namespace L3
open PySem L2 Mf
noncomputable def aG(o:Bool)(T:List (List Nat)):List D:=T.map λr=>.lst o (av r)
theorem km(o:Bool)(T:List (List Nat)):(aG o T).length=T.length:=by unfold aG;rw[bO]
theorem gh(o:Bool)(T:List (List Nat)):(aG o T).map D.sh=aG false T:=by
 unfold aG
 rw[dG]
 exact qF λr _=>E4 o r
theorem xO(T:List (List Nat)):(aG false T).all D.pl=true:=by
 unfold aG
 rw[oi,dy]
 intro r _
 show(D.lst false (av r)).pl=true
 rw[gX,nD];rfl
theorem E7(T:List (List Nat)):(aG true T).all D.fr=true:=by
 unfold aG
 rw[oi,dy]
 intro r _
 exact xK r
theorem p9(o:Bool)(S T:List (List Nat)):aG o S++aG o T=aG o (S++T):=by unfold aG;rw[jQ]
theorem xP(o:Bool)(T:List (List Nat))(lo hi:Option Int):eJ (aG o T) lo hi=aG o (eJ T lo hi):=by
 unfold aG eJ
 rw[bO,LS,LR]
theorem E8(o:Bool){T:List (List Nat)}{i:Nat}(h:i<T.length):dH (aG o T) (i:Int)=some (.lst o (av T[i])):=by
 refine L3.Dy ?_
 unfold aG
 rw[cy,aN h];rfl
theorem bF6(n:Nat)(o:Bool)(T:List (List Nat)):(aG o T).all (aL (n+1))=true:=by
 unfold aG
 rw[oi,dy]
 intro r _
 exact Px _ _ _
theorem iQ(n:Nat)(o o':Bool)(T:List (List Nat)):aL (n+2) (.lst o (aG o' T))=true:=bF6 n o' T
theorem PR(o o':Bool):∀(a b:List (List Nat)),bF.eU (aG o a) (aG o' b)=decide (a=b)
 | [],[]=>rfl
 | [],_::_=>by simp[aG,bF.eU]
 | _::_,[]=>by simp[aG,bF.eU]
 | x::xs,y::ys=>by
  show(bF (.lst o (av x)) (.lst o' (av y))&&bF.eU (aG o xs) (aG o' ys))=_
  rw[PR o o' xs ys,Aw,qD];simp
theorem qa(o o' o1 o2:Bool)(a b:List (List Nat)):bF (.lst o (aG o1 a)) (.lst o' (aG o2 b))=decide (a=b):=PR o1 o2 a b
open Classical in
theorem PU{α:Type}{sh:Bool}{xs:List D}{au:List (Str × Nat)}{n:Nat}{g0:fW}{tt:fj}{te:aI}{ao:Dl}{Q:D->Dl->Prop}(l:List α)(e g:α->D)(kp:α->Bool)(g8:xs.map D.sh=l.map e)(inj:∀a b,e a=e b->a=b)
  (hx:∀a∈l,g0 (e a) (e5 au n ao) λaM=>tt aM λb gA=>b=kp a/\(kp a=true->te gA λd _=>d=g a)) (dM:(sh&&au.all (g6 ao))=true\/∀a∈l,kp a=true->(g a).fr=true) (hl:l.length<=sizeLine) (hq:Q (.lst true ((l.filter kp).map g)) ao):ph sh xs au n g0 tt te ao Q:=by
 have pick:∀{β:Type} (h:α->β) (z:β),∃f:D->β,∀a∈l,f (e a)=h a:=λh z=>⟨λx=>if w:∃a∈l,e a=x then h w.choose else z,λa ha=>by
  have w:∃b∈l,e b=e a:=⟨a,ha,rfl⟩
  show(if w:∃b∈l,e b=e a then h w.choose else z)=h a
  rw[dif_pos w]
  exact congrArg h (inj _ _ w.choose_spec.2)⟩
 obtain⟨f,hf⟩:=pick g .ak
 obtain⟨p,hp⟩:=pick kp false
 refine⟨p,f,λx h=>?_,dM.imp id λh x cX=>?_,?_,?_⟩
 ·rw[g8]at h
  obtain⟨a,ha,rfl⟩:=bP.mp h
  rw[hp a ha,hf a ha]
  exact hx a ha
 ·rw[g8]at cX
  obtain⟨a,ha,rfl⟩:=bP.mp cX
  rw[hp a ha,hf a ha];exact h a ha
 ·have:=congrArg Cg g8
  simp at this
  omega
 ·rw[g8,List.filter_map,dG,show l.filter (p ∘ e)=l.filter kp from List.filter_congr λa ha=>hp a ha,show(l.filter kp).map (f ∘ e)=(l.filter kp).map g from qF λa ha=>hf a (u5.mp ha).1]
  exact hq
theorem bU7{o:Bool}{G:List (List Nat)}{i:Nat}{d:D}(h:(eV (aG o G))[i]?=some d):∃hi:i<G.length,d=.tup [.int i,.lst o (av G[i])]:=by
 unfold eV aG at h
 rw[yP,cy]at h
 by_cases hi:i<G.length
 ·rw[aN hi]at h
  exact⟨hi,(cM h).symm⟩
 ·rw[iq (by omega)]at h;cases h
theorem bS1(r:List Nat):(eV (av r)).map D.sh=(aR r.length).map λ(i:Nat)=>D.tup [.int (i:Int),.int ((r.getD i 0:Nat):Int)]:=by
 apply Cz
 intro i
 unfold eV
 rw[dN,cy,yP,cy,cy]
 by_cases hi:i<r.length
 ·have e:r.getD i 0=r[i]:=by rw[aQ,aN hi];rfl
  rw[aN hi,mQ hi]
  show _=some (D.tup [D.int (i:Int),D.int ((r.getD i 0:Nat):Int)])
  rw[e];rfl
 ·rw[iq (show r.length<=i by omega),iq (show(aR r.length).length<=i by simpa using hi)];rfl
theorem bO9{r:List Nat}(h:∃x∈r,x≠0):((aR r.length).filter λi=>r.getD i 0 != 0)[0]?=some (r.findIdx (· != 0)):=by
 obtain⟨x,hx,h0⟩:=h
 have hl:r.findIdx (· != 0)<r.length:=L4 ⟨x,hx,by simpa using h0⟩
 rw[<-List.head?_eq_getElem?,List.head?_filter,List.find?_range_eq_some]
 refine⟨?_,dO.mpr hl,λj hj=>?_⟩
 ·rw[aQ,aN hl]
  exact List.findIdx_getElem (w:=hl)
 ·have:=List.not_of_lt_findIdx hj
  rw[aQ,aN (by omega)]
  simpa using this
noncomputable def bq(T:List (List Nat)):Nat:=(T.headD []).length
noncomputable def iS(T:List (List Nat))(j:Nat):Option Nat:=T.findIdx? λr=>r.getD j 0 != 0
noncomputable def fw(m:Bool × Nat)(T:List (List Nat))(l:List Nat)(j:Nat):List (List Nat):=T.map λr=>fE (λx y=>cE m x (gm m (r.getD j 0) y)) r l
noncomputable def xQ(m:Bool × Nat)(b:Nat):Nat:=((aR (ae m)).find? λr=>gm m r b==1).getD 0
theorem PV{m:Bool × Nat}(hm:m∈aF){b r:Nat}(hr:r<ae m)(h:gm m r b=1):xQ m b=r:=by
 have m0:=cQ m hm
 unfold xQ
 cases e:(aR (ae m)).find? λr=>gm m r b==1 with
 | none =>
  have:=List.find?_eq_none.mp e r (dO.mpr hr)
  simp[h]at this
 | some r' =>
  have h':gm m r' b=1:=by simpa using List.find?_some e
  have l':r'<ae m:=dO.mp (Uw e)
  show r'=r
  rw[<-nL hr,<- h',<- je m0,gE m r r',je m0,h,nL l']
noncomputable def RT(N w:Nat)(T:List (List Nat)):Prop:=∀r∈T,r.length=w/\AllLt N r
theorem RT.app{N w:Nat}{S T:List (List Nat)}(a:RT N w S)(b:RT N w T):RT N w (S++T):=λr hr=>(cx.mp hr).elim (a r) (b r)
theorem PX{m:Bool × Nat}(hm:m∈aF){w j:Nat}{T:List (List Nat)}{l:List Nat}(h:RT (ae m) w T)(hl:l.length=w):RT (ae m) w (fw m T l j):=λr hr=>by
 obtain⟨r,h1,rfl⟩:=bP.mp hr
 obtain⟨a,b⟩:=h r h1
 exact⟨by rw[qJ,a,hl,Cv],PB λx hx y hy=>(nN hm (b x hx) (dh hm _ y)).2.1⟩
noncomputable def dj(m:Bool × Nat)(T:List (List Nat))(i p:Nat):List Nat:=(T.getD i []).map (gm m (xQ m ((T.getD i []).getD p 0)))
noncomputable def gi(m:Bool × Nat)(s:List (List Nat) × List (List Nat))(p:Nat):List (List Nat) × List (List Nat):=match iS s.2 p with
 | none=>s
 | some i=>(fw m s.1 (dj m s.2 i p) p++[dj m s.2 i p],fw m (s.2.take i++s.2.drop (i+1)) (dj m s.2 i p) p)
noncomputable def hJ(m:Bool × Nat)(G:List (List Nat))(k:Nat):List (List Nat) × List (List Nat):=(aR k).foldl (gi m) ([],G)
noncomputable def cw(m:Bool × Nat)(G:List (List Nat)):List (List Nat):=(hJ m G (bq G)).1
theorem E9(m:Bool × Nat)(G:List (List Nat))(k:Nat):hJ m G (k+1)=gi m (hJ m G k) k:=by
 unfold hJ
 rw[L5,yU];rfl
theorem AB{T:List (List Nat)}{j i:Nat}(h:iS T j=some i):∃hi:i<T.length,T[i].getD j 0≠0/\T.getD i []=T[i]:=by
 obtain⟨hi,h1,_⟩:=L6.mp h
 exact⟨hi,by simpa using h1,by rw[aQ,aN hi];rfl⟩
structure xR(N w n:Nat)(s:List (List Nat) × List (List Nat)):Prop where
 a:RT N w s.1
 b:RT N w s.2
 l:s.1.length+s.2.length<=n
theorem bT3{m:Bool × Nat}(hm:m∈aF){w n p:Nat}{s:List (List Nat) × List (List Nat)}(h:xR (ae m) w n s):xR (ae m) w n (gi m s p):=by
 unfold gi
 split
 ·exact h
 ·rename_i i e
  obtain⟨hi,h1,h2⟩:=AB e
  have hl:(dj m s.2 i p).length=w:=by unfold dj;rw[bO,h2];exact(h.b _ (eF hi)).1
  have hr:RT (ae m) w [dj m s.2 i p]:=λr hr=>by
   rw[e8]at hr
   refine⟨by rw[hr];exact hl,λx hx=>?_⟩
   rw[hr]at hx
   obtain⟨y,_,rfl⟩:=bP.mp hx
   exact dh hm _ _
  refine⟨(PX hm h.a hl).app hr,PX hm (λr hr=>h.b r ?_) hl,?_⟩
  ·rcases cx.mp hr with hr | hr
   ·exact yO hr
   ·exact Cy hr
  ·have:=h.l
   unfold fw
   rw[fB,bO,bO,fB,kD,mJ]
   show s.1.length+1+_<=n
   omega
theorem xS{m:Bool × Nat}(hm:m∈aF){w:Nat}{G:List (List Nat)}(h:RT (ae m) w G):∀k,xR (ae m) w G.length (hJ m G k)
 | 0=>⟨(λr hr=>nomatch hr),h,yE (Nat.zero_add _)⟩
 | k+1=>by rw[E9];exact bT3 hm (xS hm h k)
theorem PY(j:Nat)(l:List Nat):decide ((j:Int)∈l.map λ(n:Nat)=>(n:Int))=l.contains j:=by
 rw[qD,decide_eq_true_iff,CK,bP]
 exact⟨λ⟨a,h,e⟩=>(show a=j by omega) ▸ h,λh=>⟨j,h,rfl⟩⟩
theorem b90{o:Bool}{G:List (List Nat)}{f:List Nat->Nat}{k:Nat}{d:D}(h:(dw (av (G.map f)) (aG o G))[k]?=some d):∃hk:k<G.length,d=.tup [.int ((f G[k]:Nat):Int),.lst o (av G[k])]:=by
 unfold dw aG at h
 rw[dN,om,cy,cy,cy]at h
 by_cases hk:k<G.length
 ·rw[aN hk]at h
  exact⟨hk,(cM h).symm⟩
 ·rw[iq (by omega)]at h;cases h
theorem Fb{α:Type}(a:α->Nat)(b:α->Nat):∀(l:List α) (x:List Nat),(l.foldl (λx z=>x.set (a z) (b z)) x).length=x.length
 | [],_=>rfl
 | z::l,x=>by rw[vd,Fb a b l,mM]
end L3
namespace L2
open PySem PySem.Spec PyProof.Rows
theorem bC6{M:Model}{A:Around}{E:Value->Shared->Prop}{s:Shared}{scope:Scope}{globals:Addr}{cl:List (Str × Addr)}{qual:Str}{env:Env}{bi:Addr}{Q:Env->Shared->Prop}
  (hQ:Q (newEnv scope s.heap.objs.size globals (cellsFrom (s.heap.objs.size+1) scope.names cl) qual none .none (some env) bi) { s with heap:=pushCells (s.heap.push { cls:=.type "dict",data:=.dict #[] }) scope.names }) :
  wpAny M A (newFunctionEnv scope globals cl [] qual none .none (some env) bi) Q E s:=by
 simp only[newFunctionEnv,Option.isSome_some,if_true]
 refine wpAny_bind (wpAny_alloc (wpAny_bind (wpAny_layCells _ (λname kind cells=>by cases e:kind==CL<;>simp[e]) _ _ _ _ ?_)))
 rw[List.forIn_nil]
 refine wpAny_bind (wpAny_pure (wpAny_pure ?_))
 have z:({ s with heap:=s.heap.push { cls:=.type "dict",data:=.dict #[] } }:Shared).heap.objs.size=s.heap.objs.size+1:=jO ..
 rw[z]
 exact hQ
theorem xT:∀(ns:List (Str × NameKind)) (n:Nat) (acc:List (Str × Addr)) (y:Str) (c:Addr),(cellsFrom n ns acc).lookup y=some c->(n<=c/\(y,CL)∈ns)\/acc.lookup y=some c
 | [],_,_,_,_,h=>.inr h
 | (z,k)::r,n,acc,y,c,h=>by
  unfold cellsFrom at h
  split at h
  ·rename_i hk
   rcases xT r (n+1) _ y c h with⟨h1,h2⟩ | h1
   ·exact .inl ⟨by omega,fQ _ h2⟩
   ·rw[fc]at h1
    cases q:y==z with
    | true =>
     rw[q]at h1;cases h1
     exact .inl ⟨aZ _,by rw[eq_of_beq q,eq_of_beq hk];exact mF⟩
    | false=>rw[q]at h1;exact .inr h1
  ·rcases xT r n acc y c h with⟨h1,h2⟩ | h1
   ·exact .inl ⟨h1,fQ _ h2⟩
   ·exact .inr h1
theorem Fc:∀(ns:List (Str × NameKind)) (n:Nat) (acc:List (Str × Addr)),(∀y z c,acc.lookup y=some c->acc.lookup z=some c->y=z)->(∀y c,acc.lookup y=some c->c<n) ->
  ∀y z c,(cellsFrom n ns acc).lookup y=some c->(cellsFrom n ns acc).lookup z=some c->y=z
 | [],_,_,i,_,y,z,c,h1,h2=>i y z c h1 h2
 | (u,k)::r,n,acc,i,b,y,z,c,h1,h2=>by
  unfold cellsFrom at h1 h2
  split at h1
  ·rw[if_pos (by assumption)]at h2
   refine Fc r (n+1) ((u,n)::acc) (λy z c e1 e2=>?_) (λy c e=>?_) y z c h1 h2
   ·rw[fc]at e1 e2
    cases q1:y==u with
    | true =>
     rw[q1]at e1;cases e1
     cases q2:z==u with
     | true=>rw[eq_of_beq q1,eq_of_beq q2]
     | false=>rw[q2]at e2;exact absurd (b _ _ e2) (fP _)
    | false =>
     rw[q1]at e1
     cases q2:z==u with
     | true=>rw[q2]at e2;cases e2;exact absurd (b _ _ e1) (fP _)
     | false=>rw[q2]at e2;exact i y z c e1 e2
   ·rw[fc]at e
    cases q:y==u with
    | true=>rw[q]at e;cases e;exact qv _
    | false=>rw[q]at e;exact vi (b _ _ e)
  ·rw[if_neg (by assumption)]at h2
   exact Fc r n acc i b y z c h1 h2
theorem Fd:∀(ns:List (Str × NameKind)) (n:Nat) (acc:List (Str × Addr)) (y:Str) (c:Addr),(y,CL)∈ns->(cellsFrom n ns acc).lookup y=some c->n<=c
 | [],_,_,_,_,m,_=>nomatch m
 | (z,k)::r,n,acc,y,c,m,h=>by
  unfold cellsFrom at h
  split at h
  ·rename_i hk
   rcases bU.mp m with e | m
   ·have e1:y=z:=(Prod.mk.inj e).1
    rcases xT r (n+1) _ y c h with⟨h1,_⟩ | h1
    ·exact yW h1
    ·rw[fc,e1,beq_self_eq_true]at h1
     exact yE (cM h1)
   ·exact yW (Fd r (n+1) _ y c m h)
  ·rename_i hk
   rcases bU.mp m with e | m
   ·cases e;exact absurd rfl hk
   ·exact Fd r n acc y c m h
noncomputable def dm(X:Cx)(scope:Scope)(N:List Str)(cl:List (Str × Addr))(C:Addr)(s:Shared)(H:Hp)(fp:List Addr):Cx :=
 { zG X scope N (cellsFrom (C+1) scope.names cl) C s H fp with fn:=λy=>scope.names.contains (y,CL) }
section
variable{X:Cx}{scope:Scope}{cl:List (Str × Addr)}
theorem bQ3{pins:List (Addr × Obj)}{σ:St}{H:Hp}{s:Shared}{fp:List Addr}{C:Addr}(I:Inv X pins σ H s)(gP:scope.kind=.function)(hC:s.heap.objs.size<=C)
  (fM:∀y c,cl.lookup y=some c->X.env.cells.lookup y=some c) (cK3:∀y,((relabel scope X.env).names.lookup y=some .cell\/(relabel scope X.env).names.lookup y=some .free)->∃c,(cellsFrom (C+1) scope.names cl).lookup y=some c)
  (hf:∀b∈fp,gK X pins H b) (ho:∀b∈fp,∃o,s.heap.get? b=some o/\∀v,o.data≠.cell v) (N:List Str):(dm X scope N cl C s H fp).Ok where
 mod:=I.ok.mod
 kind:=gP
 glob:=I.ok.glob
 blt:=I.ok.blt
 above:=hC
 inj:=Fc scope.names (C+1) cl (λy z c h1 h2=>I.ok.inj y z c (fM _ _ h1) (fM _ _ h2)) λy c e=>by
  obtain⟨v,o,ho,_⟩:=I.cell y c (fM y c e)
  exact Nat.lt_succ_of_le (nZ (cG (br ho) hC))
 has:=cK3
 oB:=λy c h e=>dP hC (yW (Fd _ _ _ y c (CK.mp h) e))
 hd:=I.ok.hd
 frames:=I.ok.frames
 vt:=.inl rfl
 vv:=λb hb=>⟨by
  obtain⟨o,e,_⟩:=ho b hb
  exact cR (cG (br e) hC),λy c e z=>by
  rcases xT _ _ _ y c e with⟨h1,_⟩ | h1
  ·obtain⟨o,e,_⟩:=ho b hb
   rw[z]at h1
   exact absurd (cG (br e) (dP hC (yW h1))) (fP _)
  ·exact(hf b hb).2.2.2.2.1 y c (fM _ _ h1) z⟩
 bs:=I.bs
 gI:=dP I.ok.gI I.sz
 qN:=λb o e hb=>by
  rcases(hf b hb).2.2.2.1 with z | z
  ·exact I.ok.qN b o e z
  ·exact absurd (cG (br (I.ok.bs b o e).1) z) (fP _)
 qO:=λb hb z=>(bU.mp (I.vx b z)).elim (hf b hb).2.1 (hf b hb).2.2.1
 ff:=I.stack
 iy:=I.zj
end
theorem Fe:∀(ns:List (Str × NameKind)) (h:Heap) (acc:List (Str × Addr)) (y:Str) (c:Addr),(cellsFrom h.objs.size ns acc).lookup y=some c->(∃o,(pushCells h ns).get? c=some o/\o.data=.cell none)\/acc.lookup y=some c
 | [],_,_,_,_,e=>.inr e
 | (z,k)::r,h,acc,y,c,e=>by
  unfold cellsFrom at e
  unfold pushCells
  split at e
  ·rename_i hk
   rw[if_pos hk]
   rw[<-jO h { cls:=.type "cell",data:=.cell none }]at e
   rcases Fe r _ _ y c e with h1 | h1
   ·exact .inl h1
   ·rw[fc]at h1
    cases q:y==z with
    | true =>
     rw[q]at h1;cases h1
     exact .inl ⟨_,pushCells_keeps _ _ _ _ (dn _ rfl),rfl⟩
    | false=>rw[q]at h1;exact .inr h1
  ·rename_i hk
   rw[if_neg hk]
   exact Fe r h acc y c e
end L2
namespace L2
open PySem PySem.Spec PyProof.Rows
section
variable{X:Cx}{elt iter tg:Expr}{pos:Pos}{ifs:List Expr}{scope:Scope}{cl:List (Str × Addr)}{wi:TI}{tt:TT}{te:TE}{g:TG}
theorem PZ(au:List (Str × Nat))(bM:List Str)(hc:X.calm=true)(hi:PI X tg iter wi)
  (hg:∀C s H fp,PG (dm X scope (au.map (·.1)++bM) cl C s H fp) tg g)
  (ht:∀C s H fp,kT (dm X scope (au.map (·.1)++bM) cl C s H fp) ifs tt) (he:∀C s H fp,PE (dm X scope (au.map (·.1)++bM) cl C s H fp) elt te)
  (mh:closureFor scope X.env=pure cl) (mi:kU X cl) (mj:∀C:Addr,kW (cellsFrom (C+1) scope.names cl) (relabel scope X.env).names) (mm:∀C:Addr,kS X scope (cellsFrom (C+1) scope.names cl) au)
  (gP:scope.kind=.function) (mq:∀y∈scope.names,y.2=.local->scope.names.lookup y.1=some .local)
  (hs:∀x,foldedSetIterable iter X.env x=pure x:=by intro _;rfl) {pins:List (Addr × Obj)} {s:Shared} {σ:L2.St} {H:Hp} {Q:VK} {use:Option (Value->Sem Unit)} {bR:Pos} {Rf:Value->Shared->Prop} (I:Inv X pins σ H s) (h:zH wi au bM.length g tt te σ H Q)
  (cK4:∀(s':Shared) (H':Hp) (C Da:Addr) (m:Str->Option Value),Inv X pins σ H' s'->s'.heap.Ns C m->H' C=none->C≠X.env.locals->X.bY.heap.objs.size<=C->(∀x c,X.env.cells.lookup x=some c->c≠C)->(∀p∈X.pn++pins,p.1≠C)->C ∉ X.fs->Q (.ref Da) H' ->
   compPost (model X.prog X.w) X.A X.xe use Rf (.ref Da) C (.ok .next) s') :
  wpAny (model X.prog X.w) X.A (comprehension (.ListComp elt [⟨tg,iter,ifs,0⟩] scope pos) scope X.env bR (newList []) false (eval iter X.env) use) Rf X.xe s:=by
 have fM:=mi.all
 refine wpAny_comprehension_free (use:=use) rfl hs mh gP mq (aK (hi pins s σ H _ I h) λv s1 h1=>aK h1 λDg s2 h2=>?_)
 obtain⟨it,fp,tn,J,H2,e,I2,T,vI,f2,q⟩:=h2
 subst e
 refine wpAny_newList ?_
 refine bC6 ?_
 have hD:H2 s2.heap.objs.size=none:=I2.aA.fresh (aZ _)
 obtain⟨W,⟨m0,w0⟩,turn⟩:=q s2.heap.objs.size hD
 generalize Ff:s2.heap.push { cls:=.type "list",data:=.seq ([]:List Value).toArray }=g0 at ⊢
 have hCs:g0.objs.size=s2.heap.objs.size+1:=by rw[<-Ff,jO]
 have hDC:s2.heap.objs.size≠g0.objs.size:=by omega
 have hle:s2.heap.objs.size<=g0.objs.size:=by omega
 have qQ:∀b o,s2.heap.get? b=some o->b≠g0.objs.size:=λb o e=>cR (cG (br e) hle)
 obtain⟨g1,AD⟩:∃g1,g1=pushCells (g0.push { cls:=.type "dict",data:=.dict #[] }) scope.names:=⟨_,rfl⟩
 have ns1:g1.Ns g0.objs.size (λ_=>none):=by rw[AD];exact(Heap.Ns.new g0 (.type "dict")).keeps (pushCells_keeps _ _)
 have P0:∀b o,g0.get? b=some o->g1.get? b=some o:=λb o e=>by rw[AD];exact pushCells_keeps _ _ b o (cm _ e)
 have old:∀b o,s2.heap.get? b=some o->g1.get? b=some o:=λb o e=>P0 b o (Ff ▸ cm _ e)
 rw[<-AD]
 have hDg:g1.get? s2.heap.objs.size=some { cls:=.type "list",data:=.seq ([]:List Value).toArray }:=P0 _ _ (Ff ▸ dn _ rfl)
 have P1:∀b∈fp,∃o,s2.heap.get? b=some o/\∀v,o.data≠.cell v:=T.obj _ _ vI
 have AE:=bQ3 (scope:=scope) (cl:=cl) (C:=g0.objs.size) I2 gP hle fM (mj g0.objs.size).all f2 P1 (au.map (·.1)++bM)
 have I4:Inv (dm X scope (au.map (·.1)++bM) cl g0.objs.size s2 H2 fp) [] (fS au bM.length σ) (upd H2 s2.heap.objs.size (.lst [])) { s2 with heap:=g1 }:=by
  refine⟨AE,rfl,I2.bare,Un.laid old (aZ _) hD,⟨_,ns1,λi y v h1 h2 h3=>?_⟩,λy c e=>?_,?_,λy c e=>?_,λp hp=>absurd hp (by simp[dm,zG]),I2.aA.laid old (aZ _) ⟨ji _,[],0,.nil,hDg⟩,by simp[fS,dm,zG]⟩
  ·by_cases Fg:i<au.length
   case neg =>
    have iC:((au.map λp=>(σ[p.2]?).getD none)++aT bM.length none)[i]?=some (some v):=h2
    rw[u7 (by simpa using Fg),u9]at iC
    split at iC<;>cases iC
   case pos =>
    have i5:(au.map (·.1))[i]?=some y:=by
     have z:(au.map (·.1)++bM)[i]?=some y:=h1
     rwa [va (by simpa using Fg)]at z
    have iC:(au.map λp=>(σ[p.2]?).getD none)[i]?=some (some v):=by
     have z:((au.map λp=>(σ[p.2]?).getD none)++aT bM.length none)[i]?=some (some v):=h2
     rwa [va (by simpa using Fg)]at z
    rw[cy]at i5 iC
    cases hj:au[i]? with
    | none=>rw[hj]at i5;cases i5
    | some p =>
     rw[hj]at i5 iC
     have ey:p.1=y:=cM i5
     have ev:(σ[p.2]?).getD none=some v:=cM iC
     obtain⟨hN,hk,AF,c,e1,e2⟩:=(mm g0.objs.size).at p (n6 hj)
     obtain⟨m,hn,hl⟩:=I2.loc
     have es:σ[p.2]?=some (some v):=by
      cases z:σ[p.2]? with
      | none=>rw[z]at ev;cases ev
      | some o=>rw[z]at ev;exact congrArg some ev
     obtain⟨u,ru,lk⟩:=hl p.2 p.1 v hN es (hk.elim (λz=>.inr (.inl z)) λz=>.inr (.inr z))
     refine⟨u,ru,?_⟩
     rcases lk with⟨lk,_⟩ | ⟨_,c',e3,ic⟩
     ·rcases hk with hk | hk
      ·have:=hk.symm.trans lk;cases this
      ·have:=hk.symm.trans lk;cases this
     ·rw[e2]at e3
      cases e3
      subst ey
      obtain⟨oc,gJ,EM⟩:=ic
      exact .inr ⟨AF,c,e1,oc,old _ _ gJ,EM⟩
  ·rcases Fe _ _ _ y c (show(cellsFrom (g0.push { cls:=.type "dict",data:=.dict #[] }).objs.size scope.names cl).lookup y=some c by rw[jO];exact e)with h1 | h1
   ·rw[<-AD]at h1
    exact⟨none,h1⟩
   ·obtain⟨v,o,ho,hd⟩:=I2.cell y c (fM y c h1)
    exact⟨v,o,old _ _ ho,hd⟩
  ·show upd H2 _ _ g0.objs.size=none
   rw[aP (dF hDC)]
   exact I2.aA.fresh hle
  ·rcases xT _ _ _ y c e with⟨h1,_⟩ | h1
   ·rw[aP (yC (kH hle h1))]
    exact I2.aA.fresh (dP hle (yW h1))
   ·obtain⟨v,o,ho,hd⟩:=I2.cell y c (fM y c h1)
    rw[aP (cR (br ho))]
    exact I2.gn y c (fM y c h1)
 have fin:∀(s':Shared) (H':Hp) (ax:L2.St),Inv (dm X scope (au.map (·.1)++bM) cl g0.objs.size s2 H2 fp) [] ax H' s'->Q (.ref s2.heap.objs.size) H' ->
   compPost (model X.prog X.w) X.A X.xe use Rf (.ref s2.heap.objs.size) g0.objs.size (.ok .next) s':=by
  intro s' H' ax I' q'
  obtain⟨m,hn,_⟩:=I'.loc
  have u:=I'.base
  have hC':H' g0.objs.size=none:=I'.free
  have IX:Inv X pins σ H' s':=I2.U7 (s':=s') (ch:=fp) I'.os ⟨u.keep,u.slot,u.free,u.there,u.fG,u.fe,u.eP⟩ I'.aA I'.bare λb hb=>by
   obtain⟨_,y1,y2,y3,y4,y5⟩:=f2 b hb
   exact⟨y3,y1,y4,y5⟩
  have P2:∀b,(∃o,s2.heap.get? b=some o)->b≠g0.objs.size:=λb ⟨o,e⟩=>qQ b o e
  refine cK4 s' H' g0.objs.size s2.heap.objs.size m IX hn hC' (λz=>?_) (dP I2.sz hle) (λx c e z=>?_) (λp hp z=>?_) (λz=>?_) q'
  ·have h0:X.env.locals<s2.heap.objs.size:=I2.lt
   rw[<-z]at h0
   exact fP _ (cG h0 hle)
  ·obtain⟨v,o,ho,_⟩:=I2.cell x c e
   exact P2 c ⟨o,ho⟩ z
  ·exact P2 p.1 ⟨_,(I2.pin p hp).1⟩ z
  ·exact I2.Mg hle z
 have Fh:∀(H':Hp),(∀b∈fp,H' b=none)->∀b∈fp,gK (dm X scope (au.map (·.1)++bM) cl g0.objs.size s2 H2 fp) [] H' b:=λH' hn b hb =>
  ⟨hn b hb,(AE.vv b hb).1,AE.qO b hb,.inl hb,(AE.vv b hb).2,λp hp=>absurd hp (by simp[dm,zG])⟩
 have loop:codeAny (model X.prog X.w) X.A (.compLoop (.ListComp elt [⟨tg,iter,ifs,0⟩] scope pos) 0 (.ref it) (.ref s2.heap.objs.size) (compEnvC scope (cellsFrom (g0.objs.size+1) scope.names cl) g0.objs.size X.env))
   (compPost (model X.prog X.w) X.A X.xe use Rf (.ref s2.heap.objs.size) g0.objs.size) { s2 with heap:=g1 }:=by
  refine Yh (λn s'=>∃i acc H',Inv (dm X scope (au.map (·.1)++bM) cl g0.objs.size s2 H2 fp) [] (fS au bM.length σ) H' s'/\tn i s'.heap/\(∀b∈fp,H' b=none)/\W i n acc H') ?_ m0
   ⟨0,[],_,I4,T.keep _ _ _ vI λb hb o e=>old b o e,λb hb=>?_,w0⟩
  ·rintro n s' ⟨i,acc,H',I',mV,Aj,w'⟩
   obtain⟨pq,⟨stop,qn⟩ | ⟨go,step⟩⟩:=turn i n acc H' w'
   ·refine aK (T.done (dm X scope (au.map (·.1)++bM) cl g0.objs.size s2 H2 fp) rfl rfl rfl hc i [] s' _ H' (λ_ _=>False) I' (Fh H' Aj) mV stop) λr t1 zz=>?_
    obtain⟨hr,I1⟩:=zz
    subst hr
    exact fin _ _ _ I1 qn
   ·refine aK (T.item (dm X scope (au.map (·.1)++bM) cl g0.objs.size s2 H2 fp) rfl rfl rfl hc i [] s' _ H' (λ_ _=>False) I' (Fh H' Aj) mV go) λr t1 zz=>?_
    obtain⟨u,hr,h4⟩:=zz
    subst hr
    refine aK h4 λ_ t2 zz=>?_
    obtain⟨x5,H5,I5,r5,y5,oH,Dj⟩:=zz
    obtain⟨zU,st6⟩:=step x5 H5 y5
    have Dk:=I5.pinned (Fh H5 Dj) (T.obj _ _ oH)
    refine aK (hg _ _ _ _ _ t2 _ H5 x5 u _ Dk r5 st6) λ_ t3 zz=>?_
    obtain⟨Dm,H6,I6,⟨cL0,cL1⟩,st7⟩:=zz
    have back:∀(s7:Shared) (H7:Hp) (Fj:List V) (m7:Nat),Inv (dm X scope (au.map (·.1)++bM) cl g0.objs.size s2 H2 fp) ([]++vG fp t2.heap) Dm H7 s7->W (i+1) m7 Fj H7 ->
      ∃i acc H',Inv (dm X scope (au.map (·.1)++bM) cl g0.objs.size s2 H2 fp) [] (fS au bM.length σ) H' s7/\tn i s7.heap/\(∀b∈fp,H' b=none)/\W i m7 acc H':=λs7 H7 Fj m7 I7 w7 =>
     ⟨i+1,Fj,H7,(I7.vH).weak cL0.symm λj v z=>by
       by_cases hj:j<au.length
       ·rw[cL1 j hj];exact z
       ·have z':((au.map λp=>(σ[p.2]?).getD none)++aT bM.length none)[j]?=some (some v):=z
        rw[u7 (by simpa using hj),u9]at z'
        split at z'<;>(cases z'),
      T.keep _ _ _ oH λb hb o e=>(I7.pin (b,o) (dQ _ (dQ _ (zA hb e)))).1,λb hb=>by
       obtain⟨o,e,d⟩:=T.obj _ _ oH b hb
       exact(I7.pin (b,o) (dQ _ (dQ _ (zA hb e)))).2.1,w7⟩
    refine aK (ht _ _ _ _ _ t3 _ H6 _ I6 st7) λok t4 zz=>?_
    obtain⟨H7,I7,hD7,q7⟩:=zz
    cases ok with
    | false =>
     obtain⟨m',hm,w7⟩:=(show ∃m',m'<n/\W (i+1) m' acc H7 from q7)
     exact⟨m',hm,back t4 H7 acc m' I7 w7⟩
    | true =>
     refine aK (he _ _ _ _ _ t4 _ H7 _ I7 q7) λy t5 zz=>?_
     obtain⟨v8,H8,I8,r8,hD8,hl8,m',hm,w8⟩:=zz
     exact aK (M1 _ t5 _ H8 (.ref s2.heap.objs.size) [v8] (.ref s2.heap.objs.size) [y] (λ_ H9=>H9=upd H8 s2.heap.objs.size (.lst (acc++[v8]))) I8 rfl (.cons r8 .nil) ⟨_,acc,v8,rfl,rfl,hD8,hl8,rfl⟩) λ_ t6 zz=>by
      obtain⟨_,H9,I9,_,e9⟩:=zz
      subst e9
      exact⟨m',hm,back t6 _ _ m' I9 w8⟩
  ·obtain⟨o,e,_⟩:=P1 b hb
   rw[aP (cR (br e))]
   exact(f2 b hb).1
 exact codeAny_compStart_list loop (T.self _ 0 _ _ _ (T.keep _ _ _ vI λb hb o e=>old b o e) loop)
theorem bQ5(au:List (Str × Nat))(bM:List Str)(hc:X.calm=true)(hi:PI X tg iter wi)
  (hg:∀C s H fp,PG (dm X scope (au.map (·.1)++bM) cl C s H fp) tg g)
  (ht:∀C s H fp,kT (dm X scope (au.map (·.1)++bM) cl C s H fp) ifs tt) (he:∀C s H fp,PE (dm X scope (au.map (·.1)++bM) cl C s H fp) elt te)
  (mh:closureFor scope X.env=pure cl) (mi:kU X cl) (mj:∀C:Addr,kW (cellsFrom (C+1) scope.names cl) (relabel scope X.env).names) (mm:∀C:Addr,kS X scope (cellsFrom (C+1) scope.names cl) au)
  (gP:scope.kind=.function) (mq:∀y∈scope.names,y.2=.local->scope.names.lookup y.1=some .local)
  (hs:∀x,foldedSetIterable iter X.env x=pure x:=by intro _;rfl):PE X (.ListComp elt [⟨tg,iter,ifs,0⟩] scope pos) (zH wi au bM.length g tt te):=by
 intro pins s σ H Q I h
 rw[eval_ListComp]
 refine PZ au bM hc hi hg ht he mh mi mj mm gP mq hs I h λs' H' C Da m IX hn hC hL h1 h2 h3 h4 q'=>?_
 exact⟨m,hn,λh' sb=>⟨.ref Da,H',IX.turned (t':=s'.toks) (λb o hb e=>sb.extBut b o hb e) hC hL (.inr h1) h2 h3,rfl,q'⟩⟩
theorem bU5{i:Nat}{x:Str}{pos' apos:Pos}(hN:X.N.Nodup)(nC:X.N[i]?=some x)(hx:Loc X.env.scope x)(hf:X.fn x=true\/X.env.scope.names.lookup x=some .local)(au:List (Str × Nat))(bM:List Str)(hc:X.calm=true)(hi:PI X tg iter wi)
  (hg:∀C s H fp,PG (dm X scope (au.map (·.1)++bM) cl C s H fp) tg g)
  (ht:∀C s H fp,kT (dm X scope (au.map (·.1)++bM) cl C s H fp) ifs tt) (he:∀C s H fp,PE (dm X scope (au.map (·.1)++bM) cl C s H fp) elt te)
  (mh:closureFor scope X.env=pure cl) (mi:kU X cl) (mj:∀C:Addr,kW (cellsFrom (C+1) scope.names cl) (relabel scope X.env).names) (mm:∀C:Addr,kS X scope (cellsFrom (C+1) scope.names cl) au)
  (gP:scope.kind=.function) (mq:∀y∈scope.names,y.2=.local->scope.names.lookup y.1=some .local)
  (pM:swapsWith (.ListComp elt [⟨tg,iter,ifs,0⟩] scope pos) (some (.Name x pos')) apos.line X.env=pure true) (hs:∀x,foldedSetIterable iter X.env x=pure x:=by intro _;rfl):PS X (.Assign [.Name x pos'] (.ListComp elt [⟨tg,iter,ifs,0⟩] scope pos) apos) (Df (zH wi au bM.length g tt te) (zw i)):=by
 intro pins s σ H D I h
 rw[exec_Assign_Name_used x pos' _ apos pM]
 refine wpAny_bind (wpAny_standAt (wpAny_bind ?_))
 have hh:zH wi au bM.length g tt te σ H λv H1=>D.nx (σ.set i (some v)) H1:=h
 show wpAny _ _ (comprehension (.ListComp elt [⟨tg,iter,ifs,0⟩] scope pos) scope X.env (firstIterPos [⟨tg,iter,ifs,0⟩] pos) (newList []) false (eval iter X.env) (some (assign (.Name x pos') X.env)) >>= λ_=>pure ()) _ _ _
 refine wpAny_bind (PZ (use:=some (assign (.Name x pos') X.env)) (pos:=pos) au bM hc hi hg ht he mh mi mj mm gP mq hs I hh λs' H' C Da m IX hn hC hL h1 h2 h3 h4 q'=>?_)
 obtain⟨oC,es,ep,hoC,P4,eQ⟩:=id hn
 have IP:Inv X (pins++[(C,oC)]) σ H' s':=⟨IX.ok,IX.os,IX.bare,IX.base,IX.loc,IX.cell,IX.free,IX.gn,λp hp=>by
  rcases cx.mp hp with z | z
  ·exact IX.pin p (e7 _ z)
  ·rcases cx.mp z with z | z
   ·exact IX.pin p (dQ _ z)
   ·obtain rfl:=e8.mp z
    exact⟨hoC,hC,hL,h4,λv w=>by rw[P4]at w;cases w⟩,IX.aA,IX.len⟩
 refine aK (zx (X:=X) hN nC hx hf _ s' σ H' (.ref Da) (.ref Da) (λjV H2=>jV=σ.set i (some (.ref Da))/\H2=H') IP rfl ⟨rfl,rfl⟩) λ_ s2 zz=>?_
 obtain⟨jV,H2,I2,e1,e2⟩:=zz
 subst e1 e2
 have pC:=I2.pin (C,oC) (dQ _ (dQ _ (by simp)))
 refine⟨m,⟨oC,es,ep,pC.1,P4,eQ⟩,λh' sb=>wpAny_pure (wpAny_pure ?_)⟩
 exact⟨σ.set i (some (.ref Da)),H2,(I2.vH).turned (t':=s2.toks) (λb o hb e=>sb.extBut b o hb e) hC hL (.inr h1) h2 h3,q'⟩
end
end L2
namespace L3
open PySem L2 PySem.Spec PyProof.Rows
section
variable{X:Cx}{elt iter tg:Expr}{pos:Pos}{ifs:List Expr}{scope:Scope}{cl:List (Str × Addr)}{ti:iG}{tt:fj}{te:aI}{g:fW}
theorem fA(au:List (Str × Nat))(bM:List Str)(hc:X.calm=true)(hi:PI X tg iter (lI ti))
  (hg:∀C s H fp,PG (dm X scope (au.map (·.1)++bM) cl C s H fp) tg (lG au.length g))
  (ht:∀C s H fp,kT (dm X scope (au.map (·.1)++bM) cl C s H fp) ifs (lT tt)) (he:∀C s H fp,PE (dm X scope (au.map (·.1)++bM) cl C s H fp) elt (lE te))
  (mh:closureFor scope X.env=pure cl) (mi:kU X cl) (mj:∀C:Addr,kW (cellsFrom (C+1) scope.names cl) (relabel scope X.env).names) (mm:∀C:Addr,kS X scope (cellsFrom (C+1) scope.names cl) au)
  (gP:scope.kind=.function) (mq:∀y∈scope.names,y.2=.local->scope.names.lookup y.1=some .local)
  (hs:∀x,foldedSetIterable iter X.env x=pure x:=by intro _;rfl):PE X (.ListComp elt [⟨tg,iter,ifs,0⟩] scope pos) (lE (pj ti au bM.length g tt te)) :=
 cY (bQ5 au bM hc hi hg ht he mh mi mj mm gP mq hs) λσ H Q ⟨B,F,δ,ts,Qd,c,q,k⟩=>⟨B,F,δ,ts,_,c,q,λsh xs ao J F1 H1 hq f1 h1 c1 pk wq=>by
  obtain⟨p,f,hx,dM,hlen,hQ⟩:=hq
  exact N0 c1 pk wq p f hx dM hlen hQ λd ah v F' H' hd hf hs c'=>k d ah v F' H' hd (f1.trans hf) (h1.trans hs) c'⟩
theorem P5{i:Nat}{x:Str}{pos' apos:Pos}(hN:X.N.Nodup)(nC:X.N[i]?=some x)(hx:L2.Loc X.env.scope x)(au:List (Str × Nat))(bM:List Str)(hc:X.calm=true)(hi:PI X tg iter (lI ti))
  (hg:∀C s H fp,PG (dm X scope (au.map (·.1)++bM) cl C s H fp) tg (lG au.length g))
  (ht:∀C s H fp,kT (dm X scope (au.map (·.1)++bM) cl C s H fp) ifs (lT tt)) (he:∀C s H fp,PE (dm X scope (au.map (·.1)++bM) cl C s H fp) elt (lE te))
  (mh:closureFor scope X.env=pure cl) (mi:kU X cl) (mj:∀C:Addr,kW (cellsFrom (C+1) scope.names cl) (relabel scope X.env).names) (mm:∀C:Addr,kS X scope (cellsFrom (C+1) scope.names cl) au)
  (gP:scope.kind=.function) (mq:∀y∈scope.names,y.2=.local->scope.names.lookup y.1=some .local)
  (pM:swapsWith (.ListComp elt [⟨tg,iter,ifs,0⟩] scope pos) (some (.Name x pos')) apos.line X.env=pure true:=by rfl) (hf:X.fn x=true\/X.env.scope.names.lookup x=some .local:=by first | exact .inl rfl | exact .inr rfl)
  (hs:∀x,foldedSetIterable iter X.env x=pure x:=by intro _;rfl):PS X (.Assign [.Name x pos'] (.ListComp elt [⟨tg,iter,ifs,0⟩] scope pos) apos) (lS X (pf i (pj ti au bM.length g tt te))) :=
 j8 (bU5 hN nC hx hf au bM hc hi hg ht he mh mi mj mm gP mq pM hs) λEn σ H ⟨B,F,δ,Dd,c,q,k1,k2,k3,k4⟩=>⟨B,F,δ,[],_,c,q,λsh xs ao J F1 H1 hq f1 h1 c1 pk wq=>by
  obtain⟨p,f,hx,dM,hlen,hQ⟩:=hq
  exact N0 (Qd:=λd ah=>Dd.nx (ah.set i (some d))) c1 pk wq p f hx dM hlen hQ λd ah v F' H' hd hf hs c'=>k1 _ _ F' H' hd (c'.store i)⟩
end
end L3
namespace L3
open PySem L2 Mf
theorem lo1{m:Bool × Nat}(hm:m∈aF):1<ae m:=by have:=(dE hm).lo;omega
inductive Sp(N:Nat)(p q:Nat->Nat->Nat)(S:(Nat->Nat)->Prop):(Nat->Nat)->Prop
 | mem {f:Nat->Nat}:S f->Sp N p q S f
 | zero:Sp N p q S λ_=>0
 | add {f g:Nat->Nat}:Sp N p q S f->Sp N p q S g->Sp N p q S λk=>p (f k) (g k)
 | mul {f:Nat->Nat} (c:Nat):c<N->Sp N p q S f->Sp N p q S λk=>q c (f k)
theorem Sp.trans{N:Nat}{p q:Nat->Nat->Nat}{S S':(Nat->Nat)->Prop}(h:∀f,S f->Sp N p q S' f){f:Nat->Nat}(s:Sp N p q S f):Sp N p q S' f:=by
 induction s with
 | mem a=>exact h _ a
 | zero=>exact .zero
 | add _ _ a b=>exact .add a b
 | mul c hc _ a=>exact .mul c hc a
theorem Sp.lt{N:Nat}{p q:Nat->Nat->Nat}(r:Rg N p q){S:(Nat->Nat)->Prop}(h:∀f,S f->∀k,f k<N){f:Nat->Nat}(s:Sp N p q S f):∀k,f k<N:=by
 induction s with
 | mem a=>exact h _ a
 | zero=>exact λ_=>r.pos
 | add _ _ a b=>exact λk=>r.lp (a k) (b k)
 | mul c hc _ a=>exact λk=>r.lq _ _
noncomputable def Gn(T:List (List Nat))(f:Nat->Nat):Prop:=∃r∈T,f=cf r
noncomputable def bH(m:Bool × Nat)(T:List (List Nat))(f:Nat->Nat):Prop:=Sp (ae m) (gp m) (gm m) (Gn T) f
theorem Gn.lt{m:Bool × Nat}(hm:m∈aF){w:Nat}{T:List (List Nat)}(h:RT (ae m) w T)(f:Nat->Nat)(g:Gn T f):∀k,f k<ae m:=by
 obtain⟨r,hr,rfl⟩:=g
 exact fu hm (h r hr).2
theorem bH.of{m:Bool × Nat}{T:List (List Nat)}{r:List Nat}(h:r∈T):bH m T (cf r):=.mem ⟨r,h,rfl⟩
theorem bV8{m:Bool × Nat}(hm:m∈aF){a:Nat}(ha:a<ae m){f f' l:Nat->Nat}(Fl:∀k,f' k<ae m)(hl:∀k,l k<ae m)(h:∀k,gp m (f' k) (gm m a (l k))=f k):∃b,b<ae m/\f'=λk=>gp m (f k) (gm m b (l k)):=by
 have r:=rg hm
 obtain⟨b,hb,e⟩:=r.ng ha
 refine⟨b,hb,funext λk=>?_⟩
 rw[<-h k,r.pa,r.mc a,r.mc b,<- r.dl,e,r.qz,r.z' (Fl k)]
theorem Fm{m:Bool × Nat}(hm:m∈aF){r l:List Nat}{w:Nat}(hr:r.length=w)(hl:l.length=w)(a k:Nat):cf (fE (λx y=>cE m x (gm m a y)) r l) k=cE m (cf r k) (gm m a (cf l k)):=by
 by_cases h:k<w
 ·unfold cf
  rw[aQ,om,aN (by omega),aN (by omega),aQ,aN (by omega),aQ,aN (by omega)]
  rfl
 ·rw[jE (by rw[qJ];omega),jE (l:=r) (by omega),jE (l:=l) (by omega),tD m _ (cQ m hm),PF]
theorem Fo{m:Bool × Nat}(hm:m∈aF){r l:List Nat}{w a:Nat}(hr:r.length=w)(hl:l.length=w)(ar:AllLt (ae m) r)(k:Nat):gp m (cf (fE (λx y=>cE m x (gm m a y)) r l) k) (gm m a (cf l k))=cf r k:=by
 rw[Fm hm hr hl]
 exact(nN hm (fu hm ar k) (dh hm _ _)).2.2
theorem P6{m:Bool × Nat}(hm:m∈aF){r l:List Nat}{w:Nat}(hr:r.length=w)(hl:l.length=w)(ar:AllLt (ae m) r)(a k:Nat):cf (fE (λx y=>cE m x (gm m a y)) r l) k<ae m:=by
 rw[Fm hm hr hl]
 exact(nN hm (fu hm ar k) (dh hm _ _)).2.1
theorem P7{m:Bool × Nat}(hm:m∈aF){w p i:Nat}{T:List (List Nat)}(hT:RT (ae m) w T)(e:iS T p=some i):∃(g:List Nat) (c:Nat),g∈T/\T.getD i []=g/\g.length=w/\AllLt (ae m) g/\c<ae m/\gm m c (cf g p)=1/\(dj m T i p).length=w/\AllLt (ae m) (dj m T i p)/\(∀k,cf (dj m T i p) k=gm m c (cf g k))/\cf (dj m T i p) p=1/\∀k,gm m (cf g p) (cf (dj m T i p) k)=cf g k:=by
 obtain⟨hi,h1,h2⟩:=AB e
 obtain⟨a,b⟩:=hT _ (eF hi)
 have l1:1<ae m:=lo1 hm
 obtain⟨c,hc,AG⟩:=PN hm l1 (fu hm b p) h1
 have ec:xQ m (cf T[i] p)=c:=PV hm hc AG
 have el:dj m T i p=T[i].map (gm m c):=by unfold dj;rw[h2,<- ec];rfl
 have ek:∀k,cf (dj m T i p) k=gm m c (cf T[i] k):=λk=>by rw[el];exact ck4 hm _ _ _
 refine⟨T[i],c,eF hi,h2,a,b,hc,AG,by rw[el,bO,a],λx hx=>?_,ek,by rw[ek];exact AG,λk=>?_⟩
 ·rw[el]at hx
  obtain⟨y,_,rfl⟩:=bP.mp hx
  exact dh hm _ _
 ·rw[ek,<- je (cQ m hm),gE m _ c,AG,jD (fu hm b k)]
theorem P8{m:Bool × Nat}{s:List (List Nat) × List (List Nat)}{p i:Nat}(e:iS s.2 p=some i):gi m s p=(fw m s.1 (dj m s.2 i p) p++[dj m s.2 i p],fw m (s.2.take i++s.2.drop (i+1)) (dj m s.2 i p) p):=by unfold gi;rw[e]
theorem P9{m:Bool × Nat}{s:List (List Nat) × List (List Nat)}{p:Nat}(e:iS s.2 p=none):gi m s p=s:=by unfold gi;rw[e]
theorem AH{α:Type}{T:List α}{i:Nat}{r:α}(h:r∈T.take i++T.drop (i+1)):r∈T:=(cx.mp h).elim yO Cy
theorem bR6{α:Type}{T:List α}{i:Nat}{r:α}(h:r∈T)(hi:i<T.length):r=T[i]\/r∈T.take i++T.drop (i+1):=by
 obtain⟨j,hj,rfl⟩:=fC h
 rcases CM j i with h | h | h
 ·exact .inr (cx.mpr (.inl (List.mem_take_iff_getElem.mpr ⟨j,by omega,rfl⟩)))
 ·subst h;exact .inl rfl
 ·exact .inr (cx.mpr (.inr (List.mem_drop_iff_getElem.mpr ⟨j-(i+1),by omega,by congr 1;omega⟩)))
theorem bC1{m:Bool × Nat}(hm:m∈aF){w n p:Nat}{s:List (List Nat) × List (List Nat)}(h:xR (ae m) w n s)(f:Nat->Nat):bH m (s.1++s.2) f↔bH m ((gi m s p).1++(gi m s p).2) f:=by
 cases e:iS s.2 p with
 | none=>rw[P9 e]
 | some i =>
  obtain⟨g,c,g1,g2,g3,g4,c1,c2,l1,l2,l3,l4,l5⟩:=P7 hm h.b e
  obtain⟨hi,_,hg⟩:=AB e
  rw[P8 e]
  generalize dj m s.2 i p=l at l1 l2 l3 l4 l5
  have ll:=fu hm l2
  have row:∀{T:List (List Nat)},RT (ae m) w T->∀r'∈fw m T l p,∃r∈T,∃b,b<ae m/\cf r'=λk=>gp m (cf r k) (gm m b (cf l k)):=λ{T} hT r' bI=>by
   obtain⟨r,hr,rfl⟩:=bP.mp bI
   obtain⟨a1,a2⟩:=hT r hr
   exact⟨r,hr,bV8 hm (fu hm a2 p) (P6 hm a1 l1 a2 _) ll (Fo hm a1 l1 a2)⟩
  have Qa:∀{T:List (List Nat)},RT (ae m) w T->∀r∈T,∃r'∈fw m T l p,cf r=λk=>gp m (cf r' k) (gm m (cf r p) (cf l k)):=λ{T} hT r hr=>by
   obtain⟨a1,a2⟩:=hT r hr
   exact⟨_,bP.mpr ⟨r,hr,rfl⟩,funext λk=>(Fo hm a1 l1 a2 k).symm⟩
  have hB:RT (ae m) w (s.2.take i++s.2.drop (i+1)):=λr hr=>h.b r (AH hr)
  constructor
  ·refine Sp.trans ?_
   rintro f ⟨r,hr,rfl⟩
   have hl:bH m ((fw m s.1 l p++[l])++fw m (s.2.take i++s.2.drop (i+1)) l p) (cf l):=bH.of (by simp)
   rcases cx.mp hr with hr | hr
   ·obtain⟨r',h1,h2⟩:=Qa h.a r hr
    rw[h2]
    exact .add (bH.of (by simp[h1])) (.mul _ (fu hm (h.a r hr).2 p) hl)
   ·rcases bR6 hr hi with e' | bI
    ·have:cf r=λk=>gm m (cf g p) (cf l k):=funext λk=>by rw[l5 k,e',<- hg,g2]
     rw[this]
     exact .mul _ (fu hm g4 p) hl
    ·obtain⟨r',h1,h2⟩:=Qa hB r bI
     rw[h2]
     exact .add (bH.of (by simp[h1])) (.mul _ (fu hm (h.b r hr).2 p) hl)
  ·refine Sp.trans ?_
   rintro f ⟨r,hr,rfl⟩
   have hl:bH m (s.1++s.2) (cf l):=by
    have:cf l=λk=>gm m c (cf g k):=funext l3
    rw[this]
    exact .mul _ c1 (bH.of (dQ _ g1))
   rcases cx.mp hr with hr | hr
   ·rcases cx.mp hr with hr | hr
    ·obtain⟨r1,h1,b,hb,h2⟩:=row h.a r hr
     rw[h2]
     exact .add (bH.of (e7 _ h1)) (.mul _ hb hl)
    ·rw[e8]at hr
     rw[hr];exact hl
   ·obtain⟨r1,h1,b,hb,h2⟩:=row hB r hr
    rw[h2]
    exact .add (bH.of (dQ _ (AH h1))) (.mul _ hb hl)
structure RR(w:Nat)(R:List (List Nat))(H:Nat->Nat):Prop where
 u:∀i j,i<R.length->j<R.length->cf (R.getD i []) (H j)=if i=j then 1 else 0
 z:∀i,i<R.length->∀t,t<H i->cf (R.getD i []) t=0
 i:∀i j,i<j->j<R.length->H i<H j
 l:∀i,i<R.length->H i<w
theorem Fp{α β:Type}(f:α->β){l:List α}{i:Nat}(h:i<l.length)(a:α)(b:β):(l.map f).getD i b=f (l.getD i a):=by
 rw[aQ,cy,aQ,aN h];rfl
theorem cK{α:Type}{l:List α}{i:Nat}(h:i<l.length)(a:α):l.getD i a∈l:=by
 rw[aQ,aN h];exact eF h
theorem bt2{m:Bool × Nat}(hm:m∈aF){w n p:Nat}{s:List (List Nat) × List (List Nat)}(h:xR (ae m) w n s){H:Nat->Nat}(I:RR p s.1 H)(e2:∀r∈s.2,∀t,t<p->cf r t=0):∃H',RR (p+1) (gi m s p).1 H'/\∀r∈(gi m s p).2,∀t,t<p+1->cf r t=0:=by
 cases e:iS s.2 p with
 | none =>
  rw[P9 e]
  refine⟨H,⟨I.u,I.z,I.i,λi hi=>vi (I.l i hi)⟩,λr hr t ht=>?_⟩
  rcases vj t p with h1 | h1
  ·exact e2 r hr t h1
  ·have:=L7.mp e r hr
   have z:r.getD p 0=0:=by simpa using this
   rw[show t=p by omega]
   exact z
 | some i0 =>
  obtain⟨g,c,g1,g2,g3,g4,c1,c2,l1,l2,l3,l4,l5⟩:=P7 hm h.b e
  rw[P8 e]
  generalize dj m s.2 i0 p=l at l1 l2 l3 l4 l5
  have m0:=cQ m hm
  have lz:∀t,t<p->cf l t=0:=λt ht=>by rw[l3,e2 g g1 t ht,tD m _ m0]
  have xU:∀{r:List Nat},r.length=w->AllLt (ae m) r->(∀t,t<p->cf (fE (λx y=>cE m x (gm m (r.getD p 0) y)) r l) t=cf r t)/\cf (fE (λx y=>cE m x (gm m (r.getD p 0) y)) r l) p=0:=λ{r} a1 a2=>by
   constructor
   ·intro t ht
    have:=Fo hm (a:=r.getD p 0) a1 l1 a2 t
    rw[lz t ht,tD m _ m0,bS4 (P6 hm a1 l1 a2 _ _)]at this
    exact this
   ·rw[Fm hm a1 l1,l4]
    show cE m (r.getD p 0) (gm m (r.getD p 0) 1)=0
    rw[nL (show r.getD p 0<ae m from fu hm a2 p),PF]
  have nl:(fw m s.1 l p).length=s.1.length:=by unfold fw;rw[bO]
  have AI:∀i,i<s.1.length->∃r,s.1.getD i []=r/\r.length=w/\AllLt (ae m) r/\(fw m s.1 l p++[l]).getD i []=fE (λx y=>cE m x (gm m (r.getD p 0) y)) r l:=λi hi=>by
   refine⟨_,rfl,(h.a _ (cK hi [])).1,(h.a _ (cK hi [])).2,?_⟩
   rw[aQ,va (by omega),<- aQ]
   exact Fp _ hi [] []
  have Qb:(fw m s.1 l p++[l]).getD s.1.length []=l:=by
   rw[aQ,u7 (by omega),nl,yQ];rfl
  have le:(fw m s.1 l p++[l]).length=s.1.length+1:=by rw[fB,nl];rfl
  refine⟨λi=>if i<s.1.length then H i else p,⟨λi j hi hj=>?_,λi hi t ht=>?_,λi j xV hj=>?_,λi hi=>?_⟩,λr hr t ht=>?_⟩
  ·show cf ((fw m s.1 l p++[l]).getD i []) _=_
   dsimp only at hi hj ⊢
   rw[le]at hi hj
   by_cases h1:i<s.1.length
   ·obtain⟨r,r1,r2,r3,r4⟩:=AI i h1
    rw[r4]
    by_cases h2:j<s.1.length
    ·rw[if_pos h2,(xU r2 r3).1 _ (I.l j h2),<- r1]
     exact I.u i j h1 h2
    ·rw[if_neg h2,(xU r2 r3).2,if_neg (by omega)]
   ·have e1:i=s.1.length:=by omega
    rw[e1,Qb]
    by_cases h2:j<s.1.length
    ·rw[if_pos h2,lz _ (I.l j h2),if_neg (by omega)]
    ·rw[if_neg h2,l4,if_pos (by omega)]
  ·dsimp only at hi ht ⊢
   rw[le]at hi
   by_cases h1:i<s.1.length
   ·rw[if_pos h1]at ht
    obtain⟨r,r1,r2,r3,r4⟩:=AI i h1
    rw[r4,(xU r2 r3).1 _ (by have:=I.l i h1;omega),<- r1]
    exact I.z i h1 t ht
   ·rw[if_neg h1]at ht
    have e1:i=s.1.length:=by omega
    rw[e1,Qb];exact lz t ht
  ·dsimp only at hj ⊢
   rw[le]at hj
   rw[if_pos (by omega)]
   by_cases h2:j<s.1.length
   ·rw[if_pos h2];exact I.i i j xV h2
   ·rw[if_neg h2];exact I.l i (by omega)
  ·dsimp only at hi ⊢
   rw[le]at hi
   split
   ·have:=I.l i (by omega);omega
   ·omega
  ·obtain⟨r1,mr,rfl⟩:=bP.mp hr
   obtain⟨a1,a2⟩:=h.b r1 (AH mr)
   rcases vj t p with h1 | h1
   ·rw[(xU a1 a2).1 t h1];exact e2 _ (AH mr) t h1
   ·rw[show t=p by omega];exact(xU a1 a2).2
theorem Qc{m:Bool × Nat}(hm:m∈aF){w:Nat}{G:List (List Nat)}(h:RT (ae m) w G):∀k,(∃H,RR k (hJ m G k).1 H/\∀r∈(hJ m G k).2,∀t,t<k->cf r t=0)/\∀f,bH m G f↔bH m ((hJ m G k).1++(hJ m G k).2) f
 | 0=>⟨⟨λ_=>0,⟨(λ_ _ h=>nomatch h),(λ_ h=>nomatch h),(λ_ _ _ h=>nomatch h),(λ_ h=>nomatch h)⟩,λr _ t ht=>nomatch ht⟩,λf=>.rfl⟩
 | k+1=>by
  obtain⟨⟨H,h1,h2⟩,h3⟩:=Qc hm h k
  have D:=xS hm h k
  rw[E9]
  exact⟨bt2 hm D h1 h2,λf=>(h3 f).trans (bC1 hm D f)⟩
theorem xW{m:Bool × Nat}(hm:m∈aF){G:List (List Nat)}(h:RT (ae m) (bq G) G):(∃H,RR (bq G) (cw m G) H)/\RT (ae m) (bq G) (cw m G)/\(cw m G).length<=G.length/\∀f,bH m G f↔bH m (cw m G) f:=by
 obtain⟨⟨H,h1,h2⟩,h3⟩:=Qc hm h (bq G)
 have D:=xS hm h (bq G)
 refine⟨⟨H,h1⟩,D.a,by have:=D.l;show(hJ m G (bq G)).1.length<=_;omega,λf=>(h3 f).trans ⟨Sp.trans ?_,Sp.trans ?_⟩⟩
 ·rintro f ⟨r,hr,rfl⟩
  rcases cx.mp hr with hr | hr
  ·exact bH.of hr
  ·have:cf r=λ_=>0:=funext λt=>by
    rcases vj t (bq G)with h4 | h4
    ·exact h2 r hr t h4
    ·exact jE (by rw[(D.b r hr).1];exact h4)
   rw[this];exact .zero
 ·rintro f ⟨r,hr,rfl⟩
  exact bH.of (e7 _ hr)
theorem jF{N:Nat}{p q:Nat->Nat->Nat}(r:Rg N p q){f:Nat->Nat}{j0:Nat}(hf:f j0<N):∀{n:Nat},j0<n->(∀j,j<n->j≠j0->f j=0)->sm p n f=f j0
 | 0,h,_=>nomatch h
 | n+1,h,hz=>by
  rw[sm]
  by_cases e:j0=n
  ·subst e
   rw[fv r λj hj=>hz j (by omega) (by omega),r.z hf]
  ·rw[jF r hf (by omega) λj hj=>hz j (by omega),hz n (by omega) (by omega),r.z' hf]
theorem RR.own{m:Bool × Nat}(hm:m∈aF){w:Nat}{R:List (List Nat)}{H:Nat->Nat}(hR:RT (ae m) w R)(I:RR w R H){f:Nat->Nat}(s:bH m R f):∀k,f k=sm (gp m) R.length λi=>gm m (f (H i)) (cf (R.getD i []) k):=by
 have r:=rg hm
 have m0:=cQ m hm
 induction s with
 | mem a =>
  intro k
  obtain⟨x,hx,rfl⟩:=a
  obtain⟨i,hi,rfl⟩:=fC hx
  have ei:R[i]=R.getD i []:=by rw[aQ,aN hi];rfl
  have one:gm m (cf R[i] (H i)) (cf (R.getD i []) k)=cf R[i] k:=by
   rw[ei,I.u i i hi hi,if_pos rfl]
   exact jD (fu hm (hR _ (cK hi [])).2 k)
  refine((jF r (f:=λa=>gm m (cf R[i] (H a)) (cf (R.getD a []) k)) (j0:=i) (dh hm _ _) hi λj hj hn=>?_).trans one).symm
  rw[ei,I.u i j hi hj,if_neg (by omega),hE m _ m0]
 | zero=>exact λk=>(fv r λj _=>hE m _ m0).symm
 | add _ _ a b =>
  intro k
  dsimp only
  rw[a k,b k,<- me r]
  refine di λj _=>?_
  rw[r.mc (gp m _ _),r.dl,r.mc _ (cf _ k),r.mc _ (cf _ k)]
 | mul c hc _ a =>
  intro k
  dsimp only
  rw[a k,<- mf r]
  refine di λj _=>?_
  rw[je m0]
theorem bH.sum{m:Bool × Nat}(hm:m∈aF){w:Nat}{R:List (List Nat)}(hR:RT (ae m) w R){f:Nat->Nat}(s:bH m R f):∃c:Nat->Nat,(∀i,c i<ae m)/\∀k,f k=sm (gp m) R.length λi=>gm m (c i) (cf (R.getD i []) k):=by
 have r:=rg hm
 have m0:=cQ m hm
 have l1:=lo1 hm
 induction s with
 | mem a =>
  obtain⟨x,hx,rfl⟩:=a
  obtain⟨i,hi,rfl⟩:=fC hx
  have ei:R[i]=R.getD i []:=by rw[aQ,aN hi];rfl
  refine⟨λj=>if j=i then 1 else 0,λj=>by dsimp only;split<;>omega,λk=>?_⟩
  refine((jF r (f:=λa=>gm m (if a=i then 1 else 0) (cf (R.getD a []) k)) (j0:=i) (dh hm _ _) hi λj hj hn=>?_).trans ?_).symm
  ·rw[if_neg hn,hE m _ m0]
  ·rw[if_pos rfl,ei]
   exact jD (fu hm (hR _ (cK hi [])).2 k)
 | zero=>exact⟨λ_=>0,λ_=>r.pos,λk=>(fv r λj _=>hE m _ m0).symm⟩
 | add _ _ a b =>
  obtain⟨c,hc,a⟩:=a
  obtain⟨d,hd,b⟩:=b
  refine⟨λi=>gp m (c i) (d i),λi=>r.lp (hc i) (hd i),λk=>?_⟩
  dsimp only
  rw[a k,b k,<- me r]
  refine di λj _=>?_
  rw[r.mc (gp m _ _),r.dl,r.mc _ (cf _ k),r.mc _ (cf _ k)]
 | mul e he _ a =>
  obtain⟨c,hc,a⟩:=a
  refine⟨λi=>gm m e (c i),λi=>dh hm _ _,λk=>?_⟩
  dsimp only
  rw[a k,<- mf r]
  refine di λj _=>?_
  rw[je m0]
theorem bH.ann{m:Bool × Nat}(hm:m∈aF){R:List (List Nat)}{n:Nat}{y:Nat->Nat}(h:∀x∈R,sm (gp m) n (λj=>gm m (cf x j) (y j))=0){f:Nat->Nat}(s:bH m R f):sm (gp m) n (λj=>gm m (f j) (y j))=0:=by
 have r:=rg hm
 have m0:=cQ m hm
 induction s with
 | mem a=>obtain⟨x,hx,rfl⟩:=a;exact h x hx
 | zero=>exact fv r λj _=>hE m _ m0
 | @add f g _ _ a b =>
  rw[di (g:=λj=>gp m (gm m (f j) (y j)) (gm m (g j) (y j))) λj _=>by dsimp only;rw[r.mc (gp m _ _),r.dl,r.mc (y j),r.mc (y j)],me r,a,b,r.z r.pos]
 | @mul f e he _ a =>
  rw[di (g:=λj=>gm m e (gm m (f j) (y j))) λj _=>je m0 _ _ _,mf r,a,r.qz]
theorem RR.AJ{m:Bool × Nat}(hm:m∈aF){w:Nat}{R:List (List Nat)}{H:Nat->Nat}(hR:RT (ae m) w R)(I:RR w R H){i:Nat}(hi:i<R.length):(R.getD i []).findIdx (· != 0)=H i/\∃x∈R.getD i [],x≠0:=by
 have a:=(hR _ (cK hi [])).1
 have l:=I.l i hi
 have u:=I.u i i hi hi
 rw[if_pos rfl]at u
 have eu:(R.getD i [])[H i]'(by omega)=1:=by
  unfold cf at u
  rw[aQ (l:=R.getD i []),aN (by omega)]at u
  exact u
 refine⟨?_,_,eF (show H i<(R.getD i []).length by omega),by rw[eu];decide⟩
 rw[List.findIdx_eq (by omega)]
 refine⟨by rw[eu];rfl,λj hj=>?_⟩
 have z:=I.z i hi j hj
 unfold cf at z
 rw[aQ (l:=R.getD i []),aN (by omega)]at z
 simpa using z
theorem Qe{a b:List Nat}{w:Nat}(ha:a.length=w)(hb:b.length=w)(h:∀k,k<w->cf a k=cf b k):a=b:=by
 refine qH (ha.trans hb.symm) λk h1 h2=>?_
 have:=h k (by omega)
 unfold cf at this
 rw[aQ,aQ,aN h1,aN h2]at this
 exact this
theorem Fq(f:Nat->Nat){w k:Nat}(h:k<w):cf ((aR w).map f) k=f k:=by
 unfold cf
 rw[aQ,cy,mQ h];rfl
theorem Qf(m:Bool × Nat){xs ys:List Nat}(h:xs.length=ys.length):gd m xs ys=sm (gp m) xs.length λj=>gm m (cf xs j) (cf ys j):=by
 unfold gd
 rw[bV6,qJ,h,Cv]
 refine di λj hj=>?_
 unfold cf
 rw[aQ,om,aN (by omega),aN (by omega),aQ,aN (by omega),aQ,aN (by omega)]
 rfl
noncomputable def jf(m:Bool × Nat)(xs:List Nat)(T:List (List Nat))(w:Nat):List Nat:=(aR w).map λk=>gd m xs (T.map λr=>r.getD k 0)
theorem ck5{T:List (List Nat)}(k i:Nat):cf (T.map λr=>r.getD k 0) i=cf (T.getD i []) k:=by
 by_cases h:i<T.length
 ·exact Fp (λr:List Nat=>r.getD k 0) h [] 0
 ·rw[jE (by rw[bO];omega),aQ,iq (by omega)];rfl
theorem Qg(m:Bool × Nat)(xs:List Nat)(T:List (List Nat))(w:Nat):(jf m xs T w).length=w:=by unfold jf;rw[bO,cV]
theorem cq0(m:Bool × Nat){xs:List Nat}{T:List (List Nat)}{w k:Nat}(h:xs.length=T.length)(hk:k<w):cf (jf m xs T w) k=sm (gp m) T.length λi=>gm m (cf xs i) (cf (T.getD i []) k):=by
 unfold jf
 rw[Fq _ hk,Qf m (by rw[bO,h]),h]
 exact di λj _=>by rw[ck5]
theorem ck2{m:Bool × Nat}(hm:m∈aF){xs ys:List Nat}(h:xs.length=ys.length):gd m xs ys<ae m:=by
 rw[Qf m h];exact kl (rg hm) λj _=>dh hm _ _
theorem cj1{m:Bool × Nat}(hm:m∈aF){xs:List Nat}{T:List (List Nat)}(w:Nat)(h:xs.length=T.length):AllLt (ae m) (jf m xs T w):=λx hx=>by
 obtain⟨k,_,rfl⟩:=bP.mp hx
 exact ck2 hm (by rw[bO,h])
noncomputable def bD(r:List Nat):Nat:=r.findIdx (· != 0)
theorem AK{α:Type}(a b:α->Nat){j:Nat}:∀(l:List α) (x:List Nat),(∀z∈l,a z≠j)->cf (l.foldl (λx z=>x.set (a z) (b z)) x) j=cf x j
 | [],_,_=>rfl
 | z::l,x,h=>by
  rw[vd,AK a b l _ λy hy=>h y (fQ _ hy)]
  unfold cf
  rw[aQ,qt (h z mF),<- aQ]
theorem Qh{α:Type}(a b:α->Nat):∀(l:List α) (x:List Nat),l.Pairwise (λy z=>a y≠a z)->∀z∈l,a z<x.length->cf (l.foldl (λx z=>x.set (a z) (b z)) x) (a z)=b z
 | [],_,_,_,h,_=>nomatch h
 | y::l,x,hp,z,hz,hl=>by
  rw[vd]
  rw[vk]at hp
  rcases bU.mp hz with rfl | hz
  ·rw[AK a b l _ λy hy=>dF (hp.1 y hy)]
   unfold cf
   rw[aQ,Cf hl];rfl
  ·exact Qh a b l _ hp.2 z hz (by rw[mM];exact hl)
theorem Qi{α:Type}(a b:α->Nat):∀(l:List α) (x:List Nat),(l.foldl (λx z=>x.set (a z) (b z)) x).length=x.length
 | [],_=>rfl
 | z::l,x=>by rw[vd,Qi a b l,mM]
theorem Fs{m:Bool × Nat}(hm:m∈aF):∃e,e<ae m/\gp m 1 e=0/\e≠0/\∀{a b},a<ae m->b<ae m->(gp m a (gm m b e)=0↔a=b):=by
 have r:=rg hm
 obtain⟨e,he,h⟩:=r.ng (lo1 hm)
 refine⟨e,he,h,λz=>?_,λ{a b} ha hb=>?_⟩
 ·rw[z,r.z' (lo1 hm)]at h;omega
 ·have k:gp m b (gm m b e)=0:=by
   have:=r.dl b 1 e
   rw[h,r.qz,nL hb]at this
   exact this.symm
  exact⟨λh1=>r.can ha hb (dh hm b e) (h1.trans k.symm),λh1=>h1 ▸ k⟩
end L3
namespace L3
open PySem L2 Mf
noncomputable def bS(T:List (List Nat))(w:Nat):List Nat:=(aR w).filter λj=>!(T.map bD).contains j
noncomputable def cF(m:Bool × Nat)(T:List (List Nat))(w f:Nat):List Nat:=(((T.map bD).zip T).foldl (λx z=>x.set z.1 (cE m 0 (z.2.getD f 0))) ((aT w 0).set f 1))
noncomputable def fO(m:Bool × Nat)(T:List (List Nat))(w:Nat):List (List Nat):=(bS T w).map (cF m T w)
theorem RR.heads{m:Bool × Nat}(hm:m∈aF){w:Nat}{R:List (List Nat)}{H:Nat->Nat}(hR:RT (ae m) w R)(I:RR w R H):R.map bD=(aR R.length).map H:=by
 refine qH (by rw[bO,bO,cV]) λi h1 h2=>?_
 rw[bO]at h1
 rw[qI,qI,CN,<- (I.AJ hm hR h1).1,aQ,aN h1];rfl
theorem RR.mem{m:Bool × Nat}(hm:m∈aF){w:Nat}{R:List (List Nat)}{H:Nat->Nat}(hR:RT (ae m) w R)(I:RR w R H)(j:Nat):j∈R.map bD↔∃i,i<R.length/\H i=j:=by
 rw[I.heads hm hR,bP]
 exact⟨λ⟨i,a,b⟩=>⟨i,dO.mp a,b⟩,λ⟨i,a,b⟩=>⟨i,dO.mpr a,b⟩⟩
theorem RR.free{m:Bool × Nat}(hm:m∈aF){w:Nat}{R:List (List Nat)}{H:Nat->Nat}(hR:RT (ae m) w R)(I:RR w R H)(j:Nat):j∈bS R w↔j<w/\∀i,i<R.length->H i≠j:=by
 unfold bS
 rw[u5,dO,Bool.not_eq_true',<- Bool.not_eq_true,CK,I.mem hm hR]
 exact and_congr_right λ_=>⟨λh i a b=>h ⟨i,a,b⟩,λh ⟨i,a,b⟩=>h i a b⟩
theorem RR.cM6{m:Bool × Nat}(hm:m∈aF){w:Nat}{R:List (List Nat)}{H:Nat->Nat}(hR:RT (ae m) w R)(I:RR w R H):(bS R w).length+R.length=w:=by
 have nd:(R.map bD).Nodup:=by
  rw[I.heads hm hR]
  unfold List.Nodup
  rw[yX]
  intro i j hi hj xV
  rw[bO,cV]at hi hj
  rw[qI,qI,CN,CN]
  have:=I.i i j xV hj
  omega
 have pe:((aR w).filter λj=>(R.map bD).contains j).Perm (R.map bD):=by
  refine(List.perm_ext_iff_of_nodup (UC _ List.nodup_range) nd).mpr λj=>?_
  rw[u5,CK,dO]
  refine⟨λh=>h.2,λh=>⟨?_,h⟩⟩
  obtain⟨i,hi,rfl⟩:=(I.mem hm hR j).mp h
  exact I.l i hi
 have l1:=pe.length_eq
 rw[bO]at l1
 have l2:=List.length_eq_countP_add_countP (λj=>(R.map bD).contains j) (l:=aR w)
 rw[cV,UD,UD,l1]at l2
 unfold bS
 have e:((aR w).filter λa=>decide ¬(R.map bD).contains a=true)=(aR w).filter λj=>!(R.map bD).contains j:=List.filter_congr λx _=>by
  cases(R.map bD).contains x<;>rfl
 rw[e]at l2
 omega
theorem tG{m:Bool × Nat}(hm:m∈aF){w f:Nat}{R:List (List Nat)}{H:Nat->Nat}(hR:RT (ae m) w R)(I:RR w R H)(hf:f∈bS R w):(cF m R w f).length=w/\AllLt (ae m) (cF m R w f)/\cf (cF m R w f) f=1/\(∀i,i<R.length->cf (cF m R w f) (H i)=cE m 0 (cf (R.getD i []) f))/\∀j,j≠f->(∀i,i<R.length->H i≠j)->cf (cF m R w f) j=0:=by
 obtain⟨f1,f2⟩:=(I.free hm hR f).mp hf
 have l1:=lo1 hm
 have zl:((R.map bD).zip R).length=R.length:=by rw[CI,bO,Cv]
 have zg:∀i (h:i<R.length),((R.map bD).zip R)[i]'(by omega)=(H i,R.getD i []):=λi h=>by
  rw[List.getElem_zip,qI]
  have e:R.getD i []=R[i]:=by rw[aQ,aN h];rfl
  have:=(I.AJ hm hR h).1
  rw[e]at this ⊢
  exact Prod.ext this rfl
 have zm:∀z∈(R.map bD).zip R,∃i,i<R.length/\z=(H i,R.getD i []):=λz hz=>by
  obtain⟨i,hi,rfl⟩:=fC hz
  exact⟨i,by omega,zg i (by omega)⟩
 have mz:∀i,i<R.length->(H i,R.getD i [])∈(R.map bD).zip R:=λi h=>by
  rw[<-zg i h];exact eF _
 have bd:∀z∈(R.map bD).zip R,cE m 0 (z.2.getD f 0)<ae m:=λz hz=>by
  obtain⟨i,hi,rfl⟩:=zm z hz
  exact(nN hm (by omega) (fu hm (hR _ (cK hi [])).2 f)).2.1
 refine⟨?_,?_,?_,λi hi=>?_,λj hj hj2=>?_⟩
 ·unfold cF
  rw[Qi (λz:Nat × List Nat=>z.1) (λz=>cE m 0 (z.2.getD f 0)),mM,jj]
 ·have key:∀(l:List (Nat × List Nat)) (x:List Nat),(∀z∈l,cE m 0 (z.2.getD f 0)<ae m)->AllLt (ae m) x->AllLt (ae m) (l.foldl (λx z=>x.set z.1 (cE m 0 (z.2.getD f 0))) x):=by
   intro l
   induction l with
   | nil=>exact λx _ h=>h
   | cons z l ih =>
    intro x hz h
    rw[vd]
    refine ih _ (λy hy=>hz y (fQ _ hy)) λy hy=>?_
    rcases LX hy with h1 | h1
    ·exact h y h1
    ·rw[h1];exact hz z mF
  refine key _ _ bd λx hx=>?_
  rcases LX hx with h1 | h1
  ·rw[(LQ.mp h1).2];omega
  ·omega
 ·unfold cF
  rw[AK (λz:Nat × List Nat=>z.1) (λz=>cE m 0 (z.2.getD f 0)) _ _ λz hz=>?_]
  ·unfold cf
   rw[aQ,Cf (by rw[jj];exact f1)];rfl
  ·obtain⟨i,hi,rfl⟩:=zm z hz
   exact f2 i hi
 ·have hp:((R.map bD).zip R).Pairwise (λy z:Nat × List Nat=>y.1≠z.1):=by
   rw[yX]
   intro i j hi hj xV
   rw[zg i (by omega),zg j (by omega)]
   have:=I.i i j xV (by omega)
   show H i≠H j
   omega
  exact Qh (λz:Nat × List Nat=>z.1) (λz=>cE m 0 (z.2.getD f 0)) _ _ hp _ (mz i hi) (by rw[mM,jj];exact I.l i hi)
 ·unfold cF
  rw[AK (λz:Nat × List Nat=>z.1) (λz=>cE m 0 (z.2.getD f 0)) _ _ λz hz=>?_]
  ·unfold cf
   rw[aQ,qt (dF hj),u9]
   split<;>rfl
  ·obtain⟨i,hi,rfl⟩:=zm z hz
   exact hj2 i hi
theorem cp9{N:Nat}{p q:Nat->Nat->Nat}(r:Rg N p q){f:Nat->Nat}{a b n:Nat}(ha:a<n)(hb:b<n)(hn:a≠b)(fa:f a<N)(fb:f b<N)(hz:∀j,j<n->j≠a->j≠b->f j=0):sm p n f=p (f a) (f b):=by
 have h1:=jF r (f:=λj=>if j=a then f a else 0) (j0:=a) (n:=n) (by rw[if_pos rfl];exact fa) ha λj _ h=>if_neg h
 have h2:=jF r (f:=λj=>if j=b then f b else 0) (j0:=b) (n:=n) (by rw[if_pos rfl];exact fb) hb λj _ h=>if_neg h
 rw[if_pos rfl]at h1 h2
 rw[<-h1,<- h2,<- me r]
 refine di λj hj=>?_
 by_cases ja:j=a
 ·rw[if_pos ja,if_neg (by omega),r.z' fa,ja]
 ·by_cases jb:j=b
  ·rw[if_neg ja,if_pos jb,r.z fb,jb]
  ·rw[if_neg ja,if_neg jb,hz j hj ja jb,r.z r.pos]
noncomputable def dt(m:Bool × Nat)(w:Nat)(x y:Nat->Nat):Nat:=sm (gp m) w λj=>gm m (x j) (y j)
theorem Qj{m:Bool × Nat}(w:Nat)(x y:Nat->Nat):dt m w x y=dt m w y x:=di λ_ _=>gE m _ _
theorem Ft{m:Bool × Nat}(hm:m∈aF)(w:Nat)(x y z:Nat->Nat):dt m w x (λk=>gp m (y k) (z k))=gp m (dt m w x y) (dt m w x z):=by
 have r:=rg hm
 unfold dt
 rw[<-me r]
 exact di λj _=>r.dl _ _ _
theorem Fu{m:Bool × Nat}(hm:m∈aF)(w c:Nat)(x y:Nat->Nat):dt m w x (λk=>gm m c (y k))=gm m c (dt m w x y):=by
 have r:=rg hm
 have m0:=cQ m hm
 unfold dt
 rw[<-mf r]
 exact di λj _=>by rw[<-je m0,gE m (x j),je m0]
theorem Fv{m:Bool × Nat}(hm:m∈aF)(w:Nat)(x:Nat->Nat)(c:Nat->Nat)(F:Nat->Nat->Nat):∀n,dt m w x (λk=>sm (gp m) n λi=>gm m (c i) (F i k))=sm (gp m) n λi=>gm m (c i) (dt m w x (F i))
 | 0=>fv (rg hm) λj _=>(rg hm).qz _
 | n+1=>by
  rw[sm,<- Fv hm w x c F n,<- Fu hm,<- Ft hm];rfl
theorem xX{m:Bool × Nat}(hm:m∈aF){w f:Nat}{R:List (List Nat)}{H:Nat->Nat}(hR:RT (ae m) w R)(I:RR w R H)(hf:f∈bS R w){i:Nat}(hi:i<R.length):dt m w (cf (R.getD i [])) (cf (cF m R w f))=0:=by
 have r:=rg hm
 obtain⟨f1,f2⟩:=(I.free hm hR f).mp hf
 obtain⟨k1,k2,k3,k4,k5⟩:=tG hm hR I hf
 have il:=fu hm (hR _ (cK hi [])).2
 have g:=nN hm (a:=0) r.pos (il f)
 unfold dt
 rw[cp9 r (f:=λj=>gm m (cf (R.getD i []) j) (cf (cF m R w f) j)) (a:=H i) (b:=f) (I.l i hi) f1 (f2 i hi) (dh hm _ _) (dh hm _ _) λj hj ja jb=>?_]
 ·rw[k3,k4 i hi,I.u i i hi hi,if_pos rfl,jD g.2.1,nL (il f)]
  exact g.2.2
 ·by_cases c:∃i',i'<R.length/\H i'=j
  ·obtain⟨i',h1,rfl⟩:=c
   rw[I.u i i' hi h1,if_neg (λz:i=i'=>ja (by rw[z])),hE m _ (cQ m hm)]
  ·rw[k5 j jb λi' h1 h2=>c ⟨i',h1,h2⟩,r.qz]
theorem bH.dt{m:Bool × Nat}(hm:m∈aF){R:List (List Nat)}{n:Nat}{y:Nat->Nat}(h:∀i,i<R.length->dt m n (cf (R.getD i [])) y=0){f:Nat->Nat}(s:bH m R f):dt m n f y=0:=by
 refine s.ann hm λx hx=>?_
 obtain⟨i,hi,rfl⟩:=fC hx
 have:=h i hi
 rw[aQ,aN hi]at this
 exact this
theorem RR.ker{m:Bool × Nat}(hm:m∈aF){w:Nat}{R:List (List Nat)}{H:Nat->Nat}(hR:RT (ae m) w R)(I:RR w R H){z:Nat->Nat}(hz:∀k,z k<ae m)(h:∀i,i<R.length->dt m w (cf (R.getD i [])) z=0){k:Nat}(hk:k<w):z k=sm (gp m) (bS R w).length λa=>gm m (z ((bS R w).getD a 0)) (cf (cF m R w ((bS R w).getD a 0)) k):=by
 have r:=rg hm
 have m0:=cQ m hm
 obtain⟨e,e1,e2,e3,e4⟩:=Fs hm
 let z':=λk=>sm (gp m) (bS R w).length λa=>gm m (z ((bS R w).getD a 0)) (cf (cF m R w ((bS R w).getD a 0)) k)
 have Fw:∀k,z' k<ae m:=λk=>kl r λ_ _=>dh hm _ _
 let d:=λk=>gp m (z k) (gm m e (z' k))
 have dk:∀k,d k=0↔z k=z' k:=λk=>by
  show gp m (z k) (gm m e (z' k))=0↔_
  rw[gE m e]
  exact e4 (hz k) (Fw k)
 have dz:∀i,i<R.length->dt m w (cf (R.getD i [])) d=0:=λi hi=>by
  show dt m w (cf (R.getD i [])) (λk=>gp m (z k) (gm m e (z' k)))=0
  rw[Ft hm,Fu hm,h i hi,Fv hm,fv r λa ha=>?_,r.qz,r.z r.pos]
  rw[xX hm hR I (cK ha 0) hi,r.qz]
 have zf:∀f,f∈bS R w->z' f=z f:=λf hf=>by
  obtain⟨a,ha,rfl⟩:=fC hf
  have ea:(bS R w)[a]=(bS R w).getD a 0:=by rw[aQ,aN ha];rfl
  show sm (gp m) (bS R w).length (λb=>gm m (z ((bS R w).getD b 0)) (cf (cF m R w ((bS R w).getD b 0)) _))=_
  rw[ea,jF r (f:=λb=>gm m (z ((bS R w).getD b 0)) (cf (cF m R w ((bS R w).getD b 0)) ((bS R w).getD a 0))) (dh hm _ _) ha λb hb hn=>?_]
  ·rw[(tG hm hR I (cK ha 0)).2.2.1,nL (hz _)]
  ·have nd:(bS R w).Nodup:=UC _ List.nodup_range
   rw[(tG hm hR I (cK hb 0)).2.2.2.2 _ ?_ ((I.free hm hR _).mp (cK ha 0)).2,r.qz]
   intro c
   rw[aQ,aN ha,aQ,aN hb]at c
   exact hn ((List.getElem_inj nd).mp (cM (congrArg some c))).symm
 have key:d k=0:=by
  by_cases c:∃i,i<R.length/\H i=k
  ·obtain⟨i,hi,rfl⟩:=c
   have:=dz i hi
   unfold dt at this
   rw[jF r (f:=λj=>gm m (cf (R.getD i []) j) (d j)) (j0:=H i) (dh hm _ _) hk λj hj hn=>?_,I.u i i hi hi,if_pos rfl,jD (r.lp (hz _) (dh hm _ _))]at this
   ·exact this
   ·by_cases c:∃i',i'<R.length/\H i'=j
    ·obtain⟨i',h1,rfl⟩:=c
     rw[I.u i i' hi h1,if_neg (λz:i=i'=>hn (by rw[z])),hE m _ m0]
    ·have hf:=(I.free hm hR j).mpr ⟨hj,λi' h1 h2=>c ⟨i',h1,h2⟩⟩
     have:d j=0:=(dk j).mpr (zf j hf).symm
     rw[this,r.qz]
  ·have hf:=(I.free hm hR k).mpr ⟨hk,λi' h1 h2=>c ⟨i',h1,h2⟩⟩
   exact(dk k).mpr (zf k hf).symm
 exact(dk k).mp key
theorem AL{N n:Nat}{M:List (List Nat)}(h:RT N n M)(h0:M≠[]):bq M=n:=by
 cases M with
 | nil=>exact absurd rfl h0
 | cons g M=>exact(h g mF).1
theorem cx1{m:Bool × Nat}(hm:m∈aF){n:Nat}{M:List (List Nat)}(h:RT (ae m) n M)(hl:M.length<n):∃(x:Nat->Nat) (f:Nat),f<n/\(∀k,x k<ae m)/\x f=1/\∀i,i<M.length->dt m n (cf (M.getD i [])) x=0:=by
 by_cases h0:M=[]
 ·subst h0
  exact⟨λ_=>1,0,hl,λ_=>lo1 hm,rfl,λi hi=>nomatch hi⟩
 ·have hw:=AL h h0
  obtain⟨⟨H,I⟩,iR,il,sp⟩:=xW hm (G:=M) (by rw[hw];exact h)
  rw[hw]at I iR
  have fl:=I.cM6 hm iR
  have f0:0<(bS (cw m M) n).length:=by omega
  have hf:=cK f0 0
  obtain⟨k1,k2,k3,k4,k5⟩:=tG hm iR I hf
  refine⟨cf (cF m (cw m M) n ((bS (cw m M) n).getD 0 0)),_,((I.free hm iR _).mp hf).1,fu hm k2,k3,λi hi=>?_⟩
  exact bH.dt hm (λi' eH=>xX hm iR I hf eH) ((sp _).mp (bH.of (cK hi [])))
theorem RR.Qk{m:Bool × Nat}(hm:m∈aF){w v:Nat}{S R:List (List Nat)}{H:Nat->Nat}(hS:RT (ae m) w S)(I:RR w S H)(hR:RT (ae m) v R)(h:∀i,i<S.length->bH m R (cf (S.getD i []))):S.length<=R.length:=by
 have r:=rg hm
 refine yH λhl=>?_
 have hc:∀i,∃c:Nat->Nat,i<S.length->(∀j,c j<ae m)/\∀k,cf (S.getD i []) k=sm (gp m) R.length λj=>gm m (c j) (cf (R.getD j []) k):=λi=>by
  by_cases hi:i<S.length
  ·obtain⟨c,a,b⟩:=(h i hi).sum hm hR
   exact⟨c,λ_=>⟨a,b⟩⟩
  ·exact⟨λ_=>0,λz=>absurd z hi⟩
 obtain⟨C,hC⟩:=Classical.axiomOfChoice hc
 have cl:∀i,i<S.length->∀j,C i j<ae m:=λi hi=>(hC i hi).1
 obtain⟨x,f,f1,x1,x2,x3⟩:=cx1 hm (n:=S.length) (M:=(aR R.length).map λj=>(aR S.length).map λi=>C i j) (λy hy=>by
  obtain⟨j,_,rfl⟩:=bP.mp hy
  refine⟨by rw[bO,cV],λz hz=>?_⟩
  obtain⟨i,hi,rfl⟩:=bP.mp hz
  exact cl i (dO.mp hi) j) (by rw[bO,cV];exact hl)
 rw[bO,cV]at x3
 have x4:∀j,j<R.length->sm (gp m) S.length (λi=>gm m (C i j) (x i))=0:=λj hj=>by
  rw[<-x3 j hj]
  refine di λi hi=>?_
  rw[Fp (λj=>(aR S.length).map λi=>C i j) (by rw[cV];exact hj) 0 [],Fq _ hi,aQ,mQ hj];rfl
 have x5:∀k,sm (gp m) S.length (λi=>gm m (x i) (cf (S.getD i []) k))=0:=λk=>by
  rw[di (g:=λi=>sm (gp m) R.length λj=>gm m (gm m (C i j) (x i)) (cf (R.getD j []) k)) λi hi=>?_,E5 r,fv r λj hj=>?_]
  ·rw[di (g:=λi=>gm m (cf (R.getD j []) k) (gm m (C i j) (x i))) λi hi=>gE m _ _,mf r,x4 j hj,r.qz]
  ·rw[(hC i hi).2 k,<- mf r]
   exact di λj _=>by rw[<-je (cQ m hm),gE m (x i)]
 have:=x5 (H f)
 rw[jF r (f:=λi=>gm m (x i) (cf (S.getD i []) (H f))) (dh hm _ _) f1 λj hj hn=>by rw[I.u j f hj f1,if_neg hn,r.qz],I.u f f f1 f1,if_pos rfl,x2,jD (lo1 hm)]at this
 omega
theorem Sp.sm{N:Nat}{p q:Nat->Nat->Nat}{S:(Nat->Nat)->Prop}{c:Nat->Nat}{F:Nat->Nat->Nat}:∀{n:Nat},(∀i,i<n->c i<N)->(∀i,i<n->Sp N p q S (F i))->Sp N p q S λk=>L3.sm p n λi=>q (c i) (F i k)
 | 0,_,_=>.zero
 | n+1,hc,h=>.add (Sp.sm (λi hi=>hc i (by omega)) λi hi=>h i (by omega)) (.mul _ (hc n (by omega)) (h n (by omega)))
theorem xY{T:List (List Nat)}{i:Nat}(h:i<T.length):T.getD i []=T[i]:=by rw[aQ,aN h];rfl
theorem bH.red{m:Bool × Nat}(hm:m∈aF){G:List (List Nat)}(hG:RT (ae m) (bq G) G){f:Nat->Nat}(h:bH m G f):bH m (cw m G) f:=((xW hm hG).2.2.2 f).mp h
end L3
namespace L3
open PySem L2 PySem.Spec PyProof.Rows
section
variable{X:Cx}{F H:Hp}{e b:Expr}{pos pos' p p2 p3 apos bR:Pos}{ti te:aI}{x y:Str}{i j:Nat}
theorem R.rev:∀{xs:List D} {ws:List V} {A:List Addr},R F H xs ws A->A.Nodup->∃A',R F H xs.reverse ws.reverse A'/\A'.Nodup/\∀a∈A',a∈A
 | [],_,A,r,nd=>by cases r;exact⟨[],.nil,by simp,by simp⟩
 | d::ds,_,A,r,nd=>by
  obtain⟨w,dv,B1,B2,rfl,rfl,h1,h2⟩:=r.cL
  obtain⟨n1,n2,n3⟩:=fi.mp nd
  obtain⟨A',r',iF,sub⟩:=R.rev h2 n2
  refine⟨A'++B1,?_,fi.mpr ⟨iF,n1,λa ha hb=>n3 a hb (sub a ha)⟩,λa ha=>?_⟩
  ·rw[Cj,Cj]
   exact r'.append h1
  ·rcases cx.mp ha with z | z
   ·simp[sub a z]
   ·simp[z]
noncomputable def tH(i:Nat):cC:=λD δ=>∃xs,δ[i]?=some (some (.lst true xs))/\D.nx (δ.set i (some (.lst true xs.reverse)))
theorem bL0(hN:X.N[i]?=some x)(hv:jT X.env.scope x)(hd:(x==("__debug__":Str))=false:=by decide)(cA:(x==("__classdict__":Str))=false:=by decide)
  (ju:attributeBase (.Name x p) "reverse" X.env (eval (.Name x p) X.env)=eval (.Name x p) X.env:=by rfl) (jv:(apos.endLine==bR.line)=true:=by rfl)
  (pM:swapsWith (.Call (.Attribute (.Name x p) "reverse" apos) [] [] bR) none pos.line X.env=pure false:=by rfl) :
  PS X (.Expr (.Call (.Attribute (.Name x p) "reverse" apos) [] [] bR) pos) (lS X (tH i)) :=
 j8 (zt (MW PySem.F.plainAttrs_list PySem.F.slot_list_reverse PySem.F.type_list_reverse Xn (oE hN hv hd cA) ju jv) pM) λEn σ H zz=>by
  obtain⟨B,F,δ,Dd,c,⟨ys,ey,hn⟩,k1,k2,k3,k4⟩:=zz
  obtain⟨p0,wc,g1,g2,g3⟩:=c.ownAt ey
  refine⟨.ref p0,g1,.inl ⟨rfl,_,bu.of g2⟩,p0,wc,rfl,rfl,g2,k1 _ _ F _ hn ?_⟩
  exact aj.mut (ps:=[]) c ey g1 λdv A1 A2 h r1 r2 nd=>by
   rw[g2]at h;cases h
   obtain⟨A',r',iF,sub⟩:=r1.rev (fi.mp nd).1
   exact⟨A',r',iF,λa ha=>e7 _ (sub a ha)⟩
end
section
variable{X:Cx}
end
section
variable{X:Cx}{es:List Expr}{tr:cq}{pos:Pos}
end
end L3
namespace L3
open PySem L2 Mf
theorem RR.lead{m:Bool × Nat}(hm:m∈aF){w:Nat}{R:List (List Nat)}{H:Nat->Nat}(hR:RT (ae m) w R)(I:RR w R H){f:Nat->Nat}(s:bH m R f){t:Nat}(h1:f t≠0)(h2:∀j,j<t->f j=0):∃i,i<R.length/\H i=t:=by
 refine Up λc=>h1 ?_
 rw[I.own hm hR s t]
 refine fv (rg hm) λi hi=>?_
 rcases CM (H i) t with h | h | h
 ·rw[h2 _ h,hE m _ (cQ m hm)]
 ·exact absurd ⟨i,hi,h⟩ c
 ·rw[I.z i hi t h,(rg hm).qz]
theorem RR.same{m:Bool × Nat}(hm:m∈aF){w:Nat}{R R':List (List Nat)}{H H':Nat->Nat}(hR:RT (ae m) w R)(I:RR w R H)(AM:RT (ae m) w R')(I':RR w R' H')(h:∀x∈R,bH m R' (cf x))(h':∀x∈R',bH m R (cf x)):R=R':=by
 have l:R.length=R'.length:=Nat.le_antisymm (I.Qk hm hR AM λi hi=>h _ (cK hi [])) (I'.Qk hm AM hR λi hi=>h' _ (cK hi []))
 have a:∀i,i<R.length->∃j,j<R'.length/\H' j=H i:=λi hi=>I'.lead hm AM (h _ (cK hi [])) (by rw[I.u i i hi hi,if_pos rfl];decide) λj hj=>I.z i hi j hj
 have a':∀i,i<R'.length->∃j,j<R.length/\H j=H' i:=λi hi=>I.lead hm hR (h' _ (cK hi [])) (by rw[I'.u i i hi hi,if_pos rfl];decide) λj hj=>I'.z i hi j hj
 have e:∀n i,i<n->i<R.length->H i=H' i:=by
  intro n
  induction n with
  | zero=>exact λi hi=>nomatch hi
  | succ n ih =>
   intro i hi hl
   by_cases hn:i<n
   ·exact ih i hn hl
   obtain rfl:i=n:=by omega
   obtain⟨j,j1,j2⟩:=a i hl
   obtain⟨j',j3,j4⟩:=a' i (by omega)
   have b1:i<=j:=yH λc=>by
    have:=ih j c (by omega)
    have:=I.i j i c hl
    omega
   have b2:i<=j':=yH λc=>by
    have:=ih j' c (by omega)
    have:=I'.i j' i c (by omega)
    omega
   have c1:H' i<=H' j:=by
    rcases vj i j with c | c
    ·exact nZ (I'.i i j c j1)
    ·rw[show i=j by omega];exact aZ _
   have c2:H i<=H j':=by
    rcases vj i j' with c | c
    ·exact nZ (I.i i j' c j3)
    ·rw[show i=j' by omega];exact aZ _
   omega
 refine qH l λi h1 h2=>?_
 rw[<-xY h1,<- xY h2]
 refine Qe (hR _ (cK h1 [])).1 (AM _ (cK h2 [])).1 λk _=>?_
 rw[I.own hm hR (h' _ (cK h2 [])) k,jF (rg hm) (f:=λj=>gm m (cf (R'.getD i []) (H j)) (cf (R.getD j []) k)) (dh hm _ _) h1 λj hj hn=>?_]
 ·rw[e (i+1) i (by omega) h1,I'.u i i h2 h2,if_pos rfl,jD (fu hm (hR _ (cK h1 [])).2 k)]
 ·rw[e (j+1) j (by omega) hj,I'.u i j h2 (by omega),if_neg (λz:i=j=>hn z.symm),hE m _ (cQ m hm)]
theorem Ql{m:Bool × Nat}(hm:m∈aF){A T:List (List Nat)}{H:Nat->Nat}(hT:RT (ae m) (bq T) T)(hA:RT (ae m) (bq T) A)(I:RR (bq T) A H)(h:∀x∈T,bH m A (cf x))(h':∀x∈A,bH m T (cf x)):cw m T=A:=by
 obtain⟨⟨H1,I1⟩,iR,il,sp⟩:=xW hm hT
 refine I1.same hm iR hA I (λx hx=>?_) λx hx=>(sp _).mp (h' x hx)
 refine Sp.trans (λf hf=>?_) ((sp _).mpr (bH.of hx))
 obtain⟨y,hy,rfl⟩:=hf
 exact h y hy
theorem bT1{m:Bool × Nat}(hm:m∈aF){w:Nat}{A T:List (List Nat)}(hA:RT (ae m) w A)(h:∀i,i<A.length->∃r∈T,∃c:Nat->Nat,(∀j,c j<ae m)/\c i≠0/\∀k,cf r k=sm (gp m) (i+1) λj=>gm m (c j) (cf (A.getD j []) k)):∀n i,i<n->i<A.length->bH m T (cf (A.getD i [])):=by
 intro n
 have r:=rg hm
 have m0:=cQ m hm
 obtain⟨e,e1,e2,e3,e4⟩:=Fs hm
 induction n with
 | zero=>exact λi hi=>nomatch hi
 | succ n ih =>
  intro i hi hl
  by_cases hn:i<n
  ·exact ih i hn hl
  obtain rfl:i=n:=by omega
  obtain⟨x,hx,c,c1,c2,c3⟩:=h i hl
  obtain⟨d,d1,d2⟩:=PN hm (lo1 hm) (c1 i) c2
  have la:=fu hm (hA _ (cK hl [])).2
  have:cf (A.getD i [])=λk=>gm m d (gp m (cf x k) (gm m e (sm (gp m) i λj=>gm m (c j) (cf (A.getD j []) k)))):=funext λk=>by
   have hs:sm (gp m) i (λj=>gm m (c j) (cf (A.getD j []) k))<ae m:=kl r λ_ _=>dh hm _ _
   rw[c3 k,sm,r.pc (sm _ _ _),r.pa,gE m e,(e4 hs hs).mpr rfl,r.z' (dh hm _ _),<- je m0,d2,jD (la k)]
  rw[this]
  exact .mul d d1 (.add (bH.of hx) (.mul e e1 (Sp.sm (λj _=>c1 j) λj hj=>ih j hj (by omega))))
theorem RR.cN3{m:Bool × Nat}(hm:m∈aF){w:Nat}{R:List (List Nat)}{H:Nat->Nat}(hR:RT (ae m) w R)(I:RR w R H){z:Nat->Nat}(hz:∀k,z k<ae m)(h:∀f,f∈bS R w->dt m w (cf (cF m R w f)) z=0){k:Nat}(hk:k<w):z k=sm (gp m) R.length λi=>gm m (z (H i)) (cf (R.getD i []) k):=by
 have r:=rg hm
 have m0:=cQ m hm
 obtain⟨e,e1,e2,e3,e4⟩:=Fs hm
 let z':=λk=>sm (gp m) R.length λi=>gm m (z (H i)) (cf (R.getD i []) k)
 have Fw:∀k,z' k<ae m:=λk=>kl r λ_ _=>dh hm _ _
 let d:=λk=>gp m (z k) (gm m e (z' k))
 have hd:∀k,d k<ae m:=λk=>r.lp (hz k) (dh hm _ _)
 have dk:∀k,d k=0↔z k=z' k:=λk=>by
  show gp m (z k) (gm m e (z' k))=0↔_
  rw[gE m e]
  exact e4 (hz k) (Fw k)
 have zh:∀i,i<R.length->d (H i)=0:=λi hi=>(dk _).mpr (by
  show _=sm (gp m) R.length λa=>gm m (z (H a)) (cf (R.getD a []) (H i))
  rw[jF r (f:=λa=>gm m (z (H a)) (cf (R.getD a []) (H i))) (dh hm _ _) hi λj hj hn=>by rw[I.u j i hj hi,if_neg hn,r.qz],I.u i i hi hi,if_pos rfl,nL (hz _)])
 have dz:∀f,f∈bS R w->dt m w (cf (cF m R w f)) d=0:=λf hf=>by
  show dt m w _ (λk=>gp m (z k) (gm m e (z' k)))=0
  rw[Ft hm,Fu hm,h f hf,Fv hm,fv r λa ha=>?_,r.qz,r.z r.pos]
  rw[Qj,xX hm hR I hf ha,r.qz]
 refine(dk k).mp ?_
 by_cases c:∃i,i<R.length/\H i=k
 ·obtain⟨i,hi,rfl⟩:=c
  exact zh i hi
 ·have hf:=(I.free hm hR k).mpr ⟨hk,λi' h1 h2=>c ⟨i',h1,h2⟩⟩
  obtain⟨k1,k2,k3,k4,k5⟩:=tG hm hR I hf
  have:=dz k hf
  unfold dt at this
  rw[jF r (f:=λj=>gm m (cf (cF m R w k) j) (d j)) (j0:=k) (dh hm _ _) hk λj hj hn=>?_,k3,jD (hd k)]at this
  ·exact this
  ·by_cases c:∃i',i'<R.length/\H i'=j
   ·obtain⟨i',h1,rfl⟩:=c
    rw[zh i' h1,r.qz]
   ·rw[k5 j hn λi' h1 h2=>c ⟨i',h1,h2⟩,hE m _ m0]
end L3
namespace L3
open PySem L2 Mf
noncomputable def xZ(n i:Nat):List Nat:=(aR n).map λj=>if j=i then 1 else 0
theorem Qm(n i:Nat):(xZ n i).length=n:=by unfold xZ;rw[bO,cV]
theorem co1{n i j:Nat}(h:i<n):cf (xZ n i) j=if j=i then 1 else 0:=by
 by_cases hj:j<n
 ·exact Fq _ hj
 ·rw[jE (by rw[Qm];omega),if_neg (by omega)]
theorem AN(a b:List Nat)(k:Nat):cf (a++b) k=if k<a.length then cf a k else cf b (k-a.length):=by
 unfold cf
 rw[aQ,List.getElem?_append]
 split<;>rw[aQ]
theorem cc9{m:Bool × Nat}(hm:m∈aF){G:List (List Nat)}(hG:RT (ae m) (bq G) G){f:Nat}(hf:f∈bS (cw m G) (bq G)):∀r∈G,dt m (bq G) (cf r) (cf (cF m (cw m G) (bq G) f))=0:=λr hr=>by
 obtain⟨⟨H,I⟩,iR,il,sp⟩:=xW hm hG
 exact bH.dt hm (λi hi=>xX hm iR I hf hi) ((sp _).mp (bH.of hr))
end L3
namespace L3
open PySem L2 Mf
theorem cn1{r:List Nat}{k v:Nat}(hk:k<r.length)(j:Nat):cf (r.set k v) j=if j=k then v else cf r j:=by
 unfold cf
 rw[aQ,List.getElem?_set,aQ]
 by_cases h:k=j
 ·subst h
  rw[if_pos rfl,if_pos rfl,if_pos hk];rfl
 ·rw[if_neg h,if_neg (dF h)]
end L3
namespace L2
open PySem PySem.Spec PyProof.Rows
section
variable{X:Cx}
end
end L2
namespace L3
open PySem L2 PySem.Spec PyProof.Rows
section
variable{X:Cx}
end
end L3
namespace L2
open PySem PySem.Spec PyProof.Rows
section
variable{X:Cx}{a:Expr}{ta:TE}{p p2 pos AO:Pos}
end
end L2
namespace L3
open PySem L2 PySem.Spec PyProof.Rows
section
variable{X:Cx}{a:Expr}{t:aI}{p p2 pos AO:Pos}
end
end L3
namespace L3
open PySem L2 PySem.Spec PyProof.Rows
section
variable{F H:Hp}
end
section
variable{X:Cx}{e:Expr}{t:aI}{p2 pos:Pos}
end
end L3
namespace L3
open PySem L2 PySem.Spec PyProof.Rows
noncomputable def DL(A:List Addr)(H:Hp):Hp:=λa=>if a∈A then none else H a
section
variable{F H:Hp}
end
section
variable{P:Program}{w:World}{K:PySem.W.Frag}{mg:Str->Option Value}{base:Heap}
end
section
variable{X:Cx}{CX:dS}{n i:Nat}{f:Addr}{fd:FuncData}{ps:List Str}{sp:bC}{E:XK}{fn x:Str}{e:Expr}{te:aI}{p p2 pos pos' AO:Pos}
end
end L3
namespace L2
section
variable{α:Type}{P:List α->Prop}
theorem cp1(h:P []):∀us:List α,us.length=0->P us:=by
 intro us hl;rcases us with _ | ⟨a,t⟩
 ·exact h
 ·cases hl
theorem iT(h:∀a,P [a]):∀us:List α,us.length=1->P us:=by
 intro us hl;rcases us with _ | ⟨a,t⟩
 ·cases hl
 ·exact cp1 (P:=λt=>P (a::t)) (h a) t (vm hl)
theorem hV(h:∀a b,P [a,b]):∀us:List α,us.length=2->P us:=by
 intro us hl;rcases us with _ | ⟨a,t⟩
 ·cases hl
 ·exact iT (P:=λt=>P (a::t)) (h a) t (vm hl)
theorem iU(h:∀a b c,P [a,b,c]):∀us:List α,us.length=3->P us:=by
 intro us hl;rcases us with _ | ⟨a,t⟩
 ·cases hl
 ·exact hV (P:=λt=>P (a::t)) (h a) t (vm hl)
theorem nO(h:∀a b c d,P [a,b,c,d]):∀us:List α,us.length=4->P us:=by
 intro us hl;rcases us with _ | ⟨a,t⟩
 ·cases hl
 ·exact iU (P:=λt=>P (a::t)) (h a) t (vm hl)
theorem Qn(h:∀a b c d e,P [a,b,c,d,e]):∀us:List α,us.length=5->P us:=by
 intro us hl;rcases us with _ | ⟨a,t⟩
 ·cases hl
 ·exact nO (P:=λt=>P (a::t)) (h a) t (vm hl)
theorem ck9(h:∀a b c d e f,P [a,b,c,d,e,f]):∀us:List α,us.length=6->P us:=by
 intro us hl;rcases us with _ | ⟨a,t⟩
 ·cases hl
 ·exact Qn (P:=λt=>P (a::t)) (h a) t (vm hl)
end
end L2
namespace L3
open PySem L2 PySem.Spec PyProof.Rows
section
variable{B:Bs}{F H:Hp}{σ:L2.St}{δ:Dl}{ts:List (D × V)}
theorem aj.apart{j:Nat}{p q:Addr}{xs ys:List D}(c:aj B F H σ δ ((.lst true xs,.ref q)::ts))(e:δ[j]?=some (some (.lst true ys)))(e2:σ[j]?=some (some (.ref p))):p≠q:=by
 obtain⟨A,C,r,s,nd,fr⟩:=c.own
 obtain⟨v,A',C',e1,h1,h2,pm⟩:=s.pick e
 rw[e2]at e1;cases e1
 intro z
 subst z
 have i1:p∈A:=by
  cases r with
  | own h f x r=>simp
 have i2:p∈C:=by
  refine pm.mem_iff.mpr ?_
  cases h1 with
  | own h f x r=>simp
 exact(fi.mp nd).2.2 p i1 i2
theorem Fx(F H:Hp):∀ns:List Int,R F H (nums ns) (ns.map V.int) []
 | []=>.nil
 | _::ns=>.int (Fx F H ns)
end
section
variable{X:Cx}{elt iter tg:Expr}{pos:Pos}{scope:Scope}{cl:List (Str × Addr)}{ti:iG}{te:aI}{g:fW}
end
end L3
namespace L2
open PySem PySem.Spec PyProof.Rows
section
variable{X:Cx}
theorem Qo:∀{ns:List Int} {its:List Value},PyProof.Rows.IntsAre its ns->Vals (ns.map V.int) its
 | _,_,.nil=>.nil
 | _,_,.cons n t r=>.cons ⟨t,rfl⟩ (Qo r)
end
end L2
namespace L3
open PySem L2 PySem.Spec PyProof.Rows
section
variable{X:Cx}
end
end L3
namespace L3
open PySem L2 Mf
noncomputable def AQ(l:List Nat)(z:Nat->Nat):Nat->List Nat
 | 0=>l
 | t+1=>(AQ l z t).eraseIdx (z t%(AQ l z t).length)
noncomputable def drawn(l:List Nat)(z:Nat->Nat)(t:Nat):Nat:=(AQ l z t).getD (z t%(AQ l z t).length) 0
theorem AR{α:Type}:∀(l:List α) (i:Nat) (h:i<l.length),(l[i]::l.eraseIdx i).Perm l
 | a::l,0,_=>CO _
 | a::l,i+1,h=>by
  have h':i<l.length:=by simpa using h
  show(l[i]::a::l.eraseIdx i).Perm (a::l)
  exact(List.Perm.swap _ _ _).trans (List.Perm.cons a (AR l i h'))
end L3
namespace L3
open PySem L2 Mf
section
variable{m:Bool × Nat}{C:Nat->Nat->Nat}{w:Nat}
end
end L3
namespace L3
open PySem L2 Mf
section
variable{m:Bool × Nat}{C:Nat->Nat->Nat}{w:Nat}
end
end L3
namespace L3
open PySem L2 Mf
section
variable{m:Bool × Nat}{C:Nat->Nat->Nat}
end
end L3
namespace L3
open PySem L2 PySem.Spec PyProof.Rows
section
variable{B:Bs}{F H:Hp}{σ:L2.St}{δ:Dl}{ts:List (D × V)}
end
section
variable{X:Cx}{a:Expr}{ta:aI}{pos p2:Pos}{tk:Nat}
end
end L3
namespace L3
open PySem L2 PySem.Spec PyProof.Rows
section
variable{X:Cx}{a b:Expr}{ta tb:aI}{elts:List Expr}{x1:Nat}{kM p pos:Pos}
end
end L3
namespace L3
open PySem L2 Mf
section
variable{m:Bool × Nat}
end
end L3
namespace L3
open PySem L2 PySem.Spec PyProof.Rows
section
variable{B:Bs}{F H:Hp}{σ:L2.St}{δ:Dl}{ts ps:List (D × V)}{p:Addr}
end
section
variable{X:Cx}{iter tg:Expr}{te:aI}{g:fW}{t:cC}{pos:Pos}
end
section
variable{X:Cx}{e:Expr}{pos p pr apos bR zZ tp:Pos}{t:aI}{x y:Str}{i j:Nat}{n0:Int}
end
end L3
namespace L2
open PySem PySem.Spec PyProof.Rows
section
variable{prog:Program}{w:World}{A:Around}{E:Value->Shared->Prop}{s:Shared}
end
section
variable{prog:Program}{w:World}{A:Around}{E:Value->Shared->Prop}{s:Shared}
end
section
variable{X:Cx}{pins:List (Addr × Obj)}{σ:St}{H:Hp}{s:Shared}
end
section
variable{X:Cx}{a b:Expr}{ta:TA}{p pos kM:Pos}{elts:List Expr}{x1:Nat}
end
end L2
namespace L3
open PySem L2 PySem.Spec PyProof.Rows
section
variable{F H:Hp}{p q:Addr}{xs ys:List D}{ws us:List V}
end
section
variable{X:Cx}{a b l tg:Expr}{ta:cq}{te:aI}{p pos kM:Pos}{elts:List Expr}{x1:Nat}
end
end L3
namespace L3
open PySem L2 Mf
section
variable{m:Bool × Nat}
end
end L3
namespace L3
open PySem L2 PySem.Spec PyProof.Rows
section
variable{B:Bs}{F H:Hp}{σ:L2.St}{δ:Dl}{ts:List (D × V)}
end
section
variable{X:Cx}{a:Expr}{ta:aI}{pos p2:Pos}{tk:Nat}
end
end L3
namespace L2
open PySem PySem.Spec PyProof.Rows
noncomputable def Rs(a:Array Nat):Prop:=a.toList.Pairwise (· < ·)
theorem Rs.lt{a:Array Nat}(r:Rs a){i k:Nat}(h:i<k)(hk:k<a.size):a[i]'(by omega)<a[k]:=by
 have:=yX.mp r i k (by simpa using(by omega:i<a.size)) (by simpa using hk) h
 simpa using this
theorem Fy{a:Array Nat}{j:Nat}(r:Rs a):∀(fuel lo hi:Nat),lo<=hi->hi<=a.size->hi-lo<=fuel->(∀i,(h:i<a.size)->i<lo->a[i]<j)->(∀i,(h:i<a.size)->hi<=i->j<=a[i]) ->
  yY a j fuel lo hi<=a.size/\(∀i,(h:i<a.size)->i<yY a j fuel lo hi->a[i]<j)/\∀i,(h:i<a.size)->yY a j fuel lo hi<=i->j<=a[i]
 | 0,lo,hi,h1,h2,h3,h4,h5=>by
  have e:lo=hi:=by omega
  subst e
  unfold yY
  exact⟨h2,h4,h5⟩
 | fuel+1,lo,hi,h1,h2,h3,h4,h5=>by
  unfold yY
  by_cases hl:lo<hi
  ·rw[if_pos hl]
   have hm:(lo+hi)/2<a.size:=by omega
   have eg:a.getD ((lo+hi)/2) j=a[(lo+hi)/2]:=by simp[yZ,hm]
   dsimp only
   rw[eg]
   by_cases hc:a[(lo+hi)/2]<j
   ·rw[if_pos hc]
    refine Fy r fuel _ hi (by omega) h2 (by omega) (λi eH eA=>?_) h5
    by_cases e:i=(lo+hi)/2
    ·subst e;exact hc
    ·exact Nat.lt_trans (r.lt (show i<(lo+hi)/2 by omega) hm) hc
   ·rw[if_neg hc]
    refine Fy r fuel lo _ (by omega) (by omega) (by omega) h4 (λi eH hle=>?_)
    by_cases e:i=(lo+hi)/2
    ·subst e;omega
    ·exact nZ (kH (yH hc) (r.lt (show(lo+hi)/2<i by omega) eH))
  ·rw[if_neg hl]
   have e:lo=hi:=by omega
   subst e
   exact⟨h2,h4,h5⟩
theorem Qp{a:Array Nat}{j:Nat}(r:Rs a):eX a j<=a.size/\(∀i,(h:i<a.size)->i<eX a j->a[i]<j)/\∀i,(h:i<a.size)->eX a j<=i->j<=a[i] :=
 Fy r a.size 0 a.size (ji _) (aZ _) (by omega) (λi _ h=>absurd h (yV _)) λi h h'=>absurd h' (by omega)
theorem Rs.ins{a:Array Nat}{j:Nat}(r:Rs a)(hn:a[eX a j]?≠some j):Rs (SetTable.insertAt a (eX a j) j):=by
 obtain⟨h1,h2,h3⟩:=Qp (j:=j) r
 unfold Rs
 rw[SetTable.toList_insertAt]
 refine List.pairwise_append.mpr ⟨r.sublist (List.take_sublist _ _),vk.mpr ⟨λx hx=>?_,r.sublist (List.drop_sublist _ _)⟩,λx hx y hy=>?_⟩
 ·obtain⟨i,hi,e⟩:=fC hx
  rw[List.getElem_drop]at e
  have eH:eX a j+i<a.size:=by rw[mJ,ie]at hi;omega
  have e':a[eX a j+i]=x:=by simpa using e
  have:=h3 _ eH (by omega)
  rcases vj j x with z | z
  ·exact z
  ·exfalso
   have ex:x=j:=by omega
   cases i with
   | zero=>exact hn (by rw[qK (by simpa using eH)];simpa[ex]using e')
   | succ i =>
    have:=r.lt (show eX a j<eX a j+(i+1) by omega) eH
    have:=h3 (eX a j) (by omega) (aZ _)
    omega
 ·obtain⟨i,hi,e⟩:=fC hx
  rw[List.getElem_take]at e
  have sQ:i<eX a j:=by rw[kD]at hi;omega
  have e':a[i]'(by omega)=x:=by simpa using e
  have xl:=h2 i (by omega) sQ
  rcases bU.mp hy with rfl | hy
  ·omega
  ·obtain⟨k,hk,f⟩:=fC hy
   rw[List.getElem_drop]at f
   have AF:eX a j+k<a.size:=by rw[mJ,ie]at hk;omega
   have f':a[eX a j+k]=y:=by simpa using f
   have:=h3 _ AF (by omega)
   omega
structure cU(led:Bool)(t:SetTable):Prop where
 led:t.led=led
 Fz:t.dummies=#[]
 AS:Rs t.place
theorem cU.off{led:Bool}{t:SetTable}(p:cU led t):cU led { t with plain:=false }:=⟨p.led,p.Fz,p.AS⟩
theorem cU.fresh(led:Bool):cU led (.fresh 0 0 led):=⟨rfl,rfl,LG⟩
theorem cU.standIn{led:Bool}{t:SetTable}(p:cU led t)(n:Nat):cU led (t.standIn n):=⟨p.led,rfl,by
 show(Array.range n).toList.Pairwise (· < ·)
 rw[Array.toList_range];exact UE⟩
theorem Qq(j:Nat):SetTable.has #[] j=false:=by
 unfold SetTable.has;simp
theorem Qr{led:Bool}{t:SetTable}(p:cU led t){f:Nat->Int}{h:Int}:∀(fuel:Nat) (q:SetTable.Probe) (j:Nat) (d:Option Nat),q.dummy=none->L8 t f h fuel q=some (.empty j d)->d=none/\t.place[eX t.place j]?≠some j
 | 0,q,j,d,hq,e=>by unfold L8 at e;cases e
 | fuel+1,q,j,d,hq,e=>by
  unfold L8 at e
  have adv:∀q:SetTable.Probe,(t.advance q).dummy=q.dummy:=λq=>by
   unfold SetTable.advance
   split<;>rfl
  have sl:t.slot q.j=.empty\/(∃i,t.slot q.j=.live i):=by
   unfold SetTable.slot
   rw[p.Fz,Qq]
   dsimp only
   split
   ·exact .inr ⟨_,rfl⟩
   ·exact .inl rfl
  rcases sl with z | ⟨i,z⟩
  ·rw[z]at e
   dsimp only at e
   injection e with e
   injection e with e1 e2
   subst e1
   refine⟨by rw[<-e2];exact hq,λy=>?_⟩
   unfold SetTable.slot at z
   dsimp only at z
   rw[y]at z
   simp at z
  ·rw[z]at e
   dsimp only at e
   split at e
   ·cases e
   ·exact Qr p fuel _ j d (by rw[adv];exact hq) e
theorem cU.put{led:Bool}{t:SetTable}(p:cU led t){j:Nat}(hn:t.place[eX t.place j]?≠some j):cU led (t.put j).1:=⟨p.led,by
 show(if SetTable.has t.dummies j then _ else t.dummies)=#[]
 rw[p.Fz,Qq];rfl,p.AS.ins hn⟩
theorem cU.orStandIn{led:Bool}{t:SetTable}(p:cU led t)(n:Nat):cU led (t.orStandIn n):=by
 unfold SetTable.orStandIn
 split
 ·exact p
 ·exact p.standIn n
theorem bH4{led:Bool}{t:SetTable}(p:cU led t)(es:Array (Int × Value))(h:Int)(x:Value):cU led (layNew t es h x).2.1:=by
 unfold layNew
 split
 ·rename_i slot wd e
  unfold SetTable.freeSlot at e
  split at e
  ·rename_i j d e2
   obtain⟨e3,e4⟩:=Qr p _ _ j d rfl e2
   subst e3
   injection e with e
   injection e with e _
   subst e
   exact(p.put e4).orStandIn _
  ·cases e
 ·exact p.standIn _
theorem Qs(f:Nat->Option Nat):∀l:List Nat,l.Pairwise (· < ·)->((l.filterMap λj=>(f j).map (j,·)).map (·.1)).Pairwise (· < ·)/\∀x∈(l.filterMap λj=>(f j).map (j,·)).map (·.1),x∈l
 | [],_=>⟨LG,λ_ h=>h⟩
 | a::l,h=>by
  obtain⟨h1,h2⟩:=vk.mp h
  obtain⟨i1,i2⟩:=Qs f l h2
  cases e:f a with
  | none =>
   rw[List.filterMap_cons_none (by rw[e];rfl)]
   exact⟨i1,λx hx=>fQ _ (i2 x hx)⟩
  | some v =>
   rw[List.filterMap_cons_some (b:=(a,v)) (by rw[e];rfl),dW]
   exact⟨vk.mpr ⟨λx hx=>h1 x (i2 x hx),i1⟩,λx hx=>by
    rcases bU.mp hx with z | z
    ·rw[z];exact mF
    ·exact fQ _ (i2 x z)⟩
theorem bt8{led:Bool}{t:SetTable}(p:cU led t)(es:Array (Int × Value))(wanted:Nat):cU led (relayAll t es wanted).2.1:=by
 unfold relayAll
 split
 ·rename_i t' order e
  dsimp only
  split
  ·unfold SetTable.relaid SetTable.laid at e
   cases ow:SetTable.layClean (SetTable.sizeAbove wanted-1) (es.map (·.1))with
   | none=>rw[ow]at e;cases e
   | some owner =>
    rw[ow]at e
    simp only[Option.bind_eq_bind,Option.bind_some,Option.pure_def,mS,Prod.mk.injEq]at e
    obtain⟨rfl,_⟩:=e
    exact⟨p.led,rfl,(Qs (λj=>owner.getD j none) _ UE).1⟩
  ·exact p.standIn _
 ·exact p.standIn _
end L2
namespace L2
open PySem PySem.Spec PyProof.Rows
section
variable{prog:Program}{w:World}{A:Around}{E:Value->Shared->Prop}{s:Shared}
noncomputable def eW(prog:Program)(w:World)(led:Bool)(h:Heap)(a:Addr)(S:Int->Bool)(n:Nat):Prop :=
 ∃o es ep t,h.get? a=some o/\o.ExactSet/\o.data=.set es ep t/\ElemsOf (intKind prog w) es.toList/\(∀k,S k=true↔∃e∈es.toList,(intKind prog w).is k e.2=true)/\es.size<scanBound/\t.fits es.size=true/\es.size=n/\cU led t
theorem eW.at{led:Bool}{h h':Heap}{a:Addr}{S:Int->Bool}{n:Nat}(x:eW prog w led h a S n)(k:∀o,h.get? a=some o->h'.get? a=some o):eW prog w led h' a S n:=by
 obtain⟨o,es,ep,t,g,r⟩:=x
 exact⟨o,es,ep,t,k o g,r⟩
theorem eW.eq{led:Bool}{h:Heap}{a:Addr}{S S':Int->Bool}{n n':Nat}(x:eW prog w led h a S n)(e:∀k,S k=S' k)(en:n=n'):eW prog w led h a S' n':=by
 have:S=S':=funext e
 subst this;subst en;exact x
theorem eW.store{led:Bool}{h:Heap}{a:Addr}{o:Obj}{es bZ:Array (Int × Value)}{ep:Nat}{t t1:SetTable}{S':Int->Bool}(g:h.get? a=some o)(ex:o.ExactSet)(d:o.data=.set es ep t)(el:ElemsOf (intKind prog w) bZ.toList)
  (mem:∀k,S' k=true↔∃e∈bZ.toList,(intKind prog w).is k e.2=true) (b:bZ.size<scanBound) (f:t1.fits bZ.size=true) (p:cU led t1) :
  (h.update a (Obj.putSet bZ t1)).get? a=some { o with data:=.set bZ (ep+1) t1 }/\eW prog w led (h.update a (Obj.putSet bZ t1)) a S' bZ.size:=by
 obtain⟨g1,_⟩:=SetOf_store (knd:=intKind prog w) g ex d el mem b f
 exact⟨g1,_,bZ,ep+1,t1,g1,ex,rfl,el,mem,b,f,rfl,p⟩
theorem Qt{led:Bool}{gv:Bool->Sem Unit}(hg:∀(b:Bool) (s1:Shared) (Q:Unit->Shared->Prop),Q () s1->wpAny (model prog w) A (gv b) Q E s1){a:Addr}{o:Obj}{es bZ:Array (Int × Value)}{ep:Nat}{t t1:SetTable}{S':Int->Bool}{wd:Bool}{R:Option Bool->Shared->Prop}
  (g:s.heap.get? a=some o) (ex:o.ExactSet) (d:o.data=.set es ep t) (el:ElemsOf (intKind prog w) bZ.toList) (mem:∀k,S' k=true↔∃e∈bZ.toList,(intKind prog w).is k e.2=true) (b:bZ.size<scanBound) (f:t1.fits bZ.size=true) (p:cU led t1)
  (q:∀h',n5 a s.heap h'->eW prog w led h' a S' bZ.size->R (some true) { s with heap:=h' }) :
  wpAny (model prog w) A (do
    storeSet a bZ t1
    if(!wd&&t1.tooFull)=true then do
      gv (relayAll t1 bZ (qL bZ.size)).2.2
      storeSet a (relayAll t1 bZ (qL bZ.size)).1 (relayAll t1 bZ (qL bZ.size)).2.1
      pure (some true)
     else pure (some true)) R E s:=by
 obtain⟨g1,S1⟩:=eW.store g ex d el mem b f p
 have u1:=Heap.SameBut.update s.heap a (Obj.putSet bZ t1)
 refine wpAny_bind (wpAny_storeSet_of g d ?_ (fits_of_scanBound b))
 split
 ·have rp:=relayAll_perm t1 bZ (qL bZ.size)
  have rf:=relayAll_fits t1 bZ (qL bZ.size)
  have rt:=bt8 p bZ (qL bZ.size)
  generalize relayAll t1 bZ (qL bZ.size)=W at rp rf rt ⊢
  obtain⟨Qu,t2,cO2⟩:=W
  dsimp only at rp rf rt ⊢
  have z:Qu.size=bZ.size:=by rw[<-ie,rp.length_eq,ie]
  have b2:Qu.size<scanBound:=by rw[z];exact b
  refine wpAny_bind (hg _ _ _ (wpAny_bind (wpAny_storeSet_of g1 rfl ?_ (fits_of_scanBound b2))))
  obtain⟨_,S2⟩:=eW.store (S':=S') g1 ex rfl (el.perm rp) (λk=>(mem k).trans ⟨λ⟨e,he,y⟩=>⟨e,rp.mem_iff.mpr he,y⟩,λ⟨e,he,y⟩=>⟨e,rp.mem_iff.mp he,y⟩⟩) b2 rf rt
  rw[z]at S2
  exact wpAny_pure (q _ (u1.trans (Heap.SameBut.update _ a _)) S2)
 ·exact wpAny_pure (q _ u1 S1)
theorem b87{led:Bool}{a:Addr}{S:Int->Bool}{n:Nat}{k:Int}{tk:Tok}{Q:Bool->Shared->Prop}(x:eW prog w led s.heap a S n)(room:n+1<scanBound)
  (q:∀h',n5 a s.heap h'->eW prog w led h' a (λk'=>S k'||decide (k'=k)) (if S k then n else n+1)->Q (!S k) { s with heap:=h' }) :
  wpAny (model prog w) A (setAddHashed a (.int k tk) ((intKind prog w).hash k)) Q E s:=by
 obtain⟨o,es,ep,t,g,ex,d,el,mem,b,f,rfl,p⟩:=x
 have ky:(intKind prog w).is k (.int k tk)=true:=intKind_is _ _ _ _
 unfold setAddHashed setAddHashedIn
 refine wpAny_holding (wpAny_bind (wpAny_setState_of g d f ?_))
 dsimp only
 rw[byScan_of (show(gG k tk).scannable=true from rfl) b el]
 simp only[↓reduceIte]
 unfold setAddByScan
 refine wpAny_bind (wpAny_bind (wpAny_rule (wpAny_bind (wpAny_setScan_of ky g d f el ?_))))
 cases hr:List.findIdx? (λe=>(intKind prog w).is k e.2) es.toList with
 | some j =>
  dsimp only
  obtain⟨hj,hp,_⟩:=L6.mp hr
  have sk:S k=true:=(mem k).mpr ⟨es.toList[j],eF hj,hp⟩
  have y:=q s.heap (Heap.SameBut.refl a s.heap) ⟨o,es,ep,t,g,ex,d,el,λk'=>by
   rw[Bool.or_eq_true,decide_eq_true_eq,<- mem k']
   exact⟨λz=>z.elim id λe=>e ▸ sk,.inl⟩,b,f,by rw[if_pos sk],p⟩
  rw[sk]at y
  exact wpAny_pure (wpAny_pure y)
 | none =>
  dsimp only
  have sk:S k=false:=by
   cases h:S k with
   | false=>rfl
   | true =>
    obtain⟨e,he,hp⟩:=(mem k).mp h
    have:=L7.mp hr e he
    rw[hp]at this;cases this
  have lp:=layNew_perm t es ((intKind prog w).hash k) (.int k tk)
  have lf:=layNew_fits t es ((intKind prog w).hash k) (.int k tk)
  have lt:=bH4 p es ((intKind prog w).hash k) (.int k tk)
  generalize layNew t es ((intKind prog w).hash k) (.int k tk)=W at lp lf lt ⊢
  obtain⟨bZ,t1,wd,cO2⟩:=W
  dsimp only at lp lf lt ⊢
  rw[UG]at lp
  have z:bZ.size=es.size+1:=by rw[<-ie,lp.length_eq,fB,ie];rfl
  have Qv:ElemsOf (intKind prog w) bZ.toList:=(el.push ky rfl).perm lp
  have Qw:∀k',(S k'||decide (k'=k))=true↔∃e∈bZ.toList,(intKind prog w).is k' e.2=true:=mem_push_iff ky mem lp
  have b1:bZ.size<scanBound:=by rw[z];exact room
  have gw:∀(c:Bool) (s1:Shared) (Q':Unit->Shared->Prop),Q' () s1->wpAny (model prog w) A (match c with | true=>rule "set.scan.the-table-gave-way" | false=>pure ()) Q' E s1:=λc s1 Q' y=>by cases c<;>first | exact wpAny_pure y | exact wpAny_rule y
  have fin:∀h',n5 a s.heap h'->eW prog w led h' a (λk'=>S k'||decide (k'=k)) bZ.size->Q true { s with heap:=h' }:=λh' c1 c2=>by
   have y:=q h' c1
   rw[sk]at y
   rw[z]at c2
   exact y (by rw[if_neg ig];exact c2)
  refine wpAny_bind (gw _ _ _ ?_)
  split
  ·refine wpAny_bind ?_
   rw[hashByValue_scannable 8 (show(gG k tk).scannable=true from rfl)]
   refine wpAny_pure (Qt (led:=led) ?_ g ex d Qv Qw b1 ?_ ?_ ?_)
   ·intro c s1 Q' y;cases c<;>first | exact wpAny_pure y | exact wpAny_rule y
   ·split
    ·exact lf
    ·exact SetTable.fits_plain_off lf
   ·split
    ·exact lt
    ·exact lt.off
   ·intro h' c1 c2;dsimp only;exact wpAny_pure (fin h' c1 c2)
  ·refine wpAny_bind (wpAny_pure ?_)
   simp only[↓reduceIte]
   refine Qt ?_ g ex d Qv Qw b1 lf lt ?_
   ·intro c s1 Q' y;cases c<;>first | exact wpAny_pure y | exact wpAny_rule y
   ·intro h' c1 c2;dsimp only;exact wpAny_pure (fin h' c1 c2)
end
end L2
namespace L2
open PySem PySem.Spec PyProof.Rows
noncomputable def eN(w:World):Bool:=w.params.followText "set-order"
section
variable{prog:Program}{w:World}{A:Around}{R:Result->Shared->Prop}{I:Addr}{fp wr:List Addr}{G:Array GenState->Array GenState->Prop}{n:Nat}{P:Nat->Value->Prop}{St:Nat->Shared->Prop}
theorem bV0(W:WalksS prog w A.in1 I fp wr G n P St)(a:Addr)(af:a ∉ fp)(val:Nat->Int)(hv:∀i v,P i v->∃t,v=.int (val i) t)(hb:n+1<scanBound) :
  ∀(k i:Nat) (s:Shared),n-i=k->i<=n->St i s->eW prog w (!eN w) s.heap a (λz=>(firstMet val i).any (·==z)) (firstMet val i).length ->
   (∀s',Moved (a::wr) G s s'->eW prog w (!eN w) s'.heap a (λz=>(firstMet val n).any (·==z)) (firstMet val n).length->R (.ok (.ret .none)) s') ->
   codeAny (model prog w) A (.builtin "set.update.loop" ⟨[.ref a,.ref I],[]⟩) R s:=by
 have aw:a ∉ wr:=λh=>af (W.sub _ h)
 have sub:∀b∈wr,b∈a::wr:=λb h=>fQ _ h
 intro k
 induction k with
 | zero =>
  intro i s hk hi st x r
  obtain rfl:i=n:=by omega
  refine codeAny_builtin F.entry_set_update_loop ?_
  rw[CP L9 _]
  show wpAny _ A.in1 (pyNext (.ref I) >>= _) _ _ s
  refine wpAny_bind (W.done s _ _ st λs' mv=>?_)
  show wpAny _ A.in1 (ret ib) _ _ s'
  exact wpAny_pure (r s' (mv.mono sub) (x.at λo g=>mv.heap a _ aw g))
 | succ k ih =>
  intro i s hk hi st x r
  have lt:i<n:=by omega
  refine codeAny_builtin F.entry_set_update_loop ?_
  rw[CP L9 _]
  show wpAny _ A.in1 (pyNext (.ref I) >>= _) _ _ s
  refine wpAny_bind (W.item i s _ _ lt st λv s1 pv st1 mv=>?_)
  obtain⟨t,rfl⟩:=hv i v pv
  have x1:=x.at (h':=s1.heap) λo g=>mv.heap a _ aw g
  show wpAny _ A.in1 (holding [gG (val i) t] (setAdd a (.int (val i) t)) >>= _) _ _ s1
  refine wpAny_bind (wpAny_holding ?_)
  unfold setAdd
  refine wpAny_holding (wpAny_bind ((intKind prog w).pyHash (k:=val i) (intKind_is _ _ _ _) ?_))
  refine b87 (s:={ s1 with toks:=s1.toks+1 }) x1 (by have:=firstMet_length_le val i;omega) λh2 sb x2=>?_
  have x3:eW prog w (!eN w) h2 a (λz=>(firstMet val (i+1)).any (·==z)) (firstMet val (i+1)).length:=x2.eq (λz=>by rw[firstMet_succ,step_any]) (by rw[firstMet_succ,step_length])
  refine wpAny_pure ⟨plainId_quiet L9 _,ih (i+1) _ (by omega) lt (W.frame _ s1 _ _ st1 (yF _) λb hb o e=>?_) x3 λs2 mv2 x4=>?_⟩
  ·rw[sb.2 b (λh:b=a=>af (by rw[<-h];exact hb))];exact e
  ·refine r s2 (Moved.trans W.gtrans ((mv.mono sub).then_heap (yF _) λb o hb e=>?_) mv2) x4
   rw[sb.2 b (λh:b=a=>hb (by rw[h];exact mF))];exact e
end
section
variable{prog:Program}{w:World}{A:Around}{E:Value->Shared->Prop}{s:Shared}
noncomputable abbrev jg(w:World):Obj:={ cls:=.type "set",dict:=none,data:=.set #[] 0 (.fresh 0 0 (!eN w)) }
theorem cd7(v:Value){Q:Value->Shared->Prop}(q:Q (.ref s.heap.objs.size) { s with heap:=s.heap.push (jg w) }) :
  codeAny (model prog w) A (.call (.builtin "set.__new__") ⟨[.type "set",v],[]⟩) (wants Q E) s:=by
 refine codeAny_of_tree ?_
 show wpAny _ A.in1 (do checkBuiltinCall "set.__new__" ⟨[.type "set",v],[]⟩;again (.builtin "set.__new__" ⟨[.type "set",v],[]⟩)) _ _ s
 refine wpAny_bind (wpAny_of_eq (F.newCall_set_1 v) (wpAny_pure ⟨plainId_quiet F.plain_set_new _,codeAny_builtin F.entry_set_new ?_⟩))
 rw[CP F.plain_set_new _]
 unfold Builtin.«set.__new__» Builtin.Frozenset.newClass
 have cO8:=sub_set_self
 obtain⟨hp,g,d,tk,os⟩:=s
 dsimp only
 wp_walk
 refine wpAny_askSetting (wpAny_pure ?_)
 dsimp only
 simp only[newObj]
 refine wpAny_bind (wpAny_alloc (wpAny_pure ?_))
 exact wpAny_pure q
end
end L2
namespace L2
open PySem PySem.Spec PyProof.Rows
section
variable{prog:Program}{w:World}{A:Around}{E:Value->Shared->Prop}{s:Shared}
set_option maxRecDepth 100000 in
set_option maxHeartbeats 3200000 in
theorem bv2{l:Addr}{its:Array Value}{ns:List Int}{Q:Value->Shared->Prop}(hh:A.handled=none)(hl:s.heap.IsList l its)(hi:IntsAre its.toList ns)(hb:its.size+1<scanBound)
  (q:∀(h':Heap) (tk:Nat),eW prog w (!eN w) h' s.heap.objs.size (λz=>(firstMet (λi=>ns.getD i 0) its.size).any (·==z)) (firstMet (λi=>ns.getD i 0) its.size).length ->
   (∀b o,b<s.heap.objs.size->s.heap.get? b=some o->h'.get? b=some o)->Q (.ref s.heap.objs.size) { s with heap:=h',toks:=tk }) :
  wpAny (model prog w) A (call (.type "set") [.ref l]) Q E s:=by
 obtain⟨c,tl,dZ7⟩:=oo.mro
 have dZ8:=oo.made
 have cO8:=oo.sub
 refine wpAny_call (codeAny_of_tree ?_)
 show wpAny _ _ (callAny (.type "set") _) _ _ _
 refine wpAny_pure ⟨Code.quiet_builtin _ (by decide +kernel),codeAny_builtin F.entry_type_call ?_⟩
 rw[Around.under_plain (weight_type_call_type "set" [.ref l] []) rfl]
 have n1:=oo.notType
 have n2:=oo.canCreate
 have n3:=F.typeCall_set_1 (.ref l)
 repeat (any_goals (first | assumption | wp_step))
 refine codeAny_mono (cd7 (.ref l) (E:=E) (Q:=λobj s1=>obj=.ref s.heap.objs.size/\s1={ s with heap:=s.heap.push (jg w) }) ⟨rfl,rfl⟩) λr s1 hr=>?_
 cases r with
 | error e=>exact hr
 | ok fl =>
  cases fl with
  | ret obj =>
   obtain⟨rfl,rfl⟩:=hr
   have gS:(s.heap.push (jg w)).get? s.heap.objs.size=some (jg w):=dn _ rfl
   have hT:Shared.TypeIs { s with heap:=s.heap.push (jg w) } (.ref s.heap.objs.size) "set":=⟨_,gS,rfl⟩
   have li:=oo.init.lookup
   have bi:=oo.init.bind (.ref s.heap.objs.size)
   repeat (any_goals (first | assumption | wp_step))
   refine codeAny_mono (codeAny_call_builtin (R:=wants (λr s2=>r=.none/\∃h' tk,s2={ s with heap:=h',toks:=tk } /\
     eW prog w (!eN w) h' s.heap.objs.size (λz=>(firstMet (λi=>ns.getD i 0) its.size).any (·==z)) (firstMet (λi=>ns.getD i 0) its.size).length /\
     (∀b o,b<s.heap.objs.size->s.heap.get? b=some o->h'.get? b=some o)) E) oo.init.plain F.entry_set_init (check_set_init_1 hT ?_)) λr2 s2 mw=>?_
   ·obtain⟨ol,gl,cl,nl,dl⟩:=id hl
    obtain⟨dZ9,cP0,d00,cP1⟩:=ol
    simp only at cl dl
    subst cl;subst dl
    have AI:(s.heap.push (jg w)).get? l=some { cls:=.type "list",dict:=cP0,data:=.seq its nl,slots:=cP1 }:=cm _ gl
    have m1:=F.sub_list_set
    have m2:=F.sub_list_frozenset
    have m3:(mE "list"==mE "dict")=false:=by decide
    have tI:(s.heap.push (jg w)).IsList l its:=⟨_,AI,rfl,nl,rfl⟩
    unfold Builtin.«set.__init__» noKeywords Builtin.Frozenset.updateFrom
    generalize hPI:pyIter=PI
    wp_walk
    subst hPI
    refine wpAny_pyIter_list tI (wpAny_bind (wpAny_runValue ?_))
    have lS:l<s.heap.objs.size:=br gl
    have h3:A.in1.in1.in1.handled=none:=by simp[hh]
    have nI:l≠(s.heap.push (jg w)).objs.size:=by rw[jO];exact cR (vi lS)
    have nf:s.heap.objs.size ∉ [(s.heap.push (jg w)).objs.size,l]:=by
     rw[jO];simp only[bU,e8,ik,or_false,not_or]
     exact⟨cR (qv _),yC lS⟩
    refine bV0 ((Walks.list h3 _ l nI its).toS) s.heap.objs.size nf (λi=>ns.getD i 0) (λi v e=>IntsAre.int_at hi i v (by rw[CQ];exact e)) hb (its.size-0) 0 _ (by omega) (ji _)
     ⟨⟨_,dn _ rfl,rfl,rfl⟩,tI.push _⟩ ?hS ?hR
    case hS =>
     have g2:((s.heap.push (jg w)).push { cls:=.type "list_iterator",data:=.fields #[.ref l,.int 0 0] }).get? s.heap.objs.size=some (jg w):=cm _ gS
     exact⟨jg w,#[],0,_,g2,⟨rfl,rfl,rfl⟩,rfl,λe h=>(by simp at h),λk=>⟨λh=>by simp[firstMet]at h,λ⟨e,h,_⟩=>by simp at h⟩,by decide,by simp[SetTable.fits,SetTable.fill,SetTable.fresh],rfl,cU.fresh _⟩
    case hR =>
     intro s3 mv x3
     obtain⟨h4,g4,d4,k4,o4⟩:=s3
     have eg:g4=s.gens:=mv.gens
     have ed:d4=s.drawn:=mv.drawn
     have eo:o4=s.os:=mv.os
     subst eg;subst ed;subst eo
     show wpAny _ _ _ _ _ _
     refine wpAny_pure ?_
     show wpAny _ _ (ret ib) _ _ _
     refine wpAny_pure ⟨rfl,h4,k4,rfl,x3,λb o lb e=>?_⟩
     refine mv.heap b o ?_ (cm _ (cm _ e))
     simp only[bU,e8,ik,or_false,not_or]
     exact⟨cR lb,by rw[jO];exact cR (vi lb)⟩
   ·cases r2 with
    | error e=>exact mw
    | ok f2 =>
     cases f2 with
     | ret r =>
      obtain⟨rfl,h',tk,rfl,x3,kk⟩:=mw
      repeat (any_goals (first | assumption | wp_step))
      exact q _ _ x3 kk
     | _=>exact mw.elim
  | _=>exact hr.elim
end
end L2
namespace L2
open PySem PySem.Spec PyProof.Rows
theorem Qx:entryFor table "set.__iter__"=some Builtin.«frozenset.__iter__» :=
 entryFor_alias (id':="frozenset.__iter__") (by kernel_rfl) (by first | rfl | decide +kernel | (unfold String.splitOn;simp +decide [UH])) (by decide +kernel) (by kernel_rfl)
theorem jG:Slot "set_iterator" "__next__" "set_iterator.__next__" :=
 .of (owner:="set_iterator") (n:="__next__") (by rw[typeLookup_type,builtinLookup_eq_fast];kernel_rfl) (by decide +kernel) (by decide +kernel) (by decide +kernel) (by first | exact .inl (by decide +kernel) | exact .inr (by decide +kernel)) (by rw[isSubtype_type];kernel_rfl)
theorem AU:entryFor table "set_iterator.__next__"=some Builtin.«set_iterator.__next__»:=entryFor_of_tree (by kernel_rfl)
theorem AV(a:Value):argsOk "set_iterator.__next__" ⟨[a],[]⟩:=by unfold argsOk;kernel_rfl
theorem Qy:Slot "set_iterator" "__iter__" "set_iterator.__iter__" :=
 .of (owner:="set_iterator") (n:="__iter__") (by rw[typeLookup_type,builtinLookup_eq_fast];kernel_rfl) (by decide +kernel) (by decide +kernel) (by decide +kernel) (by first | exact .inl (by decide +kernel) | exact .inr (by decide +kernel)) (by rw[isSubtype_type];kernel_rfl)
theorem bw3:entryFor table "set_iterator.__iter__"=some Builtin.«dict_keyiterator.__iter__» :=
 entryFor_alias (id':="dict_keyiterator.__iter__") (by kernel_rfl) (by first | rfl | decide +kernel | (unfold String.splitOn;simp +decide [UH])) (by decide +kernel) (by kernel_rfl)
theorem bu6(a:Value):argsOk "set_iterator.__iter__" ⟨[a],[]⟩:=by unfold argsOk;kernel_rfl
noncomputable def jH(h:Heap)(I a:Addr)(m:Value)(i n ep:Nat):Prop:=h.get? I=some { cls:=.type "set_iterator",dict:=none,data:=.fields #[m,.int i 0,.ref a,.int n 0,.int ep 0],slots:=#[] }
section
variable{prog:Program}{w:World}{A:Around}{E:Value->Shared->Prop}{s:Shared}
theorem Qz{I a:Addr}{m:Value}{i n ep:Nat}{Q:Value->Shared->Prop}(x:jH s.heap I a m i n ep)(q:Q (.ref I) s):wpAny (model prog w) A (pyIter (.ref I)) Q E s:=by
 have hT:s.TypeIs (.ref I) "set_iterator":=⟨_,x,rfl⟩
 refine wpAny_pyIter_slot hT Qy (wpAny_call_entry Qy hT bw3 ?_ (bu6 _))
 show wpAny _ _ (ret (.ref I)) _ _ s
 exact wpAny_pure ⟨_,rfl,"set_iterator",_,hT,jG.lookup,q⟩
theorem bR8{r:Addr}{Q:Bool->Shared->Prop}(hT:s.TypeIs (.ref r) "set")(q:Q false s):wpAny (model prog w) A (UI (.ref r)) Q E s:=by
 unfold UI
 refine wpAny_bind (wpAny_specialOf hT F.slot_set_len.lookup ?_)
 generalize QB:("set.__len__":String)=id0
 wp_delta
 rw[show splitId id0=some ("set","__len__") from by subst QB;decide +kernel]
 subst QB
 refine wpAny_bind (wpAny_isInstance (T:="set") (b:=true) hT (by rw[isSubtype_type];kernel_rfl) ?_)
 refine wpAny_ite_split (λc=>absurd c (by decide)) (λ_=>?_)
 refine wpAny_ite_split (λ_=>?_) (λc=>absurd (by decide +kernel) c)
 exact wpAny_bind (wpAny_typeOf hT (wpAny_pure q))
end
end L2
namespace L2
open PySem PySem.Spec PyProof.Rows
section
variable{prog:Program}{w:World}{A:Around}{E:Value->Shared->Prop}{s:Shared}
noncomputable def nQ(prog:Program)(w:World)(o:Obj)(a:Addr)(sl i ep:Nat)(r:Option (Value × Nat)):Prop :=
 ∀(A:Around) (E:Value->Shared->Prop) (s:Shared) (Q:Option (Value × Nat)->Shared->Prop),s.heap.get? a=some o->Q r s->wpAny (model prog w) A (setNext a sl i ep) Q E s
theorem tJ{a:Addr}{o:Obj}{es:Array (Int × Value)}{ep:Nat}{t:SetTable}{Q:Array (Int × Value)->Shared->Prop}(g:s.heap.get? a=some o)(d:o.data=.set es ep t)(f:t.fits es.size=true)(q:Q es s):wpAny (model prog w) A (setEntries a) Q E s:=by
 unfold setEntries
 exact wpAny_bind (wpAny_setState_of g d f (wpAny_pure q))
theorem bS0{I a:Addr}{o:Obj}{es:Array (Int × Value)}{t:SetTable}{sl nx i n ep:Nat}{x:Value}{Q:Option Value->Shared->Prop}(it:jH s.heap I a (.int sl 0) i n ep)(g:s.heap.get? a=some o)(d:o.data=.set es ep t)(f:t.fits es.size=true)(hn:es.size=n)(ne:a≠I)
  (v:nQ prog w o a sl i ep (some (x,nx))) (q:∀h',jH h' I a (.int nx 0) (i+1) n ep->n5 I s.heap h'->Q (some x) { s with heap:=h' }):wpAny (model prog w) A (pyNext (.ref I)) Q E s:=by
 have hT:s.TypeIs (.ref I) "set_iterator":=⟨_,it,rfl⟩
 unfold pyNext
 refine wpAny_bind (wpAny_attempt (wpAny_callSpecial?_slot (name:=CS "__next__") hT jG (wpAny_call_entry jG hT AU ?_ (AV _))))
 show wpAny _ _ (fieldsOf (.ref I) >>= _) _ _ s
 refine wpAny_bind (wpAny_fieldsOf it rfl ?_)
 show wpAny _ _ (setEntries a >>= _) _ _ s
 refine wpAny_bind (tJ g d f ?_)
 rw[if_neg (by rw[hn];simp)]
 show wpAny _ _ (setNext a (sl:Int).toNat (i:Int).toNat (ep:Int).toNat >>= _) _ _ s
 rw[dR,dR,dR]
 refine wpAny_bind (v _ _ s _ g ?_)
 show wpAny _ _ (setField (.ref I) 0 (rawInt nx) >>= _) _ _ s
 refine wpAny_bind (wpAny_setField_rec it (by simp) λh1 i1 b1=>?_)
 refine wpAny_bind (wpAny_setField_rec i1 (by simp) λh2 i2 b2=>?_)
 exact wpAny_pure ⟨x,rfl,wpAny_pure (q h2 i2 (b1.trans b2))⟩
theorem cg4{I a:Addr}{o:Obj}{es:Array (Int × Value)}{t:SetTable}{sl i n ep:Nat}{Q:Option Value->Shared->Prop}(hh:A.handled=none)(it:jH s.heap I a (.int sl 0) i n ep)(g:s.heap.get? a=some o)(d:o.data=.set es ep t)(f:t.fits es.size=true)(hn:es.size=n)
  (v:nQ prog w o a sl i ep none) (q:∀h',Heap.ExtBut I s.heap h'->Q none { s with heap:=h' }):wpAny (model prog w) A (pyNext (.ref I)) Q E s:=by
 have hT:s.TypeIs (.ref I) "set_iterator":=⟨_,it,rfl⟩
 unfold pyNext
 refine wpAny_bind (wpAny_attempt (wpAny_callSpecial?_slot (name:=CS "__next__") hT jG (wpAny_call_entry jG hT AU ?_ (AV _))))
 show wpAny _ _ (fieldsOf (.ref I) >>= _) _ _ s
 refine wpAny_bind (wpAny_fieldsOf it rfl ?_)
 show wpAny _ _ (setEntries a >>= _) _ _ s
 refine wpAny_bind (tJ g d f ?_)
 rw[if_neg (by rw[hn];simp)]
 show wpAny _ _ (setNext a (sl:Int).toNat (i:Int).toNat (ep:Int).toNat >>= _) _ _ s
 rw[dR,dR,dR]
 refine wpAny_bind (v _ _ s _ g ?_)
 show wpAny _ _ (setField (.ref I) 2 .none >>= _) _ _ s
 refine wpAny_bind (wpAny_setField_rec it (by simp) λh1 i1 b1=>?_)
 show wpAny _ _ (newExc (.type "StopIteration") [] >>= _) _ _ _
 refine wpAny_bind ?_
 simp only[newExc,newTuple]
 refine wpAny_bind (wpAny_newObj_type ?_ (by size_fits))
 refine wpAny_bind (m:=firstArgMember _ _) (wpAny_of_eq (a:=ib) (by first | rfl | (simp only[firstArgMember];rfl)) ?_)
 refine wpAny_newObj_type ?_ (by size_fits)
 simp only[raiseNew]
 refine wpAny_bind (wpAny_handled ?_)
 first | rw[show A.in1.handled=none from hh] | rw[hh]
 refine wpAny_bind (wpAny_pure (wpAny_throw ?_))
 refine wpAny_bind (wpAny_isInstance (T:="StopIteration") (b:=true) ⟨_,dn _ rfl,rfl⟩ isSubtype_stop ?_)
 exact wpAny_pure (q _ ((b1.extBut.push _).push _))
end
end L2
namespace L2
open PySem PySem.Spec PyProof.Rows
theorem AR{α:Type}{l:List α}{n:Nat}(h:n<l.length):(l[n]::l.eraseIdx n).Perm l:=by
 rw[List.eraseIdx_eq_take_drop_succ]
 have e:l=l.take n++l[n]::l.drop (n+1):=by rw[<-List.drop_eq_getElem_cons h,UJ]
 exact List.perm_middle.symm.trans (List.Perm.of_eq e.symm)
theorem QC{α:Type}(f:Nat->Nat):∀(fuel k:Nat) (left:List α) (out:Array α),left.length=fuel->(pickOrder.go f fuel k left out).toList.Perm (out.toList++left)
 | 0,k,left,out,h=>by
  have:left=[]:=UK.mp h
  subst this
  unfold pickOrder.go
  rw[kC]
 | fuel+1,k,left,out,h=>by
  unfold pickOrder.go
  have lt:f k%left.length<left.length:=oj _ (by omega)
  rw[aN lt]
  dsimp only
  refine(QC f fuel (k+1) _ _ (by rw[UL,if_pos lt];omega)).trans ?_
  rw[UG,dY]
  exact List.Perm.append_left _ (AR lt)
theorem bF4{α:Type}(f:Nat->Nat)(a:Array α):(pickOrder f a).toList.Perm a.toList:=by
 have:=QC f a.size 0 a.toList #[] (by simp)
 simpa[pickOrder]using this
section
variable{prog:Program}{w:World}{A:Around}{E:Value->Shared->Prop}{s:Shared}
theorem AW{Q:Bool->Shared->Prop}(q:Q (eN w) s):wpAny (model prog w) A setsByText Q E s:=by
 unfold setsByText
 exact wpAny_bind (wpAny_askSetting (wpAny_pure q))
theorem QD{a:Addr}{o:Obj}{es:Array (Int × Value)}{ep:Nat}{t:SetTable}(d:o.data=.set es ep t)(f:t.fits es.size=true)(bt:eN w=true)(sl i:Nat) :
  nQ prog w o a sl i ep (((pickOrder (w.params.setOrder a ep) es)[i]?).map λe=>(e.2,sl)):=by
 intro A E s Q g q
 unfold setNext
 refine wpAny_bind (wpAny_setState_of g d f ?_)
 dsimp only
 refine wpAny_bind (AW ?_)
 rw[bt,if_pos rfl,if_neg (by simp)]
 refine wpAny_bind ?_
 unfold setWalk
 refine wpAny_bind (wpAny_setState_of g d f ?_)
 dsimp only
 refine wpAny_bind (AW ?_)
 rw[bt,if_pos rfl]
 exact wpAny_bind (wpAny_askSetting (wpAny_pure (wpAny_pure q)))
theorem QE{a:Addr}{o:Obj}{es:Array (Int × Value)}{ep:Nat}{t:SetTable}(d:o.data=.set es ep t)(f:t.fits es.size=true)(bt:eN w=false)(p:cU true t)(nd:(!t.plain&&decide (es.size>1))=false)(sl i:Nat) :
  nQ prog w o a sl i ep (match es[eX t.place sl]?,t.place[eX t.place sl]? with | some (_,x),some j=>some (x,j+1) | _,_=>none):=by
 intro A E s Q g q
 unfold setNext
 refine wpAny_bind (wpAny_setState_of g d f ?_)
 dsimp only
 refine wpAny_bind (AW ?_)
 rw[bt,if_neg ig]
 refine wpAny_ite_split (λz=>?_) (λ_=>?_)
 ·have z':(!t.plain&&decide (es.size>1))=true:=z
  rw[nd]at z';cases z'
 refine wpAny_bind ?_
 show wpAny _ _ (if(!t.led && !es.isEmpty)=true then unsupported _ else pure ()) _ _ _
 rw[if_neg (by rw[p.led];simp)]
 exact wpAny_pure (wpAny_pure q)
noncomputable def mk(t:SetTable):Nat->Nat
 | 0=>0
 | i+1=>t.place.getD i 0+1
theorem QF{t:SetTable}(r:Rs t.place){i:Nat}(hi:i<=t.place.size):eX t.place (mk t i)=i:=by
 obtain⟨h1,h2,h3⟩:=Qp (j:=mk t i) r
 cases i with
 | zero =>
  cases e:eX t.place (mk t 0)with
  | zero=>rfl
  | succ p =>
   exfalso
   have:=h2 0 (by omega) (by omega)
   exact absurd this (yV _)
 | succ i =>
  have ei:mk t (i+1)=t.place[i]+1:=by simp[mk,yZ,hi,Nat.lt_of_succ_le hi]
  rcases CM (eX t.place (mk t (i+1))) (i+1)with z | z | z
  ·have:=h3 i hi (by omega)
   omega
  ·exact z
  ·have y:=h2 (i+1) (by omega) z
   have:=r.lt (show i<i+1 by omega) (show i+1<t.place.size by omega)
   omega
theorem bO0{I a:Addr}{o:Obj}{es:Array (Int × Value)}{ep n:Nat}{t:SetTable}(hh:A.handled=none)(d:o.data=.set es ep t)(f:t.fits es.size=true)(hn:es.size=n)(ne:a≠I)(L:List Value)(sl:Nat->Nat)(hL:L.length=n)
  (v1:∀i x,L[i]?=some x->nQ prog w o a (sl i) i ep (some (x,sl (i+1)))) (v2:nQ prog w o a (sl n) n ep none) :
  Walks prog w A I [I,a] [I] n (λi v=>L[i]?=some v) (λi h=>jH h I a (.int (sl i) 0) i n ep/\h.get? a=some o) where
 sub:=λb hb=>by simp at hb;simp[hb]
 frame:=λi h h' st k=>⟨k I (by simp) _ st.1,k a (by simp) _ st.2⟩
 item:=λi s Q E hi st q=>by
  have e:L[i]?=some (L[i]'(by omega)):=aN (by omega)
  exact bS0 st.1 st.2 d f hn ne (v1 i _ e) λh' i1 b1=>q _ h' s.toks e ⟨i1,b1.extBut _ _ ne st.2⟩ λb o' hb e'=>b1.extBut _ _ (λz=>hb (by simp[z])) e'
 done:=λs Q E st q=>cg4 hh st.1 st.2 d f hn v2 λh' b1=>q h' s.toks λb o' hb e'=>b1 _ _ (λz=>hb (by simp[z])) e'
 self:=λi s Q E st q=>Qz st.1 q
end
end L2
namespace L2
open PySem PySem.Spec PyProof.Rows
section
variable{prog:Program}{w:World}{A:Around}{E:Value->Shared->Prop}{s:Shared}
noncomputable abbrev x6(m:Value)(a:Addr)(n ep:Nat):Obj:={ cls:=.type "set_iterator",dict:=none,data:=.fields #[m,.int (0:Nat) 0,.ref a,.int n 0,.int ep 0],slots:=#[] }
theorem QG{a:Addr}{o:Obj}{es:Array (Int × Value)}{ep:Nat}{t:SetTable}{Q:Bool->Shared->Prop}(g:s.heap.get? a=some o)(d:o.data=.set es ep t)(f:t.fits es.size=true)(q:Q (!eN w&&(!t.plain&&decide (es.size>1))) s):wpAny (model prog w) A (setDrawn a) Q E s:=by
 unfold setDrawn
 refine wpAny_bind (wpAny_setState_of g d f ?_)
 dsimp only
 exact wpAny_bind (AW (wpAny_pure q))
theorem bW9{a:Addr}{o:Obj}{es:Array (Int × Value)}{ep:Nat}{t:SetTable}{Q:Value->Shared->Prop}(g:s.heap.get? a=some o)(c:o.cls=.type "set")(d:o.data=.set es ep t)(f:t.fits es.size=true)(nd:(!eN w&&(!t.plain&&decide (es.size>1)))=false)
  (q:Q (.ref s.heap.objs.size) { s with heap:=s.heap.push (x6 (.int (0:Nat) 0) a es.size ep) }):wpAny (model prog w) A (pyIter (.ref a)) Q E s:=by
 have hT:s.TypeIs (.ref a) "set":=⟨o,g,c⟩
 refine wpAny_pyIter_slot hT CT (wpAny_call_entry CT hT Qx ?_ (F.args_set_iter_1 _))
 show wpAny _ _ (CU a >>= _) _ _ s
 refine wpAny_bind ?_
 unfold CU
 refine wpAny_bind (tJ g d f (wpAny_pure ?_))
 refine wpAny_bind (QG g d f ?_)
 rw[nd,if_neg ig]
 refine wpAny_bind (wpAny_pure ?_)
 refine wpAny_bind (wpAny_setEpoch_of g d f ?_)
 exact wpAny_bind (wpAny_newObj_type (wpAny_pure ⟨_,rfl,"set_iterator",_,⟨_,dn _ rfl,rfl⟩,jG.lookup,q⟩))
theorem cj4{n:Nat}{src:Source}{Q:Nat->Shared->Prop}(hn:n≠0)(q:∀i dr,i<n->Q i { s with drawn:=dr }):wpAny (model prog w) A (choose src n) Q E s:=λΓ p _=>⟨hn,q _ _ (oj _ (Nat.pos_of_ne_zero hn))⟩
theorem QH{α:Type}:∀(n:Nat) (xs:List α) (s:Shared) (Q:List α->Shared->Prop),xs.length<=n->(∀ys dr,ys.Perm xs->Q ys { s with drawn:=dr })->wpAny (model prog w) A (drawOrder n xs) Q E s
 | 0,xs,s,Q,h,q=>by
  have:xs=[]:=UK.mp (by omega)
  subst this
  unfold drawOrder
  exact wpAny_pure (q [] s.drawn (CO _))
 | n+1,[],s,Q,h,q=>by
  unfold drawOrder
  exact wpAny_pure (q [] s.drawn (CO _))
 | n+1,x::xs,s,Q,h,q=>by
  unfold drawOrder
  refine wpAny_bind (cj4 (by simp) λi dr lt=>?_)
  rw[aN lt]
  dsimp only
  refine wpAny_bind (QH n _ _ _ (by rw[UL,if_pos lt];simp at h ⊢;omega) λys dr2 hp=>?_)
  exact wpAny_pure (q _ dr2 ((List.Perm.cons _ hp).trans (AR lt)))
theorem bD8{a:Addr}{o:Obj}{es:Array (Int × Value)}{ep pl:Nat}{t:SetTable}{x:Value}{hx:Int}{Q:Value->Shared->Prop}(g:s.heap.get? a=some o)(d:o.data=.set es ep t)(f:t.fits es.size=true)(e:es[pl]?=some (hx,x))(q:Q x s):wpAny (model prog w) A (setNextDrawn a pl ep) Q E s:=by
 unfold setNextDrawn
 refine wpAny_bind (wpAny_setState_of g d f ?_)
 dsimp only
 rw[if_neg (by simp),e]
 exact wpAny_pure q
theorem bT6{a:Addr}{o:Obj}{es:Array (Int × Value)}{ep:Nat}{t:SetTable}{Q:Value->Shared->Prop}(g:s.heap.get? a=some o)(c:o.cls=.type "set")(d:o.data=.set es ep t)(f:t.fits es.size=true)(b:es.size<scanBound)(dr:(!eN w&&(!t.plain&&decide (es.size>1)))=true)
  (q:∀(ps:List Nat) mx,ps.Perm (aR es.size)->Q (.ref (s.heap.objs.size+1)) { s with heap:=(s.heap.push { cls:=.type "tuple",data:=.seq (ps.map λ(i:Nat)=>gG i 0).toArray }).push (x6 (.ref s.heap.objs.size) a es.size ep),drawn:=mx }):wpAny (model prog w) A (pyIter (.ref a)) Q E s:=by
 have hT:s.TypeIs (.ref a) "set":=⟨o,g,c⟩
 refine wpAny_pyIter_slot hT CT (wpAny_call_entry CT hT Qx ?_ (F.args_set_iter_1 _))
 show wpAny _ _ (CU a >>= _) _ _ s
 refine wpAny_bind ?_
 unfold CU
 refine wpAny_bind (tJ g d f (wpAny_pure ?_))
 refine wpAny_bind (QG g d f ?_)
 rw[dr,if_pos rfl]
 refine wpAny_bind (QH es.size (aR es.size) s _ (yE cV) λps mx hp=>?_)
 refine wpAny_bind (wpAny_newTuple ?_ ?_)
 ·have g1:(s.heap.push { cls:=.type "tuple",data:=.seq (ps.map λ(i:Nat)=>rawInt i).toArray }).get? a=some o:=cm _ g
  refine wpAny_bind (wpAny_setEpoch_of g1 d f ?_)
  refine wpAny_bind (wpAny_newObj_type (wpAny_pure ⟨_,rfl,"set_iterator",_,⟨_,dn _ rfl,rfl⟩,jG.lookup,?_⟩))
  have:=q ps mx hp
  rw[<-jO s.heap { cls:=.type "tuple",data:=.seq (ps.map λ(i:Nat)=>gG i 0).toArray }]at this
  exact this
 ·have:=hp.length_eq
  rw[cV]at this
  have:=fits_of_scanBound b
  simp only[bO]
  omega
end
end L2
namespace L2
open PySem PySem.Spec PyProof.Rows
section
variable{prog:Program}{w:World}{A:Around}{E:Value->Shared->Prop}{s:Shared}
noncomputable def AX(h:Heap)(T:Addr)(ps:List Nat):Prop:=∃nT,h.get? T=some { cls:=.type "tuple",data:=.seq (ps.map λ(i:Nat)=>gG i 0).toArray nT }
theorem bF1{I a T:Addr}{o:Obj}{es:Array (Int × Value)}{t:SetTable}{i n ep:Nat}{ps:List Nat}{pl:Nat}{hx:Int}{x:Value}{Q:Option Value->Shared->Prop}(it:jH s.heap I a (.ref T) i n ep)(g:s.heap.get? a=some o)(d:o.data=.set es ep t)(f:t.fits es.size=true)(hn:es.size=n)(tp:AX s.heap T ps)
  (e1:ps[i]?=some pl) (e2:es[pl]?=some (hx,x)) (q:∀h',jH h' I a (.ref T) (i+1) n ep->n5 I s.heap h'->Q (some x) { s with heap:=h' }):wpAny (model prog w) A (pyNext (.ref I)) Q E s:=by
 have hT:s.TypeIs (.ref I) "set_iterator":=⟨_,it,rfl⟩
 obtain⟨nT,gT⟩:=tp
 unfold pyNext
 refine wpAny_bind (wpAny_attempt (wpAny_callSpecial?_slot (name:=CS "__next__") hT jG (wpAny_call_entry jG hT AU ?_ (AV _))))
 show wpAny _ _ (fieldsOf (.ref I) >>= _) _ _ s
 refine wpAny_bind (wpAny_fieldsOf it rfl ?_)
 show wpAny _ _ (setEntries a >>= _) _ _ s
 refine wpAny_bind (tJ g d f ?_)
 rw[if_neg (by rw[hn];simp)]
 show wpAny _ _ (seqItems? (.ref T) >>= _) _ _ s
 refine wpAny_bind (wpAny_seqItems gT rfl ?_)
 dsimp only
 rw[dR,show(ps.map λ(i:Nat)=>gG i 0).toArray[i]?=some (.int pl 0) by simp[e1]]
 dsimp only
 rw[dR,dR]
 refine wpAny_bind (bD8 g d f e2 ?_)
 refine wpAny_bind (wpAny_setField_rec it (by simp) λh1 i1 b1=>?_)
 exact wpAny_pure ⟨x,rfl,wpAny_pure (q h1 i1 b1)⟩
theorem bR0{I a T:Addr}{o:Obj}{es:Array (Int × Value)}{t:SetTable}{i n ep:Nat}{ps:List Nat}{Q:Option Value->Shared->Prop}(hh:A.handled=none)(it:jH s.heap I a (.ref T) i n ep)(g:s.heap.get? a=some o)(d:o.data=.set es ep t)(f:t.fits es.size=true)(hn:es.size=n)(tp:AX s.heap T ps)
  (e1:ps[i]?=none) (q:∀h',Heap.ExtBut I s.heap h'->Q none { s with heap:=h' }):wpAny (model prog w) A (pyNext (.ref I)) Q E s:=by
 have hT:s.TypeIs (.ref I) "set_iterator":=⟨_,it,rfl⟩
 obtain⟨nT,gT⟩:=tp
 unfold pyNext
 refine wpAny_bind (wpAny_attempt (wpAny_callSpecial?_slot (name:=CS "__next__") hT jG (wpAny_call_entry jG hT AU ?_ (AV _))))
 show wpAny _ _ (fieldsOf (.ref I) >>= _) _ _ s
 refine wpAny_bind (wpAny_fieldsOf it rfl ?_)
 show wpAny _ _ (setEntries a >>= _) _ _ s
 refine wpAny_bind (tJ g d f ?_)
 rw[if_neg (by rw[hn];simp)]
 show wpAny _ _ (seqItems? (.ref T) >>= _) _ _ s
 refine wpAny_bind (wpAny_seqItems gT rfl ?_)
 dsimp only
 rw[dR,show(ps.map λ(i:Nat)=>gG i 0).toArray[i]?=none by simp[e1]]
 dsimp only
 refine wpAny_bind (wpAny_setField_rec it (by simp) λh0 i0 b0=>?_)
 refine wpAny_bind (wpAny_setField_rec i0 (by simp) λh1 i1 b1=>?_)
 show wpAny _ _ (newExc (.type "StopIteration") [] >>= _) _ _ _
 refine wpAny_bind ?_
 simp only[newExc,newTuple]
 refine wpAny_bind (wpAny_newObj_type ?_ (by size_fits))
 refine wpAny_bind (m:=firstArgMember _ _) (wpAny_of_eq (a:=ib) (by first | rfl | (simp only[firstArgMember];rfl)) ?_)
 refine wpAny_newObj_type ?_ (by size_fits)
 simp only[raiseNew]
 refine wpAny_bind (wpAny_handled ?_)
 first | rw[show A.in1.handled=none from hh] | rw[hh]
 refine wpAny_bind (wpAny_pure (wpAny_throw ?_))
 refine wpAny_bind (wpAny_isInstance (T:="StopIteration") (b:=true) ⟨_,dn _ rfl,rfl⟩ isSubtype_stop ?_)
 exact wpAny_pure (q _ (((b0.trans b1).extBut.push _).push _))
theorem bB6{I a T:Addr}{o:Obj}{es:Array (Int × Value)}{ep n:Nat}{t:SetTable}(hh:A.handled=none)(d:o.data=.set es ep t)(f:t.fits es.size=true)(hn:es.size=n)(ne:a≠I)(nT:T≠I)(ps:List Nat)(hp:ps.length=n)(L:List Value)(hL:L.length=n)
  (v:∀(i pl:Nat),ps[i]?=some pl->∃hx x,es[pl]?=some (hx,x)/\L[i]?=some x) :
  Walks prog w A I [I,a,T] [I] n (λi v=>L[i]?=some v) (λi h=>jH h I a (.ref T) i n ep/\h.get? a=some o/\AX h T ps) where
 sub:=λb hb=>by simp at hb;simp[hb]
 frame:=λi h h' st k=>⟨k I (by simp) _ st.1,k a (by simp) _ st.2.1,by obtain⟨m,e⟩:=st.2.2;exact⟨m,k T (by simp) _ e⟩⟩
 item:=λi s Q E hi st q=>by
  obtain⟨hx,x,e2,e3⟩:=v i _ (aN (show i<ps.length by omega))
  exact bF1 st.1 st.2.1 d f hn st.2.2 (aN (show i<ps.length by omega)) e2 λh' i1 b1=>q _ h' s.toks e3 ⟨i1,b1.extBut _ _ ne st.2.1,by obtain⟨m,e⟩:=st.2.2;exact⟨m,b1.extBut _ _ nT e⟩⟩ λb o' hb e'=>b1.extBut _ _ (λz=>hb (by simp[z])) e'
 done:=λs Q E st q=>bR0 hh st.1 st.2.1 d f hn st.2.2 (iq (by omega)) λh' b1=>q h' s.toks λb o' hb e'=>b1 _ _ (λz=>hb (by simp[z])) e'
 self:=λi s Q E st q=>Qz st.1 q
end
end L2
namespace L2
open PySem PySem.Spec PyProof.Rows
section
variable{prog:Program}{w:World}{A:Around}{E:Value->Shared->Prop}{s:Shared}
theorem bX0{led:Bool}{a:Addr}{o:Obj}{es:Array (Int × Value)}{ep:Nat}{t:SetTable}{Q:Value->Shared->Prop}(hh:A.handled=none)(g:s.heap.get? a=some o)(c:o.cls=.type "set")(d:o.data=.set es ep t)(f:t.fits es.size=true)(b:es.size<scanBound)(p:cU (!eN w) t)
  (q:∀(h':Heap) dr (I:Addr) (fp:List Addr) (L:List Value) (St:Nat->Heap->Prop),L.Perm (es.toList.map (·.2))->Walks prog w A I fp [I] L.length (λi v=>L[i]?=some v) St->St 0 h'->(∀b o,s.heap.get? b=some o->h'.get? b=some o)->s.heap.objs.size<=I->(∀b∈fp,b=a\/s.heap.objs.size<=b)->Q (.ref I) { s with heap:=h',drawn:=dr }) :
  wpAny (model prog w) A (pyIter (.ref a)) Q E s:=by
 have al:a<s.heap.objs.size:=br g
 have ne:a≠s.heap.objs.size:=cR al
 by_cases dr:(!eN w&&(!t.plain&&decide (es.size>1)))=true
 ·refine bT6 g c d f b dr λps mx hp=>?_
  have hl:ps.length=es.size:=by rw[hp.length_eq,cV]
  have ok:∀pl∈ps,pl<es.size:=λpl h=>dO.mp (hp.mem_iff.mp h)
  have e1:es.toList.map (·.2)=(aR es.size).map λi=>(es.getD i (0,.none)).2:=by
   refine qH (by simp) λi h1 h2=>?_
   simp at h1
   simp[yZ,h1]
  have hL:(ps.map λi=>(es.getD i (0,.none)).2).length=es.size:=by rw[bO,hl]
  refine q _ mx _ [s.heap.objs.size+1,a,s.heap.objs.size] (ps.map λi=>(es.getD i (0,.none)).2) (λi h=>jH h (s.heap.objs.size+1) a (.ref s.heap.objs.size) i es.size ep/\h.get? a=some o/\AX h s.heap.objs.size ps) (by rw[e1];exact hp.map _) (by
   rw[hL]
   exact bB6 hh d f rfl (cR (vi al)) (cR (qv _)) ps hl _ hL λi pl e=>by
    have bJ:=ok pl (n6 e)
    refine⟨(es[pl]).1,(es[pl]).2,qK bJ,?_⟩
    rw[cy,e]
    simp[yZ,bJ]) ⟨?_,?_,?_⟩ (λb o e=>cm _ (cm _ e)) (yF _) (λb hb=>?_)
  ·have:=dn (s.heap.push { cls:=.type "tuple",data:=.seq (ps.map λ(i:Nat)=>gG i 0).toArray }) (o:=x6 (.ref s.heap.objs.size) a es.size ep) rfl
   rw[jO]at this
   exact this
  ·exact cm _ (cm _ g)
  ·exact⟨_,cm _ (dn _ rfl)⟩
  ·simp only[bU,ik,or_false]at hb
   rcases hb with rfl | rfl | rfl
   ·exact .inr (yF _)
   ·exact .inl rfl
   ·exact .inr (aZ _)
 ·have mx:(!eN w&&(!t.plain&&decide (es.size>1)))=false:=Bool.eq_false_iff.mpr dr
  refine bW9 g c d f mx ?_
  have fin:∀(L:List Value) (sl:Nat->Nat),sl 0=0->L.length=es.size->L.Perm (es.toList.map (·.2))->(∀i x,L[i]?=some x->nQ prog w o a (sl i) i ep (some (x,sl (i+1))))->nQ prog w o a (sl es.size) es.size ep none->Q (.ref s.heap.objs.size) { s with heap:=s.heap.push (x6 (.int (0:Nat) 0) a es.size ep) }:=λL sl s0 hL hp v1 v2=>by
   have:=q (s.heap.push (x6 (.int (0:Nat) 0) a es.size ep)) s.drawn s.heap.objs.size [s.heap.objs.size,a] L (λi h=>jH h s.heap.objs.size a (.int (sl i) 0) i es.size ep/\h.get? a=some o) hp (by rw[hL];exact bO0 hh d f rfl ne L sl hL v1 v2) ⟨by rw[s0];exact dn _ rfl,cm _ g⟩ (λb o e=>cm _ e) (aZ _) (λb hb=>by
    simp only[bU,ik,or_false]at hb
    rcases hb with rfl | rfl
    ·exact .inr (aZ _)
    ·exact .inl rfl)
   exact this
  cases bt:eN w with
  | true =>
   have pp:=bF4 (w.params.setOrder a ep) es
   have pl:(pickOrder (w.params.setOrder a ep) es).size=es.size:=by rw[<-ie,pp.length_eq,ie]
   refine fin ((pickOrder (w.params.setOrder a ep) es).toList.map (·.2)) (λ_=>0) rfl (by simp[pl]) (pp.map _) (λi x e=>?_) ?_
   ·have:=QD (prog:=prog) (a:=a) d f bt 0 i
    rw[cy,CQ]at e
    cases e2:(pickOrder (w.params.setOrder a ep) es)[i]? with
    | none=>rw[e2]at e;cases e
    | some y =>
     rw[e2]at e this
     injection e with e
     rw[<-e]
     exact this
   ·have:=QD (prog:=prog) (a:=a) d f bt 0 es.size
    rw[Ma (by omega)]at this
    exact this
  | false =>
   rw[bt]at p mx
   have nd:(!t.plain&&decide (es.size>1))=false:=by simpa using mx
   have ps:t.place.size=es.size:=by
    simp only[SetTable.fits,du,beq_iff_eq]at f
    exact f.1
   refine fin (es.toList.map (·.2)) (mk t) rfl (by simp) (CO _) (λi x e=>?_) ?_
   ·have hi:i<es.size:=by have:=(iW.mp e).1;simpa using this
    have:=QE (prog:=prog) (a:=a) d f bt p nd (mk t i) i
    rw[QF p.AS (by omega),qK hi,qK (by omega)]at this
    have ex:x=(es[i]).2:=by
     rw[cy,CQ,qK hi]at e
     injection e with e;exact e.symm
    rw[ex,show mk t (i+1)=t.place[i]+1 by simp[mk,yZ,ps,hi]]
    exact this
   ·have:=QE (prog:=prog) (a:=a) d f bt p nd (mk t es.size) es.size
    rw[QF p.AS (by omega),Ma (aZ _)]at this
    exact this
end
end L2
namespace L2
open PySem PySem.Spec PyProof.Rows
section
variable{prog:Program}{w:World}{A:Around}{E:Value->Shared->Prop}{s:Shared}
theorem bC9{R:Result->Shared->Prop}{a S:Addr}{o:Obj}{es:Array (Int × Value)}{ep:Nat}{t:SetTable}(hh:A.handled=none)(g:s.heap.get? a=some o)(c:o.cls=.type "set")(d:o.data=.set es ep t)(f:t.fits es.size=true)(b:es.size<scanBound)(p:cU (!eN w) t)
  (nS:S≠a) (res:Value) (c₀:Nat) (hS:s.heap.get? S=some { cls:=.type "list",data:=.seq #[] c₀ }) (hn:es.size<=sizeLine)
  (hR:∀h' tk dr kn c',kn.toList.Perm (es.toList.map (·.2))->(∀b o,b≠S->s.heap.get? b=some o->h'.get? b=some o)->h'.get? S=some { cls:=.type "list",dict:=none,data:=.seq kn c',slots:=#[] }->R (.ok (.ret res)) { s with heap:=h',toks:=tk,drawn:=dr }) :
  wpAny (model prog w) A.in1 (UM (.ref S) (.ref a) res)
   (λfin s'=>match fin with | .done f=>R (.ok f) s' | .again c'=>c'.quiet=true/\codeAny (model prog w) A c' R s') (λe s'=>R (.error e) s') s:=by
 have hT:s.TypeIs (.ref a) "set":=⟨o,g,c⟩
 unfold UM
 refine wpAny_bind (wpAny_typeOf (T:="set") hT ?_)
 have h1:UN (.ref S) (.ref a)=false:=by simp[UN,nS]
 simp only[h1,show(mE "set"==mE "list")=false by decide,show(mE "set"==mE "tuple")=false by decide,qw,vn,if_false]
 refine wpAny_bind (bX0 (led:=true) (A:=A.in1) hh g c d f b p λh1 dr I fp L St hL W st k1 hI FA=>?_)
 have FC:=k1 _ _ hS
 have QI:S ∉ fp:=λh=>by
  rcases FA S h with h | h
  ·exact nS h
  ·exact absurd (br hS) (kI.mpr h)
 have hSI:S≠I:=λh=>absurd (br hS) (kI.mpr (h ▸ hI))
 have hl:L.length=es.size:=by rw[hL.length_eq];simp
 have key:∀(h:Heap) (c₁ tk:Nat),St 0 h->(∀b o,b≠S->s.heap.get? b=some o->h.get? b=some o) ->
   h.get? S=some { cls:=.type "list",data:=.seq #[] c₁ }->codeAny (model prog w) A (.builtin "list.extend.loop" ⟨[.ref S,.ref I,res],[]⟩) R { s with heap:=h,toks:=tk,drawn:=dr }:=by
  intro h c₁ tk cH hk cR1
  refine codeAny_extend_loopS W.toS (hl ▸ hn) S QI res _ 0 _ #[] c₁ rfl (ji _) cH cR1 (ItemsOf.nil _) λs' kn c' hm hS' pq=>?_
  rw[Moved.eq_with hm]
  have ea:kn.toList=L:=by
   refine Cz λi=>?_
   rw[CQ]
   by_cases hi:i<L.length
   ·have h2:i<kn.size:=by rw[pq.1];exact hi
    rw[qK h2]
    exact(pq.2 i _ (qK h2)).symm
   ·rw[iq (kI.mp hi)]
    exact Ma (by rw[pq.1];omega)
  refine hR s'.heap s'.toks dr kn c' (ea ▸ hL) (λb o hb e=>hm.heap b o (λlC=>?_) (hk b o hb e)) hS'
  rcases bU.mp lC with e' | lC
  ·exact hb e'
  ·exact absurd (br e) (kI.mpr (e8.mp lC ▸ hI))
 refine wpAny_bind (wpAny_holding (bR8 ⟨o,k1 _ _ g,c⟩ ?_))
 refine wpAny_ite_split (λ_=>?_) (λ_=>wpAny_pure ⟨plainId_quiet PySem.F.plain_extend_loop _,key _ c₀ _ st (λb o _ e=>k1 b o e) FC⟩)
 refine wpAny_bind (wpAny_rule ?_)
 refine wpAny_bind ?_
 show wpAny _ _ (updateSeq S (·.push .none) >>= λ_=>updateSeq S (·.pop)) _ _ _
 refine wpAny_bind (wpAny_updateSeq FC rfl ?_)
 have y2:=vb (mL (·.push ib)) FC rfl
 refine wpAny_updateSeq (hz:=by seq_fits) y2 rfl ?_
 have y3:=vb (mL (·.pop)) y2 rfl
 have ot:∀b o,b≠S->h1.get? b=some o->((h1.update S (mL (·.push ib))).update S (mL (·.pop))).get? b=some o:=λb o n e=>(kE _ _ (dF n)).trans ((kE _ _ (dF n)).trans e)
 exact wpAny_pure ⟨plainId_quiet PySem.F.plain_extend_loop _,key _ _ _ (W.frame 0 _ _ st λb hb o e=>ot b o (λh=>QI (h ▸ hb)) e) (λb o hb e=>ot b o hb (k1 b o e)) y3⟩
theorem bW8{R:Result->Shared->Prop}{a S:Addr}{o:Obj}{es:Array (Int × Value)}{ep:Nat}{t:SetTable}(hh:A.handled=none)(g:s.heap.get? a=some o)(c:o.cls=.type "set")(d:o.data=.set es ep t)(f:t.fits es.size=true)(b:es.size<scanBound)(p:cU (!eN w) t)
  (nS:S≠a) (c₀:Nat) (hS:s.heap.get? S=some { cls:=.type "list",data:=.seq #[] c₀ }) (hn:es.size<=sizeLine)
  (hR:∀h' tk dr kn c',kn.toList.Perm (es.toList.map (·.2))->(∀b o,b≠S->s.heap.get? b=some o->h'.get? b=some o)->h'.get? S=some { cls:=.type "list",dict:=none,data:=.seq kn c',slots:=#[] }->R (.ok (.ret (.ref S))) { s with heap:=h',toks:=tk,drawn:=dr }) :
  codeAny (model prog w) A (.builtin "list.__iadd__" ⟨[.ref S,.ref a],[]⟩) R s:=by
 refine codeAny_builtin entry_list_iadd' ?_
 rw[CP (show plainId "list.__iadd__"=true by decide +kernel) _]
 exact bC9 hh g c d f b p nS _ c₀ hS hn hR
theorem bw1{a:Addr}{o:Obj}{es:Array (Int × Value)}{ep:Nat}{t:SetTable}{Q:List Value->Shared->Prop}(hh:A.handled=none)(g:s.heap.get? a=some o)(c:o.cls=.type "set")(d:o.data=.set es ep t)(f:t.fits es.size=true)(b:es.size<scanBound)(p:cU (!eN w) t)(hn:es.size<=sizeLine)
  (q:∀h' tk dr L,L.Perm (es.toList.map (·.2))->(∀b o,s.heap.get? b=some o->h'.get? b=some o)->Q L { s with heap:=h',toks:=tk,drawn:=dr }) :
  wpAny (model prog w) A (collect (.ref a)) Q E s:=by
 unfold collect
 refine wpAny_bind (wpAny_runValue (codeAny_builtin entry_proto_collect' ?_))
 show wpAny _ _ (do again (.builtin "list.__iadd__" ⟨[<-newList [],.ref a],[]⟩)) _ _ s
 have al:a<s.heap.objs.size:=br g
 refine wpAny_bind (wpAny_newList (wpAny_pure ⟨Code.quiet_builtin _ (by decide +kernel),bW8 hh (cm _ g) c d f b p (yC al) 0 (dn _ rfl) hn λh' tk dr kn c' h1 h2 h3=>?_⟩))
 dsimp only
 refine wpAny_bind (wpAny_load h3 ?_)
 exact wpAny_pure (q h' tk dr _ h1 λb o e=>h2 b o (cR (br e)) (cm _ e))
end
end L2
namespace L2
open PySem PySem.Spec PyProof.Rows
theorem FD(val:Nat->Int):∀i,(firstMet val i).Nodup
 | 0=>by rw[firstMet_zero];exact .nil
 | i+1=>by
  rw[firstMet_succ]
  have ih:=FD val i
  unfold step_dedup
  split
  ·exact ih
  ·rename_i h
   rw[List.nodup_append]
   refine⟨ih,by simp,λa ha b hb e=>?_⟩
   rw[e8]at hb
   subst hb;subst e
   exact h (by first | simpa using ha | (simp;exact ha))
theorem ca8(ns:List Int)(k:Int):k∈firstMet (λi=>ns.getD i 0) ns.length↔k∈ns:=by
 have h:=firstMet_any (λi=>ns.getD i 0) ns.length k
 have e:(aR ns.length).map (λi=>ns.getD i 0)=ns:=by
  refine qH (by simp) λi h1 h2=>?_
  simp[List.getD,h2]
 rw[e]at h
 have f:∀l:List Int,l.any (·==k)=true↔k∈l:=λl=>by
  rw[CC]
  exact⟨λ⟨x,hx,e⟩=>by rw[beq_iff_eq]at e;exact e ▸ hx,λhx=>⟨k,hx,by simp⟩⟩
 rw[<-f,h,f]
theorem QJ{α:Type}[DecidableEq α]:∀{a b:List α},a.Nodup->(∀x∈a,x∈b)->b.length<=a.length->b.Perm a
 | [],b,_,_,h=>by
  cases b with
  | nil=>exact .nil
  | cons x b=>simp at h
 | x::a,b,nd,s,h=>by
  have hx:=s x (by simp)
  have iF:=ij.mp nd
  have:=QJ (a:=a) (b:=b.erase x) iF.2 (λy hy=>by
   have:y≠x:=λe=>iF.1 (e ▸ hy)
   exact(UO this).mpr (s y (by simp[hy]))) (by
   rw[UP hx];simp at h;omega)
  exact(List.perm_cons_erase hx).trans (this.cons x)
theorem cm6{l:List Int}(p:l.Pairwise (·<=·))(n:l.Nodup):l.Pairwise (· < ·):=by
 induction l with
 | nil=>exact .nil
 | cons x l ih =>
  have p':=vk.mp p
  have n':=ij.mp n
  refine vk.mpr ⟨λy hy=>?_,ih p'.2 n'.2⟩
  have h1:=p'.1 y hy
  have h2:x≠y:=λe=>n'.1 (e ▸ hy)
  omega
noncomputable def AY(P:Program)(w:World)(l:Addr)(ns:List Int):HO:=.ext λh=>eW P w (!eN w) h l (λz=>(firstMet (λi=>ns.getD i 0) ns.length).any (·==z)) (firstMet (λi=>ns.getD i 0) ns.length).length
section
variable{prog:Program}{w:World}{A:Around}{E:Value->Shared->Prop}{s:Shared}
theorem bC7{a:Addr}{o:Obj}{es:Array (Int × Value)}{ep:Nat}{t:SetTable}{ns:List Int}{Q:Value->Shared->Prop}(hh:A.handled=none)(g:s.heap.get? a=some o)(c:o.cls=.type "set")(d:o.data=.set es ep t)(f:t.fits es.size=true)(b:es.size<64)(p:cU (!eN w) t)(hI:IntsAre (es.toList.map (·.2)) ns)
  (q:∀(h1 h':Heap) tk dr e (vs:List Value) (ms:List Int),IntsAre vs ms->ms.Perm ns->ms.Pairwise (·<=·)->(∀b o,s.heap.get? b=some o->h1.get? b=some o)->(∀b o,h1.get? b=some o->h'.get? b=some o)->h'.get? h1.objs.size=some (seqObj "list" vs.toArray e)->Q (.ref h1.objs.size) { s with heap:=h',toks:=tk,drawn:=dr }) :
  wpAny (model prog w) A (call (.builtin "sorted") [.ref a]) Q E s:=by
 refine Calls.call_function_entry kind_sorted plain_sorted entry_sorted (args_sorted1 _) ?_
 unfold Builtin.«sorted»
 refine wpAny_bind (m:=checkCount "sorted" 1 1 _) (wpAny_pure ?_)
 refine wpAny_bind (bw1 (A:=A.in1) hh g c d f (by unfold scanBound;omega) p (by rw[sizeLine_eq];omega) λh1 tk dr L pL k1=>?_)
 have iL:IntsAre L (L.map numOf):=intsAre_map L λv hv=>hI.all v (pL.mem_iff.mp hv)
 have pn:(L.map numOf).Perm ns:=by rw[<-hI.nums];exact pL.map _
 have lL:L.length<64:=by rw[pL.length_eq];simpa using b
 refine wpAny_bind (wpAny_newList ?_ (by rw[sizeLine_eq];omega))
 have vz:(h1.push (seqObj "list" L.toArray 0)).get? h1.objs.size=some (seqObj "list" L.toArray 0):=dn _ rfl
 refine wpAny_bind (wpAny_holding (wpAny_call_entry slot_list_sort ⟨_,vz,rfl⟩ entry_list_sort (list_sort_tree vz iL lL λout ns' a1 a2 a3=>⟨_,rfl,?_⟩) (args_list_sort _)))
 obtain⟨e,he⟩:=sortedHeap_at (out:=out) vz
 exact wpAny_pure ⟨_,rfl,q h1 _ tk dr e out.toList ns' a1 (a2.trans pn) a3 k1 (λb o e1=>by
  rw[sortedHeap_old (cR (br e1)) (by rw[size_push'];exact vi (br e1))]
  exact cm _ e1) he⟩
end
section
variable{X:Cx}
theorem bO5(hc:X.calm=true):fg X (.type "set") (λxs H Q=>∃(p:Addr) (ns:List Int),xs=[.ref p]/\bu X.K H p (ns.map V.int)/\ns.length<64/\∀l,H l=none->Q (.ref l) (upd H l (AY X.prog X.w l ns))):=by
 intro pins s σ H xs us Q I r h
 obtain⟨p,ns,rfl,hS,hn,q⟩:=h
 obtain⟨u,rfl,ru⟩:=r.one
 cases ru
 obtain⟨its,rv,pl,hz⟩:=I.list hS
 have hl:=pl.isList
 have hlen:ns.length=its.length:=by have:=rv.length;rwa [bO]at this
 refine bv2 (I.ok.hd hc) hl (ns:=ns) (by simpa using WS rv) (by simp only[dq];unfold scanBound;omega) λh' tk x k=>?_
 rw[show its.toArray.size=ns.length by simp[hlen]]at x
 have x0:=x
 obtain⟨o,_,_,_,g,_⟩:=x0
 exact⟨.ref _,_,I.laid (t':=tk) (λb o e=>k b o (br e) e) (aZ _) (show cW X.prog X.w _ _ _ (AY X.prog X.w _ ns) from⟨x,⟨o,g⟩,λh1 h2 y z=>y.at λo e=>z _ o (.inl rfl) e⟩),rfl,q _ (I.aA.fresh (aZ _))⟩
theorem bq5(hc:X.calm=true):fg X (.builtin "sorted") (λxs H Q=>∃(p:Addr) (ns:List Int),xs=[.ref p]/\H p=some (AY X.prog X.w p ns)/\ns.length<64/\∀(ms:List Int) l,ms.Pairwise (· < ·)->(∀k,k∈ms↔k∈ns)->H l=none->Q (.ref l) (upd H l (.lst (ms.map V.int)))):=by
 intro pins s σ H xs us Q I r h
 obtain⟨p,ns,rfl,hS,hn,q⟩:=h
 obtain⟨u,rfl,ru⟩:=r.one
 cases ru
 obtain⟨x,_,_⟩:=I.aA p _ hS
 obtain⟨o,es,ep,t,g,ex,d,el,mem,b,f,sz,tb⟩:=x
 have fl:=firstMet_length_le (λi=>ns.getD i 0) ns.length
 have h1:∀v∈es.toList.map (·.2),∃n t,v=.int n t:=λv hv=>by
  obtain⟨e,he,rfl⟩:=bP.mp hv
  obtain⟨⟨k,hk,_⟩,_⟩:=el e he
  obtain⟨t,ht⟩:=LB hk
  exact⟨k,t,ht⟩
 have iE:=intsAre_map _ h1
 have pE:((es.toList.map (·.2)).map numOf).Perm (firstMet (λi=>ns.getD i 0) ns.length):=by
  refine QJ (FD _ _) (λk hk=>?_) (by simp[sz])
  obtain⟨e,he,hke⟩:=(mem k).mp (by rw[CC];exact⟨k,hk,by simp⟩)
  obtain⟨t,ht⟩:=LB hke
  refine bP.mpr ⟨e.2,bP.mpr ⟨e,he,rfl⟩,?_⟩
  rw[ht];rfl
 refine bC7 (I.ok.hd hc) g ex.1 d f (by omega) tb iE λh1 h' tk dr e vs ms a1 a2 a3 k1 k2 he=>?_
 have pm:=a2.trans pE
 have I0:=I.kept (t':=tk) k1
 have I1:=I0.laid (t':=tk) (o:=.lst (ms.map V.int)) k2 (aZ _) (show cW X.prog X.w _ _ _ (.lst _) from⟨by rw[bO,pm.length_eq,sizeLine_eq];omega,vs,e,Qo a1,he⟩)
 exact⟨.ref _,_,⟨I1.ok,I1.os,I1.bare,I1.base,I1.loc,I1.cell,I1.free,I1.gn,I1.pin,I1.aA,I1.len⟩,rfl,q ms _ (cm6 a3 (pm.nodup_iff.mpr (FD _ _))) (λk=>by rw[pm.mem_iff,ca8]) (I0.aA.fresh (aZ _))⟩
end
end L2
namespace L3
open PySem L2 PySem.Spec PyProof.Rows
section
variable{X:Cx}{e:Expr}{tr:cq}{p p2 pos AO:Pos}
noncomputable def qe:iN:=λds Q=>match ds with
 | [.lst _ xs]=>∃ns,xs=nums ns/\ns.length<64/\∀ms:List Int,ms.Pairwise (· < ·)->(∀k,k∈ms↔k∈ns)->Q (.lst true (nums ms))
 | _=>False
theorem bK8(hc:X.calm=true)(hg:Gl X "sorted")(hm:X.mg "sorted"=none)(Eo:Gl X "set")(zX:X.mg "set"=none)(ha:PA X [e] (lA tr))(he:starEach [e] X.env=[(false,eval e X.env)]:=by rfl):PE X (.Call (.Name "sorted" p) [.Call (.Name "set" p2) [e] [] AO] [] pos) (lE (lJ qe tr)) :=
 cY (Dw (bq5 hc) hg hm rfl (eS (ML (bO5 hc) Eo zX rfl ha (he:=he)) iB)) λσ H Q ⟨B,F,δ,ts,Qd,c,q,k⟩=>⟨B,F,δ,ts,_,c,q,λds ao vs F1 H1 q1 f1 h1 c1 s1=>by
  unfold qe at q1
  split at q1
  ·obtain⟨v,rfl,s2⟩:=i9 s1
   obtain⟨ns,rfl,hn,q1⟩:=q1
   obtain⟨p,ws,rfl,h,t⟩:=lD s2 c1.ext rfl
   rw[z7 t]at h
   refine⟨p,ns,rfl,ke h,hn,λl hl=>⟨l,ns,rfl,bW,hn,λms l2 hs hm oQ=>?_⟩⟩
   have g1:aa H1 (upd H1 l (AY X.prog X.w l ns)):=aa.upd hl
   have c2:=c1.grow g1
   exact k _ _ _ _ _ (q1 ms hs hm) f1 (h1.trans (g1.trans (aa.upd oQ))) (c2.kZ oQ (Fx _ _ ms).s (Fx F1 H1 ms).pl)
  ·exact q1.elim⟩
end
end L3
namespace L3
open PySem L2 Mf
theorem QK{α:Type}[DecidableEq α]:∀{a b:List α},a.Nodup->(∀x∈a,x∈b)->a.length<=b.length
 | [],_,_,_=>ji _
 | x::a,b,nd,s=>by
  have hx:=s x (by simp)
  have iF:=ij.mp nd
  have:=QK (a:=a) (b:=b.erase x) iF.2 λy hy=>(UO (λ(e:y=x)=>iF.1 (e ▸ hy))).mpr (s y (by simp[hy]))
  have p:=List.length_pos_of_mem hx
  rw[UP hx]at this
  rw[jh];omega
theorem cy4{wd:List Nat}{ms:List Int}(h1:ms.Pairwise (· < ·))(h2:∀k,k∈ms↔k∈wd.map λ(n:Nat)=>(n:Int)):∃hs:List Nat,nums ms=av hs/\hs.Pairwise (· < ·)/\(∀h,h∈hs↔h∈wd)/\hs.length<=wd.length:=by
 have nn:∀k∈ms,((k.toNat:Nat):Int)=k:=λk hk=>by
  obtain⟨x,_,e⟩:=bP.mp ((h2 k).mp hk)
  omega
 have mem:∀h,h∈ms.map yT↔h∈wd:=λh=>by
  constructor
  ·intro hh
   obtain⟨k,hk,rfl⟩:=bP.mp hh
   obtain⟨x,hx,e⟩:=bP.mp ((h2 k).mp hk)
   rw[show k.toNat=x by omega];exact hx
  ·intro hh
   exact bP.mpr ⟨(h:Int),(h2 _).mpr (bP.mpr ⟨h,hh,rfl⟩),dR h⟩
 have pw:(ms.map yT).Pairwise (· < ·):=by
  rw[List.pairwise_map]
  refine List.Pairwise.imp_of_mem (λha hb h=>?_) h1
  have:=nn _ ha
  have:=nn _ hb
  omega
 refine⟨ms.map yT,?_,pw,mem,QK (pw.imp λh e=>absurd e (cR h)) λx hx=>(mem x).mp hx⟩
 unfold av
 rw[dG]
 congr 1
 refine((qF (g:=id) λk hk=>nn k hk).trans (LZ ms)).symm
end L3
namespace HK17
open PySem.W (Frag codeHdIn nsIn fnOf codeIn keepIn findIn isFn specialIn takesIn mroIn mg_of mg_none_of CodeHd)
open PySem L2 L3 Mf
seal L2.PSs L2.PS L2.PE L2.PT L2.PA L2.PI L2.PG L2.PO L2.PW
local macro_rules | `(tactic| walk_at "l3") => do
  let l ← (("rB pf rC rD dT lh m9 nh dC o6 pd o9 o8 rz rA lJ su pK sC sD rk rl rm rn rq o7 pH pI ii pz rO pB rP rQ rS rV rW rX iI fX rZ r6 r9 se pF nr sj sq gN sE sr rE rH rJ rK rL rM sF sG pj jA e5 iJ g6 vf qy y0 y6 lj jz i6 pJ sN sO sP xk ki sT pS sR iO xo xm xn dW mI vg qB jh y7 aT oq ou ir iu mS exists_eq_left' exists_eq_left D.bl.injEq D.int.injEq D.lst.injEq D.fz.injEq D.str.injEq D.tup.injEq y8 and_true true_and dX qE mR og wG wH wI wJ wL wM gX j5 nu wR wU wV wW wX eB kY sH wN wO wQ fU oY y9 za u6 kJ zb zc qw w5 w6 w9 xa xb xf xg lQ nv pO jc pP wZ sM wY sI w4 ny sJ if_true vn if_false reduceIte xh decide_eq_true_eq fL nD pU xt nE rF sX pZ sS pX pY s9 p7 tF tH gh xO km xP p8 qe sL cy2 cx8 cg0 cc7 Px Aw".splitOn " ").toArray.map fun (s : String) => Lean.mkIdent s.toName).mapM fun i => `(Lean.Parser.Tactic.simpLemma| $i:term)
  `(tactic| simp only [$l,*])
noncomputable def top (i:Nat):Stmt:=PySem.Challenge.pw_mendfield_k17_kernel_found.main.body.getD i (.Pass ⟨0,0,0,0⟩)
noncomputable abbrev tK:Stmt:=top 31
theorem FE:bA ["_law_cell_here","_law_some","_law_primes"] ["_law_cell_here"] (ay tK):=⟨rfl,rfl,rfl,by decide +kernel,rfl,by decide +kernel,by decide +kernel⟩
noncomputable abbrev tL:Stmt:=top 19
theorem AZ:bA ["a","product","found","power"] ["a","product"] (ay tL):=⟨rfl,rfl,rfl,by decide +kernel,rfl,by decide +kernel,by decide +kernel⟩
noncomputable abbrev tM:Stmt:=top 20
theorem x8:bA ["many","product","step","found"] ["many","product"] (ay tM):=⟨rfl,rfl,rfl,by decide +kernel,rfl,by decide +kernel,by decide +kernel⟩
noncomputable abbrev tN:Stmt:=top 21
theorem FF:bA ["powers","logs","n","a"] ["powers"] (ay tN):=⟨rfl,rfl,rfl,by decide +kernel,rfl,by decide +kernel,by decide +kernel⟩
noncomputable abbrev tO:Stmt:=jx (top 25) 8
theorem ay9:bA ["self","n"] ["self","n"] (ay tO):=⟨rfl,rfl,rfl,by decide +kernel,rfl,by decide +kernel,by decide +kernel⟩
noncomputable abbrev tP:Stmt:=jx (top 25) 0
theorem aH5:bA ["self","many","product"] ["self","many","product"] (ay tP):=⟨rfl,rfl,rfl,by decide +kernel,rfl,by decide +kernel,by decide +kernel⟩
noncomputable abbrev tQ:Stmt:=top 24
theorem ax3:bA ["prime"] ["prime"] (ay tQ):=⟨rfl,rfl,rfl,by decide +kernel,rfl,by decide +kernel,by decide +kernel⟩
noncomputable abbrev my:Stmt:=jx (top 27) 0
theorem az6:bA ["self","prime"] ["self","prime"] (ay my):=⟨rfl,rfl,rfl,by decide +kernel,rfl,by decide +kernel,by decide +kernel⟩
noncomputable abbrev tR:Stmt:=top 22
theorem A6:bA ["powers","logs","many","rows","a"] ["powers","logs"] (ay tR):=⟨rfl,rfl,rfl,by decide +kernel,rfl,by decide +kernel,by decide +kernel⟩
noncomputable abbrev tS:Stmt:=top 16
theorem tT:bA ["a","b","quotient","rest","shift"] ["a","b"] (ay tS):=⟨rfl,rfl,rfl,by decide +kernel,rfl,by decide +kernel,by decide +kernel⟩
noncomputable abbrev tU:Stmt:=top 17
theorem FG:bA ["a","half","b"] ["a"] (ay tU):=⟨rfl,rfl,rfl,by decide +kernel,rfl,by decide +kernel,by decide +kernel⟩
noncomputable abbrev tV:Stmt:=top 23
theorem az7:bA ["bits"] ["bits"] (ay tV):=⟨rfl,rfl,rfl,by decide +kernel,rfl,by decide +kernel,by decide +kernel⟩
noncomputable abbrev tW:Stmt:=top 15
theorem A7:bA ["a","b","product","k"] ["a","b"] (ay tW):=⟨rfl,rfl,rfl,by decide +kernel,rfl,by decide +kernel,by decide +kernel⟩
noncomputable abbrev mB:Stmt:=jx (top 26) 0
theorem QL:bA ["self","bits","many"] ["self","bits"] (ay mB):=⟨rfl,rfl,rfl,by decide +kernel,rfl,by decide +kernel,by decide +kernel⟩
noncomputable abbrev tX:Stmt:=top 36
theorem aH6:bA ["_law_told_here"] ["_law_told_here"] (ay tX):=⟨rfl,rfl,rfl,by decide +kernel,rfl,by decide +kernel,by decide +kernel⟩
noncomputable abbrev tY:Stmt:=top 29
theorem aJ4:bA ["_law_script","_law_k"] ["_law_script","_law_k"] (ay tY):=⟨rfl,rfl,rfl,by decide +kernel,rfl,by decide +kernel,by decide +kernel⟩
noncomputable abbrev tZ:Stmt:=top 32
theorem aJ5:bA ["_law_told_here"] ["_law_told_here"] (ay tZ):=⟨rfl,rfl,rfl,by decide +kernel,rfl,by decide +kernel,by decide +kernel⟩
noncomputable abbrev t7:Stmt:=top 43
theorem qf:bA ["_law_told_here","_law_script","_law_begin","_law_wide","_law_heads","_law_rows","_law_i","_law_head","_law_row","_law_k","_law_sign"] ["_law_told_here","_law_script","_law_begin","_law_wide","_law_heads"] (ay t7):=⟨rfl,rfl,rfl,by decide +kernel,rfl,by decide +kernel,by decide +kernel⟩
noncomputable abbrev t8:Stmt:=top 33
theorem aJ6:bA ["_law_told_here","_law_a","_law_b"] ["_law_told_here","_law_a","_law_b"] (ay t8):=⟨rfl,rfl,rfl,by decide +kernel,rfl,by decide +kernel,by decide +kernel⟩
noncomputable abbrev t9:Stmt:=top 35
theorem ua:bA ["_law_told_here","_law_a","_law_b","_law_total"] ["_law_told_here","_law_a","_law_b"] (ay t9):=⟨rfl,rfl,rfl,by decide +kernel,rfl,by decide +kernel,by decide +kernel⟩
noncomputable abbrev ub:Stmt:=top 37
theorem A8:bA ["_law_told_here","_law_xs","_law_ys","_law_total","_law_x","_law_y"] ["_law_told_here","_law_xs","_law_ys"] (ay ub):=⟨rfl,rfl,rfl,by decide +kernel,rfl,by decide +kernel,by decide +kernel⟩
noncomputable abbrev ud:Stmt:=top 38
theorem aG5:bA ["_law_told_here","_law_xs","_law_table","_law_wide"] ["_law_told_here","_law_xs","_law_table","_law_wide"] (ay ud):=⟨rfl,rfl,rfl,by decide +kernel,rfl,by decide +kernel,by decide +kernel⟩
noncomputable abbrev ue:Stmt:=top 44
theorem qg:bA ["_law_told_here","_law_script","_law_answer_here","_law_count","_law_wide","_law_turn","_law_rows","_law_i","_law_begin","_law_xs"] ["_law_told_here","_law_script","_law_answer_here","_law_count","_law_wide","_law_turn"] (ay ue):=⟨rfl,rfl,rfl,by decide +kernel,rfl,by decide +kernel,by decide +kernel⟩
noncomputable abbrev uf:Stmt:=top 34
theorem aJ7:bA ["_law_told_here","_law_a","_law_b"] ["_law_told_here","_law_a","_law_b"] (ay uf):=⟨rfl,rfl,rfl,by decide +kernel,rfl,by decide +kernel,by decide +kernel⟩
noncomputable abbrev ug:Stmt:=top 45
theorem x9:bA ["_law_told_here","_law_answer_here","_law_heads","_law_wide","_law_due_here","_law_free","_law_row","_law_line","_law_head"] ["_law_told_here","_law_answer_here","_law_heads","_law_wide"] (ay ug):=⟨rfl,rfl,rfl,by decide +kernel,rfl,by decide +kernel,by decide +kernel⟩
noncomputable abbrev uh:Stmt:=top 42
theorem aJ8:bA ["_law_table"] ["_law_table"] (ay uh):=⟨rfl,rfl,rfl,by decide +kernel,rfl,by decide +kernel,by decide +kernel⟩
noncomputable abbrev ui:Stmt:=top 6
theorem bS3:bA ["rows"] ["rows"] (ay ui):=⟨rfl,rfl,rfl,by decide +kernel,rfl,by decide +kernel,by decide +kernel⟩
noncomputable abbrev uj:Stmt:=top 7
theorem QM:bA ["rows","width","taken"] ["rows","width"] (ay uj):=⟨rfl,rfl,rfl,by decide +kernel,rfl,by decide +kernel,by decide +kernel⟩
noncomputable abbrev uk:Stmt:=jx (top 26) 2
theorem aC2:bA ["self","a","b"] ["self","a","b"] (ay uk):=⟨rfl,rfl,rfl,by decide +kernel,rfl,by decide +kernel,by decide +kernel⟩
noncomputable abbrev um:Stmt:=jx (top 27) 2
theorem az0:bA ["self","a","b"] ["self","a","b"] (ay um):=⟨rfl,rfl,rfl,by decide +kernel,rfl,by decide +kernel,by decide +kernel⟩
noncomputable abbrev uo:Stmt:=top 8
theorem uq:bA ["field","rows","width","taken","found","free","x","lead","row"] ["field","rows","width"] (ay uo):=⟨rfl,rfl,rfl,by decide +kernel,rfl,by decide +kernel,by decide +kernel⟩
noncomputable abbrev ur:Stmt:=top 2
theorem aM3:bA ["table"] ["table"] (ay ur):=⟨rfl,rfl,rfl,by decide +kernel,rfl,by decide +kernel,by decide +kernel⟩
noncomputable abbrev uu:Stmt:=top 3
theorem QN:bA ["rows","place","number","row"] ["rows","place"] (ay uu):=⟨rfl,rfl,rfl,by decide +kernel,rfl,by decide +kernel,by decide +kernel⟩
noncomputable abbrev uv:Stmt:=jx (top 26) 6
theorem QO:bA ["self","a","row","by_a"] ["self","a","row"] (ay uv):=⟨rfl,rfl,rfl,by decide +kernel,rfl,by decide +kernel,by decide +kernel⟩
noncomputable abbrev uw:Stmt:=jx (top 27) 6
theorem QP:bA ["self","a","row","prime"] ["self","a","row"] (ay uw):=⟨rfl,rfl,rfl,by decide +kernel,rfl,by decide +kernel,by decide +kernel⟩
noncomputable abbrev uz:Stmt:=jx (top 26) 7
theorem QQ:bA ["self","row","a","other","by_a"] ["self","row","a","other"] (ay uz):=⟨rfl,rfl,rfl,by decide +kernel,rfl,by decide +kernel,by decide +kernel⟩
noncomputable abbrev uA:Stmt:=jx (top 27) 7
theorem QR:bA ["self","row","a","other","prime"] ["self","row","a","other"] (ay uA):=⟨rfl,rfl,rfl,by decide +kernel,rfl,by decide +kernel,by decide +kernel⟩
noncomputable abbrev uB:Stmt:=top 4
theorem aN9:bA ["field","rows","lead_row","place"] ["field","rows","lead_row","place"] (ay uB):=⟨rfl,rfl,rfl,by decide +kernel,rfl,by decide +kernel,by decide +kernel⟩
noncomputable abbrev uC:Stmt:=jx (top 25) 5
theorem aH7:bA ["self","a","b"] ["self","a","b"] (ay uC):=⟨rfl,rfl,rfl,by decide +kernel,rfl,by decide +kernel,by decide +kernel⟩
noncomputable abbrev uD:Stmt:=top 5
theorem nR:bA ["field","table","done","left","place","number","lead_row"] ["field","table"] (ay uD):=⟨rfl,rfl,rfl,by decide +kernel,rfl,by decide +kernel,by decide +kernel⟩
noncomputable abbrev uE:Stmt:=top 9
theorem aO8:bA ["field","table"] ["field","table"] (ay uE):=⟨rfl,rfl,rfl,by decide +kernel,rfl,by decide +kernel,by decide +kernel⟩
noncomputable abbrev uF:Stmt:=top 30
theorem aH8:bA ["_law_x"] ["_law_x"] (ay uF):=⟨rfl,rfl,rfl,by decide +kernel,rfl,by decide +kernel,by decide +kernel⟩
noncomputable abbrev uG:Stmt:=top 39
theorem aD9:bA ["_law_row","_law_wide","_law_many_here"] ["_law_row","_law_wide","_law_many_here"] (ay uG):=⟨rfl,rfl,rfl,by decide +kernel,rfl,by decide +kernel,by decide +kernel⟩
noncomputable abbrev uH:Stmt:=top 40
theorem az8:bA ["_law_table","_law_rows","_law_wide","_law_many_here"] ["_law_table","_law_rows","_law_wide","_law_many_here"] (ay uH):=⟨rfl,rfl,rfl,by decide +kernel,rfl,by decide +kernel,by decide +kernel⟩
noncomputable abbrev uI:Stmt:=top 41
theorem aJ9:bA ["_law_found","_law_due_here","_law_wide","_law_many_here"] ["_law_found","_law_due_here","_law_wide","_law_many_here"] (ay uI):=⟨rfl,rfl,rfl,by decide +kernel,rfl,by decide +kernel,by decide +kernel⟩
noncomputable abbrev mC:Stmt:=top 46
theorem hW:bA ["_law_script","_law_told_here","_law_field_here","_law_wide","_law_count","_law_heads","_law_answer_here","_law_many_here","_law_table","_law_due_here","_law_handed","_law_found"] ["_law_script"] (ay mC):=⟨rfl,rfl,rfl,by decide +kernel,rfl,by decide +kernel,by decide +kernel⟩
set_option genInjectivity false in
set_option genSizeOf false in
structure oR where
 FH:Addr
 FI:FuncData
 FJ:Addr
 FK:FuncData
 FL:Addr
 FN:FuncData
 FP:Addr
 FQ:FuncData
 ya:Addr
 FR:FuncData
 FT:Addr
 FU:FuncData
 FV:Addr
 FW:FuncData
 FX:Addr
 A9:FuncData
 FY:Addr
 FZ:FuncData
 Ga:Addr
 Gb:FuncData
 Gd:Addr
 Ge:FuncData
 Gf:Addr
 Gg:FuncData
 Gh:Addr
 Gi:FuncData
 Gj:Addr
 Ba:FuncData
 Gk:Addr
 Gm:FuncData
 Gp:Addr
 Gq:FuncData
 Gr:Addr
 Gs:FuncData
 Gu:Addr
 Gv:FuncData
 Gw:Addr
 Gx:FuncData
 Gy:Addr
 Gz:FuncData
 GA:Addr
 GB:FuncData
 GC:Addr
 GD:FuncData
 GF:Addr
 GG:FuncData
 GH:Addr
 GI:FuncData
 GJ:Addr
 GK:FuncData
 GL:Addr
 at2:FuncData
 GN:Addr
 GO:FuncData
 GP:Addr
 GQ:FuncData
 GR:Addr
 GS:FuncData
 GU:Addr
 GV:FuncData
 GW:Addr
 GX:FuncData
 GY:Addr
 GZ:FuncData
 G0:Addr
 G1:FuncData
 G3:Addr
 G4:FuncData
 G5:Addr
 G6:FuncData
 G7:Addr
 G8:FuncData
 G9:Addr
 Ha:FuncData
 Hb:Addr
 Hc:FuncData
 Bb:Addr
 Hd:FuncData
 He:Addr
 Hf:FuncData
 Hg:Addr
 Hh:FuncData
 Hi:Addr
 Hj:FuncData
 Hk:Addr
 Hl:FuncData
 Hm:Addr
 Ho:FuncData
 Hq:Addr
 Hr:FuncData
 Hs:Addr
 Ht:FuncData
 QS:Addr
 jI:Addr
 QT:Addr
 jJ:Addr
 aS:Addr
 gj:Addr
 jK:Addr
 aU:Addr
structure Txt(K:Frag)(mg:Str->Option Value)(t:oR):Prop where
 QU:bx K "_law_told" "_law_told" tK t.FH t.FI
 aM4:mg "_law_told"=some (.ref t.FH)
 aM5:Binds K t.FI ["_law_cell_here"] []
 Hu:bx K "powers_of" "powers_of" tL t.FJ t.FK
 QV:mg "powers_of"=some (.ref t.FJ)
 QW:Binds K t.FK ["a","product"] []
 QX:bx K "step_powers" "step_powers" tM t.FL t.FN
 cU9:mg "step_powers"=some (.ref t.FL)
 cV0:Binds K t.FN ["many","product"] []
 QY:bx K "logs_of" "logs_of" tN t.FP t.FQ
 cV1:mg "logs_of"=some (.ref t.FP)
 cV2:Binds K t.FQ ["powers"] []
 az9:bx K "step_power" "Field.step_power" tO t.ya t.FR
 Hv:Binds K t.FR ["self","n"] []
 aK0:bx K "__init__" "Field.__init__" tP t.FT t.FU
 QZ:Binds K t.FU ["self","many","product"] []
 Q0:bx K "makes_prime_field" "makes_prime_field" tQ t.FV t.FW
 cV5:mg "makes_prime_field"=some (.ref t.FV)
 cV6:Binds K t.FW ["prime"] []
 aC3:bx K "__init__" "PrimeField.__init__" my t.FX t.A9
 aC4:Binds K t.A9 ["self","prime"] []
 Q1:bx K "product_rows" "product_rows" tR t.FY t.FZ
 cV9:mg "product_rows"=some (.ref t.FY)
 cW0:Binds K t.FZ ["powers","logs"] []
 Hw:bx K "bits_divided" "bits_divided" tS t.Ga t.Gb
 Q2:mg "bits_divided"=some (.ref t.Ga)
 Q3:Binds K t.Gb ["a","b"] []
 Q4:bx K "stands_alone" "stands_alone" tU t.Gd t.Ge
 cW1:mg "stands_alone"=some (.ref t.Gd)
 cW2:Binds K t.Ge ["a"] []
 Q5:bx K "makes_bit_field" "makes_bit_field" tV t.Gf t.Gg
 cW3:mg "makes_bit_field"=some (.ref t.Gf)
 cW4:Binds K t.Gg ["bits"] []
 Q6:bx K "bits_times" "bits_times" tW t.Gh t.Gi
 cW5:mg "bits_times"=some (.ref t.Gh)
 cW6:Binds K t.Gi ["a","b"] []
 aF1:bx K "__init__" "BitField.__init__" mB t.Gj t.Ba
 aF2:Binds K t.Ba ["self","bits"] []
 Q7:bx K "_law_field" "_law_field" tX t.Gk t.Gm
 aK1:mg "_law_field"=some (.ref t.Gk)
 aK2:Binds K t.Gm ["_law_told_here"] []
 jL:bx K "_law_cell" "_law_cell" tY t.Gp t.Gq
 kq:mg "_law_cell"=some (.ref t.Gp)
 kr:Binds K t.Gq ["_law_script","_law_k"] []
 yb:bx K "_law_many" "_law_many" tZ t.Gr t.Gs
 Bc:mg "_law_many"=some (.ref t.Gr)
 Bd:Binds K t.Gs ["_law_told_here"] []
 Q8:bx K "_law_answer" "_law_answer" t7 t.Gu t.Gv
 aH9:mg "_law_answer"=some (.ref t.Gu)
 aI0:Binds K t.Gv ["_law_told_here","_law_script","_law_begin","_law_wide","_law_heads"] []
 Q9:bx K "_law_plus" "_law_plus" t8 t.Gw t.Gx
 aM6:mg "_law_plus"=some (.ref t.Gw)
 aM7:Binds K t.Gx ["_law_told_here","_law_a","_law_b"] []
 Ra:bx K "_law_times" "_law_times" t9 t.Gy t.Gz
 aK3:mg "_law_times"=some (.ref t.Gy)
 aK4:Binds K t.Gz ["_law_told_here","_law_a","_law_b"] []
 Rb:bx K "_law_dot" "_law_dot" ub t.GA t.GB
 aO0:mg "_law_dot"=some (.ref t.GA)
 aO1:Binds K t.GB ["_law_told_here","_law_xs","_law_ys"] []
 Rc:bx K "_law_by_row" "_law_by_row" ud t.GC t.GD
 aI1:mg "_law_by_row"=some (.ref t.GC)
 aI2:Binds K t.GD ["_law_told_here","_law_xs","_law_table","_law_wide"] []
 Rh:bx K "_law_made" "_law_made" ue t.GF t.GG
 aM8:mg "_law_made"=some (.ref t.GF)
 aM9:Binds K t.GG ["_law_told_here","_law_script","_law_answer_here","_law_count","_law_wide","_law_turn"] []
 Ri:bx K "_law_less" "_law_less" uf t.GH t.GI
 aN0:mg "_law_less"=some (.ref t.GH)
 aN1:Binds K t.GI ["_law_told_here","_law_a","_law_b"] []
 Rj:bx K "_law_due" "_law_due" ug t.GJ t.GK
 aO2:mg "_law_due"=some (.ref t.GJ)
 aO3:Binds K t.GK ["_law_told_here","_law_answer_here","_law_heads","_law_wide"] []
 Hx:bx K "_law_copy" "_law_copy" uh t.GL t.at2
 Rk:mg "_law_copy"=some (.ref t.GL)
 Rl:Binds K t.at2 ["_law_table"] []
 Hy:bx K "leads" "leads" ui t.GN t.GO
 Rm:mg "leads"=some (.ref t.GN)
 Rn:Binds K t.GO ["rows"] []
 Ro:bx K "free_places" "free_places" uj t.GP t.GQ
 cY7:mg "free_places"=some (.ref t.GP)
 cY8:Binds K t.GQ ["rows","width"] []
 aE0:bx K "minus" "BitField.minus" uk t.GR t.GS
 aE1:Binds K t.GS ["self","a","b"] []
 aA3:bx K "minus" "PrimeField.minus" um t.GU t.GV
 aA4:Binds K t.GV ["self","a","b"] []
 Rp:bx K "kernel_of_reduced" "kernel_of_reduced" uo t.GW t.GX
 cZ3:mg "kernel_of_reduced"=some (.ref t.GW)
 cZ4:Binds K t.GX ["field","rows","width"] []
 Hz:bx K "width_of" "width_of" ur t.GY t.GZ
 Rq:mg "width_of"=some (.ref t.GY)
 Rt:Binds K t.GZ ["table"] []
 Ru:bx K "first_with" "first_with" uu t.G0 t.G1
 cZ5:mg "first_with"=some (.ref t.G0)
 cZ6:Binds K t.G1 ["rows","place"] []
 aC5:bx K "scaled" "BitField.scaled" uv t.G3 t.G4
 aC6:Binds K t.G4 ["self","a","row"] []
 az1:bx K "scaled" "PrimeField.scaled" uw t.G5 t.G6
 az2:Binds K t.G6 ["self","a","row"] []
 az3:bx K "lessened" "BitField.lessened" uz t.G7 t.G8
 az4:Binds K t.G8 ["self","row","a","other"] []
 ax0:bx K "lessened" "PrimeField.lessened" uA t.G9 t.Ha
 ax1:Binds K t.Ha ["self","row","a","other"] []
 HA:bx K "cleared" "cleared" uB t.Hb t.Hc
 Rv:mg "cleared"=some (.ref t.Hb)
 Rw:Binds K t.Hc ["field","rows","lead_row","place"] []
 aK5:bx K "over" "Field.over" uC t.Bb t.Hd
 Rx:Binds K t.Hd ["self","a","b"] []
 HB:bx K "reduced" "reduced" uD t.He t.Hf
 Ry:mg "reduced"=some (.ref t.He)
 Rz:Binds K t.Hf ["field","table"] []
 Be:bx K "kernel" "kernel" uE t.Hg t.Hh
 HC:mg "kernel"=some (.ref t.Hg)
 HD:Binds K t.Hh ["field","table"] []
 RA:bx K "_law_whole" "_law_whole" uF t.Hi t.Hj
 aK6:mg "_law_whole"=some (.ref t.Hi)
 aK7:Binds K t.Hj ["_law_x"] []
 RB:bx K "_law_row_kind" "_law_row_kind" uG t.Hk t.Hl
 aF5:mg "_law_row_kind"=some (.ref t.Hk)
 aF6:Binds K t.Hl ["_law_row","_law_wide","_law_many_here"] []
 RC:bx K "_law_table_kind" "_law_table_kind" uH t.Hm t.Ho
 aC7:mg "_law_table_kind"=some (.ref t.Hm)
 aC8:Binds K t.Ho ["_law_table","_law_rows","_law_wide","_law_many_here"] []
 RD:bx K "_law_same" "_law_same" uI t.Hq t.Hr
 aN2:mg "_law_same"=some (.ref t.Hq)
 aN3:Binds K t.Hr ["_law_found","_law_due_here","_law_wide","_law_many_here"] []
 c50:bx K "law" "law" mC t.Hs t.Ht
 d02:mg "law"=some (.ref t.Hs)
 d03:Binds K t.Ht ["_law_script"] []
 aA7:t.A9.code=.ref t.QS
 aA8:codeHdIn K t.QS t.jI=true
 aE2:t.Ba.code=.ref t.QT
 aE3:codeHdIn K t.QT t.jJ=true
 gF:et K t.aS
 yc:Mk K t.aS t.Gj
 aP1:Pt K t.aS
 yd:cB K t.aS "bits"
 nU:cB K t.aS "logs"
 uJ:cB K t.aS "many"
 qh:cB K t.aS "powers"
 Bf:cB K t.aS "prime"
 qi:cB K t.aS "products"
 ye:cB K t.aS "step"
 yf:cB K t.aS "wide"
 yg:Meth K t.aS "lessened" t.G7
 yh:Meth K t.aS "minus" t.GR
 yi:Meth K t.aS "over" t.Bb
 yj:Meth K t.aS "scaled" t.G3
 uK:Meth K t.aS "step_power" t.ya
 iV:et K t.aU
 yk:Mk K t.aU t.FX
 aP0:Pt K t.aU
 Bg:cB K t.aU "bits"
 qj:cB K t.aU "logs"
 uL:cB K t.aU "many"
 uM:cB K t.aU "powers"
 nV:cB K t.aU "prime"
 Bh:cB K t.aU "products"
 yl:cB K t.aU "step"
 ym:cB K t.aU "wide"
 yn:Meth K t.aU "lessened" t.G9
 yo:Meth K t.aU "minus" t.GU
 yp:Meth K t.aU "over" t.Bb
 yq:Meth K t.aU "scaled" t.G5
 uN:Meth K t.aU "step_power" t.ya
 RE:Ai K t.jK "__init__" t.FT
 HE:mg "all"=none
 c55:mg "bool"=none
 Bi:mg "enumerate"=none
 HF:mg "int"=none
 Bj:mg "isinstance"=none
 ia:mg "len"=none
 HG:mg "list"=none
 c56:mg "max"=none
 gk:mg "range"=none
 c57:mg "set"=none
 c58:mg "sorted"=none
 yr:mg "zip"=none
 yt:mg "BitField"=some (.ref t.aS)
 yu:mg "ByNought"=some (.ref t.gj)
 uO:mg "Field"=some (.ref t.jK)
 yv:mg "PrimeField"=some (.ref t.aU)
 RF:Ey K mg "ByNought" t.gj
 aP2:Yz K t.gj
section
variable{P:Program}{w:World}{K:Frag}{mg:Str->Option Value}{base:Heap}{t:oR}
noncomputable abbrev aK8:bC:=λds Q=>∃c:Int,ds=[.int c]/\Q (cu (nM c))
theorem aK9(T:Txt K mg t):aO P w K mg base aV 1 t.FH t.FI ["_law_cell_here"] (bE (aK8 )):=by
 refine bX T.QU FE ?_ ?_
 ·intro ds Q h
  obtain⟨c,rfl,q⟩:=h<;>rfl
 ·intro aH A outer s H E hr
  refine⟨_,(aE (bb (i:=1) FE.nd rfl (aq rfl) (Oo (ns:=[7,11,13,19,25,31,37,41,47,55,59,61,67,73,87,91,97,103,109,115,117]) (by decide +kernel)))
   (aE (bb (i:=2) FE.nd rfl (aq rfl) (Oo (ns:=[2,3,5,7,11,13,17,19,23,29,31,37,41,43,47,53,59,61]) (by decide +kernel)))
   (aE (da (cO (fY (dB hr)) (ag (aC df (bv 0) (ag az))) (ag az) (cI _)) (aJ (bc (D9 (gB j9 (gB (eT (bV (bv 1) (ag (aC df (ag (aC nq (bv 0) (ag az))) (ag az))) (λ_ _=>rfl))) eI))))) cZ)
   (aJ (bc (D9 (gB j9 (gB (eT (bV (bv 2) (ag (aC df (ag (aC nq (bv 0) (ag az))) (ag az))) (λ_ _=>rfl))) eI)))))))),λds Q h=>?_⟩
  obtain⟨c,rfl,q⟩:=h
  refine aD λU hU=>?_
  walk_at"l3"
  refine⟨by decide,hU _ ?_⟩
  clear hU U
  refine aD λU hU=>?_
  walk_at"l3"
  refine⟨by decide,hU _ ?_⟩
  clear hU U
  refine aD λU hU=>?_
  walk_at"l3"
  refine⟨by decide,?_⟩
  have n1:=iX (c/2) (show(21:Int)≠0 by decide)
  have n2:=iY (c/2) (show(0:Int)<21 by decide)
  have n3:=iX (c/2) (show(18:Int)≠0 by decide)
  have n4:=iY (c/2) (show(0:Int)<18 by decide)
  split
  ·rename_i hc
   refine⟨nk (by decide) (by decide),by decide,_,kh n1 (by simpa using n2),rfl,by decide,?_⟩
   have e:cu (nM c)=.tup [.bl true,.int (([7,11,13,19,25,31,37,41,47,55,59,61,67,73,87,91,97,103,109,115,117]:List Int).getD (c/2%21).toNat 0)]:=by
    unfold nM cu
    rw[if_pos hc]
    have:∀k:Nat,((gb.getD k 0:Nat):Int)=([7,11,13,19,25,31,37,41,47,55,59,61,67,73,87,91,97,103,109,115,117]:List Int).getD k 0:=λk=>by
     show _=(gb.map (λ(n:Nat)=>(n:Int))).getD k ((0:Nat):Int)
     rw[aQ,aQ,cy]
     cases gb[k]?<;>rfl
    rw[<-this]
   rw[<-e];exact q
  ·rename_i hc
   refine hU _ ?_
   walk_at"l3"
   refine⟨nk (by decide) (by decide),by decide,_,kh n3 (by simpa using n4),rfl,by decide,?_⟩
   have e:cu (nM c)=.tup [.bl false,.int (([2,3,5,7,11,13,17,19,23,29,31,37,41,43,47,53,59,61]:List Int).getD (c/2%18).toNat 0)]:=by
    unfold nM cu
    rw[if_neg hc]
    have:∀k:Nat,((lX.getD k 0:Nat):Int)=([2,3,5,7,11,13,17,19,23,29,31,37,41,43,47,53,59,61]:List Int).getD k 0:=λk=>by
     show _=(lX.map (λ(n:Nat)=>(n:Int))).getD k ((0:Nat):Int)
     rw[aQ,aQ,cy]
     cases lX[k]?<;>rfl
    rw[<-this]
   rw[<-e];exact q
noncomputable abbrev aL0(L:Obj->Obj->Addr->Addr->sW->Prop):bC:=λds Q=>∃(a:Nat) (of oc:Obj) (c k:Addr) (g:Nat->Nat->Nat) (l:List Int),ds=[.int a,.aX (.lam of oc c k)]/\L of oc c k (xD g)/\a<64/\EU g a=some l/\Q (.lst true (nums l))
theorem RG(T:Txt K mg t):aO P w K mg base aV 5 t.FJ t.FK ["a","product"] (bE (aL0 (xw P w K mg base 4))):=by
 refine bX T.Hu AZ ?_ ?_
 ·intro ds Q h
  obtain⟨a,of,oc,c,k,g,l,rfl,hL,ha,hp,q⟩:=h<;>rfl
 ·intro aH A outer s H E hr
  refine⟨_,(aE (bb (i:=2) AZ.nd rfl (aq rfl) (fk (gB az eI)))
   (aE (bb (i:=3) AZ.nd rfl (aq rfl) (OP (n:=4) (i:=1) rfl (by first | exact aq rfl | exact bh (aq rfl)) (hr.mono (by decide)) (ai (ag az) (ai (bv 0) aB))))
   (aE (zR fF (cO (lH (dB hr)) (bv 3) (ag az) (cI _))
    (aE (nt (i:=2) rfl (by first | exact aq rfl | exact bh (aq rfl)) (eT (bv 3)))
    (aJ (bb (i:=3) AZ.nd rfl (aq rfl) (OP (n:=4) (i:=1) rfl (by first | exact aq rfl | exact bh (aq rfl)) (hr.mono (by decide)) (ai (bv 3) (ai (bv 0) aB)))))))
   (aJ (bc (em 2)))))),λds Q h=>?_⟩
  obtain⟨a,of,oc,c,k,g,l,rfl,hL,ha,hp,q⟩:=h
  refine aD λU hU=>?_
  walk_at"l3"
  refine⟨by decide,hU _ ?_⟩
  clear hU U
  refine aD λU hU=>?_
  walk_at"l3"
  refine⟨of,oc,c,k,xD g,rfl,hL,1,a,⟨rfl,rfl⟩,1,a,rfl,rfl,by decide,ha,hU _ ?_⟩
  clear hU U
  refine aD λU hU=>?_
  walk_at"l3"
  refine⟨λm δ=>∃(p:Nat) (acc:List Int),δ=[some (.int a),some (.aX (.lam of oc c k)),some (.lst true (nums acc)),some (.int p)]/\acc.length+m<=70/\Ak g a m p acc=some l,⟨64,_,[1],rfl,by decide,hp⟩,?_⟩
  rintro m δ ⟨p,acc,rfl,hn,hg⟩
  walk_at"l3"
  cases m with
  | zero=>cases hg
  | succ m =>
   unfold Ak at hg
   split at hg
   ·rename_i h1
    subst h1
    cases hg
    rw[if_neg (by simp)]
    refine hU _ ?_
    walk_at"l3"
    exact q
   ·rename_i h1
    rw[if_pos (by simp;omega)]
    split at hg
    ·rename_i h2
     clear hU
     refine aD λU hU=>?_
     walk_at"l3"
     refine⟨⟨_,rfl⟩,by omega,hU _ ?_⟩
     clear hU
     walk_at"l3"
     exact⟨of,oc,c,k,xD g,rfl,hL,p,a,⟨rfl,rfl⟩,p,a,rfl,rfl,h2,ha,m,by omega,g p a,acc++[(p:Int)],⟨by rw[<-pP];rfl,rfl⟩,by simp;omega,hg⟩
    ·cases hg
noncomputable abbrev aG6(L:Obj->Obj->Addr->Addr->sW->Prop):bC:=λds Q=>∃(n:Nat) (of oc:Obj) (c k:Addr) (g:Nat->Nat->Nat) (l:List Int),ds=[.int n,.aX (.lam of oc c k)]/\L of oc c k (xD g)/\xC g n=some l/\Q (.lst true (nums l))
theorem aG7(T:Txt K mg t):aO P w K mg base aV 6 t.FL t.FN ["many","product"] (bE (aG6 (xw P w K mg base 4))):=by
 refine bX T.QX x8 ?_ ?_
 ·intro ds Q h
  obtain⟨n,of,oc,c,k,g,l,rfl,hL,hp,q⟩:=h<;>rfl
 ·intro aH A outer s H E hr
  refine⟨_,(aE (bb (i:=2) x8.nd rfl (aq rfl) az)
   (aE (bb (i:=3) x8.nd rfl (aq rfl) (bG ((RG T).mono (by decide)) hr rfl T.QV T.Hu.kp T.QW bj (ai (bv 2) (ai (bv 1) aB))))
   (aE (zR fF (cO sg (ag (fo (g7) (by rfl) T.ia gR (ai (bv 3) aB))) (ag (aC iM (bv 0) (ag az))) (cI _))
    (aE (zQ (i:=2) x8.nd rfl (aq rfl) (ag az) Zq)
    (aJ (bb (i:=3) x8.nd rfl (aq rfl) (bG ((RG T).mono (by decide)) hr rfl T.QV T.Hu.kp T.QW bj (ai (bv 2) (ai (bv 1) aB)))))))
   (aJ (bc (em 3)))))),λds Q h=>?_⟩
  obtain⟨n,of,oc,c,k,g,l,rfl,hL,hp,q⟩:=h
  unfold xC at hp
  split at hp
  ·rename_i l0 h0
   refine aD λU hU=>?_
   walk_at"l3"
   refine hU _ ?_
   clear hU U
   refine aD λU hU=>?_
   walk_at"l3"
   refine⟨1,of,oc,c,k,g,l0,rfl,hL,by decide,h0,hU _ ?_⟩
   clear hU U
   refine aD λU hU=>?_
   walk_at"l3"
   refine⟨λm δ=>∃(st:Nat) (l1:List Int),δ=[some (.int n),some (.aX (.lam of oc c k)),some (.int st),some (.lst true (nums l1))]/\st+m<=63/\Al g n m st l1=some l,⟨62,1,l0,rfl,by decide,hp⟩,?_⟩
   rintro m δ ⟨st,l1,rfl,hn,hg⟩
   walk_at"l3"
   cases m with
   | zero=>cases hg
   | succ m =>
    unfold Al at hg
    split at hg
    ·rename_i h1
     rw[if_pos (by omega)]
     split at hg
     ·rename_i l2 h2
      clear hU
      refine aD λU hU=>?_
      walk_at"l3"
      refine hU _ ?_
      clear hU
      walk_at"l3"
      exact⟨st+1,of,oc,c,k,g,l2,rfl,hL,by omega,h2,m,by omega,st+1,l2,⟨rfl,rfl⟩,by omega,hg⟩
     ·cases hg
    ·rename_i h1
     rw[if_neg (by omega)]
     cases hg
     refine hU _ ?_
     walk_at"l3"
     exact q
  ·cases hp
noncomputable abbrev aO4:bC:=λds Q=>∃(l:List Int),ds=[.lst false (nums l)]/\l.length<=64/\(∀x∈l,0<=x/\x.toNat<=l.length)/\Q (.lst true (nums (dD l)))
theorem aO5(T:Txt K mg t):aO P w K mg base aV 1 t.FP t.FQ ["powers"] (bE (aO4 )):=by
 refine bX T.QY FF ?_ ?_
 ·intro ds Q h
  obtain⟨l,rfl,hl,hx,q⟩:=h<;>rfl
 ·intro aH A outer s H E hr
  refine⟨_,(aE (bb (i:=1) FF.nd rfl (aq rfl) (aC i8 (ag (fk (gB az eI))) (ag (aC eC (ag (fo (g7) (by rfl) T.ia gR (ai (bv 0) aB))) (ag az)))))
   (aE (g5 fF rfl (z6 rfl T.Bi (ai (bv 0) aB)) (lR (i1:=2) (i2:=3) rfl FF.nd rfl (aq rfl) rfl (aq rfl))
    (aJ (zY (i:=1) rfl (by first | exact aq rfl | exact bh (aq rfl)) (eT (bv 2)) (bv 3))))
   (aJ (bc (em 1))))),λds Q h=>?_⟩
  obtain⟨l,rfl,hl,hx,q⟩:=h
  refine aD λU hU=>?_
  walk_at"l3"
  refine⟨by decide,⟨by omega,by omega,by omega⟩,hU _ ?_⟩
  clear hU U
  refine aD λU hU=>?_
  walk_at"l3"
  refine gZ.mk (λi δ=>∃o1 o2,δ=[some (.lst false (nums l)),some (.lst true (nums (lY l i))),o1,o2]) ⟨none,none,?_⟩ ?_ ?_
  ·rw[show((l.length:Int)+1).toNat=l.length+1 by omega];rfl
  ·rintro i d δ hd ⟨o1,o2,rfl⟩
   obtain⟨hi,rfl⟩:∃h:i<l.length,d=.tup [.int i,.int l[i]]:=by
    unfold eV nums at hd
    rw[yP,cy]at hd
    by_cases hi:i<l.length
    ·rw[aN hi]at hd
     simp at hd
     exact⟨hi,hd.symm⟩
    ·rw[iq (by omega)]at hd;simp at hd
   have eM:=hx l[i] (eF _)
   walk_at"l3"
   refine⟨_,(l[i]).toNat,rfl,?_,_,_,?_,rfl,rfl⟩
   ·unfold gu
    rw[lQ,xE,if_pos eM.1,if_pos (by omega)]
   ·unfold nums
    rw[<-List.map_set]
    congr 1
    show _=(lY l i).set (l.getD i 0).toNat (i:Int)
    rw[aQ,aN hi];rfl
  ·rintro δ ⟨o1,o2,rfl⟩
   refine hU _ ?_
   simp only[rB,pf,rC,rD,dT,lh,m9,nh,dC,o6,pd,o9,o8,rz,rA,lJ,su,pK,sC,sD,rk,rl,rm,rn,rq,o7,pH,pI,ii,pz,rO,pB,rP,rQ,rS,rV,rW,rX,iI,fX,rZ,r6,r9,se,pF,nr,sj,sq,gN,sE,sr,rE,rH,rJ,rK,rL,rM,sF,sG,pj,jA,e5,iJ,g6,vf,qy,y0,y6,lj,jz,i6,pJ,sN,sO,sP,xk,ki,sT,pS,sR,iO,xo,xm,xn,dW,mI,vg,qB,jh,y7,aT,oq,ou,ir,iu,mS,exists_eq_left',exists_eq_left,D.bl.injEq,D.int.injEq,D.lst.injEq,D.fz.injEq,D.str.injEq,D.tup.injEq,y8,and_true,true_and,dX,qE,mR,og,wG,wH,wI,wJ,wL,wM,gX,j5,nu,wR,wU,wV,wW,wX,eB,kY,sH,wN,wO,wQ,fU,oY,y9,za,u6,kJ,zb,zc,qw,w5,w6,w9,xa,xb,xf,xg,lQ,nv,pO,jc,pP,wZ,sM,wY,sI,w4,ny,sJ,if_true,vn,if_false,reduceIte,xh,decide_eq_true_eq,fL,nD,pU,xt,nE,rF,sX,pZ,sS,pX,pY,s9,p7,tF,tH,gh,xO,km,xP,p8,qe,pQ]
   exact q
noncomputable abbrev HH(K:Frag):bC:=λds Q=>∃(C:Addr) (ns:List Str) (xs:List D) (n:Int) (many:Nat) (l:List Int) (r:Int),ds=[.obj C ns xs,.int n]/\et K C/\cB K C "powers"/\cB K C "many"/\(ns.zip xs).lookup ("powers":Str)=some (.lst false (nums l))/\(ns.zip xs).lookup ("many":Str)=some (.int many)/\2<=many/\l[(n%((many:Int)-1)).toNat]?=some r/\Q (.int r)
theorem HI(T:Txt K mg t):aO P w K mg base aV 1 t.ya t.FR ["self","n"] (bE (HH K)):=by
 refine bX T.az9 ay9 ?_ ?_
 ·intro ds Q h
  obtain⟨C,ns,xs,n,many,l,r,rfl,hC,h1,h2,h3,h4,h5,h6,q⟩:=h<;>rfl
 ·intro aH A outer s H E hr
  refine⟨_,(aJ (bc (eT (bV (lZ (K:=K) (bv 0)) (ag (aC df (bv 1) (ag (aC iM (lZ (K:=K) (bv 0)) (ag az))))) (λ_ _=>rfl))))),λds Q h=>?_⟩
  obtain⟨C,ns,xs,n,many,l,r,rfl,hC,h1,h2,h3,h4,h5,h6,q⟩:=h
  walk_at"l3"
  refine⟨C,ns,xs,_,rfl,hC,h1,h3,C,ns,xs,_,rfl,hC,h2,h4,?_⟩
  refine⟨by omega,_,mX (d:=.int r) (iX _ (by omega)) ?_,rfl,q⟩
  unfold nums
  rw[cy,h6];rfl
noncomputable abbrev aI3(P:Program)(w:World)(K:Frag)(mg:Str->Option Value)(base:Heap)(fs:Addr):Sp:=λvs H Q _=>∃(x dx f C:Addr) (b:Str) (n0:Int) (many:Nat) (of oc:Obj) (c k:Addr) (g:Nat->Nat->Nat) (l:List Int) (st:Int),
 vs=[.ref x,.int many,.ref f]/\H x=some (.ins C dx [(b,.int n0)])/\(∀n∈(["many","wide","powers","logs","step","step_power"]:List Str),b≠n)/\cE3 K C fs/\gy H f of oc c k/\xw P w K mg base 4 of oc c k (xD g)/\O9 g many l st /\
 ∀H' p1 p2,dg x H H'->H' x=some (.ins C dx ((gg b).zip (Am n0 many p1 p2 st)))->LI H' p1 l->LI H' p2 (dD l)->p1≠p2->H p1=none->H p2=none->Q .ak H'
theorem RH(T:Txt K mg t):aO P w K mg base aV 7 t.FT t.FU ["self","many","product"] (aI3 P w K mg base t.ya):=by
 refine T.aK0.ok aH5 (λvs H Q E h=>?_) λaH A outer s H vs Q E hr h=>?_
 ·obtain⟨x,dx,f,C,b,n0,many,of,oc,c,k,g,l,st,rfl,_⟩:=h;rfl
 obtain⟨x,dx,f,C,b,n0,many,of,oc,c,k,g,l,st,rfl,hx,hb,hC,c67,hL,hF,q⟩:=h
 refine⟨_,jo (mW (pv 0) (pv 1) rfl) (jo (mW (pv 0) (vK Dq (DQ (pv 1)) vC) rfl)
  (jo (mW (pv 0) (oK ((aG7 T).mono (by decide)) hr rfl T.cU9 T.QX.kp T.cV0 .nil bj (eS (pv 1) (eS (pv 2) iB))) rfl)
  (jo (mW (pv 0) (oK ((aO5 T).mono (by decide)) hr rfl T.cV1 T.QY.kp T.cV2 .nil bj (eS (zD (pv 0) rfl) iB)) rfl)
  (qS (mW (pv 0) (WK (pv 0) hC.cls hC.sp ((HI T).mono (by decide)) hr T.Hv .nil bj (eS vC iB)) rfl))))),?_⟩
 have nb:∀n∈(["many","wide","powers","logs","step","step_power"]:List Str),b≠n:=hb
 refine⟨.int many,rfl,.ref x,rfl,x,C,dx,_,rfl,hx,hC.cls,hC.many,kH (aZ 1) (by decide),?_⟩
 rw[tu (by simpa using nb "many" (by simp))]
 generalize e1:upd H x (HO.ins C dx ([(b,V.int n0)]++[(("many":Str),V.int many)]))=H1
 have eM:H1 x=some (.ins C dx [(b,V.int n0),(("many":Str),V.int many)]):=by rw[<-e1,bW];rfl
 have s1:dg x H H1:=by rw[<-e1];exact dg.upd (C:=C) (dx:=dx) hx rfl
 have l1:gy H1 f of oc c k:=by rw[<-e1];exact c67.xF hx
 have n1:∀p,H1 p=none->H p=none:=λp h=>xG hx (by rw[e1];exact h)
 refine⟨_,rfl,rfl,_,rfl,rfl,_,_,rfl,rfl,.ref x,rfl,x,C,dx,_,rfl,eM,hC.cls,hC.wide,kH (aZ 2) (by decide),?_⟩
 rw[tu (by simp;exact⟨nb "wide" (by simp),by decide⟩),gH]
 generalize e2:upd H1 x (HO.ins C dx ([(b,V.int n0),(("many":Str),V.int many)]++[(("wide":Str),V.int ((bl many:Nat)-1))]))=H2
 have fq:H2 x=some (.ins C dx [(b,V.int n0),(("many":Str),V.int many),(("wide":Str),V.int ((bl many:Nat)-1))]):=by rw[<-e2,bW];rfl
 have s2:dg x H H2:=by rw[<-e2];exact s1.trans (dg.upd (C:=C) (dx:=dx) eM rfl)
 have l2:gy H2 f of oc c k:=by rw[<-e2];exact l1.xF eM
 have n2:∀p,H2 p=none->H p=none:=λp h=>n1 p (xG eM (by rw[e2];exact h))
 refine⟨_,rfl,_,rfl,H2,[.int many,.aX (.lam of oc c k)],λd=>d=.lst true (nums l),aa.refl _,.int (.aX l2 .nil),⟨many,of,oc,c,k,g,l,rfl,hL,hF.step,rfl⟩,λd v F' H3 A' hd hs hf he h3 r nd fr=>?_⟩
 subst hd
 obtain⟨p1,rfl,hp1,yw⟩:=O8 r fr
 have ku:=hs.get _ _ fq
 have s3:=s2.trans (hs.x (x:=x))
 refine⟨.ref x,rfl,x,C,dx,_,rfl,ku,hC.cls,hC.EV,kH (aZ 3) (by decide),?_⟩
 rw[tu (by simp;exact⟨nb "powers" (by simp),by decide,by decide⟩)]
 generalize e4:upd H3 x (HO.ins C dx ([(b,V.int n0),(("many":Str),V.int many),(("wide":Str),V.int ((bl many:Nat)-1))]++[(("powers":Str),V.ref p1)]))=H4
 have nW:H4 x=some (.ins C dx [(b,V.int n0),(("many":Str),V.int many),(("wide":Str),V.int ((bl many:Nat)-1)),(("powers":Str),V.ref p1)]):=by rw[<-e4,bW];rfl
 have s4:dg x H H4:=by rw[<-e4];exact s3.trans (dg.upd (C:=C) (dx:=dx) ku rfl)
 have p4:LI H4 p1 l:=by rw[<-e4];exact hp1.upd ku (λws z=>by cases z)
 have n4:∀p,H4 p=none->H p=none:=λp h=>n2 p (hs.free (xG ku (by rw[e4];exact h)))
 refine⟨.ref x,rfl,x,C,dx,_,.ref p1,rfl,nW,hC.cls,hC.EV,by rw[An (nb "powers" (by simp))];rfl,H4,[.lst false (nums l)],λd=>d=.lst true (nums (dD l)),aa.refl _,.shr p4 (jC l) .nil,⟨l,rfl,by have:=hF.len;have:=hF.hi;omega,hF.ins,rfl⟩,λd v F' H5 A' hd nX hf he h3 r nd fr=>?_⟩
 subst hd
 obtain⟨p2,rfl,RI,qk⟩:=O8 r fr
 have kz:=nX.get _ _ nW
 have s5:=s4.trans (nX.x (x:=x))
 have c69:p1≠p2:=λz=>by rw[<-z]at qk;unfold LI at p4;rw[qk]at p4;cases p4
 refine⟨.ref x,rfl,x,C,dx,_,rfl,kz,hC.cls,hC.cE4,kH (aZ 4) (by decide),?_⟩
 rw[tu (by simp;exact⟨nb "logs" (by simp),by decide,by decide,by decide⟩)]
 generalize e6:upd H5 x (HO.ins C dx ([(b,V.int n0),(("many":Str),V.int many),(("wide":Str),V.int ((bl many:Nat)-1)),(("powers":Str),V.ref p1)]++[(("logs":Str),V.ref p2)]))=H6
 have HJ:H6 x=some (.ins C dx (([b,"many","wide","powers","logs"]:List Str).zip [V.int n0,V.int many,V.int ((bl many:Nat)-1),V.ref p1,V.ref p2])):=by rw[<-e6,bW];rfl
 have s6:dg x H H6:=by rw[<-e6];exact s5.trans (dg.upd (C:=C) (dx:=dx) kz rfl)
 have p6:LI H6 p1 l:=by rw[<-e6];exact(p4.same nX).upd kz (λws z=>by cases z)
 have q6:LI H6 p2 (dD l):=by rw[<-e6];exact RI.upd kz (λws z=>by cases z)
 refine⟨.ref x,rfl,x,dx,_,rfl,HJ,by show kB ("step_power":Str) ((b,V.int n0)::_)=none;rw[An (nb "step_power" (by simp))];rfl,H6,[.obj C [b,"many","wide","powers","logs"] [.int n0,.int many,.int ((bl many:Nat)-1),.lst false (nums l),.lst false (nums (dD l))],.int 1],λd=>d=.int st,aa.refl _,
  .obj HJ rfl (.int (.int (.int (.shr p6 (jC l) (.shr q6 (jC _) .nil))))) (.int .nil),⟨C,_,_,1,many,l,st,rfl,hC.cls,hC.EV,hC.many,by show kB ("powers":Str) ((b,D.int n0)::_)=_;rw[An (nb "powers" (by simp))];rfl,by show kB ("many":Str) ((b,D.int n0)::_)=_;rw[An (nb "many" (by simp))];rfl,hF.lo,hF.st,rfl⟩,λd v F' H7 A' hd Bk hf he h3 r nd fr=>?_⟩
 subst hd
 cases r
 have Bl:=Bk.get _ _ HJ
 refine⟨.ref x,rfl,x,C,dx,_,rfl,Bl,hC.cls,hC.step,kH (aZ 5) (by decide),?_⟩
 rw[tu (by simp;exact⟨nb "step" (by simp),by decide,by decide,by decide,by decide⟩)]
 refine q _ p1 p2 ((s6.trans (Bk.x (x:=x))).trans (dg.upd (C:=C) (dx:=dx) Bl rfl)) (by rw[bW];rfl) ((p6.same Bk).upd Bl (λws z=>by cases z)) ((q6.same Bk).upd Bl (λws z=>by cases z)) c69 (n2 p1 yw) (n4 p2 qk)
noncomputable abbrev ax6:bC:=λds Q=>∃a:Int,ds=[.int a]/\Q (.bl (decide (2<=a)&&decide (a<=61)&&(aR (a.toNat-2)).all λi=>a%(2+(i:Int)) != 0))
theorem ax7(T:Txt K mg t):aO P w K mg base aV 1 t.FV t.FW ["prime"] (bE (ax6 )):=by
 refine bX T.Q0 ax3 ?_ ?_
 ·intro ds Q h
  obtain⟨a,rfl,q⟩:=h<;>rfl
 ·intro aH A outer s H E hr
  refine⟨_,(aJ (bc (wm (ag (Ei wA wA (ag az) (bv 0) (ag az))) (vE (fo (Ek rfl) (by rfl) T.HE DN (ai (ag (fA [("prime",0)] ["d"] rfl (zT rfl T.gk (ai (ag az) (ai (bv 0) aB))) (λ_ _ _ _=>(dA (i:=1) (show(["prime","d"]:List Str).Nodup by decide +kernel) rfl (aq (lookup_relabel_local rfl)) (by decide) (bh (lookup_relabel_local rfl)))) (λ_ _ _ _=>fm) (λ_ _ _ _=>(wj (lH (dB hr)) (ag (aC df (bv 0) (bv 1))) (ag az) (cI _))) rfl ⟨rfl,trivial⟩ (λ_=>by repeat' (first | exact trivial | refine⟨.inl rfl,?_⟩ | refine⟨.inr (.inl rfl),?_⟩ | refine⟨.inr (.inr ⟨_,rfl⟩),?_⟩)) (λ_=>⟨⟨rfl,.inl rfl,.inl rfl,_,rfl,rfl⟩,trivial⟩) rfl (by decide +kernel))) aB)))))),λds Q h=>?_⟩
  obtain⟨a,rfl,q⟩:=h
  walk_at"l3"
  split
  ·rename_i h1
   split
   ·rename_i h2
    refine⟨2,a,⟨rfl,rfl⟩,⟨by decide,by decide,by omega,by omega⟩,?_⟩
    have e0:(a-2).toNat=a.toNat-2:=by omega
    rw[e0]
    refine gD (aR (a.toNat-2)) (λ(k:Nat)=>D.int (2+(k:Int))) (λ(k:Nat)=>D.bl (a%(2+(k:Int)) != 0)) (by rw[wo]) (λx y h=>by injection h with h;omega) (λk hk=>?_) (.inr λ_ _=>rfl) (by rw[cV,sL];omega) ?_
    ·walk_at"l3"
     refine⟨by omega,?_⟩
     by_cases z:a%(2+(k:Int))=0<;>simp[z]
    ·refine⟨(aR (a.toNat-2)).map λ(k:Nat)=>a%(2+(k:Int)) != 0,?_,?_⟩
     ·unfold wC;rw[dG];rfl
     ·have e:(decide (2<=a)&&decide (a<=61)&&(aR (a.toNat-2)).all λi=>a%(2+(i:Int)) != 0)=((aR (a.toNat-2)).map λ(k:Nat)=>a%(2+(k:Int)) != 0).all id:=by
       simp[h1,h2,oi]
      rw[<-e];exact q
   ·rename_i h2
    have e:(decide (2<=a)&&decide (a<=61)&&(aR (a.toNat-2)).all λi=>a%(2+(i:Int)) != 0)=false:=by simp[h2]
    rw[e]at q;exact q
  ·rename_i h1
   have e:(decide (2<=a)&&decide (a<=61)&&(aR (a.toNat-2)).all λi=>a%(2+(i:Int)) != 0)=false:=by simp[h1]
   rw[e]at q;exact q
noncomputable abbrev aG8:List D->List Str->List D->Prop:=λds ns xs=>∃p:Nat,ds=[.int p]/\p∈lX/\ns=gg "prime"/\xs=[.int p,.int p,.int ((bl p:Nat)-1),.lst true (nums (fl (false,p))),.lst true (nums (dD (fl (false,p)))),.int (fst (false,p))]
theorem aB0(T:Txt K mg t)(hB:Bm mg base):aO P w K mg base aV 8 t.FX t.A9 ["self","prime"] (ET [t.jI,t.jJ] t.aU aG8):=by
 refine O4 T.aC3 T.aA7 az6 (λvs H Q E h=>?_) λA outer s H vs Q E hr h=>?_
 ·obtain⟨x,dx,cj,ds,ns,xs,rfl,_,_,r,⟨p,rfl,_⟩,_⟩:=h
  have:=r.length
  simp at this
  simp[this]
 obtain⟨x,dx,cj,ds,ns,xs,rfl,tb,hx,r,⟨p,rfl,hp,rfl,rfl⟩,q⟩:=h
 obtain rfl:cj=[.int p]:=by
  cases r with
  | int r=>cases r;rfl
 have hm:(false,p)∈aF:=dQ _ (CG hp)
 have hF:=dE hm
 refine⟨_,jo (C9 (C7 (C6 (oK ((ax7 T).mono (by decide)) hr rfl T.cV5 T.Q0.kp T.cV6 .nil bj (eS (pv 1) iB)))) (qS Mp) C8)
  (jo (mW (pv 0) (pv 1) rfl)
  (qS (zt (OX (E:=E0) (i:=1) T.RE ((RH T).mono (by decide)) hr T.QZ rfl T.uO rfl rfl rfl rfl (eS (pv 0) (eS (pv 1) (eS (OQ rfl rfl T.aA8 hB) iB))))))),?_⟩
 refine⟨_,rfl,H,[.int p],λd=>d=.bl true,aa.refl _,.int .nil,⟨p,rfl,by rw[bS9 p hp]⟩,λd v F' H1 A1 hd ql hf he h3 r nd fr=>?_⟩
 subst hd
 cases r
 refine⟨true,rfl,?_⟩
 refine kP ?_
 have eM:=ql.get _ _ hx
 refine⟨.int p,rfl,.ref x,rfl,x,t.aU,dx,_,rfl,eM,T.iV,T.nV,by decide,?_⟩
 generalize e2:upd H1 x (HO.ins t.aU dx (eR "prime" (.int p) []))=H2
 have fq:H2 x=some (.ins t.aU dx [(("prime":Str),.int p)]):=by rw[<-e2,bW];rfl
 have s2:dg x H H2:=by rw[<-e2];exact(ql.x (x:=x)).trans (dg.upd (C:=x) (dx:=dx) eM rfl)
 have n2:∀p,H2 p=none->H p=none:=λp h=>ql.free (xG eM (by rw[e2];exact h))
 obtain⟨ps,hP⟩:=tb t.jI (by simp)
 obtain⟨more,HK⟩:=s2.tb _ ps hP
 refine⟨.ref x,rfl,.int p,rfl,⟨_,HK⟩,λf k qn pm g9 H3 nf HL hk kf mD hl3=>?_⟩
 refine⟨f,_,_,.int p,HL,rfl,rfl,λoc u gJ hu nc nH=>?_⟩
 obtain⟨tm,rfl⟩:∃tm,u=gG p tm:=hu
 have ku:=mD.get _ _ fq
 refine⟨x,dx,f,t.aU,"prime",p,p,_,oc,_,k,gm (false,p),fl (false,p),fst (false,p),rfl,xH ku (λz=>by rw[z,nf]at fq;cases fq) nc,by decide,⟨T.iV,T.uL,T.ym,T.uM,T.qj,T.yl,T.uN⟩,Pb nH nc hk kf,?_,hF,λH' p1 p2 sx cX tI oQ ne yw qk=>?_⟩
 ·refine O2 (n:=3) ⟨rfl,rfl,rfl,by decide,rfl,rfl,by decide,by decide,rfl⟩ gJ (λu1 u2=>rfl) λq f A outer s H E hr=>?_
  refine⟨_,aC df (ag (aC i8 (bv 0) (bv 1))) (bv 2),λi j Qd h=>?_⟩
  obtain⟨a,b,rfl,rfl,ha,hb,hq⟩:=h
  walk_at"l3"
  have hp0:2<=p:=hF.lo
  refine⟨jt.ok (.inr ⟨by omega,by omega⟩),by omega,?_⟩
  have e:((gm (false,p) a b:Nat):Int)=(a:Int)*b%p:=by
   show((a*b%p:Nat):Int)=_
   rw[qG,vo]
  rw[<-e];exact hq
 ·have gf:H' f=some (.ext (iD _ oc _ f)):=sx.get f _ (λz=>by rw[z]at nf;rw[nf]at fq;cases fq) (by rw[aP nH.symm,bW]) rfl
  have gc:=sx.get _ _ (dZ ku nc).symm bW rfl
  refine⟨gf,gc,?_⟩
  refine q _ (Am p p p1 p2 (fst (false,p))) [p1,p2] (s2.trans (Pa mD nf nc sx)) ?_ rfl ?_ (by simp[ne]) (λa ha=>?_)
  ·rw[fZ (λz=>by rw[z,gf]at cX;cases cX) (λz=>by rw[z,gc]at cX;cases cX)];exact cX
  ·exact .int (.int (.int (.own (tI.rem gf gc) rfl (jC _) (.own (oQ.rem gf gc) rfl (jC _) (.int .nil)))))
  ·simp at ha
   rcases ha with rfl | rfl
   ·exact n2 _ (Ao mD yw)
   ·exact n2 _ (Ao mD qk)
noncomputable abbrev aF8:bC:=λds Q=>∃(l g:List Int),ds=[.lst false (nums l),.lst false (nums g)]/\1<=l.length/\l.length<=63/\g.length=l.length+1/\(∀x∈g,0<=x)/\Q (.lst true (nK l g))
theorem aF9(T:Txt K mg t):aO P w K mg base aV 1 t.FY t.FZ ["powers","logs"] (bE (aF8 )):=by
 refine bX T.Q1 A6 ?_ ?_
 ·intro ds Q h
  obtain⟨l,g,rfl,h1,h2,h3,h4,q⟩:=h<;>rfl
 ·intro aH A outer s H E hr
  refine⟨_,(aE (bb (i:=2) A6.nd rfl (bh rfl) (aC eC (ag (fo (g7) (by rfl) T.ia gR (ai (bv 0) aB))) (ag az)))
   (aE (bb (i:=3) A6.nd rfl (aq rfl) (fk (gB (aC i8 (ag (fk (gB az eI))) (bv 2)) eI)))
   (aE (g5 fF rfl (zT rfl T.gk (ai (ag az) (ai (bv 2) aB))) (dA (i:=4) A6.nd rfl (bh rfl))
    (aJ (nt (i:=3) rfl (by first | exact aq rfl | exact bh (aq rfl)) (aC eC (ag (fk (gB az eI))) (ag (fA [("powers",0),("many",2),("logs",1),("a",4)] ["b"] rfl (zT rfl T.gk (ai (ag az) (ai (bv 2) aB))) (λ_ _ _ _=>(dA (i:=4) (show(["powers","many","logs","a","b"]:List Str).Nodup by decide +kernel) rfl (aq (lookup_relabel_local rfl)) (by decide) (bh (lookup_relabel_local rfl)))) (λ_ _ _ _=>fm) (λ_ _ _ _=>(eT (bV (bv 0) (ag (aC df (ag (aC eC (bV (bv 2) (bv 3) (λ_ _=>rfl)) (bV (bv 2) (bv 4) (λ_ _=>rfl)))) (ag (aC iM (bv 1) (ag az))))) (λ_ _=>rfl)))) rfl ⟨rfl,⟨rfl,⟨rfl,⟨rfl,trivial⟩⟩⟩⟩ (λ_=>by repeat' (first | exact trivial | refine⟨.inl rfl,?_⟩ | refine⟨.inr (.inl rfl),?_⟩ | refine⟨.inr (.inr ⟨_,rfl⟩),?_⟩)) (λ_=>⟨⟨rfl,.inl rfl,.inl rfl,_,rfl,rfl⟩,⟨⟨rfl,.inl rfl,.inl rfl,_,rfl,rfl⟩,⟨⟨rfl,.inl rfl,.inl rfl,_,rfl,rfl⟩,⟨⟨rfl,.inl rfl,.inl rfl,_,rfl,rfl⟩,trivial⟩⟩⟩⟩) rfl (by decide +kernel)))))))
   (aJ (bc (em 3)))))),λds Q h=>?_⟩
  obtain⟨l,g,rfl,h1,h2,h3,h4,q⟩:=h
  refine aD λU hU=>?_
  walk_at"l3"
  refine hU _ ?_
  clear hU U
  refine aD λU hU=>?_
  walk_at"l3"
  refine⟨by decide,⟨by omega,by omega,by omega⟩,by decide,hU _ ?_⟩
  clear hU U
  refine aD λU hU=>?_
  walk_at"l3"
  refine⟨1,(l.length:Int)+1,⟨rfl,rfl⟩,⟨by decide,by decide,by omega,by omega⟩,?_⟩
  have en:((l.length:Int)+1-1).toNat=l.length:=by omega
  rw[en]
  refine gZ.mk (λi δ=>∃o,δ=[some (.lst false (nums l)),some (.lst false (nums g)),some (.int ((l.length:Int)+1)),some (.lst true (tf l g (i+1))),o]) ⟨none,?_⟩ ?_ ?_
  ·rw[show((l.length:Int)+1).toNat=l.length+1 by omega];rfl
  ·rintro i d δ hd ⟨o,rfl⟩
   obtain⟨hi,rfl⟩:i<l.length/\d=.int (1+(i:Int)):=by
    rw[cy]at hd
    by_cases hi:i<l.length
    ·rw[mQ hi]at hd
     exact⟨hi,(cM hd).symm⟩
    ·rw[iq (by simpa using hi)]at hd;cases hd
   walk_at"l3"
   refine⟨⟨_,rfl⟩,by decide,1,(l.length:Int)+1,⟨rfl,rfl⟩,⟨by decide,by decide,by omega,by omega⟩,?_⟩
   rw[en]
   refine gD (aR l.length) (λ(k:Nat)=>D.int (1+(k:Int))) (λ(k:Nat)=>D.int (l.getD ((g.getD (i+1) 0+g.getD (k+1) 0)%(l.length:Int)).toNat 0)) (by rw[wo]) (λx y h=>by injection h with h;omega) (λk hk=>?_) (.inr λ_ _=>rfl) (by rw[cV,sL];omega) ?_
   ·have AF:=dO.mp hk
    walk_at"l3"
    have e1:(1+(i:Int)).toNat=i+1:=by omega
    have e2:(1+(k:Int)).toNat=k+1:=by omega
    have e3:(l.length:Int)+1-1=l.length:=by omega
    have n0:=iX (g.getD (i+1) 0+g.getD (k+1) 0) (show(l.length:Int)≠0 by omega)
    have n1:=iY (g.getD (i+1) 0+g.getD (k+1) 0) (show(0:Int)<l.length by omega)
    refine⟨_,kh (by omega) (by omega),_,kh (by omega) (by omega),?_⟩
    rw[e1,e2,e3]
    exact⟨by omega,_,kh n0 n1,rfl,rfl⟩
   ·walk_at"l3"
    refine⟨⟨by simp;omega,by rw[oi,dy];intro x _;rfl⟩,by simp[tf];omega,_,?_,rfl⟩
    unfold tf
    rw[L5 (n:=i+1),jQ]
    congr 1
    show _=[D.lst true (nums (nJ l g (i+1)))]
    unfold nJ
    rw[if_neg (by omega)]
    unfold nums
    rw[dW,dG];rfl
  ·rintro δ ⟨o,rfl⟩
   refine hU _ ?_
   simp only[rB,pf,rC,rD,dT,lh,m9,nh,dC,o6,pd,o9,o8,rz,rA,lJ,su,pK,sC,sD,rk,rl,rm,rn,rq,o7,pH,pI,ii,pz,rO,pB,rP,rQ,rS,rV,rW,rX,iI,fX,rZ,r6,r9,se,pF,nr,sj,sq,gN,sE,sr,rE,rH,rJ,rK,rL,rM,sF,sG,pj,jA,e5,iJ,g6,vf,qy,y0,y6,lj,jz,i6,pJ,sN,sO,sP,xk,ki,sT,pS,sR,iO,xo,xm,xn,dW,mI,vg,qB,jh,y7,aT,oq,ou,ir,iu,mS,exists_eq_left',exists_eq_left,D.bl.injEq,D.int.injEq,D.lst.injEq,D.fz.injEq,D.str.injEq,D.tup.injEq,y8,and_true,true_and,dX,qE,mR,og,wG,wH,wI,wJ,wL,wM,gX,j5,nu,wR,wU,wV,wW,wX,eB,kY,sH,wN,wO,wQ,fU,oY,y9,za,u6,kJ,zb,zc,qw,w5,w6,w9,xa,xb,xf,xg,lQ,nv,pO,jc,pP,wZ,sM,wY,sI,w4,ny,sJ,if_true,vn,if_false,reduceIte,xh,decide_eq_true_eq,fL,nD,pU,xt,nE,rF,sX,pZ,sS,pX,pY,s9,p7,tF,tH,gh,xO,km,xP,p8,qe,bO,cV]
   exact q
noncomputable abbrev aG0(t:oR):nB:=λds Q Ex=>∃a b:Nat,ds=[.int a,.int b]/\bl a<=1000000/\bl b<=1000000/\(b=0->Ex t.gj)/\(b≠0->∀q r:Nat,a=cl q b ^^^ r->bl r<bl b->Q (.tup [.int q,.int r]))
theorem RJ(T:Txt K mg t):aO P w K mg base (kX P w) 1 t.Ga t.Gb ["a","b"] (xj (aG0 t )):=by
 refine Oq T.Hw tT ?_ ?_
 ·intro ds Q Ex h
  obtain⟨a,b,rfl,ha,hb,qx,q⟩:=h<;>rfl
 ·intro aH A outer s H E hr
  refine⟨_,(aE (da (cO (fY (dB hr)) (bv 1) (ag az) (cI _)) (aJ (Ow T.RF rfl (by rfl) (ai (ag NT) aB))) cZ)
   (aE (bb (i:=2) tT.nd rfl (aq rfl) az)
   (aE (bb (i:=3) tT.nd rfl (aq rfl) (em 0))
   (aE (ZP (zR fF (cO Zs (ag (lN (bv 3))) (ag (lN (bv 1))) (cI _))
    (aE (bb (i:=4) tT.nd rfl (aq rfl) (aC iM (ag (lN (bv 3))) (ag (lN (bv 1)))))
    (aE (zQ (i:=2) tT.nd rfl (aq rfl) (ag (aC rU (ag az) (bv 4))) Ee)
    (aJ (zQ (i:=3) tT.nd rfl (aq rfl) (ag (aC rU (bv 1) (bv 4))) Ee))))))
   (aJ (bc (D9 (gB (em 2) (gB (em 3) eI))))))))),λds Q Ex h=>?_⟩
  obtain⟨a,b,rfl,ha,hb,qx,q⟩:=h
  refine aD λU hU=>?_
  walk_at"l3"
  split
  ·rename_i h0
   exact⟨by decide,qx (by omega)⟩
  ·rename_i h0
   have b0:b≠0:=by omega
   refine hU _ ?_
   clear hU U
   refine aD λU hU=>?_
   walk_at"l3"
   refine hU _ ?_
   clear hU U
   refine aD λU hU=>?_
   walk_at"l3"
   refine hU _ ?_
   clear hU U
   refine aD λU hU=>?_
   walk_at"l3"
   refine⟨λm δ=>∃(x r:Nat) (o sh:Option D),δ=[o,some (.int b),some (.int (x:Nat)),some (.int (r:Nat)),sh]/\a=cl x b ^^^ r/\bl r<=bl a/\m=bl r,
    ⟨bl a,0,a,_,none,rfl,by rw[m5,mO],aZ _,rfl⟩,?_⟩
   rintro m δ ⟨x,r,o,sh,rfl,inv,hra,rfl⟩
   simp only[rB,pf,rC,rD,dT,lh,m9,nh,dC,o6,pd,o9,o8,rz,rA,lJ,su,pK,sC,sD,rk,rl,rm,rn,rq,o7,pH,pI,ii,pz,rO,pB,rP,rQ,rS,rV,rW,rX,iI,fX,rZ,r6,r9,se,pF,nr,sj,sq,gN,sE,sr,rE,rH,rJ,rK,rL,rM,sF,sG,pj,jA,e5,iJ,g6,vf,qy,y0,y6,lj,jz,i6,pJ,sN,sO,sP,xk,ki,sT,pS,sR,iO,xo,xm,xn,dW,mI,vg,qB,jh,y7,aT,oq,ou,ir,iu,mS,exists_eq_left',exists_eq_left,D.bl.injEq,D.int.injEq,D.lst.injEq,D.fz.injEq,D.str.injEq,D.tup.injEq,y8,and_true,true_and,dX,qE,mR,og,wG,wH,wI,wJ,wL,wM,gX,j5,nu,wR,wU,wV,wW,wX,eB,kY,sH,wN,wO,wQ,fU,oY,y9,za,u6,kJ,zb,zc,qw,w5,w6,w9,xa,xb,xf,xg,lQ,nv,pO,jc,pP,wZ,sM,wY,sI,w4,ny,sJ,if_true,vn,if_false,reduceIte,xh,decide_eq_true_eq,fL,nD,pU,xt,nE,rF,sX,pZ,sS,pX,pY,s9,p7,tF,tH,gh,xO,km,xP,p8,qe,gH]
   split
   ·rename_i hc
    have hle:bl b<=bl r:=by omega
    have DL:=Nn b0 hle
    have es:(((bl r:Nat):Int)-((bl b:Nat):Int))=((bl r-bl b:Nat):Int):=by omega
    clear hU
    refine aD λU hU=>?_
    walk_at"l3"
    simp only[gH,es]
    refine hU _ ?_
    clear hU
    refine aD λU hU=>?_
    walk_at"l3"
    have o1:bl (1:Int).natAbs=1:=by decide
    refine⟨⟨by omega,by omega⟩,hU _ ?_⟩
    clear hU
    simp only[rB,pf,rC,rD,dT,lh,m9,nh,dC,o6,pd,o9,o8,rz,rA,lJ,su,pK,sC,sD,rk,rl,rm,rn,rq,o7,pH,pI,ii,pz,rO,pB,rP,rQ,rS,rV,rW,rX,iI,fX,rZ,r6,r9,se,pF,nr,sj,sq,gN,sE,sr,rE,rH,rJ,rK,rL,rM,sF,sG,pj,jA,e5,iJ,g6,vf,qy,y0,y6,lj,jz,i6,pJ,sN,sO,sP,xk,ki,sT,pS,sR,iO,xo,xm,xn,dW,mI,vg,qB,jh,y7,aT,oq,ou,ir,iu,mS,exists_eq_left',exists_eq_left,D.bl.injEq,D.int.injEq,D.lst.injEq,D.fz.injEq,D.str.injEq,D.tup.injEq,y8,and_true,true_and,dX,qE,mR,og,wG,wH,wI,wJ,wL,wM,gX,j5,nu,wR,wU,wV,wW,wX,eB,kY,sH,wN,wO,wQ,fU,oY,y9,za,u6,kJ,zb,zc,qw,w5,w6,w9,xa,xb,xf,xg,lQ,nv,pO,jc,pP,wZ,sM,wY,sI,w4,ny,sJ,if_true,vn,if_false,reduceIte,xh,decide_eq_true_eq,fL,nD,pU,xt,nE,rF,sX,pZ,sS,pX,pY,s9,p7,tF,tH,gh,xO,km,xP,p8,qe,gH]
    refine⟨⟨by omega,by rw[gH];omega⟩,_,DL,x ^^^ 2 ^ (bl r-bl b),r ^^^ b <<< (bl r-bl b),o,_,⟨rfl,?_,?_,rfl⟩,XM inv,by omega,rfl⟩
    ·rw[show(1:Int)=((1:Nat):Int) from rfl,q0,kR,CV]
    ·rw[q0,kR]
   ·rename_i hc
    refine hU _ ?_
    walk_at"l3"
    refine⟨by decide,q b0 x r inv (by omega)⟩
noncomputable abbrev aG1:bC:=λds Q=>∃a:Nat,ds=[.int a]/\bl a<=60/\Q (.bl (al a))
theorem aG2(T:Txt K mg t):aO P w K mg base aV 2 t.Gd t.Ge ["a"] (bE (aG1 )):=by
 refine bX T.Q4 FG ?_ ?_
 ·intro ds Q h
  obtain⟨a,rfl,ha,q⟩:=h<;>rfl
 ·intro aH A outer s H E hr
  refine⟨_,(aE (da (cO sg (bv 0) (ag az) (cI _)) (aJ (bc j9)) cZ)
   (aE (bb (i:=1) FG.nd rfl (aq rfl) (aC nq (ag (aC iM (ag (lN (bv 0))) (ag az))) (ag az)))
   (aE (g5 fF rfl (zT rfl T.gk (ai (ag az) (ai (ag (aC rU (ag az) (ag (aC eC (bv 1) (ag az))))) aB))) (dA (i:=2) FG.nd rfl (aq rfl))
    (aJ (da (cO (fY (dB hr)) (bV (ag (bG (EB ((RJ T).mono (by decide))) hr rfl T.Q2 T.Hw.kp T.Q3 EA (ai (bv 0) (ai (bv 2) aB)))) (ag az) (λ_ _=>rfl)) (ag az) (cI _)) (aJ (bc j9)) cZ)))
   (aJ (bc j9))))),λds Q h=>?_⟩
  obtain⟨a,rfl,ha,q⟩:=h
  refine aD λU hU=>?_
  walk_at"l3"
  split
  ·rename_i h2
   rw[X0 (by omega)]at q;exact q
  ·rename_i h2
   have h2:2<=a:=by omega
   have hp:=fR (show a≠0 by omega)
   refine hU _ ?_
   clear hU U
   refine aD λU hU=>?_
   walk_at"l3"
   simp only[gH]
   refine⟨nk (by omega) (by omega),hU _ ?_⟩
   clear hU U
   have eh:((((bl a:Nat):Int)-1)/2+1)=(((bl a-1)/2+1:Nat):Int):=by omega
   have e1:(1:Int)*2 ^ ((((bl a:Nat):Int)-1)/2+1).toNat=((2 ^ ((bl a-1)/2+1):Nat):Int):=by
    rw[eh,show(1:Int)=((1:Nat):Int) from rfl,q0,CV]
   have big:2 ^ ((bl a-1)/2+1)<=2 ^ 40:=yI (by decide) (by omega)
   have o1:bl (1:Int).natAbs=1:=by decide
   refine aD λU hU=>?_
   walk_at"l3"
   rw[e1]
   have d09:((2 ^ ((bl a-1)/2+1):Nat):Int)<=2 ^ 40:=by exact_mod_cast big
   have nn:(0:Int)<=((2 ^ ((bl a-1)/2+1):Nat):Int):=LD _
   refine⟨⟨by omega,by omega⟩,_,_,⟨rfl,rfl⟩,⟨by decide,by decide,by omega,by omega⟩,?_⟩
   have en:(((2 ^ ((bl a-1)/2+1):Nat):Int)-2).toNat=2 ^ ((bl a-1)/2+1)-2:=by omega
   rw[en]
   refine gZ.mk (λi δ=>(∃o1 o2,δ=[some (.int a),o1,o2])/\∀j,j<i->md a (2+j)≠0) ⟨⟨_,_,rfl⟩,λj hj=>absurd hj (by omega)⟩ ?_ ?_
   ·rintro i d δ hd ⟨⟨o1,o2,rfl⟩,inv⟩
    obtain⟨hi,rfl⟩:i<2 ^ ((bl a-1)/2+1)-2/\d=.int (2+(i:Int)):=by
     rw[cy]at hd
     by_cases hi:i<2 ^ ((bl a-1)/2+1)-2
     ·rw[mQ hi]at hd
      exact⟨hi,(cM hd).symm⟩
     ·rw[iq (by simpa using hi)]at hd;cases hd
    have bi:bl (2+i)<=60:=by
     have:=(X3 h2 (show 2+i<2 ^ ((bl a-1)/2+1) by omega)).2
     omega
    walk_at"l3"
    refine⟨a,2+i,by rw[show((2+i:Nat):Int)=2+(i:Int) by omega],by omega,by omega,by omega,λ_ x r e l=>?_⟩
    have em:md a (2+i)=r:=vX e l
    refine⟨.int r,rfl,rfl,?_⟩
    rw[ny]
    split
    ·rename_i hz
     have r0:r=0:=by have:=of_decide_eq_true hz;omega
     rw[X2 hi (em.trans r0)]at q
     exact q
    ·rename_i hz
     refine⟨⟨_,_,rfl,rfl⟩,λj hj=>?_⟩
     by_cases ej:j=i
     ·rw[ej,em]
      intro r0
      exact hz (decide_eq_true (by omega))
     ·exact inv j (by omega)
   ·rintro δ ⟨⟨o1,o2,rfl⟩,inv⟩
    rw[bO,cV]at inv
    rw[X1 h2 inv]at q
    refine hU _ ?_
    walk_at"l3"
    exact q
noncomputable abbrev aB1:bC:=λds Q=>∃a:Int,ds=[.int a]/\Q (.bl (decide (4<=a)&&decide (a<=127)&&al a.toNat))
theorem aB2(T:Txt K mg t):aO P w K mg base aV 3 t.Gf t.Gg ["bits"] (bE (aB1 )):=by
 refine bX T.Q5 az7 ?_ ?_
 ·intro ds Q h
  obtain⟨a,rfl,q⟩:=h<;>rfl
 ·intro aH A outer s H E hr
  refine⟨_,(aJ (bc (wm (ag (Ei wA wA (ag az) (bv 0) (ag az))) (vE (bG ((aG2 T).mono (by decide)) hr rfl T.cW1 T.Q4.kp T.cW2 bj (ai (bv 0) aB)))))),λds Q h=>?_⟩
  obtain⟨a,rfl,q⟩:=h
  walk_at"l3"
  split
  ·rename_i h1
   split
   ·rename_i h2
    refine⟨a.toNat,by rw[yS (by omega)],?_,?_⟩
    ·have:bl a.toNat<=bl 127:=DM (by omega)
     exact dP this (by decide)
    ·have e:(decide (4<=a)&&decide (a<=127)&&al a.toNat)=al a.toNat:=by simp[h1,h2]
     rw[e]at q;exact q
   ·rename_i h2
    have e:(decide (4<=a)&&decide (a<=127)&&al a.toNat)=false:=by simp[h2]
    rw[e]at q;exact q
  ·rename_i h1
   have e:(decide (4<=a)&&decide (a<=127)&&al a.toNat)=false:=by simp[h1]
   rw[e]at q;exact q
noncomputable abbrev aI4:bC:=λds Q=>∃a b:Nat,ds=[.int a,.int b]/\bl a<=1000/\bl b<=1000/\Q (.int (cl a b:Nat))
theorem aI5(T:Txt K mg t):aO P w K mg base aV 1 t.Gh t.Gi ["a","b"] (bE (aI4 )):=by
 refine bX T.Q6 A7 ?_ ?_
 ·intro ds Q h
  obtain⟨a,b,rfl,ha,hb,q⟩:=h<;>rfl
 ·intro aH A outer s H E hr
  refine⟨_,(aE (bb (i:=2) A7.nd rfl (aq rfl) az)
   (aE (g5 fF rfl (i7 rfl T.gk (ai (ag (lN (bv 1))) aB)) (dA (i:=3) A7.nd rfl (aq rfl))
    (aJ (da (cO (fY (dB hr)) (ag (aC N7 (ag (aC N6 (bv 1) (bv 3))) (ag az))) (ag az) (cI _)) (aJ (zQ (i:=2) A7.nd rfl (aq rfl) (ag (aC rU (bv 0) (bv 3))) Ee)) cZ)))
   (aJ (bc (em 2))))),λds Q h=>?_⟩
  obtain⟨a,b,rfl,ha,hb,q⟩:=h
  refine aD λU hU=>?_
  walk_at"l3"
  refine hU _ ?_
  clear hU U
  refine aD λU hU=>?_
  walk_at"l3"
  simp only[gH]
  refine⟨⟨by omega,by omega⟩,xi (λi δ=>∃o,δ=[some (.int a),some (.int b),some (.int (Mf.P a b i:Nat)),o]) ⟨none,rfl⟩ ?_ ?_⟩
  ·rintro i δ hi ⟨o,rfl⟩
   walk_at"l3"
   refine⟨by omega,?_⟩
   have Bo:(mG ((b:Int)/2 ^ ((i:Int)).toNat) 1=1)↔b.testBit i=true:=by
    have h:=Yb b i
    rw[LV]at h
    rw[<-h,dI]
   split
   ·rename_i hc
    have h:=Yc (a:=a) (Bo.mp hc)
    rw[LV]at h
    exact⟨⟨by omega,by rw[gH];omega⟩,_,h,rfl⟩
   ·rename_i hc
    exact⟨_,by rw[Yd (λz=>hc (Bo.mpr z))],rfl⟩
  ·rintro δ ⟨o,rfl⟩
   refine hU _ ?_
   walk_at"l3"
   exact q
noncomputable abbrev aL1:List D->List Str->List D->Prop:=λds ns xs=>∃p:Nat,ds=[.int p]/\p∈gb/\ns=gg "bits"++[("products":Str)]/\xs=[.int p,.int (ae (true,p)),.int ((bl (ae (true,p)):Nat)-1),.lst true (nums (fl (true,p))),.lst true (nums (dD (fl (true,p)))),.int (fst (true,p)),.lst true (nK (fl (true,p)) (dD (fl (true,p))))]
theorem aE4(T:Txt K mg t)(hB:Bm mg base):aO P w K mg base aV 8 t.Gj t.Ba ["self","bits"] (ET [t.jI,t.jJ] t.aS aL1):=by
 refine O4 T.aF1 T.aE2 QL (λvs H Q E h=>?_) λA outer s H vs Q E hr h=>?_
 ·obtain⟨x,dx,cj,ds,ns,xs,rfl,_,_,r,⟨p,rfl,_⟩,_⟩:=h
  have:=r.length
  simp at this
  simp[this]
 obtain⟨x,dx,cj,ds,ns,xs,rfl,tb,hx,r,⟨p,rfl,hp,rfl,rfl⟩,q⟩:=h
 obtain rfl:cj=[.int p]:=by
  cases r with
  | int r=>cases r;rfl
 have hm:(true,p)∈aF:=e7 _ (CG hp)
 have hF:=dE hm
 refine⟨_,jo (C9 (C7 (C6 (oK ((aB2 T).mono (by decide)) hr rfl T.cW3 T.Q5.kp T.cW4 .nil bj (eS (pv 1) iB)))) (qS Mp) C8)
  (jo (mW (pv 0) (pv 1) rfl)
  (jo (Ms (i:=2) QL.nd rfl (aq rfl) (vK Nx vC (vK Dq (DQ (pv 1)) vC)))
  (jo (zt (OX (E:=E0) (i:=1) T.RE ((RH T).mono (by decide)) hr T.QZ rfl T.uO rfl rfl rfl rfl (eS (pv 0) (eS (pv 2) (eS (OQ rfl rfl T.aE3 hB) iB)))))
  (qS (mW (pv 0) (oK ((aF9 T).mono (by decide)) hr rfl T.cV9 T.Q1.kp T.cW0 .nil bj (eS (zD (pv 0) rfl) (eS (zD (pv 0) rfl) iB))) rfl))))),?_⟩
 refine⟨_,rfl,H,[.int p],λd=>d=.bl true,aa.refl _,.int .nil,⟨p,rfl,by rw[ce8 p hp]⟩,λd v F' H1 A1 hd ql hf he h3 r nd fr=>?_⟩
 subst hd
 cases r
 refine⟨true,rfl,?_⟩
 refine kP ?_
 have eM:=ql.get _ _ hx
 refine⟨.int p,rfl,.ref x,rfl,x,t.aS,dx,_,rfl,eM,T.gF,T.yd,by decide,?_⟩
 generalize e2:upd H1 x (HO.ins t.aS dx (eR "bits" (.int p) []))=H2
 have fq:H2 x=some (.ins t.aS dx [(("bits":Str),.int p)]):=by rw[<-e2,bW];rfl
 have s2:dg x H H2:=by rw[<-e2];exact(ql.x (x:=x)).trans (dg.upd (C:=x) (dx:=dx) eM rfl)
 have n2:∀p,H2 p=none->H p=none:=λp h=>ql.free (xG eM (by rw[e2];exact h))
 obtain⟨ps,hP⟩:=tb t.jJ (by simp)
 obtain⟨more,HK⟩:=s2.tb _ ps hP
 have bp:bl p<=7:=Pf p hp
 have Bp:1<=bl p:=Pg p hp
 refine⟨.int p,rfl,rfl,p,rfl,rfl,_,_,rfl,rfl,_,_,rfl,rfl,?_,?_⟩
 ·have o1:bl (1:Int).natAbs=1:=by decide
  rw[gH]
  exact⟨by omega,by omega⟩
 have em:(1:Int)*2 ^ (((bl ((p:Int)).natAbs:Nat):Int)-1).toNat=((ae (true,p):Nat):Int):=by
  rw[gH,show(((bl p:Nat):Int)-1)=((bl p-1:Nat):Int) by omega,show(1:Int)=((1:Nat):Int) from rfl,q0,CV];rfl
 show zw 2 (.int ((1:Int)*2 ^ (((bl ((p:Int)).natAbs:Nat):Int)-1).toNat)) _ _ _
 rw[em]
 refine⟨.ref x,rfl,.int (ae (true,p)),rfl,⟨_,HK⟩,λf k qn pm g9 H3 nf HL hk kf mD hl3=>?_⟩
 refine⟨f,_,_,.int p,HL,rfl,rfl,λoc u gJ hu nc nH=>?_⟩
 obtain⟨tm,rfl⟩:∃tm,u=gG p tm:=hu
 have ku:=mD.get _ _ fq
 refine⟨x,dx,f,t.aS,"bits",p,ae (true,p),_,oc,_,k,gm (true,p),fl (true,p),fst (true,p),rfl,xH ku (λz=>by rw[z,nf]at fq;cases fq) nc,by decide,⟨T.gF,T.uJ,T.yf,T.qh,T.nU,T.ye,T.uK⟩,Pb nH nc hk kf,?_,hF,λH' p1 p2 sx cX tI oQ ne yw qk=>?_⟩
 ·refine O2 (n:=3) ⟨rfl,rfl,rfl,by decide,rfl,rfl,by decide,by decide,rfl⟩ gJ (λu1 u2=>rfl) λq f A outer s H E hr=>?_
  refine⟨_,eT (bV (ag (bG (EB ((RJ T).mono (by decide))) hr rfl T.Q2 T.Hw.kp T.Q3 EA (ai (ag (bG ((aI5 T).mono (by decide)) hr rfl T.cW5 T.Q6.kp T.cW6 bj (ai (bv 0) (ai (bv 1) aB)))) (ai (bv 2) aB)))) (ag az) (λ_ _=>rfl)),λi j Qd h=>?_⟩
  obtain⟨a,b,rfl,rfl,ha,hb,hq⟩:=h
  walk_at"l3"
  have b1:bl a<=6:=by
   have:bl a<=bl 63:=DM (by omega)
   exact dP this (by decide)
  have b2:bl b<=6:=by
   have:bl b<=bl 63:=DM (by omega)
   exact dP this (by decide)
  have p0:p≠0:=by
   intro z
   rw[z]at Bp
   exact absurd Bp (by decide)
  refine⟨a,b,rfl,by omega,by omega,cl a b,p,rfl,dP (bV7 a b) (by omega),by omega,λz=>p0 z,λ_ x r e l=>⟨by simp[D.pl],.int r,rfl,rfl,r,rfl,?_⟩⟩
  have er:gm (true,p) a b=r:=vX e l
  rw[<-er];exact hq
 ·have gf:H' f=some (.ext (iD _ oc _ f)):=sx.get f _ (λz=>by rw[z]at nf;rw[nf]at fq;cases fq) (by rw[aP nH.symm,bW]) rfl
  have gc:=sx.get _ _ (dZ ku nc).symm bW rfl
  refine⟨gf,gc,?_⟩
  have s4:=s2.trans (Pa mD nf nc sx)
  have f1:=n2 _ (Ao mD yw)
  have f2:=n2 _ (Ao mD qk)
  have l1:=tI.rem gf gc
  have l2:=oQ.rem gf gc
  have nW:rem H' f (s.heap.objs.size+1) x=some (.ins t.aS dx ((gg "bits").zip (Am p (ae (true,p)) p1 p2 (fst (true,p))))):=by
   rw[fZ (λz=>by rw[z,gf]at cX;cases cX) (λz=>by rw[z,gc]at cX;cases cX)];exact cX
  generalize rem H' f (s.heap.objs.size+1)=H4 at s4 l1 l2 nW
  refine⟨.ref x,rfl,x,t.aS,dx,_,.ref p1,rfl,nW,T.gF,T.qh,rfl,.ref x,rfl,x,t.aS,dx,_,.ref p2,rfl,nW,T.gF,T.nU,rfl,H4,[.lst false (nums (fl (true,p))),.lst false (nums (dD (fl (true,p))))],λd=>d=.lst true (nK (fl (true,p)) (dD (fl (true,p)))),aa.refl _,.shr l1 (jC _) (.shr l2 (jC _) .nil),
   ⟨_,_,rfl,by have:=hF.len;have:=hF.lo;omega,by have:=hF.len;have:=hF.hi;omega,xE _ _,Pe _ _,rfl⟩,λd v F' H5 A' hd nX hf he h3 r nd fr=>?_⟩
  subst hd
  obtain⟨p3,rfl⟩:∃p3,v=.ref p3:=by cases r;exact⟨_,rfl⟩
  have kz:=nX.get _ _ nW
  have nA:∀{a ws},H4 a=some (.lst ws)->a ∉ A':=λ{a ws} e z=>by rw[fr a z]at e;cases e
  refine⟨.ref x,rfl,x,t.aS,dx,_,rfl,kz,T.gF,T.qi,kH (aZ 6) (by decide),?_⟩
  refine q _ (Am p (ae (true,p)) p1 p2 (fst (true,p))++[.ref p3]) (p1::p2::A') ((s4.trans (nX.x (x:=x))).trans (dg.upd (C:=x) (dx:=dx) kz rfl)) (by rw[bW];rfl) rfl ?_ ?_ ?_
  ·exact .int (.int (.int (.own ((l1.same nX).upd kz (λws z=>by cases z)) rfl (jC _) (.own ((l2.same nX).upd kz (λws z=>by cases z)) rfl (jC _) (.int ((r.D3 (by simp[fU,Pd]) (aa.of λb o e=>by cases e)).xF kz (by simp[fU,Pd])))))))
  ·exact ij.mpr ⟨by simp[ne];exact nA l1,ij.mpr ⟨nA l2,nd⟩⟩
  ·intro a ha
   rcases bU.mp ha with rfl | ha
   ·exact f1
   ·rcases bU.mp ha with rfl | ha
    ·exact f2
    ·exact s4.free (by rw[nW];simp) (fr a ha)
noncomputable abbrev aI6(cb cp:Addr):bC:=λds Q=>∃m:Bool × Nat,ds=[cu m]/\m∈aF/\Q (fD cb cp m)
theorem aI7(T:Txt K mg t)(hB:Bm mg base):aO P w K mg base aV 10 t.Gk t.Gm ["_law_told_here"] (xv [t.jI,t.jJ] (bE (aI6 t.aS t.aU))):=by
 refine O3 T.Q7 aH6 ?_ ?_
 ·intro ds Q h
  obtain⟨m,rfl,hm,q⟩:=h<;>rfl
 ·intro aH A outer s H E hT hr
  refine⟨_,(aE (da (ni (bV (bv 0) (ag az) (λ_ _=>rfl))) (aJ (bc (O6 hT T.yc ((aE4 T hB).mono (by decide)) hr rfl T.yt T.aF2 bj (ai (bV (bv 0) (ag az) (λ_ _=>rfl)) aB)))) cZ)
   (aJ (bc (O6 hT T.yk ((aB0 T hB).mono (by decide)) hr rfl T.yv T.aC4 bj (ai (bV (bv 0) (ag az) (λ_ _=>rfl)) aB))))),λds Q h=>?_⟩
  obtain⟨m,rfl,hm,q⟩:=h
  unfold cu at *
  refine aD λU hU=>?_
  walk_at"l3"
  obtain⟨b,n⟩:=m
  cases b with
  | true =>
   refine⟨_,rfl,true,rfl,?_⟩
   rw[if_pos rfl]
   refine⟨_,rfl,_,_,⟨n,rfl,Ar hm,rfl,rfl⟩,?_⟩
   rw[cp8];exact q
  | false =>
   refine⟨_,rfl,false,rfl,?_⟩
   rw[if_neg (by decide)]
   refine hU _ ?_
   walk_at"l3"
   refine⟨_,rfl,_,_,⟨n,rfl,bt1 hm,rfl,rfl⟩,?_⟩
   rw[bS6];exact q
noncomputable def eO(ns:List Int)(k:Int):Int:=if k<ns.length then ns.getD k.toNat 0 else(k*k*48271+ns.length*7919)%65537
noncomputable abbrev aL2:bC:=λds Q=>∃(ns:List Int) (k:Int),ds=[.fz (nums ns),.int k]/\0<=k/\k<=1000000/\Q (.int (eO ns k))
theorem kA(T:Txt K mg t):aO P w K mg base aV 1 t.Gp t.Gq ["_law_script","_law_k"] (bE (aL2 )):=by
 refine bX T.jL aJ4 ?_ ?_
 ·intro ds Q h
  obtain⟨ns,k,rfl,hk,hk2,q⟩:=h<;>rfl
 ·intro aH A outer s H E hr
  refine⟨_,(aE (da (cO sg (bv 1) (ag (fo (g7) (by rfl) T.ia gR (ai (bv 0) aB))) (cI _)) (aJ (bc (eT (bV (bv 0) (bv 1) (λ_ _=>rfl))))) cZ)
   (aJ (bc (aC df (ag (aC eC (ag (aC i8 (ag (aC i8 (bv 1) (bv 1))) (ag az))) (ag (aC i8 (ag (fo (g7) (by rfl) T.ia gR (ai (bv 0) aB))) (ag az))))) (ag az))))),λds Q h=>?_⟩
  obtain⟨ns,k,rfl,hk,hk2,q⟩:=h
  unfold eO at q
  refine aD λU hU=>?_
  walk_at"l3"
  split
  ·rename_i h
   rw[if_pos h]at q
   exact⟨_,kh hk h,rfl,q⟩
  ·rename_i h
   rw[if_neg h]at q
   refine hU _ ?_
   walk_at"l3"
   exact⟨jt.ok (.inl ⟨by omega,by omega⟩),jt.ok (.inr ⟨by decide,by decide⟩),jt.ok (.inr ⟨by decide,by decide⟩),by decide,q⟩
noncomputable abbrev aL3:bC:=λds Q=>∃m:Bool × Nat,ds=[cu m]/\bl m.2<=1000/\1<=bl m.2/\Q (.int (ae m:Nat))
theorem Bq(T:Txt K mg t):aO P w K mg base aV 1 t.Gr t.Gs ["_law_told_here"] (bE (aL3 )):=by
 refine bX T.yb aJ5 ?_ ?_
 ·intro ds Q h
  obtain⟨m,rfl,h1,h2,q⟩:=h<;>rfl
 ·intro aH A outer s H E hr
  refine⟨_,(aE (da (ni (bV (bv 0) (ag az) (λ_ _=>rfl))) (aJ (bc (aC rU (ag az) (ag (aC iM (ag (lN (bV (bv 0) (ag az) (λ_ _=>rfl)))) (ag az)))))) cZ)
   (aJ (bc (eT (bV (bv 0) (ag az) (λ_ _=>rfl)))))),λds Q h=>?_⟩
  obtain⟨m,rfl,h1,h2,q⟩:=h
  unfold cu at *
  refine aD λU hU=>?_
  walk_at"l3"
  obtain⟨b,n⟩:=m
  cases b with
  | true =>
   refine⟨_,rfl,true,rfl,?_⟩
   rw[if_pos rfl]
   refine⟨_,rfl,?_⟩
   have o1:bl (1:Int).natAbs=1:=by decide
   have e:(1:Int)*2 ^ (((bl ((n:Int)).natAbs:Nat):Int)-1).toNat=((ae (true,n):Nat):Int):=by
    have iC:1<=bl n:=h2
    rw[gH,show(((bl n:Nat):Int)-1)=((bl n-1:Nat):Int) by omega,show(1:Int)=((1:Nat):Int) from rfl,q0,CV];rfl
   refine⟨?_,by rw[e];exact q⟩
   rw[gH]
   have i5:bl n<=1000:=h1
   have iC:1<=bl n:=h2
   exact⟨by omega,by omega⟩
  | false =>
   refine⟨_,rfl,false,rfl,?_⟩
   rw[if_neg (by decide)]
   refine hU _ ?_
   walk_at"l3"
   exact⟨_,rfl,rfl,q⟩
noncomputable def yx(hs:List Nat)(h:Nat)(n:Nat)(r:List Nat):Prop:=∀t,t<n->(t<h\/t∈hs)->cf r t=if t=h then 1 else 0
theorem uP{l:List Nat}{i:Nat}(h:i<l.length):l.getD i 0=l[i]:=by rw[aQ,aN h];rfl
theorem PD{α:Type}{l:List α}{x a:α}{j:Nat}(h:j<l.length+1):(l++[x]).getD j a=if j<l.length then l.getD j a else x:=by
 split
 ·rename_i h'
  rw[aQ,aQ,va h']
 ·rw[show j=l.length by omega,aQ,u7 (aZ _),yQ];rfl
theorem yx.snoc{hs:List Nat}{h n v:Nat}{r:List Nat}(a:yx hs h n r)(hl:r.length=n)(hv:(n<h\/n∈hs)->v=if n=h then 1 else 0):yx hs h (n+1) (r++[v]):=λt ht c=>by
 rw[AN,hl]
 split
 ·exact a t ‹_› c
 ·have e:t=n:=by omega
  subst e
  rw[yQ]
  exact hv c
noncomputable abbrev aG9:bC:=λds Q=>∃(m:Bool × Nat) (ns:List Int) (b w:Nat) (hs:List Nat),ds=[cu m,.fz (nums ns),.int b,.int w,.lst false (av hs)]/\m∈aF/\b<=1000/\w<=64/\hs.length<=64/\hs.Pairwise (· < ·)/\(∀h∈hs,h<w)/\∀A:List (List Nat),A.length=hs.length->RT (ae m) w A->RR w A (λi=>hs.getD i 0)->Q (.lst true (aG true A))
theorem aH0(T:Txt K mg t):aO P w K mg base aV 2 t.Gu t.Gv ["_law_told_here","_law_script","_law_begin","_law_wide","_law_heads"] (bE (aG9 )):=by
 refine bX T.Q8 qf ?_ ?_
 ·intro ds Q h
  obtain⟨m,ns,b,wi,hs,rfl,hm,hb,hw,hh,hp,eA,q⟩:=h<;>rfl
 ·intro aH A outer s H E hr
  refine⟨_,(aE (bb (i:=5) qf.nd rfl (aq rfl) (fk eI))
   (aE (g5 fF rfl (z6 rfl T.Bi (ai (bv 4) aB)) (lR (i1:=6) (i2:=7) rfl qf.nd rfl (aq rfl) rfl (aq rfl))
    (aE (bb (i:=8) qf.nd rfl (aq rfl) (fk eI))
    (aE (g5 fF rfl (i7 rfl T.gk (ai (bv 3) aB)) (dA (i:=9) qf.nd rfl (aq rfl))
     (aE (bb (i:=10) qf.nd rfl (aq rfl) (aC df (ag (bG ((kA T).mono (by decide)) hr rfl T.kq T.jL.kp T.kr bj (ai (bv 1) (ai (ag (aC eC (ag (aC eC (bv 2) (ag (aC i8 (bv 6) (bv 3))))) (bv 9))) aB)))) (ag (bG ((Bq T).mono (by decide)) hr rfl T.Bc T.yb.kp T.Bd bj (ai (bv 0) aB)))))
     (aE (da (PW.pt (wk (cO sg (bv 9) (bv 7) (cI _)) (vD (cO Z6 (bv 9) (bv 4) (by with_unfolding_all rfl))))) (aJ (bb (i:=10) qf.nd rfl (aq rfl) (Ej Pz (by rfl) T.HF DO (ai (ag (wj (fY (dB hr)) (bv 9) (bv 7) (cI _))) aB)))) cZ)
     (aJ (nt (i:=8) rfl (by first | exact aq rfl | exact bh (aq rfl)) (em 10))))))
    (aJ (nt (i:=5) rfl (by first | exact aq rfl | exact bh (aq rfl)) (em 8))))))
   (aJ (bc (em 5))))),λds Q h=>?_⟩
  obtain⟨m,ns,b,wi,hs,rfl,hm,hb,hw,hh,hp,eA,q⟩:=h
  have jw:=(dE hm).lo
  have RK:=EZ m hm
  have uQ:∀z:Int,z%(ae m:Int)=(((z%(ae m:Int)).toNat:Nat):Int):=λz=>by
   have n0:=iX z (show(ae m:Int)≠0 by omega)
   omega
  have uR:∀z:Int,(z%(ae m:Int)).toNat<ae m:=λz=>by
   have n1:=iY z (show(0:Int)<(ae m:Int) by omega)
   omega
  refine aD λU hU=>?_
  walk_at"l3"
  refine⟨by decide,hU _ ?_⟩
  clear hU U
  refine aD λU hU=>?_
  walk_at"l3"
  refine gZ.mk (λi δ=>∃(G:List (List Nat)) (o1 o2 o3 o4 o5:Option D),δ=[some (cu m),some (.fz (nums ns)),some (.int b),some (.int wi),some (.lst false (av hs)),some (.lst true (aG true G)),o1,o2,o3,o4,o5]/\G.length=i/\RT (ae m) wi G/\∀j,j<i->yx hs (hs.getD j 0) wi (G.getD j [])) ⟨[],_,_,_,_,_,rfl,rfl,(λ_ h=>nomatch h),(λ_ h=>absurd h (by omega))⟩ ?_ ?_
  ·rintro i d δ hd ⟨G,o1,o2,o3,o4,o5,rfl,hG,hR,hA⟩
   obtain⟨hi,rfl⟩:=bU1 hd
   simp only[iO,iu,ir]
   clear hU
   have iw:i*wi<=64*64:=Nat.mul_le_mul (by omega) hw
   have eiw:(i:Int)*(wi:Int)=((i*wi:Nat):Int):=by rw[vo]
   refine aD λU hU=>?_
   walk_at"l3"
   refine⟨by decide,hU _ ?_⟩
   clear hU
   refine aD λU hU=>?_
   walk_at"l3"
   refine⟨⟨by omega,by omega⟩,xi (λk δ=>∃(r:List Nat) (o4 o5:Option D),δ=[some (cu m),some (.fz (nums ns)),some (.int b),some (.int wi),some (.lst false (av hs)),some (.lst true (aG true G)),some (.int i),some (.int (hs[i]:Nat)),some (.lst true (av r)),o4,o5]/\r.length=k/\AllLt (ae m) r/\yx hs hs[i] k r) ⟨[],_,_,rfl,rfl,(λ_ h=>nomatch h),(λ_ h=>absurd h (by omega))⟩ ?_ ?_⟩
   ·rintro k δ hk ⟨r,o4,o5,rfl,mr,mw,HM⟩
    simp only[gN,iu,ir]
    clear hU
    refine aD λU hU=>?_
    walk_at"l3"
    refine⟨jt.ok (.inl ⟨by omega,by omega⟩),ns,_,rfl,by omega,by omega,m,rfl,by omega,by omega,?_⟩
    dsimp only
    refine⟨by omega,hU _ ?_⟩
    clear hU
    rw[uQ]
    have vl:=uR (eO ns (↑b + ↑i * ↑wi + ↑k))
    generalize (eO ns (↑b + ↑i * ↑wi + ↑k) % ↑(ae m)).toNat=v at vl ⊢
    refine aD λU hU=>?_
    walk_at"l3"
    have fin:∀v:Nat,v<ae m->((k<hs[i]\/k∈hs)->v=if k=hs[i]then 1 else 0)->U [some (cu m),some (D.fz (nums ns)),some (D.int ↑b),some (D.int ↑wi),some (D.lst false (av hs)),some (D.lst true (aG true G)),some (D.int ↑i),some (D.int ↑hs[i]),some (D.lst true (av r)),some (D.int ↑k),some (D.int v)]:=by
     clear vl v
     intro v vl hv
     refine hU _ ?_
     walk_at"l3"
     refine⟨⟨_,rfl⟩,by omega,r++[v],_,_,⟨nE r [v],rfl,rfl⟩,by rw[fB,mr];rfl,λx hx=>?_,HM.snoc mr hv⟩
     rcases cx.mp hx with h | h
     ·exact mw x h
     ·rw[e8]at h
      rw[h];exact vl
    have one:∀c:(k<hs[i]\/k∈hs),U [some (cu m),some (D.fz (nums ns)),some (D.int ↑b),some (D.int ↑wi),some (D.lst false (av hs)),some (D.lst true (aG true G)),some (D.int ↑i),some (D.int ↑hs[i]),some (D.lst true (av r)),some (D.int ↑k),some (D.int (if(k:Int)=(hs[i]:Nat)then 1 else 0))]:=λc=>by
     have f:=fin (if k=hs[i]then 1 else 0) (by split<;>omega) λ_=>rfl
     by_cases e:k=hs[i]
     ·rw[if_pos e]at f
      rw[if_pos (by omega)];exact f
     ·rw[if_neg e]at f
      rw[if_neg (by omega)];exact f
    split
    ·exact one (.inl (by omega))
    ·refine⟨_,rfl,?_⟩
     split
     ·rename_i h
      exact one (.inr (by
       obtain⟨x,hx,e⟩:=bP.mp h
       rw[show k=x by omega];exact hx))
     ·rename_i h1 h2
      exact fin v vl λc=>by
       rcases c with c | c
       ·omega
       ·exact absurd (bP.mpr ⟨k,c,rfl⟩) h2
   ·rintro δ ⟨r,o4,o5,rfl,mr,mw,HM⟩
    refine hU _ ?_
    walk_at"l3"
    refine⟨⟨_,rfl⟩,by omega,G++[r],_,_,_,_,_,⟨p9 true G [r],rfl,rfl,rfl,rfl,rfl⟩,by rw[fB,hG];rfl,hR.app λx hx=>?_,λj hj=>?_⟩
    ·rw[e8]at hx
     rw[hx];exact⟨mr,mw⟩
    ·rw[PD (by omega)]
     split
     ·exact hA j (by omega)
     ·rw[show j=i by omega,uP hi]
      exact HM
  ·rintro δ ⟨G,o1,o2,o3,o4,o5,rfl,hG,hR,hA⟩
   refine hU _ ?_
   walk_at"l3"
   rw[pQ,fL]at hG hA
   refine q G hG hR ⟨λi j hi hj=>?_,λi hi t ht=>?_,λi j hi hj=>?_,λi hi=>eA _ (cK (by omega) 0)⟩
   ·rw[hA i (by omega) _ (eA _ (cK (by omega) 0)) (.inr (cK (by omega) 0))]
    rw[uP (show i<hs.length by omega),uP (show j<hs.length by omega)]
    have pw:=yX.mp hp
    rcases CM i j with h | h | h
    ·have:=pw i j (by omega) (by omega) h
     rw[if_neg (by omega),if_neg (by omega)]
    ·subst h
     rw[if_pos rfl,if_pos rfl]
    ·have:=pw j i (by omega) (by omega) h
     rw[if_neg (by omega),if_neg (by omega)]
   ·have d11:=eA _ (cK (show i<hs.length by omega) 0)
    rw[hA i (by omega) t (by omega) (.inl ht),if_neg (by omega)]
   ·rw[uP (show i<hs.length by omega),uP (show j<hs.length by omega)]
    exact yX.mp hp i j (by omega) (by omega) hi
noncomputable abbrev aL4:bC:=λds Q=>∃(m:Bool × Nat) (a b:Nat),ds=[cu m,.int a,.int b]/\0<m.2/\Q (.int (gp m a b:Nat))
theorem aL5(T:Txt K mg t):aO P w K mg base aV 1 t.Gw t.Gx ["_law_told_here","_law_a","_law_b"] (bE (aL4 )):=by
 refine bX T.Q9 aJ6 ?_ ?_
 ·intro ds Q h
  obtain⟨m,a,b,rfl,h0,q⟩:=h<;>rfl
 ·intro aH A outer s H E hr
  refine⟨_,(aE (da (ni (bV (bv 0) (ag az) (λ_ _=>rfl))) (aJ (bc (aC rY (bv 1) (bv 2)))) cZ)
   (aJ (bc (aC df (ag (aC eC (bv 1) (bv 2))) (bV (bv 0) (ag az) (λ_ _=>rfl)))))),λds Q h=>?_⟩
  obtain⟨m,a,b,rfl,h0,q⟩:=h
  unfold cu at *
  obtain⟨k,n⟩:=m
  refine aD λU hU=>?_
  walk_at"l3"
  cases k with
  | true =>
   refine⟨_,rfl,true,rfl,?_⟩
   rw[if_pos rfl,kR]
   exact q
  | false =>
   refine⟨_,rfl,false,rfl,?_⟩
   rw[if_neg (by decide)]
   refine hU _ ?_
   walk_at"l3"
   refine⟨_,rfl,?_⟩
   refine⟨by omega,?_⟩
   have e:((gp (false,n) a b:Nat):Int)=((a:Int)+b)%n:=by
    show(((a+b)%n:Nat):Int)=_
    rw[qG,CF]
   rw[<-e];exact q
noncomputable abbrev aI8:bC:=λds Q=>∃(m:Bool × Nat) (a b:Nat),ds=[cu m,.int a,.int b]/\m∈aF/\a<ae m/\b<ae m/\Q (.int (gm m a b:Nat))
theorem aI9(T:Txt K mg t):aO P w K mg base aV 1 t.Gy t.Gz ["_law_told_here","_law_a","_law_b"] (bE (aI8 )):=by
 refine bX T.Ra ua ?_ ?_
 ·intro ds Q h
  obtain⟨m,a,b,rfl,hm,ha,hb,q⟩:=h<;>rfl
 ·intro aH A outer s H E hr
  refine⟨_,(aE (da (zN (ni (bV (bv 0) (ag az) (λ_ _=>rfl)))) (aJ (bc (aC df (ag (aC i8 (bv 1) (bv 2))) (bV (bv 0) (ag az) (λ_ _=>rfl))))) cZ)
   (aE (bb (i:=3) ua.nd rfl (aq rfl) az)
   (aE (zR fF (cO Zr (bv 2) (ag az) (cI _))
    (aE (da (cO (fY (dB hr)) (ag (aC N7 (bv 2) (ag az))) (ag az) (cI _)) (aJ (bb (i:=3) ua.nd rfl (aq rfl) (aC rY (bv 3) (bv 1)))) cZ)
    (aE (bb (i:=1) ua.nd rfl (aq rfl) (aC rU (bv 1) (ag az)))
    (aE (da (cO (fY (dB hr)) (ag (lN (bv 1))) (ag (lN (bV (bv 0) (ag az) (λ_ _=>rfl)))) (cI _)) (aJ (bb (i:=1) ua.nd rfl (aq rfl) (aC rY (bv 1) (bV (bv 0) (ag az) (λ_ _=>rfl))))) cZ)
    (aJ (bb (i:=2) ua.nd rfl (aq rfl) (aC N6 (bv 2) (ag az))))))))
   (aJ (bc (em 3)))))),λds Q h=>?_⟩
  obtain⟨m,a,b,rfl,hm,ha,hb,q⟩:=h
  unfold cu at *
  obtain⟨k,n⟩:=m
  refine aD λU hU=>?_
  walk_at"l3"
  have hF:=dE hm
  cases k with
  | false =>
   refine⟨_,rfl,false,rfl,?_⟩
   have uS:n<=64:=hF.hi
   have l2:2<=n:=hF.lo
   have Ez:a<n:=ha
   have Ah:b<n:=hb
   rw[if_pos (by decide)]
   refine⟨jt.ok (.inr ⟨by omega,by omega⟩),_,rfl,by omega,?_⟩
   have e:((gm (false,n) a b:Nat):Int)=(a:Int)*b%n:=by
    show((a*b%n:Nat):Int)=_
    rw[qG,vo]
   rw[<-e];exact q
  | true =>
   refine⟨_,rfl,true,rfl,?_⟩
   rw[if_neg (by decide)]
   have hp:=Ar hm
   have bp:=Pf n hp
   have Bp:=Pg n hp
   have p0:n≠0:=λz=>by rw[z,kQ]at Bp;omega
   have wu:bl a<bl n:=by
    have:=dJ.mpr (show a<2 ^ (bl n-1) from ha)
    omega
   have hy0:bl b<bl n:=by
    have:=dJ.mpr (show b<2 ^ (bl n-1) from hb)
    omega
   refine hU _ ?_
   clear hU U
   refine aD λU hU=>?_
   walk_at"l3"
   refine hU _ ?_
   clear hU U
   refine aD λU hU=>?_
   walk_at"l3"
   refine⟨λm δ=>∃(x y z:Nat),δ=[some (.tup [.bl true,.int n]),some (.int (x:Nat)),some (.int (y:Nat)),some (.int (z:Nat))]/\z ^^^ md (cl x y) n=gm (true,n) a b/\bl x<bl n/\bl y<bl n/\m=bl y,
    ⟨bl b,a,b,0,rfl,by rw[mO];rfl,wu,hy0,rfl⟩,?_⟩
   rintro m δ ⟨x,y,z,rfl,inv,hx,hy,rfl⟩
   walk_at"l3"
   split
   ·rename_i HN
    have RI:=fR (show y≠0 by omega)
    have Br:bl (y/2)=bl y-1:=XY y
    have e1:((x:Int)*2 ^ (1:Int).toNat)=((2*x:Nat):Int):=by
     show(x:Int)*(2:Int) ^ 1=_
     omega
    have e2:((y:Int)/2 ^ (1:Int).toNat)=((y/2:Nat):Int):=by
     show(y:Int)/(2:Int) ^ 1=_
     omega
    have a1:mG (y:Int) 1=((y%2:Nat):Int):=by
     rw[show(1:Int)=((1:Nat):Int) from rfl,Nq,Nat.and_one_is_mod]
    have tm:=cc3 (y:=y) p0 hx
    have tb:=cg2 p0 hx
    clear hU
    refine aD λU hU=>?_
    walk_at"l3"
    have fin:∀z':Nat,z'=z ^^^ (if y%2=1 then x else 0)->U [some (.tup [.bl true,.int n]),some (.int x),some (.int y),some (.int z')]:=by
     intro z' hz
     have c99:z' ^^^ md (cl (if bl (2*x)=bl n then 2*x ^^^ n else 2*x) (y/2)) n=gm (true,n) a b:=by
      rw[hz,oa,<- tm];exact inv
     refine hU _ ?_
     clear hU
     refine aD λU hU=>?_
     walk_at"l3"
     refine⟨⟨by decide,by simp only[gH];omega⟩,hU _ ?_⟩
     clear hU
     rw[e1]
     refine aD λU hU=>?_
     walk_at"l3"
     have last:∀x':Nat,x'=(if bl (2*x)=bl n then 2*x ^^^ n else 2*x)->U [some (.tup [.bl true,.int n]),some (.int (x':Nat)),some (.int y),some (.int z')]:=by
      intro x' cX
      refine hU _ ?_
      walk_at"l3"
      exact⟨by decide,bl (y/2),by omega,x',y/2,z',⟨rfl,e2,rfl⟩,by rw[cX];exact c99,by rw[cX];exact tb,by omega,rfl⟩
     refine⟨_,rfl,?_⟩
     show(if(((bl (((2*x:Nat):Int)).natAbs:Nat):Int)=((bl ((n:Int)).natAbs:Nat):Int))then _ else _)
     rw[gH,gH]
     split
     ·rename_i hc
      refine⟨_,rfl,?_⟩
      have g:=last (2*x ^^^ n) (by rw[if_pos (by omega)])
      rw[<-kR]at g
      exact g
     ·rename_i hc
      exact last (2*x) (by rw[if_neg (by omega)])
    rw[a1]
    split
    ·rename_i Bo
     have odd:y%2=1:=by omega
     have g:=fin (z ^^^ x) (by rw[if_pos odd])
     rw[<-kR]at g
     exact g
    ·rename_i Bo
     exact fin z (by rw[if_neg (by omega),jP])
   ·rename_i HN
    have hy:y=0:=by omega
    subst hy
    rw[XE,xJ (by rw[kQ];exact fR p0),jP]at inv
    subst inv
    refine hU _ ?_
    walk_at"l3"
    exact q
noncomputable abbrev aN4:bC:=λds Q=>∃(m:Bool × Nat) (xs ys:List Nat),ds=[cu m,.lst false (av xs),.lst false (av ys)]/\m∈aF/\xs.length=ys.length/\xs.length<=64/\(∀x∈xs,x<ae m)/\(∀y∈ys,y<ae m)/\Q (.int (gd m xs ys:Nat))
theorem aN5(T:Txt K mg t):aO P w K mg base aV 2 t.GA t.GB ["_law_told_here","_law_xs","_law_ys"] (bE (aN4 )):=by
 refine bX T.Rb A8 ?_ ?_
 ·intro ds Q h
  obtain⟨m,xs,ys,rfl,hm,hl,h64,hx,hy,q⟩:=h<;>rfl
 ·intro aH A outer s H E hr
  refine⟨_,(aE (bb (i:=3) A8.nd rfl (aq rfl) az)
   (aE (g5 fF rfl (xp rfl T.yr (ai (bv 1) (ai (bv 2) aB))) (lR (i1:=4) (i2:=5) rfl A8.nd rfl (aq rfl) rfl (aq rfl))
    (aJ (bb (i:=3) A8.nd rfl (aq rfl) (bG ((aL5 T).mono (by decide)) hr rfl T.aM6 T.Q9.kp T.aM7 bj (ai (bv 0) (ai (bv 3) (ai (ag (bG ((aI9 T).mono (by decide)) hr rfl T.aK3 T.Ra.kp T.aK4 bj (ai (bv 0) (ai (bv 4) (ai (bv 5) aB))))) aB)))))))
   (aJ (bc (em 3))))),λds Q h=>?_⟩
  obtain⟨m,xs,ys,rfl,hm,hl,h64,hx,hy,q⟩:=h
  refine aD λU hU=>?_
  walk_at"l3"
  refine hU _ ?_
  clear hU U
  refine aD λU hU=>?_
  walk_at"l3"
  refine⟨_,_,rfl,rfl,?_⟩
  refine gZ.mk (λi δ=>∃o1 o2,δ=[some (cu m),some (.lst false (av xs)),some (.lst false (av ys)),some (.int (((fE (gm m) xs ys).take i).foldl (gp m) 0:Nat)),o1,o2]) ⟨none,none,rfl⟩ ?_ ?_
  ·rintro i d δ hd ⟨o1,o2,rfl⟩
   obtain⟨hi,hj,rfl⟩:∃(hi:i<xs.length) (hj:i<ys.length),d=.tup [.int (xs[i]:Nat),.int (ys[i]:Nat)]:=by
    unfold dw at hd
    rw[dN,dN,LW]at hd
    by_cases hi:i<xs.length
    ·have hj:i<ys.length:=by omega
     rw[om,aN hi,aN hj]at hd
     exact⟨hi,hj,(cM hd).symm⟩
    ·rw[iq (by simp;omega)]at hd;cases hd
   have eM:=hx xs[i] (eF _)
   have HN:=hy ys[i] (eF _)
   walk_at"l3"
   have hF:=dE hm
   have t1:(cu m).sh=cu m:=rfl
   have t2:(cu m).pl=true:=rfl
   have m0:0<m.2:=cQ m hm
   refine⟨m,xs[i],ys[i],rfl,hm,eM,HN,m,_,gm m xs[i] ys[i],rfl,m0,by simp[D.pl],_,_,?_,rfl,rfl⟩
   rw[List.take_succ,yU,om,aN hi,aN hj];rfl
  ·rintro δ ⟨o1,o2,rfl⟩
   refine hU _ ?_
   walk_at"l3"
   have e:(dw (av xs) (av ys)).length=xs.length:=by unfold dw;rw[qJ,fL,fL];omega
   rw[e,yN (by rw[qJ];omega)]
   exact q
noncomputable abbrev aH1:bC:=λds Q=>∃(m:Bool × Nat) (xs:List Nat) (T:List (List Nat)) (w:Nat),ds=[cu m,.lst false (av xs),.lst false (aG false T),.int w]/\m∈aF/\AllLt (ae m) xs/\xs.length<=64/\T.length=xs.length/\w<=1000/\RT (ae m) w T/\Q (.lst true (av (jf m xs T w)))
theorem aH2(T:Txt K mg t):aO P w K mg base aV 3 t.GC t.GD ["_law_told_here","_law_xs","_law_table","_law_wide"] (bE (aH1 )):=by
 refine bX T.Rc aG5 ?_ ?_
 ·intro ds Q h
  obtain⟨m,xs,G,wi,rfl,hm,hx,jB,hG,hw,hR,q⟩:=h<;>rfl
 ·intro aH A outer s H E hr
  refine⟨_,(aJ (bc (fA [("_law_told_here",0),("_law_xs",1),("_law_table",2)] ["_law_k"] rfl (i7 rfl T.gk (ai (bv 3) aB)) (λ_ _ _ _=>(dA (i:=3) (show(["_law_told_here","_law_xs","_law_table","_law_k"]:List Str).Nodup by decide +kernel) rfl (bh rfl) (by decide) (aq rfl))) (λ_ _ _ _=>fm) (by exact λ_ _ _ _=>(bG ((aN5 T).mono (by decide)) hr rfl T.aO0 T.Rb.kp T.aO1 bj (ai (bv 0) (ai (bv 1) (ai (ag (fA [("_law_k",3)] ["_law_row"] rfl (nj (bv 2)) (λ_ _ _ _=>(dA (i:=1) (show(["_law_k","_law_row"]:List Str).Nodup by decide +kernel) rfl (aq (lookup_relabel_local rfl)) (by decide) (bh (lookup_relabel_local rfl)))) (λ_ _ _ _=>fm) (λ_ _ _ _=>(eT (bV (bv 1) (bv 0) (λ_ _=>rfl)))) rfl ⟨rfl,trivial⟩ (λ_=>by repeat' (first | exact trivial | refine⟨.inl rfl,?_⟩ | refine⟨.inr (.inl rfl),?_⟩ | refine⟨.inr (.inr ⟨_,rfl⟩),?_⟩)) (λ_=>⟨⟨rfl,.inl rfl,.inl rfl,_,rfl,rfl⟩,trivial⟩) rfl (by decide +kernel))) aB))))) rfl ⟨rfl,⟨rfl,⟨rfl,trivial⟩⟩⟩ (λ_=>by repeat' (first | exact trivial | refine⟨.inl rfl,?_⟩ | refine⟨.inr (.inl rfl),?_⟩ | refine⟨.inr (.inr ⟨_,rfl⟩),?_⟩)) (λ_=>⟨⟨rfl,.inl rfl,.inl rfl,_,rfl,rfl⟩,⟨⟨rfl,.inl rfl,.inl rfl,_,rfl,rfl⟩,⟨⟨rfl,.inl rfl,.inl rfl,_,rfl,rfl⟩,trivial⟩⟩⟩) rfl (by decide +kernel)))),λds Q h=>?_⟩
  obtain⟨m,xs,G,wi,rfl,hm,hx,jB,hG,hw,hR,q⟩:=h
  walk_at"l3"
  refine⟨⟨by omega,by omega⟩,gD (aR wi) (λ(i:Nat)=>D.int (i:Int)) (λk=>D.int ((gd m xs (G.map λr=>r.getD k 0):Nat):Int)) (tE _ rfl) lU (λk hk=>?_) (.inr λ_ _=>rfl) (by rw[cV,sL];omega) ?_⟩
  ·have hk:=dO.mp hk
   walk_at"l3"
   refine gD G (λr=>D.lst false (av r)) (λr=>D.int ((r.getD k 0:Nat):Int)) (by rw[gh];rfl) (λa b h=>xM a b h) (λr bI=>?_) (.inr λr _=>rfl) (by rw[sL];omega) ?_
   ·walk_at"l3"
    have hl:=(hR r bI).1
    exact⟨.int (r.getD k 0:Nat),by rw[p5 (by omega) (by omega),dR],rfl,rfl⟩
   ·refine⟨m,xs,G.map λr=>r.getD k 0,?_,hm,by rw[bO,hG],jB,hx,λy hy=>?_,?_⟩
    ·rw[dN (G.map _),dG,eB,dG];rfl
    ·obtain⟨r,bI,rfl⟩:=bP.mp hy
     exact(hR r bI).2.getD (by have:=(dE hm).lo;omega) k
    ·exact⟨by rw[sH,kJ],rfl⟩
  ·unfold jf at q
   rw[dN,dG]at q
   exact q
theorem HP{m:Bool × Nat}(hm:m∈aF){A:List (List Nat)}{c:Nat->Nat}(hc:∀i,c i<ae m):∀n,n<=A.length->bH m A (λk=>sm (gp m) n λi=>gm m (c i) (cf (A.getD i []) k))
 | 0,_=>.zero
 | n+1,h=>.add (HP hm hc n (by omega)) (.mul (c n) (hc n) (bH.of (cK (by omega) [])))
theorem RL{m:Bool × Nat}(hm:m∈aF){xs:List Nat}{A:List (List Nat)}{w:Nat}(h:xs.length=A.length)(hA:RT (ae m) w A)(k:Nat):cf (jf m xs A w) k=sm (gp m) A.length λi=>gm m (cf xs i) (cf (A.getD i []) k):=by
 by_cases hk:k<w
 ·exact cq0 m h hk
 ·rw[show cf (jf m xs A w) k=0 from jE (by rw[Qg];omega),fv (rg hm) λj hj=>?_]
  rw[show cf (A.getD j []) k=0 from jE (by rw[(hA _ (cK hj [])).1];omega)]
  exact(rg hm).qz _
theorem ca0(n k:Nat):cf (aT n 0) k=0:=by
 by_cases h:k<n
 ·unfold cf
  rw[aQ,u9,if_pos h];rfl
 ·exact jE (by rw[jj];omega)
theorem bJ0(o:Bool)(T:List (List Nat)):(aG o T).reverse=aG o T.reverse:=by unfold aG;rw[List.map_reverse]
structure jM(m:Bool × Nat)(w i:Nat)(A T:List (List Nat)):Prop where
 l:T.length=i
 r:RT (ae m) w T
 s:∀x∈T,bH m A (cf x)
 t:∀j,j<i->j<A.length->∃r∈T,∃c:Nat->Nat,(∀j,c j<ae m)/\c j≠0/\∀k,cf r k=sm (gp m) (j+1) λj=>gm m (c j) (cf (A.getD j []) k)
theorem jM.of{m:Bool × Nat}{w i:Nat}{A T T':List (List Nat)}(h:jM m w i A T)(hl:T'.length=T.length)(h1:∀x,x∈T'↔x∈T):jM m w i A T' :=
 ⟨hl.trans h.l,λx hx=>h.r x ((h1 x).mp hx),λx hx=>h.s x ((h1 x).mp hx),λj a b=>let⟨r,hr,c⟩:=h.t j a b;⟨r,(h1 r).mpr hr,c⟩⟩
theorem jM.next{m:Bool × Nat}(hm:m∈aF){w i:Nat}{A T:List (List Nat)}(hA:RT (ae m) w A)(h:jM m w i A T){xs:List Nat}(hx:xs.length=A.length)(ha:AllLt (ae m) xs)(hi:i<A.length->cf xs i≠0/\∀j,i<j->cf xs j=0):jM m w (i+1) A (T++[jf m xs A w]):=by
 have lo:=lo1 hm
 have ca:∀j,cf xs j<ae m:=λj=>ha.getD (by omega) j
 refine⟨by rw[fB,h.l];rfl,h.r.app λx cX=>?_,λx cX=>?_,λj a b=>?_⟩
 ·rw[e8]at cX
  rw[cX]
  exact⟨Qg _ _ _ _,cj1 hm w hx⟩
 ·rcases cx.mp cX with h1 | h1
  ·exact h.s x h1
  ·rw[e8]at h1
   rw[h1,show cf (jf m xs A w)=_ from funext (RL hm hx hA)]
   exact HP hm ca _ (aZ _)
 ·by_cases e:j=i
  ·subst e
   obtain⟨c1,c2⟩:=hi b
   refine⟨_,dQ _ (e8.mpr rfl),cf xs,ca,c1,λk=>?_⟩
   rw[RL hm hx hA]
   refine PH (rg hm) (by omega) (λ_ _=>dh hm _ _) λz h1 _=>?_
   rw[c2 z (by omega)]
   exact(rg hm).zq _
  ·obtain⟨r,hr,c⟩:=h.t j (by omega) b
   exact⟨r,e7 _ hr,c⟩
theorem jM.red{m:Bool × Nat}(hm:m∈aF){w i:Nat}{A T:List (List Nat)}{H:Nat->Nat}(hA:RT (ae m) w A)(I:RR w A H)(h:jM m w i A T)(h0:0<i)(hi:A.length<=i):bq T=w/\cw m T=A:=by
 have hw:bq T=w:=AL h.r λz=>by
  have:=h.l
  rw[z]at this;simp at this;omega
 refine⟨hw,?_⟩
 subst hw
 refine Ql hm h.r hA I h.s λx hx=>?_
 obtain⟨j,hj,rfl⟩:=fC hx
 have:=bT1 hm hA (T:=T) (λi a=>h.t i (by omega) a) (j+1) j (by omega) hj
 rw[aQ,aN hj]at this
 exact this
noncomputable abbrev aL6:bC:=λds Q=>∃(m:Bool × Nat) (ns:List Int) (A:List (List Nat)) (n w:Nat) (y:Int),ds=[cu m,.fz (nums ns),.lst false (aG false A),.int n,.int w,.int y]/\m∈aF/\A.length<=64/\RT (ae m) w A/\1<=n/\n<=64/\w<=64/\∀T:List (List Nat),jM m w n A T->Q (.lst true (aG false T))
theorem aL7(T:Txt K mg t):aO P w K mg base aV 4 t.GF t.GG ["_law_told_here","_law_script","_law_answer_here","_law_count","_law_wide","_law_turn"] (bE (aL6 )):=by
 refine bX T.Rh qg ?_ ?_
 ·intro ds Q h
  obtain⟨m,ns,A',n,wi,y,rfl,hm,hl,hR,HQ,hn,hw,q⟩:=h<;>rfl
 ·intro aH A outer s H E hr
  refine⟨_,(aE (bb (i:=6) qg.nd rfl (aq rfl) (fk eI))
   (aE (g5 fF rfl (i7 rfl T.gk (ai (bv 3) aB)) (dA (i:=7) qg.nd rfl (aq rfl))
    (aE (bb (i:=8) qg.nd rfl (bh rfl) (aC eC (ag az) (ag (aC i8 (ag (fo (g7) (by rfl) T.ia gR (ai (bv 2) aB))) (ag (aC eC (bv 4) (bv 7)))))))
    (aE (P5 (i:=9) qg.nd rfl (aq rfl) [("_law_script",1),("_law_told_here",0),("_law_begin",8)] ["_law_k"] rfl (i7 rfl T.gk (ai (ag (fo (g7) (by rfl) T.ia gR (ai (bv 2) aB))) aB)) (λ_ _ _ _=>(dA (i:=3) (show(["_law_script","_law_told_here","_law_begin","_law_k"]:List Str).Nodup by decide +kernel) rfl (aq (lookup_relabel_local rfl)) (by decide) (bh (lookup_relabel_local rfl)))) (λ_ _ _ _=>fm) (λ_ _ _ _=>(aC df (ag (bG ((kA T).mono (by decide)) hr rfl T.kq T.jL.kp T.kr bj (ai (bv 0) (ai (ag (aC eC (bv 2) (bv 3))) aB)))) (ag (bG ((Bq T).mono (by decide)) hr rfl T.Bc T.yb.kp T.Bd bj (ai (bv 1) aB))))) rfl ⟨rfl,⟨rfl,⟨rfl,trivial⟩⟩⟩ (λ_=>by repeat' (first | exact trivial | refine⟨.inl rfl,?_⟩ | refine⟨.inr (.inl rfl),?_⟩ | refine⟨.inr (.inr ⟨_,rfl⟩),?_⟩)) (λ_=>⟨⟨rfl,.inl rfl,.inl rfl,_,rfl,rfl⟩,⟨⟨rfl,.inl rfl,.inl rfl,_,rfl,rfl⟩,⟨⟨rfl,.inl rfl,.inl rfl,_,rfl,rfl⟩,trivial⟩⟩⟩) rfl (by decide +kernel))
    (aE (da (cO sg (bv 7) (ag (fo (g7) (by rfl) T.ia gR (ai (bv 2) aB))) (cI _)) (aJ (bb (i:=9) qg.nd rfl (aq rfl) (aC eC (ag (aC eC (ag (xq (bv 9) wD (wF (bv 7)))) (ag (fk (gB (aC eC (ag az) (ag (aC df (bV (bv 9) (bv 7) (λ_ _=>rfl)) (ag (aC iM (ag (bG ((Bq T).mono (by decide)) hr rfl T.Bc T.yb.kp T.Bd bj (ai (bv 0) aB))) (ag az)))))) eI))))) (ag (fA [] ["_law_k"] rfl (i7 rfl T.gk (ai (ag (aC iM (ag (aC iM (ag (fo (g7) (by rfl) T.ia gR (ai (bv 2) aB))) (bv 7))) (ag az))) aB)) (λ_ _ _ _=>(dA (i:=0) (show(["_law_k"]:List Str).Nodup by decide +kernel) rfl (aq (lookup_relabel_local rfl)) (by decide) (bh (lookup_relabel_local rfl)))) (λ_ _ _ _=>fm) (λ_ _ _ _=>az) rfl trivial (λ_=>by repeat' (first | exact trivial | refine⟨.inl rfl,?_⟩ | refine⟨.inr (.inl rfl),?_⟩ | refine⟨.inr (.inr ⟨_,rfl⟩),?_⟩)) (λ_=>trivial) rfl (by decide +kernel)))))) cZ)
    (aJ (nt (i:=6) rfl (by first | exact aq rfl | exact bh (aq rfl)) (bG ((aH2 T).mono (by decide)) hr rfl T.aI1 T.Rc.kp T.aI2 bj (ai (bv 0) (ai (bv 9) (ai (bv 2) (ai (bv 4) aB)))))))))))
   (zP 6 (aE (bb (i:=6) qg.nd rfl (aq rfl) (aC eC (ag (xq (bv 6) (wF (ag (aC df (bv 5) (bv 3)))) wD)) (ag (xq (bv 6) wD (wF (ag (aC df (bv 5) (bv 3))))))))
   (aE (da (cO (fY (dB hr)) (ag (aC df (ag (aC nq (bv 5) (bv 3))) (ag az))) (ag az) (cI _)) (aJ (bL0 (i:=6) rfl (by first | exact aq rfl | exact bh (aq rfl)))) cZ)
   (aJ (bc (em 6)))))))),λds Q h=>?_⟩
  obtain⟨m,ns,A',n,wi,y,rfl,hm,hl,hR,HQ,hn,hw,q⟩:=h
  have jw:=(dE hm).lo
  have RK:=EZ m hm
  have uQ:∀z:Int,z%(ae m:Int)=(((z%(ae m:Int)).toNat:Nat):Int):=λz=>by
   have n0:=iX z (show(ae m:Int)≠0 by omega)
   omega
  have uR:∀z:Int,(z%(ae m:Int)).toNat<ae m:=λz=>by
   have n1:=iY z (show(0:Int)<(ae m:Int) by omega)
   omega
  refine aD λU hU=>?_
  walk_at"l3"
  refine⟨by decide,hU _ ?_⟩
  clear hU U
  refine aD λU hU=>?_
  walk_at"l3"
  refine⟨⟨by omega,by omega⟩,xi (λi δ=>∃(G:List (List Nat)) (o1 o2 o3:Option D),δ=[some (cu m),some (.fz (nums ns)),some (.lst false (aG false A')),some (.int n),some (.int wi),some (.int y),some (.lst true (aG true G)),o1,o2,o3]/\jM m wi i A' G) ⟨[],_,_,_,rfl,rfl,(λ_ h=>nomatch h),(λ_ h=>nomatch h),(λ_ h=>absurd h (by omega))⟩ ?_ ?_⟩
  ·rintro i δ hi ⟨G,o1,o2,o3,rfl,M⟩
   simp only[gN,iu,ir]
   clear hU
   have iw:A'.length*(wi+i)<=64*128:=Nat.mul_le_mul hl (by omega)
   have eiw:(A'.length:Int)*((wi:Int)+(i:Int))=((A'.length*(wi+i):Nat):Int):=by rw[vo,CF]
   refine aD λU hU=>?_
   walk_at"l3"
   refine⟨jt.ok (.inl ⟨by omega,by omega⟩),hU _ ?_⟩
   clear hU
   refine aD λU hU=>?_
   walk_at"l3"
   refine⟨⟨by omega,by omega⟩,gD (aR A'.length) (λ(i:Nat)=>D.int (i:Int)) (λk=>D.int (((eO ns (9+(A'.length:Int)*((wi:Int)+(i:Int))+(k:Int))%(ae m:Int)).toNat:Nat):Int)) (tE _ rfl) lU (λk hk=>?_) (.inr λ_ _=>rfl) (by rw[cV,sL];omega) ?_⟩
   ·have hk:=dO.mp hk
    walk_at"l3"
    refine⟨ns,_,rfl,by omega,by omega,m,rfl,by omega,by omega,?_⟩
    dsimp only
    exact⟨by omega,uQ _⟩
   obtain⟨xs,er,uT,jB⟩:∃wd:List Nat,((aR A'.length).map λ(k:Nat)=>D.int (((eO ns (9+(A'.length:Int)*((wi:Int)+(i:Int))+(k:Int))%(ae m:Int)).toNat:Nat):Int))=av wd/\AllLt (ae m) wd/\wd.length=A'.length:=by
    refine⟨(aR A'.length).map λ(k:Nat)=>(eO ns (9+(A'.length:Int)*((wi:Int)+(i:Int))+(k:Int))%(ae m:Int)).toNat,by rw[dN,dG];rfl,λa ha=>?_,by simp⟩
    obtain⟨k,_,rfl⟩:=bP.mp ha
    exact uR _
   rw[er]
   clear er
   refine hU _ ?_
   clear hU
   generalize 9+(A'.length:Int)*((wi:Int)+(i:Int))=bg
   refine aD λU hU=>?_
   walk_at"l3"
   have fin:∀xs:List Nat,AllLt (ae m) xs->xs.length=A'.length->(i<A'.length->cf xs i≠0/\∀j,i<j->cf xs j=0)->U [some (cu m),some (D.fz (nums ns)),some (D.lst false (aG false A')),some (D.int ↑n),some (D.int ↑wi),some (D.int y),some (D.lst true (aG true G)),some (D.int ↑i),some (D.int bg),some (D.lst true (av xs))]:=by
    clear uT jB xs
    intro xs uT jB hxi
    refine hU _ ?_
    walk_at"l3"
    have ml:=M.l
    exact⟨⟨_,rfl⟩,m,xs,A',wi,rfl,hm,uT,by omega,jB.symm,by omega,hR,xK _,by omega,G++[jf m xs A' wi],_,_,_,⟨p9 true G [_],rfl,rfl,rfl⟩,M.next hm hR jB uT hxi⟩
   split
   ·rename_i hiA
    have d12:i<A'.length:=by omega
    refine⟨.int (xs.getD i 0:Nat),by rw[p5 (by omega) (by omega),dR],m,rfl,by omega,by omega,?_⟩
    dsimp only
    rw[EG]
    obtain⟨v,ev,hv1,Ep⟩:∃v:Nat,1+(xs.getD i 0:Nat)%((ae m:Int)-1)=v/\v≠0/\v<ae m:=by
     have n0:=iX ((xs.getD i 0:Nat):Int) (show((ae m:Int)-1)≠0 by omega)
     have n1:=iY ((xs.getD i 0:Nat):Int) (show(0:Int)<((ae m:Int)-1) by omega)
     exact⟨(1+((xs.getD i 0:Nat):Int)%((ae m:Int)-1)).toNat,by omega,by omega,by omega⟩
    rw[ev]
    have lt:(xs.take i).length=i:=by rw[kD];omega
    refine⟨by omega,by decide,by omega,⟨by omega,by omega⟩,Py (n:=A'.length-i-1) (by omega) (by omega) ?_⟩
    have e1:av (xs.take i)++[D.int (v:Int)]=av (xs.take i++[v]):=nE _ [v]
    rw[e1]
    dsimp only
    rw[nE]
    refine⟨⟨by rw[fL,fL,fB,lt,jj];simp;omega,nD _,nD _⟩,fin _ (λx hx=>?_) ?_ λ_=>⟨?_,λj hj=>?_⟩⟩
    ·rcases cx.mp hx with h | h
     ·rcases cx.mp h with h | h
      ·exact uT x (yO h)
      ·rw[e8]at h
       rw[h];exact Ep
     ·rw[List.eq_of_mem_replicate h];omega
    ·rw[fB,fB,lt,jj];simp;omega
    ·rw[AN,if_pos (by rw[fB,lt];simp),AN,if_neg (by omega),lt,yQ]
     exact hv1
    ·rw[AN,if_neg (by rw[fB,lt];simp;omega)]
     exact ca0 _ _
   ·rename_i hiA
    exact fin xs uT jB λh=>absurd h (by omega)
  ·rintro δ ⟨G,o1,o2,o3,rfl,M⟩
   refine hU _ ?_
   clear hU U
   simp only[lj,iu,ir,ou,oq,mS,exists_eq_left',eB,gh]
   refine aD λU hU=>?_
   walk_at"l3"
   obtain⟨a,ea,ha⟩:∃k:Nat,y%(n:Int)=k/\k<n:=by
    have n0:=iX y (show(n:Int)≠0 by omega)
    have n1:=iY y (show(0:Int)<(n:Int) by omega)
    exact⟨(y%(n:Int)).toNat,by omega,by omega⟩
   have ml:=M.l
   rw[ea,OC,EG,p9]
   have M2:jM m wi n A' (G.drop a++G.take a):=M.of (by rw[fB,mJ,kD];omega) λx=>by
    rw[cx,Or.comm,<- cx,UJ]
   refine⟨by omega,by omega,by rw[mJ,kD];omega,hU _ ?_⟩
   clear hU U
   generalize G.drop a++G.take a=G2 at M2 ⊢
   refine aD λU hU=>?_
   walk_at"l3"
   refine⟨nk (by omega) (by omega),by decide,?_⟩
   split
   ·refine hU _ ?_
    walk_at"l3"
    rw[bJ0]
    exact q _ (M2.of Uj λx=>List.mem_reverse)
   ·refine hU _ ?_
    walk_at"l3"
    exact q _ M2
noncomputable abbrev aL8:bC:=λds Q=>∃(m:Bool × Nat) (a b:Nat),ds=[cu m,.int a,.int b]/\0<m.2/\Q (.int (gl m a b))
theorem aL9(T:Txt K mg t):aO P w K mg base aV 1 t.GH t.GI ["_law_told_here","_law_a","_law_b"] (bE (aL8 )):=by
 refine bX T.Ri aJ7 ?_ ?_
 ·intro ds Q h
  obtain⟨m,a,b,rfl,h0,q⟩:=h<;>rfl
 ·intro aH A outer s H E hr
  refine⟨_,(aE (da (ni (bV (bv 0) (ag az) (λ_ _=>rfl))) (aJ (bc (aC rY (bv 1) (bv 2)))) cZ)
   (aJ (bc (aC df (ag (aC iM (bv 1) (bv 2))) (bV (bv 0) (ag az) (λ_ _=>rfl)))))),λds Q h=>?_⟩
  obtain⟨m,a,b,rfl,h0,q⟩:=h
  unfold cu at *
  obtain⟨k,n⟩:=m
  refine aD λU hU=>?_
  walk_at"l3"
  cases k with
  | true =>
   refine⟨_,rfl,true,rfl,?_⟩
   rw[if_pos rfl,kR]
   exact q
  | false =>
   refine⟨_,rfl,false,rfl,?_⟩
   rw[if_neg (by decide)]
   refine hU _ ?_
   walk_at"l3"
   refine⟨_,rfl,?_⟩
   exact⟨by omega,q⟩
theorem cf0{w f:Nat}(h:f<w):xZ w f=(aT w 0).set f 1:=by
 refine Qe (Qm w f) (by rw[mM,jj]) λk hk=>?_
 rw[co1 h,cn1 (by rw[jj];exact h)]
 unfold cf
 rw[aQ,u9,if_pos hk];rfl
theorem cb0{o:Bool}{G:List (List Nat)}{f:List Nat->Nat}{k:Nat}{d:D}(h:(dw (aG o G) (av (G.map f)))[k]?=some d):∃hk:k<G.length,d=.tup [.lst o (av G[k]),.int ((f G[k]:Nat):Int)]:=by
 unfold dw aG at h
 rw[dN,om,cy,cy,cy]at h
 by_cases hk:k<G.length
 ·rw[aN hk]at h
  exact⟨hk,(cM h).symm⟩
 ·rw[iq (by omega)]at h;cases h
noncomputable def qm(T:List (List Nat))(k:Nat):List Nat:=(aR k).filter λj=>!(T.map bD).contains j
noncomputable abbrev aN6:bC:=λds Q=>∃(m:Bool × Nat) (A:List (List Nat)) (w:Nat),ds=[cu m,.lst false (aG false A),.lst false (av (A.map bD)),.int w]/\m∈aF/\A.length<=64/\RT (ae m) w A/\(∀r∈A,∃x∈r,x≠0)/\w<=64/\Q (.lst true (aG true (fO m A w)))
theorem aN7(T:Txt K mg t):aO P w K mg base aV 2 t.GJ t.GK ["_law_told_here","_law_answer_here","_law_heads","_law_wide"] (bE (aN6 )):=by
 refine bX T.Rj x9 ?_ ?_
 ·intro ds Q h
  obtain⟨m,A',wi,rfl,hm,hl,hR,hz,hw,q⟩:=h<;>rfl
 ·intro aH A outer s H E hr
  refine⟨_,(aE (bb (i:=4) x9.nd rfl (aq rfl) (fk eI))
   (aE (g5 fF rfl (i7 rfl T.gk (ai (bv 3) aB)) (dA (i:=5) x9.nd rfl (bh rfl))
    (aJ (da (cO PQ (bv 5) (bv 2) (by with_unfolding_all rfl)) (aE (P5 (i:=6) x9.nd rfl (aq rfl) [("_law_free",5)] ["_law_k"] rfl (i7 rfl T.gk (ai (bv 3) aB)) (λ_ _ _ _=>(dA (i:=1) (show(["_law_free","_law_k"]:List Str).Nodup by decide +kernel) rfl (aq (lookup_relabel_local rfl)) (by decide) (bh (lookup_relabel_local rfl)))) (λ_ _ _ _=>fm) (λ_ _ _ _=>(Ej Pz (by rfl) T.HF DO (ai (ag (wj (fY (dB hr)) (bv 1) (bv 0) (cI _))) aB))) rfl ⟨rfl,trivial⟩ (λ_=>by repeat' (first | exact trivial | refine⟨.inl rfl,?_⟩ | refine⟨.inr (.inl rfl),?_⟩ | refine⟨.inr (.inr ⟨_,rfl⟩),?_⟩)) (λ_=>⟨⟨rfl,.inl rfl,.inl rfl,_,rfl,rfl⟩,trivial⟩) rfl (by decide +kernel))
     (aE (g5 fF rfl (xp rfl T.yr (ai (bv 1) (ai (bv 2) aB))) (lR (i1:=7) (i2:=8) rfl x9.nd rfl (aq rfl) rfl (aq rfl))
      (aJ (zY (i:=6) rfl (by first | exact aq rfl | exact bh (aq rfl)) (bG ((aL9 T).mono (by decide)) hr rfl T.aN0 T.Ri.kp T.aN1 bj (ai (bv 0) (ai (ag az) (ai (bV (bv 7) (bv 5) (λ_ _=>rfl)) aB)))) (bv 8))))
     (aJ (nt (i:=4) rfl (by first | exact aq rfl | exact bh (aq rfl)) (em 6))))) cZ)))
   (aJ (bc (em 4))))),λds Q h=>?_⟩
  obtain⟨m,A',wi,rfl,hm,hl,hR,hz,hw,q⟩:=h
  have m0:=cQ m hm
  have jw:=(dE hm).lo
  refine aD λU hU=>?_
  walk_at"l3"
  refine⟨by decide,hU _ ?_⟩
  clear hU U
  refine aD λU hU=>?_
  walk_at"l3"
  refine⟨⟨by omega,by omega⟩,xi (λk δ=>∃(o1 o2 o3 o4:Option D),δ=[some (cu m),some (.lst false (aG false A')),some (.lst false (av (A'.map bD))),some (.int wi),some (.lst true (aG true ((qm A' k).map (cF m A' wi)))),o1,o2,o3,o4]) ⟨_,_,_,_,rfl⟩ ?_ ?_⟩
  ·rintro f δ hf ⟨o1,o2,o3,o4,rfl⟩
   simp only[gN,iu,ir]
   clear hU
   have lfp:(qm A' f).length<=f:=by
    have:=CW (λj=>!(A'.map bD).contains j) (aR f)
    rw[cV]at this
    exact this
   have HR:qm A' (f+1)=if(A'.map bD).contains f=true then qm A' f else qm A' f++[f]:=by
    unfold qm
    rw[L5,Uu]
    cases h:(A'.map bD).contains f with
    | true=>rw[List.filter_cons_of_neg (by rw[h];simp)];simp
    | false=>rw[List.filter_cons_of_pos (by rw[h];rfl)];simp
   walk_at"l3"
   refine⟨_,rfl,?_⟩
   rw[PY]
   cases hc:(A'.map bD).contains f with
   | true =>
    rw[if_neg (by simp),HR,hc,if_pos rfl]
    exact⟨_,_,_,_,rfl,rfl,rfl,rfl,rfl⟩
   | false =>
    rw[if_pos (by simp),HR,hc,if_neg (by simp)]
    clear HR
    refine aD λU hU=>?_
    walk_at"l3"
    refine⟨⟨by omega,by omega⟩,gD (aR wi) (λ(i:Nat)=>D.int (i:Int)) (λk=>D.int (((if k=f then 1 else 0:Nat)):Int)) (tE _ rfl) lU (λk hk=>?_) (.inr λ_ _=>rfl) (by rw[cV,sL];omega) ?_⟩
    ·have hk:=dO.mp hk
     walk_at"l3"
     by_cases e:k=f
     ·rw[if_pos e,if_pos (by omega)];rfl
     ·rw[if_neg e,if_neg (by omega)];rfl
    rw[show((aR wi).map λ(k:Nat)=>D.int (((if k=f then 1 else 0:Nat)):Int))=av ((aT wi 0).set f 1) by rw[<-cf0 hf];unfold xZ;rw[dN,dG];rfl]
    refine hU _ ?_
    clear hU
    refine aD λU hU=>?_
    walk_at"l3"
    refine⟨_,_,rfl,rfl,?_⟩
    refine gZ.mk (λk δ=>∃o3 o4,δ=[some (cu m),some (.lst false (aG false A')),some (.lst false (av (A'.map bD))),some (.int wi),some (.lst true (aG true ((qm A' f).map (cF m A' wi)))),some (.int f),some (D.lst true (av ((((A'.map bD).zip A').take k).foldl (λx z=>x.set z.1 (cE m 0 (z.2.getD f 0))) ((aT wi 0).set f 1)))),o3,o4]) ⟨_,_,rfl⟩ ?_ ?_
    ·rintro k d δ hd ⟨o3,o4,rfl⟩
     obtain⟨hk,rfl⟩:=cb0 hd
     clear hd hU
     obtain⟨lw,la⟩:=hR _ (eF hk)
     have xl:=Fb (λz:Nat × List Nat=>z.1) (λz=>cE m 0 (z.2.getD f 0)) (((A'.map bD).zip A').take k) ((aT wi 0).set f 1)
     rw[mM,jj]at xl
     have hld:bD A'[k]<wi:=by
      rw[<-lw]
      obtain⟨x,hx,h0⟩:=hz _ (eF hk)
      exact L4 ⟨x,hx,by simpa using h0⟩
     have ga:=nN hm (a:=0) (b:=A'[k].getD f 0) (by omega) (la.getD (by omega) f)
     walk_at"l3"
     refine⟨.int (A'[k].getD f 0:Nat),by rw[p5 (by omega) (by omega),dR],m,0,A'[k].getD f 0,rfl,m0,rfl,_,bD A'[k],rfl,?_,_,_,?_,rfl,rfl⟩
     ·rw[E2 (by omega) (by rw[fL,xl];omega)];rfl
     ·rw[ga.1,E3,yM,yU]
      have ez:((A'.map bD).zip A')[k]?=some (bD A'[k],A'[k]):=by
       rw[CH,om,cy,aN hk];rfl
      rw[ez];rfl
    ·rintro δ ⟨o3,o4,rfl⟩
     refine hU _ ?_
     walk_at"l3"
     refine⟨⟨_,rfl⟩,by rw[bO];omega,_,_,_,_,?_,rfl,rfl,rfl,rfl⟩
     rw[show((A'.map bD).zip A').take (dw (aG false A') (av (A'.map bD))).length=(A'.map bD).zip A' from yN (by unfold dw;rw[CI,qJ,fL,km,Nat.min_comm];exact aZ _),jQ]
     exact p9 true _ [cF m A' wi f]
  ·rintro δ ⟨o1,o2,o3,o4,rfl⟩
   refine hU _ ?_
   walk_at"l3"
   exact q
noncomputable abbrev aM0:bC:=λds Q=>∃T:List (List Nat),ds=[.lst false (aG false T)]/\T.length<=1000/\Q (.lst true (aG true T))
theorem RM(T:Txt K mg t):aO P w K mg base aV 1 t.GL t.at2 ["_law_table"] (bE (aM0 )):=by
 refine bX T.Hx aJ8 ?_ ?_
 ·intro ds Q h
  obtain⟨G,rfl,hG,q⟩:=h<;>rfl
 ·intro aH A outer s H E hr
  refine⟨_,(aJ (bc (fA [] ["_law_row"] rfl (nj (bv 0)) (λ_ _ _ _=>(dA (i:=0) (show(["_law_row"]:List Str).Nodup by decide +kernel) rfl (aq (lookup_relabel_local rfl)) (by decide) (bh (lookup_relabel_local rfl)))) (λ_ _ _ _=>fm) (λ_ _ _ _=>(Ej (ZD) (by rfl) T.HG DP (ai (bv 0) aB))) rfl trivial (λ_=>by repeat' (first | exact trivial | refine⟨.inl rfl,?_⟩ | refine⟨.inr (.inl rfl),?_⟩ | refine⟨.inr (.inr ⟨_,rfl⟩),?_⟩)) (λ_=>trivial) rfl (by decide +kernel)))),λds Q h=>?_⟩
  obtain⟨G,rfl,hG,q⟩:=h
  walk_at"l3"
  refine gD G (λr=>D.lst false (av r)) (λr=>D.lst true (av r)) (by rw[gh];rfl) (λa b h=>xM a b h) (λr bI=>?_) (.inr λr _=>xK r) (by rw[sL];omega) q
  walk_at"l3"
noncomputable abbrev bV5:bC:=λds Q=>∃T:List (List Nat),ds=[.lst false (aG false T)]/\T.length<=1000/\(∀r∈T,r.length<=1000/\∃x∈r,x≠0)/\Q (.lst true (av (T.map bD)))
theorem RN(T:Txt K mg t):aO P w K mg base aV 1 t.GN t.GO ["rows"] (bE (bV5 )):=by
 refine bX T.Hy bS3 ?_ ?_
 ·intro ds Q h
  obtain⟨G,rfl,hG,hr,q⟩:=h<;>rfl
 ·intro aH A outer s H E hr
  refine⟨_,(aJ (bc (fA [] ["row"] rfl (nj (bv 0)) (λ_ _ _ _=>(dA (i:=0) (show(["row"]:List Str).Nodup by decide +kernel) rfl (aq (lookup_relabel_local rfl)) (by decide) (bh (lookup_relabel_local rfl)))) (λ_ _ _ _=>fm) (λ_ _ _ _=>(eT (bV (ag (fA [] ["place","x"] rfl (z6 rfl T.Bi (ai (bv 0) aB)) (λ_ _ _ _=>(lR (i1:=0) (i2:=1) rfl (show(["place","x"]:List Str).Nodup by decide +kernel) rfl (aq (lookup_relabel_local rfl)) rfl (aq (lookup_relabel_local rfl)) (by decide) (by decide) (bh (lookup_relabel_local rfl)) (bh (lookup_relabel_local rfl)))) (λ_ _ _ _=>(N5 (cO (lH (dB hr)) (bv 1) (ag az) (cI _)))) (λ_ _ _ _=>(eT (bv 0))) rfl trivial (λ_=>by repeat' (first | exact trivial | refine⟨.inl rfl,?_⟩ | refine⟨.inr (.inl rfl),?_⟩ | refine⟨.inr (.inr ⟨_,rfl⟩),?_⟩)) (λ_=>trivial) rfl (by decide +kernel))) (ag az) (λ_ _=>rfl)))) rfl trivial (λ_=>by repeat' (first | exact trivial | refine⟨.inl rfl,?_⟩ | refine⟨.inr (.inl rfl),?_⟩ | refine⟨.inr (.inr ⟨_,rfl⟩),?_⟩)) (λ_=>trivial) rfl (by decide +kernel)))),λds Q h=>?_⟩
  obtain⟨G,rfl,hG,hr,q⟩:=h
  walk_at"l3"
  refine gD G (λr=>D.lst false (av r)) (λr=>D.int (bD r:Nat)) (by rw[gh];rfl) (λa b h=>xM a b h) (λr bI=>?_) (.inr λr _=>rfl) (by rw[sL];omega) ?_
  ·obtain⟨h1,x,hx,h3⟩:=hr r bI
   walk_at"l3"
   refine PU (aR r.length) (λ(i:Nat)=>D.tup [.int (i:Int),.int ((r.getD i 0:Nat):Int)]) (λ(i:Nat)=>D.int (i:Int)) (λi=>r.getD i 0 != 0) (bS1 r) (λa b h=>by injection h with h;simp at h;omega) (λi hi=>?_) (.inr λ_ _ _=>rfl) (by rw[cV,sL];omega) ?_
   ·walk_at"l3"
    refine⟨?_,λ_=>trivial⟩
    by_cases h0:r.getD i 0=0
    ·rw[h0];rfl
    ·rw[decide_eq_false (by omega),bne_iff_ne.mpr h0];rfl
   ·refine⟨.int (bD r:Nat),L3.Dy (k:=0) ?_,rfl,rfl⟩
    rw[cy,bO9 ⟨x,hx,h3⟩];rfl
  ·rw[dN,dG]at q
   exact q
noncomputable abbrev aH3:bC:=λds Q=>∃(T:List (List Nat)) (w:Nat),ds=[.lst false (aG false T),.int w]/\T.length<=1000/\w<=1000/\(∀r∈T,r.length<=1000/\∃x∈r,x≠0)/\Q (.lst true (av (bS T w)))
theorem aH4(T:Txt K mg t):aO P w K mg base aV 2 t.GP t.GQ ["rows","width"] (bE (aH3 )):=by
 refine bX T.Ro QM ?_ ?_
 ·intro ds Q h
  obtain⟨G,w,rfl,hG,hw,hr,q⟩:=h<;>rfl
 ·intro aH A outer s H E hr
  refine⟨_,(aE (bb (i:=2) QM.nd rfl (bh rfl) (bG ((RN T).mono (by decide)) hr rfl T.Rm T.Hy.kp T.Rn bj (ai (bv 0) aB)))
   (aJ (bc (fA [("taken",2)] ["place"] rfl (i7 rfl T.gk (ai (bv 1) aB)) (λ_ _ _ _=>(dA (i:=1) (show(["taken","place"]:List Str).Nodup by decide +kernel) rfl (aq (lookup_relabel_local rfl)) (by decide) (bh (lookup_relabel_local rfl)))) (λ_ _ _ _=>(N5 (cO PQ (bv 1) (bv 0) (by with_unfolding_all rfl)))) (λ_ _ _ _=>(eT (bv 1))) rfl ⟨rfl,trivial⟩ (λ_=>by repeat' (first | exact trivial | refine⟨.inl rfl,?_⟩ | refine⟨.inr (.inl rfl),?_⟩ | refine⟨.inr (.inr ⟨_,rfl⟩),?_⟩)) (λ_=>⟨⟨rfl,.inl rfl,.inl rfl,_,rfl,rfl⟩,trivial⟩) rfl (by decide +kernel))))),λds Q h=>?_⟩
  obtain⟨G,w,rfl,hG,hw,hr,q⟩:=h
  refine aD λU hU=>?_
  walk_at"l3"
  refine⟨G,rfl,hG,hr,?_⟩
  refine hU _ ?_
  clear hU U
  walk_at"l3"
  refine⟨⟨by omega,by omega⟩,PU (aR w) (λ(i:Nat)=>D.int (i:Int)) (λ(i:Nat)=>D.int (i:Int)) (λj=>!(G.map bD).contains j) (tE _ rfl) lU (λj hj=>?_) (.inr λ_ _ _=>rfl) (by rw[cV,sL];omega) ?_⟩
  ·walk_at"l3"
   exact⟨_,rfl,by rw[PY],λ_=>trivial⟩
  ·rw[dN]at q
   exact q
noncomputable abbrev RO:bC:=λds Q=>∃(d:D) (a b:Nat),ds=[d,.int a,.int b]/\Q (.int (a ^^^ b:Nat))
theorem aC9(T:Txt K mg t):aO P w K mg base aV 1 t.GR t.GS ["self","a","b"] (bE (RO )):=by
 refine bX T.aE0 aC2 ?_ ?_
 ·intro ds Q h
  obtain⟨d,a,b,rfl,q⟩:=h<;>rfl
 ·intro aH A outer s H E hr
  refine⟨_,(aJ (bc (aC rY (bv 1) (bv 2)))),λds Q h=>?_⟩
  obtain⟨d,a,b,rfl,q⟩:=h
  walk_at"l3"
  rw[kR];exact q
noncomputable abbrev RP(K:Frag):bC:=λds Q=>∃(C:Addr) (p:Nat) (a b:Int),ds=[xI C p,.int a,.int b]/\et K C/\cB K C "prime"/\0<p/\Q (.int ((a-b)%p))
theorem az5(T:Txt K mg t):aO P w K mg base aV 1 t.GU t.GV ["self","a","b"] (bE (RP K)):=by
 refine bX T.aA3 az0 ?_ ?_
 ·intro ds Q h
  obtain⟨C,p,a,b,rfl,hC,hn,hp,q⟩:=h<;>rfl
 ·intro aH A outer s H E hr
  refine⟨_,(aJ (bc (aC df (ag (aC iM (bv 1) (bv 2))) (lZ (K:=K) (bv 0))))),λds Q h=>?_⟩
  obtain⟨C,p,a,b,rfl,hC,hn,hp,q⟩:=h
  walk_at"l3"
  refine⟨C,_,_,.int p,rfl,hC,hn,rfl,?_⟩
  exact⟨by omega,q⟩
theorem ca1(T:Txt K mg t){m:Bool × Nat}(h0:0<m.2):∃C ns xs sp,fD t.aS t.aU m=.obj C ns xs/\sZ P w K mg base 1 "minus" C sp/\("minus":Str) ∉ ns/\∀(a b:Nat) (Q:D->Prop),Q (.int (gl m a b))->sp [.obj C ns xs,.int a,.int b] Q:=by
 obtain⟨k,n⟩:=m
 cases k with
 | true=>exact⟨_,_,_,RO,rfl,⟨T.gF,_,_,_,T.yh,aC9 T,T.aE1⟩,by decide,λa b Q q=>⟨_,a,b,rfl,q⟩⟩
 | false=>exact⟨_,_,_,RP K,rfl,⟨T.iV,_,_,_,T.yo,az5 T,T.aA4⟩,by decide,λa b Q q=>⟨_,n,a,b,rfl,T.iV,T.nV,h0,q⟩⟩
noncomputable abbrev ax8(cb cp:Addr):bC:=λds Q=>∃(m:Bool × Nat) (T:List (List Nat)) (w:Nat),ds=[fD cb cp m,.lst false (aG false T),.int w]/\m∈aF/\T.length<=1000/\w<=1000/\RT (ae m) w T/\(∀r∈T,∃x∈r,x≠0)/\Q (.lst true (aG true (fO m T w)))
theorem ax9(T:Txt K mg t):aO P w K mg base aV 3 t.GW t.GX ["field","rows","width"] (bE (ax8 t.aS t.aU)):=by
 refine bX T.Rp uq ?_ ?_
 ·intro ds Q h
  obtain⟨m,G,wi,rfl,hm,hG,hw,hR,hr,q⟩:=h<;>rfl
 ·intro aH A outer s H E hr
  refine⟨_,(aE (bb (i:=3) uq.nd rfl (aq rfl) (bG ((RN T).mono (by decide)) hr rfl T.Rm T.Hy.kp T.Rn bj (ai (bv 1) aB)))
   (aE (bb (i:=4) uq.nd rfl (aq rfl) (fk eI))
   (zP 3 (aE (g5 fF rfl (Zd (bG ((aH4 T).mono (by decide)) hr rfl T.cY7 T.Ro.kp T.cY8 bj (ai (bv 1) (ai (bv 2) aB)))) (dA (i:=5) uq.nd rfl (aq rfl))
    (aE (bb (i:=6) uq.nd rfl (aq rfl) (aC i8 (ag (fk (gB az eI))) (bv 2)))
    (aE (zY (i:=6) rfl (by first | exact aq rfl | exact bh (aq rfl)) az (bv 5))
    (aE (g5 fF rfl (xp rfl T.yr (ai (bv 3) (ai (bv 1) aB))) (lR (i1:=7) (i2:=8) rfl uq.nd rfl (aq rfl) rfl (aq rfl))
     (aJ (zY (i:=6) rfl (by first | exact aq rfl | exact bh (aq rfl)) (Au (P:=P) (w:=w) (K:=K) (mg:=mg) (base:=base) (n:=1) (bv 0) (hr.mono (by decide)) (ai (ag az) (ai (bV (bv 8) (bv 5) (λ_ _=>rfl)) aB))) (bv 7))))
    (aJ (nt (i:=4) rfl (by first | exact aq rfl | exact bh (aq rfl)) (em 6)))))))
   (aJ (bc (em 4))))))),λds Q h=>?_⟩
  obtain⟨m,G,wi,rfl,hm,hG,hw,hR,hr,q⟩:=h
  have m0:=cQ m hm
  have jw:=(dE hm).lo
  refine aD λU hU=>?_
  walk_at"l3"
  refine⟨G,rfl,hG,λr bI=>⟨by rw[(hR r bI).1];exact hw,hr r bI⟩,hU _ ?_⟩
  clear hU U
  refine aD λU hU=>?_
  walk_at"l3"
  refine⟨by decide,hU _ ?_⟩
  clear hU U
  refine⟨_,rfl,?_⟩
  rw[E4]
  simp only[iu,ir]
  refine aD λU hU=>?_
  walk_at"l3"
  refine⟨G,wi,rfl,hG,hw,λr bI=>⟨by rw[(hR r bI).1];exact hw,hr r bI⟩,?_⟩
  refine⟨_,rfl,?_⟩
  have FA:∀j∈bS G wi,j<wi:=λj hj=>dO.mp (u5.mp hj).1
  have lfp:(bS G wi).length<=wi:=by
   have:=CW (λj=>!(G.map bD).contains j) (aR wi)
   rw[cV]at this
   exact this
  rw[pU]
  refine gZ.mk (λi δ=>∃o1 o2 o3 o4,δ=[some (fD t.aS t.aU m),some (D.lst false (aG false G)),some (D.int wi),some (D.lst false (av (G.map bD))),some (D.lst true (aG true (((bS G wi).take i).map (cF m G wi)))),o1,o2,o3,o4]) ⟨_,_,_,_,rfl⟩ ?_ ?_
  ·rintro i d δ hd ⟨o1,o2,o3,o4,rfl⟩
   rw[dN,cy]at hd
   obtain⟨f,hf,rfl⟩:=Cw.mp hd
   have hfw:=FA f (n6 hf)
   clear hd
   refine aD λU hU=>?_
   walk_at"l3"
   have er:nums (aT wi 0)=av (aT wi 0):=by
    rw[dN,L0];unfold nums;rw[L0];rfl
   rw[dR,er]
   refine⟨by decide,⟨by omega,by omega,by omega⟩,hU _ ?_⟩
   clear hU
   refine aD λU hU=>?_
   walk_at"l3"
   refine⟨_,f,rfl,?_,?_⟩
   ·rw[E2 (by omega) (by rw[fL,jj];omega)];rfl
   rw[show(av (aT wi 0)).set f (D.int 1)=av ((aT wi 0).set f 1) from E3 _ _ 1]
   refine hU _ ?_
   clear hU
   refine aD λU hU=>?_
   walk_at"l3"
   refine⟨_,_,rfl,rfl,?_⟩
   refine gZ.mk (λk δ=>∃o3 o4,δ=[some (fD t.aS t.aU m),some (D.lst false (aG false G)),some (D.int wi),some (D.lst false (av (G.map bD))),some (D.lst true (aG true (((bS G wi).take i).map (cF m G wi)))),some (D.int f),some (D.lst true (av ((((G.map bD).zip G).take k).foldl (λx z=>x.set z.1 (cE m 0 (z.2.getD f 0))) ((aT wi 0).set f 1)))),o3,o4]) ⟨_,_,rfl⟩ ?_ ?_
   ·rintro k d δ hd ⟨o3,o4,rfl⟩
    obtain⟨hk,rfl⟩:=b90 hd
    clear hd
    obtain⟨lw,la⟩:=hR _ (eF hk)
    have xl:=Fb (λz:Nat × List Nat=>z.1) (λz=>cE m 0 (z.2.getD f 0)) (((G.map bD).zip G).take k) ((aT wi 0).set f 1)
    rw[mM,jj]at xl
    obtain⟨C,ns,xs,sp,e1,e2,e3,e4⟩:=ca1 (P:=P) (w:=w) (base:=base) T m0
    have hld:bD G[k]<wi:=by
     rw[<-lw]
     obtain⟨x,hx,h0⟩:=hr _ (eF hk)
     exact L4 ⟨x,hx,by simpa using h0⟩
    have ga:=nN hm (a:=0) (b:=G[k].getD f 0) (by omega) (la.getD (by omega) f)
    walk_at"l3"
    refine⟨C,ns,xs,sp,e1,e2,e3,.int (G[k].getD f 0:Nat),by rw[p5 (by omega) (by omega),dR],e4 0 (G[k].getD f 0) _ ⟨rfl,_,bD G[k],rfl,?_,_,_,?_,rfl,rfl⟩⟩
    ·rw[E2 (by omega) (by rw[fL,xl];omega)];rfl
    ·rw[ga.1,E3,yM,yU]
     have ez:((G.map bD).zip G)[k]?=some (bD G[k],G[k]):=by
      rw[CH,om,cy,aN hk];rfl
     rw[ez];rfl
   ·rintro δ ⟨o3,o4,rfl⟩
    refine hU _ ?_
    walk_at"l3"
    refine⟨⟨_,rfl⟩,by rw[bO,kD];omega,_,_,_,_,?_,rfl,rfl,rfl,rfl⟩
    rw[show((G.map bD).zip G).take (dw (av (G.map bD)) (aG false G)).length=(G.map bD).zip G from yN (by unfold dw;rw[CI,qJ,fL,km];exact aZ _),yM,hf,jQ]
    exact p9 true _ [cF m G wi f]
  ·rintro δ ⟨o1,o2,o3,o4,rfl⟩
   refine hU _ ?_
   walk_at"l3"
   rw[LN]
   exact q
noncomputable abbrev aN8:bC:=λds Q=>∃T:List (List Nat),ds=[.lst false (aG false T)]/\T.length<=1000/\(∀r∈T,r.length<=1000)/\Q (.int (bq T:Nat))
theorem RQ(T:Txt K mg t):aO P w K mg base aV 1 t.GY t.GZ ["table"] (bE (aN8 )):=by
 refine bX T.Hz aM3 ?_ ?_
 ·intro ds Q h
  obtain⟨G,rfl,hG,hr,q⟩:=h<;>rfl
 ·intro aH A outer s H E hr
  refine⟨_,(aJ (bc (Zb (cO (lH (dB hr)) (bv 0) (ag (fk eI)) (cI _)) (fo (g7) (by rfl) T.ia gR (ai (bV (bv 0) (ag az) (λ_ _=>rfl)) aB)) az))),λds Q h=>?_⟩
  obtain⟨G,rfl,hG,hr,q⟩:=h
  walk_at"l3"
  refine⟨by decide,⟨iQ 4 _ _ _,rfl⟩,?_⟩
  rw[show(D.lst true ([]:List D))=D.lst true (aG true []) from rfl,qa]
  cases G with
  | nil=>rw[if_neg (by simp)];exact q
  | cons r G =>
   rw[if_pos (by simp)]
   refine⟨.lst false (av r),E8 false (T:=r::G) (i:=0) (Nat.succ_pos _),?_⟩
   show Q (D.int ((av r).length:Nat))
   rw[fL];exact q
noncomputable abbrev aJ0:bC:=λds Q=>∃(T:List (List Nat)) (j:Nat),ds=[.lst false (aG false T),.int j]/\T.length<=1000/\(∀r∈T,j<r.length)/\Q (match iS T j with | some i=>.int (i:Nat) | none=>.ak)
theorem aJ1(T:Txt K mg t):aO P w K mg base aV 1 t.G0 t.G1 ["rows","place"] (bE (aJ0 )):=by
 refine bX T.Ru QN ?_ ?_
 ·intro ds Q h
  obtain⟨G,j,rfl,hG,hr,q⟩:=h<;>rfl
 ·intro aH A outer s H E hr
  refine⟨_,(aE (g5 fF rfl (z6 rfl T.Bi (ai (bv 0) aB)) (lR (i1:=2) (i2:=3) rfl QN.nd rfl (aq rfl) rfl (aq rfl))
    (aJ (da (cO (lH (dB hr)) (bV (bv 3) (bv 1) (λ_ _=>rfl)) (ag az) (cI _)) (aJ (bc (em 2))) cZ)))
   (aJ (bc NS))),λds Q h=>?_⟩
  obtain⟨G,j,rfl,hG,hr,q⟩:=h
  refine aD λU hU=>?_
  walk_at"l3"
  refine gZ.mk (λi δ=>∃o1 o2,δ=[some (D.lst false (aG false G)),some (D.int j),o1,o2]/\∀k,k<i->(G.getD k []).getD j 0=0) ⟨_,_,rfl,λk hk=>absurd hk (yV k)⟩ ?_ ?_
  ·rintro i d δ hd ⟨o1,o2,rfl,hz⟩
   obtain⟨hi,rfl⟩:=bU7 hd
   have hj:=hr _ (eF hi)
   have eg:G.getD i []=G[i]:=by rw[aQ,aN hi];rfl
   walk_at"l3"
   refine⟨.int (G[i].getD j 0:Nat),by rw[p5 (by omega) (by omega),dR],rfl,?_⟩
   rw[ny]
   by_cases h0:G[i].getD j 0=0
   ·rw[if_neg (by rw[h0];decide)]
    refine⟨_,_,⟨rfl,rfl⟩,λk hk=>?_⟩
    by_cases e:k=i
    ·rw[e,eg];exact h0
    ·exact hz k (by omega)
   ·rw[if_pos (by rw[decide_eq_false (by omega)];rfl)]
    have ef:iS G j=some i:=by
     unfold iS
     rw[L6]
     refine⟨hi,by simpa using h0,λk hk=>?_⟩
     have:=hz k hk
     rw[aQ (l:=G),aN (by omega)]at this
     simpa using this
    rw[ef]at q
    exact q
  ·rintro δ ⟨o1,o2,rfl,hz⟩
   refine hU _ ?_
   walk_at"l3"
   have ef:iS G j=none:=by
    unfold iS
    rw[L7]
    intro r bI
    obtain⟨i,hi,rfl⟩:=fC bI
    have:=hz i (by rw[pQ,km];exact hi)
    rw[aQ (l:=G),aN hi]at this
    simpa using this
   rw[ef]at q
   exact q
noncomputable abbrev RU(K:Frag):bC:=λds Q=>∃(C:Addr) (p a:Nat) (xs:List Nat),ds=[Ap C p,.int a,.lst false (av xs)]/\et K C/\cB K C "products"/\p∈gb/\a<ae (true,p)/\(∀y∈xs,y<ae (true,p))/\xs.length<=1000/\Q (.lst true (av (xs.map (gm (true,p) a))))
theorem aB4(T:Txt K mg t):aO P w K mg base aV 1 t.G3 t.G4 ["self","a","row"] (bE (RU K)):=by
 refine bX T.aC5 QO ?_ ?_
 ·intro ds Q h
  obtain⟨C,p,a,xs,rfl,hC,hn,hp,ha,hy,hl,q⟩:=h<;>rfl
 ·intro aH A outer s H E hr
  refine⟨_,(aE (bb (i:=3) QO.nd rfl (bh rfl) (eT (bV (lZ (K:=K) (bv 0)) (bv 1) (λ_ _=>rfl))))
   (aJ (bc (fA [("by_a",3)] ["x"] rfl (nj (bv 2)) (λ_ _ _ _=>(dA (i:=1) (show(["by_a","x"]:List Str).Nodup by decide +kernel) rfl (aq (lookup_relabel_local rfl)) (by decide) (bh (lookup_relabel_local rfl)))) (λ_ _ _ _=>fm) (λ_ _ _ _=>(eT (bV (bv 0) (bv 1) (λ_ _=>rfl)))) rfl ⟨rfl,trivial⟩ (λ_=>by repeat' (first | exact trivial | refine⟨.inl rfl,?_⟩ | refine⟨.inr (.inl rfl),?_⟩ | refine⟨.inr (.inr ⟨_,rfl⟩),?_⟩)) (λ_=>⟨⟨rfl,.inl rfl,.inl rfl,_,rfl,rfl⟩,trivial⟩) rfl (by decide +kernel))))),λds Q h=>?_⟩
  obtain⟨C,p,a,xs,rfl,hC,hn,hp,ha,hy,hl,q⟩:=h
  refine aD λU hU=>?_
  walk_at"l3"
  refine⟨C,_,_,_,rfl,hC,hn,rfl,_,Pr hp ha,?_⟩
  refine⟨by rw[gX,nv];rfl,hU _ ?_⟩
  clear hU U
  walk_at"l3"
  refine gD xs (λ(i:Nat)=>D.int (i:Int)) (λx=>D.int ((gm (true,p) a x:Nat):Int)) (EF xs) lU (λx hx=>?_) (.inr λ_ _=>rfl) (by rw[sL];omega) ?_
  ·walk_at"l3"
   exact⟨_,Pq hp ha (hy x hx),rfl,rfl⟩
  ·rw[dN,dG]at q
   exact q
noncomputable abbrev RV(K:Frag):bC:=λds Q=>∃(C:Addr) (p a:Nat) (xs:List Nat),ds=[xI C p,.int a,.lst false (av xs)]/\et K C/\cB K C "prime"/\0<p/\a<64/\(∀y∈xs,y<64)/\xs.length<=1000/\Q (.lst true (av (xs.map (gm (false,p) a))))
theorem ay0(T:Txt K mg t):aO P w K mg base aV 1 t.G5 t.G6 ["self","a","row"] (bE (RV K)):=by
 refine bX T.az1 QP ?_ ?_
 ·intro ds Q h
  obtain⟨C,p,a,xs,rfl,hC,hn,hp,ha,hy,hl,q⟩:=h<;>rfl
 ·intro aH A outer s H E hr
  refine⟨_,(aE (bb (i:=3) QP.nd rfl (bh rfl) (eT (lZ (K:=K) (bv 0))))
   (aJ (bc (fA [("prime",3),("a",1)] ["x"] rfl (nj (bv 2)) (λ_ _ _ _=>(dA (i:=2) (show(["prime","a","x"]:List Str).Nodup by decide +kernel) rfl (aq (lookup_relabel_local rfl)) (by decide) (bh (lookup_relabel_local rfl)))) (λ_ _ _ _=>fm) (λ_ _ _ _=>(aC df (ag (aC i8 (bv 1) (bv 2))) (bv 0))) rfl ⟨rfl,⟨rfl,trivial⟩⟩ (λ_=>by repeat' (first | exact trivial | refine⟨.inl rfl,?_⟩ | refine⟨.inr (.inl rfl),?_⟩ | refine⟨.inr (.inr ⟨_,rfl⟩),?_⟩)) (λ_=>⟨⟨rfl,.inl rfl,.inl rfl,_,rfl,rfl⟩,⟨⟨rfl,.inl rfl,.inl rfl,_,rfl,rfl⟩,trivial⟩⟩) rfl (by decide +kernel))))),λds Q h=>?_⟩
  obtain⟨C,p,a,xs,rfl,hC,hn,hp,ha,hy,hl,q⟩:=h
  refine aD λU hU=>?_
  walk_at"l3"
  refine⟨C,_,_,.int p,rfl,hC,hn,rfl,rfl,hU _ ?_⟩
  clear hU U
  walk_at"l3"
  refine gD xs (λ(i:Nat)=>D.int (i:Int)) (λx=>D.int ((gm (false,p) a x:Nat):Int)) (EF xs) lU (λx hx=>?_) (.inr λ_ _=>rfl) (by rw[sL];omega) ?_
  ·have h2:=hy x hx
   walk_at"l3"
   refine⟨jt.ok (.inr ⟨by omega,by omega⟩),by omega,?_⟩
   show _=((a*x%p:Nat):Int)
   rw[qG,vo]
  ·rw[dN,dG]at q
   exact q
theorem bX1(T:Txt K mg t){m:Bool × Nat}(hm:m∈aF):∃C ns zs sp,fD t.aS t.aU m=.obj C ns zs/\sZ P w K mg base 1 "scaled" C sp/\("scaled":Str) ∉ ns/\∀(xs:List Nat) (a:Nat) (Q:D->Prop),a<ae m->(∀y∈xs,y<ae m)->xs.length<=1000->Q (.lst true (av (xs.map (gm m a))))->sp [.obj C ns zs,.int a,.lst false (av xs)] Q:=by
 have hF:=dE hm
 obtain⟨k,n⟩:=m
 cases k with
 | true=>exact⟨_,_,_,RU K,rfl,⟨T.gF,_,_,_,T.yj,aB4 T,T.aC6⟩,by decide,λxs a Q ha hy hl q=>⟨_,n,a,xs,rfl,T.gF,T.qi,Ar hm,ha,hy,hl,q⟩⟩
 | false =>
  have uS:n<=64:=hF.hi
  have l2:2<=n:=hF.lo
  exact⟨_,_,_,RV K,rfl,⟨T.iV,_,_,_,T.yq,ay0 T,T.az2⟩,by decide,λxs a Q ha hy hl q=>⟨_,n,a,xs,rfl,T.iV,T.nV,by omega,cG (show a<n from ha) uS,λy h=>cG (show y<n from hy y h) uS,hl,q⟩⟩
noncomputable abbrev RW(K:Frag):bC:=λds Q=>∃(C:Addr) (p a:Nat) (xs ys:List Nat),ds=[Ap C p,.lst false (av xs),.int a,.lst false (av ys)]/\et K C/\cB K C "products"/\p∈gb/\a<ae (true,p)/\(∀y∈ys,y<ae (true,p))/\xs.length<=1000/\Q (.lst true (av (fE (λx y=>cE (true,p) x (gm (true,p) a y)) xs ys)))
theorem ay1(T:Txt K mg t):aO P w K mg base aV 1 t.G7 t.G8 ["self","row","a","other"] (bE (RW K)):=by
 refine bX T.az3 QQ ?_ ?_
 ·intro ds Q h
  obtain⟨C,p,a,xs,ys,rfl,hC,hn,hp,ha,hy,hl,q⟩:=h<;>rfl
 ·intro aH A outer s H E hr
  refine⟨_,(aE (bb (i:=4) QQ.nd rfl (bh rfl) (eT (bV (lZ (K:=K) (bv 0)) (bv 2) (λ_ _=>rfl))))
   (aJ (bc (fA [("by_a",4)] ["x","y"] rfl (xp rfl T.yr (ai (bv 1) (ai (bv 3) aB))) (λ_ _ _ _=>(lR (i1:=1) (i2:=2) rfl (show(["by_a","x","y"]:List Str).Nodup by decide +kernel) rfl (aq (lookup_relabel_local rfl)) rfl (aq (lookup_relabel_local rfl)) (by decide) (by decide) (bh (lookup_relabel_local rfl)) (bh (lookup_relabel_local rfl)))) (λ_ _ _ _=>fm) (λ_ _ _ _=>(aC rY (bv 1) (bV (bv 0) (bv 2) (λ_ _=>rfl)))) rfl ⟨rfl,trivial⟩ (λ_=>by repeat' (first | exact trivial | refine⟨.inl rfl,?_⟩ | refine⟨.inr (.inl rfl),?_⟩ | refine⟨.inr (.inr ⟨_,rfl⟩),?_⟩)) (λ_=>⟨⟨rfl,.inl rfl,.inl rfl,_,rfl,rfl⟩,trivial⟩) rfl (by decide +kernel))))),λds Q h=>?_⟩
  obtain⟨C,p,a,xs,ys,rfl,hC,hn,hp,ha,hy,hl,q⟩:=h
  refine aD λU hU=>?_
  walk_at"l3"
  refine⟨C,_,_,_,rfl,hC,hn,rfl,_,Pr hp ha,?_⟩
  refine⟨by rw[gX,nv];rfl,hU _ ?_⟩
  clear hU U
  walk_at"l3"
  refine⟨_,_,rfl,rfl,PC (λx y=>cE (true,p) x (gm (true,p) a y)) (λx hx y Br=>?_) (by omega) q⟩
  walk_at"l3"
  refine⟨_,Pq hp ha (hy y Br),?_⟩
  show mH (x:Int) ((gm (true,p) a y:Nat):Int)=_
  rw[kR];rfl
noncomputable abbrev RX(K:Frag):bC:=λds Q=>∃(C:Addr) (p a:Nat) (xs ys:List Nat),ds=[xI C p,.lst false (av xs),.int a,.lst false (av ys)]/\et K C/\cB K C "prime"/\0<p/\a<64/\(∀y∈ys,y<64)/\xs.length<=1000/\Q (.lst true (av (fE (λx y=>cE (false,p) x (gm (false,p) a y)) xs ys)))
theorem av9(T:Txt K mg t):aO P w K mg base aV 1 t.G9 t.Ha ["self","row","a","other"] (bE (RX K)):=by
 refine bX T.ax0 QR ?_ ?_
 ·intro ds Q h
  obtain⟨C,p,a,xs,ys,rfl,hC,hn,hp,ha,hy,hl,q⟩:=h<;>rfl
 ·intro aH A outer s H E hr
  refine⟨_,(aE (bb (i:=4) QR.nd rfl (bh rfl) (eT (lZ (K:=K) (bv 0))))
   (aJ (bc (fA [("prime",4),("a",2)] ["x","y"] rfl (xp rfl T.yr (ai (bv 1) (ai (bv 3) aB))) (λ_ _ _ _=>(lR (i1:=2) (i2:=3) rfl (show(["prime","a","x","y"]:List Str).Nodup by decide +kernel) rfl (aq (lookup_relabel_local rfl)) rfl (aq (lookup_relabel_local rfl)) (by decide) (by decide) (bh (lookup_relabel_local rfl)) (bh (lookup_relabel_local rfl)))) (λ_ _ _ _=>fm) (λ_ _ _ _=>(aC df (ag (aC iM (bv 2) (ag (aC i8 (bv 1) (bv 3))))) (bv 0))) rfl ⟨rfl,⟨rfl,trivial⟩⟩ (λ_=>by repeat' (first | exact trivial | refine⟨.inl rfl,?_⟩ | refine⟨.inr (.inl rfl),?_⟩ | refine⟨.inr (.inr ⟨_,rfl⟩),?_⟩)) (λ_=>⟨⟨rfl,.inl rfl,.inl rfl,_,rfl,rfl⟩,⟨⟨rfl,.inl rfl,.inl rfl,_,rfl,rfl⟩,trivial⟩⟩) rfl (by decide +kernel))))),λds Q h=>?_⟩
  obtain⟨C,p,a,xs,ys,rfl,hC,hn,hp,ha,hy,hl,q⟩:=h
  refine aD λU hU=>?_
  walk_at"l3"
  refine⟨C,_,_,.int p,rfl,hC,hn,rfl,rfl,hU _ ?_⟩
  clear hU U
  walk_at"l3"
  refine⟨_,_,rfl,rfl,PC (λx y=>cE (false,p) x (gm (false,p) a y)) (λx hx y Br=>?_) (by omega) q⟩
  have h2:=hy y Br
  walk_at"l3"
  refine⟨jt.ok (.inr ⟨by omega,by omega⟩),by omega,?_⟩
  have e:((x:Int)-((a*y%p:Nat):Int))%(p:Int)=((x:Int)-(a:Int)*y)%p:=by
   rw[qG,vo,Int.sub_emod,Int.emod_emod,<- Int.sub_emod]
  show _=(((((x:Int)-((a*y%p:Nat):Int))%(p:Int)).toNat:Nat):Int)
  rw[e,yS (iX _ (by omega))]
theorem bB7(T:Txt K mg t){m:Bool × Nat}(hm:m∈aF):∃C ns zs sp,fD t.aS t.aU m=.obj C ns zs/\sZ P w K mg base 1 "lessened" C sp/\("lessened":Str) ∉ ns/\∀(xs ys:List Nat) (a:Nat) (Q:D->Prop),a<ae m->(∀y∈ys,y<ae m)->xs.length<=1000->Q (.lst true (av (fE (λx y=>cE m x (gm m a y)) xs ys)))->sp [.obj C ns zs,.lst false (av xs),.int a,.lst false (av ys)] Q:=by
 have hF:=dE hm
 obtain⟨k,n⟩:=m
 cases k with
 | true=>exact⟨_,_,_,RW K,rfl,⟨T.gF,_,_,_,T.yg,ay1 T,T.az4⟩,by decide,λxs ys a Q ha hy hl q=>⟨_,n,a,xs,ys,rfl,T.gF,T.qi,Ar hm,ha,hy,hl,q⟩⟩
 | false =>
  have uS:n<=64:=hF.hi
  have l2:2<=n:=hF.lo
  exact⟨_,_,_,RX K,rfl,⟨T.iV,_,_,_,T.yn,av9 T,T.ax1⟩,by decide,λxs ys a Q ha hy hl q=>⟨_,n,a,xs,ys,rfl,T.iV,T.nV,by omega,cG (show a<n from ha) uS,λy h=>cG (show y<n from hy y h) uS,hl,q⟩⟩
noncomputable abbrev aO6(cb cp:Addr):bC:=λds Q=>∃(m:Bool × Nat) (T:List (List Nat)) (l:List Nat) (j:Nat),ds=[fD cb cp m,.lst false (aG false T),.lst false (av l),.int j]/\m∈aF/\T.length<=1000/\AllLt (ae m) l/\(∀r∈T,j<r.length/\r.length<=1000/\AllLt (ae m) r)/\Q (.lst true (aG true (T.map λr=>fE (λx y=>cE m x (gm m (r.getD j 0) y)) r l)))
theorem RY(T:Txt K mg t):aO P w K mg base aV 2 t.Hb t.Hc ["field","rows","lead_row","place"] (bE (aO6 t.aS t.aU)):=by
 refine bX T.HA aN9 ?_ ?_
 ·intro ds Q h
  obtain⟨m,G,l,j,rfl,hm,hG,hl,hr,q⟩:=h<;>rfl
 ·intro aH A outer s H E hr
  refine⟨_,(aJ (bc (fA [("lead_row",2),("field",0),("place",3)] ["row"] rfl (nj (bv 1)) (λ_ _ _ _=>(dA (i:=3) (show(["lead_row","field","place","row"]:List Str).Nodup by decide +kernel) rfl (aq (lookup_relabel_local rfl)) (by decide) (bh (lookup_relabel_local rfl)))) (λ_ _ _ _=>fm) (λ_ _ _ _=>(Au (P:=P) (w:=w) (K:=K) (mg:=mg) (base:=base) (n:=1) (bv 1) (hr.mono (by decide)) (ai (bv 3) (ai (bV (bv 3) (bv 2) (λ_ _=>rfl)) (ai (bv 0) aB))))) rfl ⟨rfl,⟨rfl,⟨rfl,trivial⟩⟩⟩ (λ_=>by repeat' (first | exact trivial | refine⟨.inl rfl,?_⟩ | refine⟨.inr (.inl rfl),?_⟩ | refine⟨.inr (.inr ⟨_,rfl⟩),?_⟩)) (λ_=>⟨⟨rfl,.inl rfl,.inl rfl,_,rfl,rfl⟩,⟨⟨rfl,.inl rfl,.inl rfl,_,rfl,rfl⟩,⟨⟨rfl,.inl rfl,.inl rfl,_,rfl,rfl⟩,trivial⟩⟩⟩) rfl (by decide +kernel)))),λds Q h=>?_⟩
  obtain⟨m,G,l,j,rfl,hm,hG,hl,hr,q⟩:=h
  walk_at"l3"
  refine gD G (λr=>D.lst false (av r)) (λr=>D.lst true (av (fE (λx y=>cE m x (gm m (r.getD j 0) y)) r l))) (by rw[gh];rfl) (λa b h=>xM a b h) (λr bI=>?_) (.inr λr _=>xK _) (by rw[sL];omega) ?_
  ·obtain⟨h1,h2,h3⟩:=hr r bI
   obtain⟨C,ns,zs,sp,e1,e2,e3,e4⟩:=bB7 (P:=P) (w:=w) (base:=base) T hm
   walk_at"l3"
   refine⟨C,ns,zs,sp,e1,e2,e3,.int (r.getD j 0:Nat),by rw[p5 (by omega) (by omega),dR],e4 _ _ _ _ (h3.getD (by have:=(dE hm).lo;omega) j) hl h2 ⟨rfl,rfl⟩⟩
  ·rw[aG,dG]at q
   exact q
noncomputable abbrev RZ(t:oR)(P:Program)(w:World)(K:Frag)(mg:Str->Option Value)(base:Heap):nB:=λds Q Ex=>∃(m:Bool × Nat) (a b:Nat),ds=[fD t.aS t.aU m,.int a,.int b]/\m∈aF/\a<ae m/\b<ae m/\(b=0->Ex t.gj)/\(b≠0->∀r:Nat,r<ae m->gm m r b=a->Q (.int (r:Nat)))
theorem R0(T:Txt K mg t):aO P w K mg base (kX P w) 2 t.Bb t.Hd ["self","a","b"] (xj (RZ t P w K mg base)):=by
 refine Oq T.aK5 aH7 ?_ ?_
 ·intro ds Q Ex h
  obtain⟨m,a,b,rfl,hm,ha,hb,qx,q⟩:=h<;>rfl
 ·intro aH A outer s H E hr
  refine⟨_,(aE (da (cO (fY (dB hr)) (bv 2) (ag az) (cI _)) (aJ (Ow T.RF rfl (by rfl) (ai (ag NT) aB))) cZ)
   (aE (da (cO (fY (dB hr)) (bv 1) (ag az) (cI _)) (aJ (bc az)) cZ)
   (aJ (bc (Au (P:=P) (w:=w) (K:=K) (mg:=mg) (base:=base) (n:=1) (bv 0) (hr.mono (by decide)) (ai (ag (aC iM (bV (lZ (K:=K) (bv 0)) (bv 1) (λ_ _=>rfl)) (bV (lZ (K:=K) (bv 0)) (bv 2) (λ_ _=>rfl)))) aB)))))),λds Q Ex h=>?_⟩
  obtain⟨m,a,b,rfl,hm,ha,hb,qx,q⟩:=h
  refine aD λU hU=>?_
  walk_at"l3"
  split
  ·rename_i h0
   exact⟨by decide,qx (by omega)⟩
  ·rename_i h0
   have b0:b≠0:=by omega
   refine hU _ ?_
   clear hU U
   refine aD λU hU=>?_
   walk_at"l3"
   split
   ·rename_i h1
    have a0:a=0:=by omega
    subst a0
    exact q b0 0 ha (hE m b (cQ m hm))
   ·rename_i h1
    have a0:a≠0:=by omega
    refine hU _ ?_
    clear hU U
    have hF:=dE hm
    obtain⟨r,e,mr,mw⟩:=Pu hm (show 1<=a by omega) ha (show 1<=b by omega) hb
    have qr:=q b0 r mr mw
    obtain⟨k,n⟩:=m
    cases k with
    | true =>
     walk_at"l3"
     have ll:(dD (fl (true,n))).length=ae (true,n):=(xE _ _).trans hF.len
     have n0:=iX (lg (true,n) a-lg (true,n) b) (show(ae (true,n):Int)-1≠0 by have:=hF.lo;omega)
     have n1:=iY (lg (true,n) a-lg (true,n) b) (show(0:Int)<(ae (true,n):Int)-1 by have:=hF.lo;omega)
     refine⟨_,_,_,HH K,rfl,⟨T.gF,_,_,_,T.uK,HI T,T.Hv⟩,by decide,_,_,_,_,rfl,T.gF,T.nU,rfl,_,kh (by omega) (by rw[ll];omega),_,_,_,_,rfl,T.gF,T.nU,rfl,_,kh (by omega) (by rw[ll];omega),?_⟩
     refine⟨_,_,_,_,ae (true,n),fl (true,n),r,rfl,T.gF,T.qh,T.uJ,rfl,rfl,hF.lo,?_,qr⟩
     have hk:((lg (true,n) a-lg (true,n) b)%((ae (true,n):Int)-1)).toNat<(fl (true,n)).length:=by have:=hF.len;omega
     show(fl (true,n))[((lg (true,n) a-lg (true,n) b)%((ae (true,n):Int)-1)).toNat]?=some (r:Int)
     rw[<-e]
     unfold pw
     rw[aQ,aN hk];rfl
    | false =>
     walk_at"l3"
     have ll:(dD (fl (false,n))).length=ae (false,n):=(xE _ _).trans hF.len
     have n0:=iX (lg (false,n) a-lg (false,n) b) (show(ae (false,n):Int)-1≠0 by have:=hF.lo;omega)
     have n1:=iY (lg (false,n) a-lg (false,n) b) (show(0:Int)<(ae (false,n):Int)-1 by have:=hF.lo;omega)
     refine⟨_,_,_,HH K,rfl,⟨T.iV,_,_,_,T.uN,HI T,T.Hv⟩,by decide,_,_,_,_,rfl,T.iV,T.qj,rfl,_,kh (by omega) (by rw[ll];omega),_,_,_,_,rfl,T.iV,T.qj,rfl,_,kh (by omega) (by rw[ll];omega),?_⟩
     refine⟨_,_,_,_,ae (false,n),fl (false,n),r,rfl,T.iV,T.uM,T.uL,rfl,rfl,hF.lo,?_,qr⟩
     have hk:((lg (false,n) a-lg (false,n) b)%((ae (false,n):Int)-1)).toNat<(fl (false,n)).length:=by have:=hF.len;omega
     show(fl (false,n))[((lg (false,n) a-lg (false,n) b)%((ae (false,n):Int)-1)).toNat]?=some (r:Int)
     rw[<-e]
     unfold pw
     rw[aQ,aN hk];rfl
theorem bM6(T:Txt K mg t)(m:Bool × Nat):As P w K mg base 2 "over" (if m.1 then t.aS else t.aU) (RZ t P w K mg base):=by
 obtain⟨k,n⟩:=m
 cases k with
 | true=>exact⟨T.gF,_,_,_,T.yi,R0 T,T.Rx⟩
 | false=>exact⟨T.iV,_,_,_,T.yp,R0 T,T.Rx⟩
noncomputable abbrev aO7(t:oR)(P:Program)(w:World)(K:Frag)(mg:Str->Option Value)(base:Heap):bC:=λds Q=>∃(m:Bool × Nat) (G:List (List Nat)),ds=[fD t.aS t.aU m,.lst false (aG false G)]/\m∈aF/\G.length<=900/\RT (ae m) (bq G) G/\bq G<=900/\Q (.lst true (aG true (cw m G)))
theorem R1(T:Txt K mg t):aO P w K mg base aV 3 t.He t.Hf ["field","table"] (bE (aO7 t P w K mg base)):=by
 refine bX T.HB nR ?_ ?_
 ·intro ds Q h
  obtain⟨m,G,rfl,hm,hG,hR,hw,q⟩:=h<;>rfl
 ·intro aH A outer s H E hr
  refine⟨_,(aE (bb (i:=2) nR.nd rfl (aq rfl) (fk eI))
   (aE (bb (i:=3) nR.nd rfl (aq rfl) (eT (bv 1)))
   (aE (g5 fF rfl (i7 rfl T.gk (ai (ag (bG ((RQ T).mono (by decide)) hr rfl T.Rq T.Hz.kp T.Rt bj (ai (bv 1) aB))) aB)) (dA (i:=4) nR.nd rfl (aq rfl))
    (zP 3 (aE (bb (i:=5) nR.nd rfl (aq rfl) (bG ((aJ1 T).mono (by decide)) hr rfl T.cZ5 T.Ru.kp T.cZ6 bj (ai (bv 3) (ai (bv 4) aB))))
    (aJ (da (cO Zu (bv 5) (ag NS) (cI _)) (aE (bb (i:=6) nR.nd rfl (aq rfl) (Au (P:=P) (w:=w) (K:=K) (mg:=mg) (base:=base) (n:=1) (bv 0) (hr.mono (by decide)) (ai (ag (bQ9 (P:=P) (w:=w) (K:=K) (mg:=mg) (base:=base) (n:=2) (bv 0) (hr.mono (by decide)) (ai (ag az) (ai (bV (bV (bv 3) (bv 5) (λ_ _=>rfl)) (bv 4) (λ_ _=>rfl)) aB)))) (ai (bV (bv 3) (bv 5) (λ_ _=>rfl)) aB))))
     (aE (bb (i:=3) nR.nd rfl (aq rfl) (bG ((RY T).mono (by decide)) hr rfl T.Rv T.HA.kp T.Rw bj (ai (bv 0) (ai (ag (aC eC (ag (xq (bv 3) wD (wF (bv 5)))) (ag (xq (bv 3) (wF (ag (aC eC (bv 5) (ag az)))) wD)))) (ai (bv 6) (ai (bv 4) aB))))))
     (aJ (bb (i:=2) nR.nd rfl (aq rfl) (cj6 (bG ((RY T).mono (by decide)) hr rfl T.Rv T.HA.kp T.Rw bj (ai (bv 0) (ai (bv 2) (ai (bv 6) (ai (bv 4) aB))))) (fk (gB (em 6) eI))))))) cZ)))))
   (aJ (bc (em 2)))))),λds Q h=>?_⟩
  obtain⟨m,G,rfl,hm,hG,hR,hw,q⟩:=h
  have jw:=(dE hm).lo
  refine aD λU hU=>?_
  walk_at"l3"
  refine⟨by decide,hU _ ?_⟩
  clear hU U
  refine aD λU hU=>?_
  walk_at"l3"
  refine hU _ ?_
  clear hU U
  refine aD λU hU=>?_
  walk_at"l3"
  refine⟨G,rfl,by omega,λr bI=>?_,?_⟩
  ·rw[(hR r bI).1];omega
  refine⟨_,rfl,⟨by omega,by omega⟩,?_⟩
  refine xi (λk δ=>∃(o:Bool) (o1 o2 o3:Option D),δ=[some (fD t.aS t.aU m),some (D.lst false (aG false G)),some (D.lst true (aG true (hJ m G k).1)),some (D.lst o (aG o (hJ m G k).2)),o1,o2,o3]) ⟨false,none,none,none,rfl⟩ ?_ ?_
  ·rintro k δ hk ⟨o,o1,o2,o3,rfl⟩
   have I:=xS hm hR k
   rw[E9]
   generalize hJ m G k=s at I ⊢
   simp only[gN,lj,iu,ir,ou,oq,mS,exists_eq_left',eB,gh]
   clear hU
   have il:=I.l
   refine aD λU hU=>?_
   walk_at"l3"
   refine⟨s.2,k,rfl,by omega,λr bI=>by rw[(I.b r bI).1];omega,?_⟩
   cases e:iS s.2 k with
   | none =>
    rw[show gi m s k=s by unfold gi;rw[e]]at hU
    refine hU _ ?_
    walk_at"l3"
    exact⟨false,_,_,_,⟨rfl,rfl⟩,rfl,rfl,rfl⟩
   | some i =>
    obtain⟨hi,h1,h2⟩:=AB e
    have er:gi m s k=(fw m s.1 (dj m s.2 i k) k++[dj m s.2 i k],fw m (s.2.take i++s.2.drop (i+1)) (dj m s.2 i k) k):=by unfold gi;rw[e]
    rw[er]at hU
    refine hU _ ?_
    clear hU
    walk_at"l3"
    obtain⟨C,ns,xs,sp,e1,e2,e3,e4⟩:=bX1 (P:=P) (w:=w) (base:=base) T hm
    refine aD λU hU=>?_
    walk_at"l3"
    obtain⟨lw,lr⟩:=I.b _ (eF hi)
    have bk:=lr.getD (show 0<ae m by omega) k
    refine⟨C,ns,xs,sp,e1,e2,e3,_,_,_,_,Av _ _ m,bM6 T m,cx5 m _ (by decide),.lst false (av s.2[i]),E8 false hi,?_⟩
    dsimp only
    refine⟨.int (s.2[i].getD k 0:Nat),by rw[p5 (by omega) (by omega),dR],m,1,s.2[i].getD k 0,by rw[Av];rfl,hm,jw,bk,λz=>absurd z h1,λ_ f hf hfo=>⟨rfl,.lst false (av s.2[i]),E8 false hi,?_⟩⟩
    have ef:xQ m (s.2[i].getD k 0)=f:=PV hm hf hfo
    rw[E4]
    refine e4 _ _ _ hf lr (by omega) ⟨by rw[xK,kJ],hU _ ?_⟩
    have el:s.2[i].map (gm m f)=dj m s.2 i k:=by unfold dj;rw[h2,ef]
    rw[el]
    have ll:(dj m s.2 i k).length=bq G:=by rw[<-el,bO];exact lw
    have la:AllLt (ae m) (dj m s.2 i k):=λx hx=>by
     rw[<-el]at hx
     obtain⟨y,_,rfl⟩:=bP.mp hx
     exact dh hm _ _
    generalize dj m s.2 i k=ld at ll la ⊢
    clear hU
    refine aD λU hU=>?_
    walk_at"l3"
    have HS:∀r∈s.2.take i++s.2.drop (i+1),r.length=bq G/\AllLt (ae m) r:=λr bI=>by
     rcases cx.mp bI with h | h
     ·exact I.b r (yO h)
     ·exact I.b r (Cy h)
    have jN:∀X:List (List Nat),(D.lst true (aG true X)).fr=true:=λX=>by rw[fU,E7];rfl
    rw[EG,show((i:Int)+1)=((i+1:Nat):Int) by omega,OC,p9,gh]
    refine⟨by rw[kD,mJ];omega,m,_,ld,k,rfl,hm,by rw[fB,kD,mJ];omega,la,λr bI=>⟨by rw[(HS r bI).1];exact hk,by rw[(HS r bI).1];omega,(HS r bI).2⟩,jN _,hU _ ?_⟩
    clear hU
    walk_at"l3"
    refine⟨m,s.1,ld,k,rfl,hm,by omega,la,λr bI=>⟨by rw[(I.a r bI).1];exact hk,by rw[(I.a r bI).1];omega,(I.a r bI).2⟩,jN _,by decide,_,_,rfl,rfl,?_,true,_,_,_,p9 true _ [ld],⟨rfl,rfl⟩,rfl,rfl,rfl⟩
    rw[km,bO]
    show s.1.length+1<=_
    omega
  ·rintro δ ⟨o,o1,o2,o3,rfl⟩
   refine hU _ ?_
   walk_at"l3"
   exact q
noncomputable abbrev aO9(t:oR)(P:Program)(w:World)(K:Frag)(mg:Str->Option Value)(base:Heap):bC:=λds Q=>∃(m:Bool × Nat) (G:List (List Nat)),ds=[fD t.aS t.aU m,.lst false (aG false G)]/\m∈aF/\G.length<=900/\RT (ae m) (bq G) G/\bq G<=900/\(∀r∈cw m G,∃x∈r,x≠0)/\Q (.lst true (aG true (fO m (cw m G) (bq G))))
theorem HU(T:Txt K mg t):aO P w K mg base aV 4 t.Hg t.Hh ["field","table"] (bE (aO9 t P w K mg base)):=by
 refine bX T.Be aO8 ?_ ?_
 ·intro ds Q h
  obtain⟨m,G,rfl,hm,hG,hR,hw,hn,q⟩:=h<;>rfl
 ·intro aH A outer s H E hr
  refine⟨_,(aJ (bc (bG ((ax9 T).mono (by decide)) hr rfl T.cZ3 T.Rp.kp T.cZ4 bj (ai (bv 0) (ai (ag (bG ((R1 T).mono (by decide)) hr rfl T.Ry T.HB.kp T.Rz bj (ai (bv 0) (ai (bv 1) aB)))) (ai (ag (bG ((RQ T).mono (by decide)) hr rfl T.Rq T.Hz.kp T.Rt bj (ai (bv 1) aB))) aB)))))),λds Q h=>?_⟩
  obtain⟨m,G,rfl,hm,hG,hR,hw,hn,q⟩:=h
  walk_at"l3"
  refine⟨m,G,rfl,hm,hG,hR,hw,?_⟩
  have I:=xS hm hR (bq G)
  refine⟨G,rfl,by omega,λr bI=>by rw[(hR r bI).1];omega,m,cw m G,bq G,by rw[eB,gh,nu],hm,?_,by omega,I.a,hn,?_,q⟩
  ·show(hJ m G (bq G)).1.length<=1000
   have:=I.l
   omega
  ·rw[show ∀X:List (List Nat),(D.lst true (aG true X)).fr=true from λX=>by rw[fU,E7];rfl,kJ]
noncomputable abbrev aJ2:bC:=λds Q=>∃i:Int,ds=[.int i]/\Q (.bl true)
theorem aJ3(T:Txt K mg t):aO P w K mg base aV 1 t.Hi t.Hj ["_law_x"] (bE (aJ2 )):=by
 refine bX T.RA aH8 ?_ ?_
 ·intro ds Q h
  obtain⟨i,rfl,q⟩:=h<;>rfl
 ·intro aH A outer s H E hr
  refine⟨_,(aJ (bc (wm (ag (zW (by rfl) T.Bj (by rfl) T.HF DO (bv 0))) (vE (Za (ag (zW (by rfl) T.Bj (by rfl) T.c55 X6 (bv 0)))))))),λds Q h=>?_⟩
  obtain⟨i,rfl,q⟩:=h
  walk_at"l3"
  exact q
noncomputable abbrev aE5:bC:=λds Q=>∃(l:List Nat) (w n:Nat),ds=[.lst false (av l),.int w,.int n]/\l.length=w/\w<=1000/\AllLt n l/\Q (.bl true)
theorem aE6(T:Txt K mg t):aO P w K mg base aV 2 t.Hk t.Hl ["_law_row","_law_wide","_law_many_here"] (bE (aE5 )):=by
 refine bX T.RB aD9 ?_ ?_
 ·intro ds Q h
  obtain⟨l,w,n,rfl,hl,hw,ha,q⟩:=h<;>rfl
 ·intro aH A outer s H E hr
  refine⟨_,(aE (da (PW.pt (wk (zN (ni (ag (zW (by rfl) T.Bj (by rfl) T.HG DP (bv 0))))) (vD (cO (lH (dB hr)) (ag (fo (g7) (by rfl) T.ia gR (ai (bv 0) aB))) (bv 1) (cI _))))) (aJ (bc j9)) cZ)
   (aJ (bc (fo (Ek rfl) (by rfl) T.HE DN (ai (ag (fA [("_law_many_here",2)] ["_law_x"] rfl (nj (bv 0)) (λ_ _ _ _=>(dA (i:=1) (show(["_law_many_here","_law_x"]:List Str).Nodup by decide +kernel) rfl (aq (lookup_relabel_local rfl)) (by decide) (bh (lookup_relabel_local rfl)))) (λ_ _ _ _=>fm) (λ_ _ _ _=>(wm (ag (bG ((aJ3 T).mono (by decide)) hr rfl T.aK6 T.RA.kp T.aK7 bj (ai (bv 1) aB))) (vE (Ei wA sg (ag az) (bv 1) (bv 0))))) rfl ⟨rfl,trivial⟩ (λ_=>by repeat' (first | exact trivial | refine⟨.inl rfl,?_⟩ | refine⟨.inr (.inl rfl),?_⟩ | refine⟨.inr (.inr ⟨_,rfl⟩),?_⟩)) (λ_=>⟨⟨rfl,.inl rfl,.inl rfl,_,rfl,rfl⟩,trivial⟩) rfl (by decide +kernel))) aB))))),λds Q h=>?_⟩
  obtain⟨l,w,n,rfl,hl,hw,ha,q⟩:=h
  refine aD λU hU=>?_
  walk_at"l3"
  rw[if_neg (by rw[hl];simp)]
  refine hU _ ?_
  clear hU U
  walk_at"l3"
  refine gD l (λ(i:Nat)=>D.int (i:Int)) (λ_=>D.bl true) (EF l) lU (λi hi=>?_) (.inr λ_ _=>rfl) (by rw[sL];omega) ?_
  ·walk_at"l3"
   have:=ha i hi
   refine⟨i,rfl,true,rfl,?_⟩
   rw[if_pos rfl,if_pos (by omega)]
   omega
  ·refine⟨l.map λ_=>true,by unfold wC;rw[dG];rfl,?_⟩
   have e:(l.map λ_=>true).all id=true:=by simp
   rw[e];exact q
noncomputable abbrev aB6:bC:=λds Q=>∃(T:List (List Nat)) (r w n:Nat),ds=[.lst false (aG false T),.int r,.int w,.int n]/\T.length=r/\r<=1000/\w<=1000/\RT n w T/\Q (.bl true)
theorem aB7(T:Txt K mg t):aO P w K mg base aV 3 t.Hm t.Ho ["_law_table","_law_rows","_law_wide","_law_many_here"] (bE (aB6 )):=by
 refine bX T.RC az8 ?_ ?_
 ·intro ds Q h
  obtain⟨G,r,w,n,rfl,hG,hr,hw,hR,q⟩:=h<;>rfl
 ·intro aH A outer s H E hr
  refine⟨_,(aE (da (PW.pt (wk (zN (ni (ag (zW (by rfl) T.Bj (by rfl) T.HG DP (bv 0))))) (vD (cO (lH (dB hr)) (ag (fo (g7) (by rfl) T.ia gR (ai (bv 0) aB))) (bv 1) (cI _))))) (aJ (bc j9)) cZ)
   (aJ (bc (fo (Ek rfl) (by rfl) T.HE DN (ai (ag (fA [("_law_wide",2),("_law_many_here",3)] ["_law_row"] rfl (nj (bv 0)) (λ_ _ _ _=>(dA (i:=2) (show(["_law_wide","_law_many_here","_law_row"]:List Str).Nodup by decide +kernel) rfl (aq (lookup_relabel_local rfl)) (by decide) (bh (lookup_relabel_local rfl)))) (λ_ _ _ _=>fm) (λ_ _ _ _=>(bG ((aE6 T).mono (by decide)) hr rfl T.aF5 T.RB.kp T.aF6 bj (ai (bv 2) (ai (bv 0) (ai (bv 1) aB))))) rfl ⟨rfl,⟨rfl,trivial⟩⟩ (λ_=>by repeat' (first | exact trivial | refine⟨.inl rfl,?_⟩ | refine⟨.inr (.inl rfl),?_⟩ | refine⟨.inr (.inr ⟨_,rfl⟩),?_⟩)) (λ_=>⟨⟨rfl,.inl rfl,.inl rfl,_,rfl,rfl⟩,⟨⟨rfl,.inl rfl,.inl rfl,_,rfl,rfl⟩,trivial⟩⟩) rfl (by decide +kernel))) aB))))),λds Q h=>?_⟩
  obtain⟨G,r,w,n,rfl,hG,hr,hw,hR,q⟩:=h
  refine aD λU hU=>?_
  walk_at"l3"
  rw[if_neg (by rw[hG];simp)]
  refine hU _ ?_
  clear hU U
  walk_at"l3"
  refine gD G (λr=>D.lst false (av r)) (λ_=>D.bl true) (by rw[gh];rfl) (λa b h=>xM a b h) (λl qR=>?_) (.inr λ_ _=>rfl) (by rw[sL];omega) ?_
  ·walk_at"l3"
   exact⟨l,w,n,rfl,(hR l qR).1,hw,(hR l qR).2,rfl⟩
  ·refine⟨G.map λ_=>true,by unfold wC;rw[dG];rfl,?_⟩
   have e:(G.map λ_=>true).all id=true:=by simp
   rw[e];exact q
noncomputable abbrev aM1:bC:=λds Q=>∃(T:List (List Nat)) (w n:Nat),ds=[.lst false (aG false T),.lst false (aG false T),.int w,.int n]/\T.length<=64/\w<=1000/\RT n w T/\Q (.bl true)
theorem aM2(T:Txt K mg t):aO P w K mg base aV 4 t.Hq t.Hr ["_law_found","_law_due_here","_law_wide","_law_many_here"] (bE (aM1 )):=by
 refine bX T.RD aJ9 ?_ ?_
 ·intro ds Q h
  obtain⟨G,w,n,rfl,hG,hw,hR,q⟩:=h<;>rfl
 ·intro aH A outer s H E hr
  refine⟨_,(aJ (bc (wm (ag (bG ((aB7 T).mono (by decide)) hr rfl T.aC7 T.RC.kp T.aC8 bj (ai (bv 0) (ai (ag (fo (g7) (by rfl) T.ia gR (ai (bv 1) aB))) (ai (bv 2) (ai (bv 3) aB)))))) (vE (wj (fY (dB hr)) (bv 0) (bv 1) (cI _)))))),λds Q h=>?_⟩
  obtain⟨G,w,n,rfl,hG,hw,hR,q⟩:=h
  walk_at"l3"
  refine⟨G,_,w,n,rfl,rfl,by omega,hw,hR,?_⟩
  refine⟨true,rfl,?_⟩
  rw[if_pos rfl]
  refine⟨⟨iQ 4 _ _ _,iQ 4 _ _ _⟩,?_⟩
  rw[qa,decide_eq_true rfl]
  exact q
theorem HV{m:Bool × Nat}(hm:m∈aF){w:Nat}{R:List (List Nat)}{H:Nat->Nat}(hR:RT (ae m) w R)(I:RR w R H):RT (ae m) w (fO m R w):=λr hr=>by
 obtain⟨f,hf,rfl⟩:=bP.mp hr
 obtain⟨k1,k2,_⟩:=tG hm hR I hf
 exact⟨k1,k2⟩
theorem RR.nz{m:Bool × Nat}(hm:m∈aF){w:Nat}{R:List (List Nat)}{H:Nat->Nat}(hR:RT (ae m) w R)(I:RR w R H):∀r∈R,∃x∈r,x≠0:=λr bI=>by
 obtain⟨j,hj,rfl⟩:=fC bI
 have:=(I.AJ hm hR hj).2
 rw[xY hj]at this
 exact this
theorem cb4{m:Bool × Nat}(hm:m∈aF){w:Nat}{A K:List (List Nat)}{H:Nat->Nat}(hA:RT (ae m) w A)(I:RR w A H)(eK:fO m A w=K)(a0:A≠[])(k0:K≠[]):bq K=w/\RT (ae m) w K/\(∀r∈cw m K,∃x∈r,x≠0)/\RT (ae m) w (fO m (cw m K) w)/\bq (fO m (cw m K) w)=w/\cw m (fO m (cw m K) w)=A:=by
 have hK:RT (ae m) w K:=eK ▸ HV hm hA I
 have wK:=AL hK k0
 subst wK
 obtain⟨⟨J,IJ⟩,rR,_,sp⟩:=xW hm hK
 have yy:=HV hm rR IJ
 have z0:∀{x:List Nat},x.length=bq K->∀k,¬ k<bq K->cf x k=0:=λh k hk=>jE (by omega)
 have lo:=lo1 hm
 have mK:∀f,f∈bS A (bq K)->cF m A (bq K) f∈K:=λf hf=>Eq.mp (congrArg (cF m A (bq K) f∈·) eK) (bP.mpr ⟨f,hf,rfl⟩)
 have Km:∀x,x∈K->∃f,f∈bS A (bq K)/\cF m A (bq K) f=x:=λx hx=>bP.mp (Eq.mp (congrArg (x∈·) eK.symm) hx)
 have s1:∀x∈fO m (cw m K) (bq K),bH m A (cf x):=λx hx=>by
  have fq:=yy x hx
  obtain⟨f',Fl,rfl⟩:=bP.mp hx
  have z:∀k,cf (cF m (cw m K) (bq K) f') k<ae m:=λk=>fq.2.getD (by omega) k
  have ann:∀f,f∈bS A (bq K)->dt m (bq K) (cf (cF m A (bq K) f)) (cf (cF m (cw m K) (bq K) f'))=0:=λf hf=>cc9 hm hK Fl _ (mK f hf)
  have e:cf (cF m (cw m K) (bq K) f')=λk=>sm (gp m) A.length λi=>gm m (cf (cF m (cw m K) (bq K) f') (H i)) (cf (A.getD i []) k):=funext λk=>by
   by_cases hk:k<bq K
   ·exact I.cN3 hm hA z ann hk
   ·rw[z0 fq.1 k hk,fv (rg hm) λj hj=>?_]
    rw[z0 (hA _ (cK hj [])).1 k hk]
    exact(rg hm).qz _
  rw[e]
  exact HP hm (λi=>z _) _ (aZ _)
 have s2:∀a∈A,bH m (fO m (cw m K) (bq K)) (cf a):=λa ha=>by
  have R3:=hA a ha
  obtain⟨i,hi,rfl⟩:=fC ha
  have z:∀k,cf A[i] k<ae m:=λk=>R3.2.getD (by omega) k
  have ann:∀j,j<(cw m K).length->dt m (bq K) (cf ((cw m K).getD j [])) (cf A[i])=0:=λj hj=>by
   refine bH.dt hm (R:=K) (λb hb=>?_) ((sp _).mpr (bH.of (cK hj [])))
   obtain⟨f,hf,e⟩:=Km _ (cK hb [])
   rw[<-e,Qj,<- xY hi]
   exact xX hm hA I hf hi
  have e:cf A[i]=λk=>sm (gp m) (bS (cw m K) (bq K)).length λa=>gm m (cf A[i] ((bS (cw m K) (bq K)).getD a 0)) (cf (cF m (cw m K) (bq K) ((bS (cw m K) (bq K)).getD a 0)) k):=funext λk=>by
   by_cases hk:k<bq K
   ·exact IJ.ker hm rR z ann hk
   ·rw[z0 R3.1 k hk,fv (rg hm) λj hj=>?_]
    rw[z0 (yy _ (bP.mpr ⟨_,cK hj 0,rfl⟩)).1 k hk]
    exact(rg hm).qz _
  rw[e]
  exact Sp.sm (λj _=>z _) λj hj=>bH.of (bP.mpr ⟨_,cK hj 0,rfl⟩)
 have n0:fO m (cw m K) (bq K)≠[]:=λe=>by
  cases A with
  | nil=>exact a0 rfl
  | cons a A =>
   have s:=s2 a (by simp)
   rw[e]at s
   obtain⟨c,_,hc⟩:=s.sum hm (w:=0) (λ_ h=>absurd h (by simp))
   obtain⟨x,hx,wu⟩:=RR.nz hm hA I a (by simp)
   obtain⟨j,hj,rfl⟩:=fC hx
   have:=hc j
   unfold cf at this
   rw[aQ,aN hj]at this
   exact wu this
 have Bt:=AL yy n0
 refine⟨rfl,hK,RR.nz hm rR IJ,yy,Bt,Ql hm (H:=H) ?_ ?_ ?_ s1 s2⟩
 ·rw[Bt];exact yy
 ·rw[Bt];exact hA
 ·rw[Bt];exact I
theorem cr1(T:Txt K mg t)(hB:Bm mg base):aO P w K mg base aV 11 t.Hs t.Ht ["_law_script"] (xv [t.jI,t.jJ] (bE (Oi ))):=by
 refine O3 T.c50 hW ?_ ?_
 ·intro ds Q h
  obtain⟨ns,rfl,hl,q⟩:=h<;>rfl
 ·intro aH A outer s H E hT hr
  refine⟨_,(aE (bb (i:=1) hW.nd rfl (aq rfl) (bG ((aK9 T).mono (by decide)) hr rfl T.aM4 T.QU.kp T.aM5 bj (ai (ag (bG ((kA T).mono (by decide)) hr rfl T.kq T.jL.kp T.kr bj (ai (bv 0) (ai (ag az) aB)))) aB)))
   (aE (bb (i:=2) hW.nd rfl (aq rfl) (cb8 hT ((aI7 T hB).mono (by decide)) hr rfl T.aK1 T.Q7.kp T.aK2 bj (ai (bv 1) aB)))
   (aE (bb (i:=3) hW.nd rfl (bh rfl) (aC eC (ag az) (ag (aC df (ag (bG ((kA T).mono (by decide)) hr rfl T.kq T.jL.kp T.kr bj (ai (bv 0) (ai (ag az) aB)))) (ag az)))))
   (aE (bb (i:=4) hW.nd rfl (aq rfl) (aC df (ag (bG ((kA T).mono (by decide)) hr rfl T.kq T.jL.kp T.kr bj (ai (bv 0) (ai (ag az) aB)))) (ag az)))
   (aE (da (cO (fY (dB hr)) (ag (aC df (ag (aC nq (ag (bG ((kA T).mono (by decide)) hr rfl T.kq T.jL.kp T.kr bj (ai (bv 0) (ai (ag az) aB)))) (ag az))) (ag az))) (ag az) (cI _)) (aE (bb (i:=3) hW.nd rfl (bh rfl) (aC eC (ag az) (ag (aC df (ag (aC nq (ag (bG ((kA T).mono (by decide)) hr rfl T.kq T.jL.kp T.kr bj (ai (bv 0) (ai (ag az) aB)))) (ag az))) (ag az)))))
    (aJ (bb (i:=4) hW.nd rfl (aq rfl) (aC df (bv 4) (ag az))))) cZ)
   (aE (bb (i:=5) hW.nd rfl (aq rfl) (bK8 rfl (by rfl) T.c58 (by rfl) T.c57 (ai (ag (fA [("_law_wide",3),("_law_script",0)] ["_law_k"] rfl (i7 rfl T.gk (ai (bv 4) aB)) (λ_ _ _ _=>(dA (i:=2) (show(["_law_wide","_law_script","_law_k"]:List Str).Nodup by decide +kernel) rfl (aq (lookup_relabel_local rfl)) (by decide) (bh (lookup_relabel_local rfl)))) (λ_ _ _ _=>fm) (λ_ _ _ _=>(aC df (ag (bG ((kA T).mono (by decide)) hr rfl T.kq T.jL.kp T.kr bj (ai (bv 1) (ai (ag (aC eC (ag az) (bv 2))) aB)))) (bv 0))) rfl ⟨rfl,⟨rfl,trivial⟩⟩ (λ_=>by repeat' (first | exact trivial | refine⟨.inl rfl,?_⟩ | refine⟨.inr (.inl rfl),?_⟩ | refine⟨.inr (.inr ⟨_,rfl⟩),?_⟩)) (λ_=>⟨⟨rfl,.inl rfl,.inl rfl,_,rfl,rfl⟩,⟨⟨rfl,.inl rfl,.inl rfl,_,rfl,rfl⟩,trivial⟩⟩) rfl (by decide +kernel))) aB)))
   (aE (bb (i:=6) hW.nd rfl (aq rfl) (bG ((aH0 T).mono (by decide)) hr rfl T.aH9 T.Q8.kp T.aI0 bj (ai (bv 1) (ai (bv 0) (ai (ag az) (ai (bv 3) (ai (bv 5) aB)))))))
   (zP 6 (aE (bb (i:=7) hW.nd rfl (aq rfl) (fo (ZF rfl) (by rfl) T.c56 X5 (ai (ag az) (ai (ag (aC eC (ag (fo (g7) (by rfl) T.ia gR (ai (bv 5) aB))) (ag (aC df (ag (aC nq (ag (bG ((kA T).mono (by decide)) hr rfl T.kq T.jL.kp T.kr bj (ai (bv 0) (ai (ag az) aB)))) (ag az))) (ag az))))) aB))))
   (aE (bb (i:=8) hW.nd rfl (aq rfl) (bG ((aL7 T).mono (by decide)) hr rfl T.aM8 T.Rh.kp T.aM9 bj (ai (bv 1) (ai (bv 0) (ai (bv 6) (ai (bv 7) (ai (bv 3) (ai (ag (aC nq (ag (bG ((kA T).mono (by decide)) hr rfl T.kq T.jL.kp T.kr bj (ai (bv 0) (ai (ag az) aB)))) (ag az))) aB))))))))
   (aE (bb (i:=9) hW.nd rfl (aq rfl) (bG ((aN7 T).mono (by decide)) hr rfl T.aO2 T.Rj.kp T.aO3 bj (ai (bv 1) (ai (bv 6) (ai (bv 5) (ai (bv 3) aB))))))
   (aE (bb (i:=10) hW.nd rfl (aq rfl) (bG ((RM T).mono (by decide)) hr rfl T.Rk T.Hx.kp T.Rl bj (ai (bv 8) aB)))
   (aE (bb (i:=11) hW.nd rfl (aq rfl) (bG ((HU T).mono (by decide)) hr rfl T.HC T.Be.kp T.HD bj (ai (bv 2) (ai (bv 10) aB))))
   (aE (da (PW.pt (wk (zN (ni (ag (bG ((aM2 T).mono (by decide)) hr rfl T.aN2 T.RD.kp T.aN3 bj (ai (bv 11) (ai (bv 9) (ai (bv 3) (ai (ag (bG ((Bq T).mono (by decide)) hr rfl T.Bc T.yb.kp T.Bd bj (ai (bv 1) aB))) aB)))))))) (vD (cO (lH (dB hr)) (bv 10) (bv 8) (cI _))))) (aJ (bc j9)) cZ)
   (aE (nt (i:=11) rfl (by first | exact aq rfl | exact bh (aq rfl)) (fA [] ["_law_k"] rfl (i7 rfl T.gk (ai (bv 3) aB)) (λ_ _ _ _=>(dA (i:=0) (show(["_law_k"]:List Str).Nodup by decide +kernel) rfl (aq (lookup_relabel_local rfl)) (by decide) (bh (lookup_relabel_local rfl)))) (λ_ _ _ _=>fm) (λ_ _ _ _=>az) rfl trivial (λ_=>by repeat' (first | exact trivial | refine⟨.inl rfl,?_⟩ | refine⟨.inr (.inl rfl),?_⟩ | refine⟨.inr (.inr ⟨_,rfl⟩),?_⟩)) (λ_=>trivial) rfl (by decide +kernel)))
   (aE (da (cO (lH (dB hr)) (ag (bG ((HU T).mono (by decide)) hr rfl T.HC T.Be.kp T.HD bj (ai (bv 2) (ai (bv 10) aB)))) (bv 9) (cI _)) (aJ (bc j9)) cZ)
   (aE (da (PW.pt (wk (cO (fY (dB hr)) (bv 9) (ag (fk eI)) (cI _)) (vD (cO (fY (dB hr)) (bv 6) (ag (fk eI)) (cI _))))) (aJ (bc j9)) cZ)
   (aJ (bc (wj (fY (dB hr)) (ag (bG ((R1 T).mono (by decide)) hr rfl T.Ry T.HB.kp T.Rz bj (ai (bv 2) (ai (ag (bG ((HU T).mono (by decide)) hr rfl T.HC T.Be.kp T.HD bj (ai (bv 2) (ai (ag (bG ((RM T).mono (by decide)) hr rfl T.Rk T.Hx.kp T.Rl bj (ai (bv 9) aB))) aB)))) aB)))) (bv 6) (cI _))))))))))))))))))))),λds Q h=>?_⟩
  obtain⟨ns,rfl,hl,q⟩:=h
  refine aD λU hU=>?_
  walk_at"l3"
  refine⟨ns,0,rfl,by decide,by decide,_,rfl,rfl,hU _ ?_⟩
  clear hU U
  generalize hmm:nM (eO ns 0)=m
  have hm:m∈aF:=by rw[<-hmm];exact bX8 _
  have hF:=dE hm
  have jw:=hF.lo
  have hhi:=hF.hi
  have RK:=EZ m hm
  have m0:=cQ m hm
  refine aD λU hU=>?_
  walk_at"l3"
  refine⟨m,rfl,hm,hU _ ?_⟩
  clear hU U
  refine aD λU hU=>?_
  walk_at"l3"
  refine⟨ns,1,rfl,by decide,by decide,?_⟩
  dsimp only
  obtain⟨wa,R4,R5,R6⟩:∃k:Nat,1+eO ns 1%6=k/\1<=k/\k<=64:=⟨(1+eO ns 1%6).toNat,by omega,by omega,by omega⟩
  rw[R4]
  refine⟨by decide,hU _ ?_⟩
  clear hU U
  refine aD λU hU=>?_
  walk_at"l3"
  refine⟨ns,2,rfl,by decide,by decide,?_⟩
  dsimp only
  obtain⟨ca,R7,sY⟩:∃k:Nat,eO ns 2%7=k/\k<=6:=⟨(eO ns 2%7).toNat,by omega,by omega⟩
  rw[R7]
  refine⟨by decide,hU _ ?_⟩
  clear hU U
  refine aD λU hU=>?_
  walk_at"l3"
  refine⟨ns,1,rfl,by decide,by decide,?_⟩
  dsimp only
  refine⟨nk (by decide) (by decide),by decide,?_⟩
  have fin:∀wi ct:Nat,1<=wi->wi<=64->ct<=6->U [some (D.fz (nums ns)),some (cu m),some (fD t.aS t.aU m),some (D.int wi),some (D.int ct),none,none,none,none,none,none,none]:=by
   clear R4 R5 R6 R7 sY wa ca
   intro wi ct hw1 hw hc
   refine hU _ ?_
   clear hU U
   have jN:∀X:List (List Nat),(D.lst true (aG true X)).fr=true:=λX=>by rw[fU,E7];rfl
   have R8:∀X:List (List Nat),(D.lst true (aG true X)).sh=D.lst false (aG false X):=λX=>by rw[eB,gh]
   refine aD λU hU=>?_
   walk_at"l3"
   have uQ:∀z:Int,z%(wi:Int)=(((z%(wi:Int)).toNat:Nat):Int):=λz=>by
    have n0:=iX z (show(wi:Int)≠0 by omega)
    omega
   have uR:∀z:Int,(z%(wi:Int)).toNat<wi:=λz=>by
    have n1:=iY z (show(0:Int)<(wi:Int) by omega)
    omega
   refine⟨⟨by omega,by omega⟩,gD (aR ct) (λ(i:Nat)=>D.int (i:Int)) (λk=>D.int (((eO ns (3+(k:Int))%(wi:Int)).toNat:Nat):Int)) (tE _ rfl) lU (λk hk=>?_) (.inr λ_ _=>rfl) (by rw[cV,sL];omega) ?_⟩
   ·have hk:=dO.mp hk
    walk_at"l3"
    refine⟨ns,_,rfl,by omega,by omega,?_⟩
    dsimp only
    exact⟨by omega,uQ _⟩
   obtain⟨wd,er,R9,lwd⟩:∃wd:List Nat,((aR ct).map λ(k:Nat)=>D.int (((eO ns (3+(k:Int))%(wi:Int)).toNat:Nat):Int))=av wd/\(∀h∈wd,h<wi)/\wd.length=ct:=by
    refine⟨(aR ct).map λ(k:Nat)=>(eO ns (3+(k:Int))%(wi:Int)).toNat,by rw[dN,dG];rfl,λa ha=>?_,by simp⟩
    obtain⟨k,_,rfl⟩:=bP.mp ha
    exact uR _
   rw[er]
   clear er uQ uR
   refine⟨_,rfl,by rw[bO];omega,λms h1 h2=>?_⟩
   obtain⟨hs,e1,hp,lC,hle⟩:=cy4 h1 h2
   rw[e1]
   have eA:∀h∈hs,h<wi:=λh hh=>R9 h ((lC h).mp hh)
   clear e1 h1 h2 lC R9 ms
   refine hU _ ?_
   clear hU U
   refine aD λU hU=>?_
   walk_at"l3"
   refine⟨m,ns,9,wi,hs,rfl,hm,by decide,hw,by omega,hp,eA,λA' hA hR I=>⟨jN _,hU _ ?_⟩⟩
   clear hU U
   simp only[lj,iu,ir,ou,oq,mS,exists_eq_left',eB,gh]
   refine aD λU hU=>?_
   walk_at"l3"
   refine⟨ns,2,rfl,by decide,by decide,?_⟩
   dsimp only
   refine⟨nk (by decide) (by decide),by decide,?_⟩
   obtain⟨n,en,HQ,qV,hn3⟩:∃n:Nat,(if(hs.length:Int)+eO ns 2/7%3>1 then(hs.length:Int)+eO ns 2/7%3 else 1)=n/\1<=n/\n<=64/\A'.length<=n:=by
    refine⟨(if(hs.length:Int)+eO ns 2/7%3>1 then(hs.length:Int)+eO ns 2/7%3 else 1).toNat,?_⟩
    split<;>omega
   rw[en]
   refine hU _ ?_
   clear hU U en
   refine aD λU hU=>?_
   walk_at"l3"
   refine⟨ns,2,rfl,by decide,by decide,?_⟩
   dsimp only
   refine⟨nk (by decide) (by decide),m,ns,A',n,wi,_,rfl,hm,by omega,hR,HQ,qV,hw,λTa M=>?_⟩
   refine hU _ ?_
   clear hU U
   obtain⟨wT,rT⟩:=M.red hm hR I (by omega) hn3
   have lT:=M.l
   have hT:RT (ae m) (bq Ta) Ta:=by rw[wT];exact M.r
   have eL:A'.map bD=hs:=by
    rw[I.heads hm hR,hA]
    refine qH (by simp) λi h1 h2=>?_
    rw[qI,CN]
    exact uP h2
   have nz:∀r∈A',r.length<=1000/\∃x∈r,x≠0:=λr bI=>by
    obtain⟨j,hj,rfl⟩:=fC bI
    refine⟨by rw[(hR _ bI).1];omega,?_⟩
    have:=(I.AJ hm hR hj).2
    rw[xY hj]at this
    exact this
   refine aD λU hU=>?_
   walk_at"l3"
   refine⟨m,A',wi,by rw[eL],hm,by omega,hR,λr bI=>(nz r bI).2,hw,jN _,hU _ ?_⟩
   clear hU U
   have HW:=HV hm hR I
   have lK:(fO m A' wi).length<=64:=by
    unfold fO bS
    rw[bO]
    refine dP (CW _ _) ?_
    rw[cV];omega
   generalize eK:fO m A' wi=Kr at HW lK ⊢
   refine aD λU hU=>?_
   walk_at"l3"
   refine⟨Ta,rfl,by omega,jN _,hU _ ?_⟩
   clear hU U
   refine aD λU hU=>?_
   walk_at"l3"
   refine⟨m,Ta,rfl,hm,by omega,hT,by omega,by rw[rT];exact λr bI=>(nz r bI).2,jN _,?_⟩
   rw[rT,wT,eK]
   refine hU _ ?_
   clear hU U
   refine aD λU hU=>?_
   walk_at"l3"
   refine⟨m,rfl,by omega,by omega,Kr,wi,ae m,rfl,by omega,by omega,HW,rfl,true,rfl,?_⟩
   rw[if_neg (by decide)]
   refine⟨⟨iQ 4 _ _ _,iQ 4 _ _ _⟩,?_⟩
   rw[qa,decide_eq_true rfl,if_neg (by decide)]
   refine hU _ ?_
   clear hU U
   refine aD λU hU=>?_
   walk_at"l3"
   refine⟨⟨_,rfl⟩,⟨by omega,by omega⟩,Py (n:=wi) rfl (by omega) ⟨_,rfl,by rw[km];omega,hU _ ?_⟩⟩
   clear hU U
   simp only[iu,ir]
   generalize (D.lst true (aG true Kr++[D.lst true (av (aT wi 0))]))=d17
   refine aD λU hU=>?_
   walk_at"l3"
   refine⟨m,Ta,rfl,hm,by omega,hT,by omega,by rw[rT];exact λr bI=>(nz r bI).2,jN _,?_⟩
   rw[rT,wT,eK]
   refine⟨⟨iQ 4 _ _ _,iQ 4 _ _ _⟩,?_⟩
   rw[qa,decide_eq_true rfl,if_neg (by decide)]
   refine hU _ ?_
   clear hU U
   refine aD λU hU=>?_
   walk_at"l3"
   refine⟨by decide,⟨iQ 4 _ _ _,iQ 4 true true []⟩,?_⟩
   have de:=qa true true true true Kr []
   rw[show aG true []=[] from rfl]at de
   rw[de]
   by_cases k0:Kr=[]
   ·rw[decide_eq_true k0,if_pos rfl]
    exact q
   rw[decide_eq_false k0,if_neg (by decide)]
   refine⟨by decide,⟨iQ 4 _ _ _,iQ 4 true true []⟩,?_⟩
   have Sa:=qa false true false true A' []
   rw[show aG true []=[] from rfl]at Sa
   rw[Sa]
   by_cases a0:A'=[]
   ·rw[decide_eq_true a0,if_pos rfl]
    exact q
   rw[decide_eq_false a0,if_neg (by decide)]
   refine hU _ ?_
   clear hU U
   obtain⟨wK,_,k2,k3,k4,k5⟩:=cb4 hm hR I eK a0 k0
   have l2:(fO m (cw m Kr) wi).length<=64:=by
    unfold fO bS
    rw[bO]
    refine dP (CW _ _) ?_
    rw[cV];omega
   walk_at"l3"
   refine⟨Kr,rfl,by omega,jN _,m,Kr,by rw[R8],hm,by omega,by rw[wK];exact HW,by omega,k2,by rw[jN,kJ],?_⟩
   rw[wK]
   refine⟨m,fO m (cw m Kr) wi,by rw[R8],hm,by omega,by rw[k4];exact k3,by omega,by rw[jN,kJ],⟨iQ 4 _ _ _,iQ 4 _ _ _⟩,?_⟩
   rw[k5,qa,decide_eq_true rfl]
   exact q
  split
  ·refine aD λU hU=>?_
   walk_at"l3"
   refine⟨ns,1,rfl,by decide,by decide,?_⟩
   dsimp only
   obtain⟨wb,ewb,dg6,dg7⟩:∃k:Nat,1+eO ns 1/48%20=k/\1<=k/\k<=64:=⟨(1+eO ns 1/48%20).toNat,by omega,by omega,by omega⟩
   rw[ewb]
   refine⟨nk (by decide) (by decide),by decide,hU _ ?_⟩
   walk_at"l3"
   refine⟨by decide,?_⟩
   rw[show((ca:Int)%3)=((ca%3:Nat):Int) by omega]
   exact fin wb (ca%3) dg6 dg7 (by omega)
  ·exact fin wa ca R5 R6 sY
end
set_option maxHeartbeats 0 in
theorem all_mk{l:PySem.W.OpenLaw}{w:World}{K:Frag}{h:Heap}{mg:Str->Option Value}{fa:Addr}{ts:List Addr}(X:K.In h)(G:h.Ns mainGlobals mg)(hfa:mg "law"=some (.ref fa))
  {od0 an0:Option Addr} {sl0:Array (Option Value)} {oc0 kV0 dc0 pm0 Sb ct0:Value} {f0:Addr}
  {od1 an1:Option Addr} {sl1:Array (Option Value)} {oc1 kV1 dc1 pm1 Sd ct1:Value} {f1:Addr}
  {od2 an2:Option Addr} {sl2:Array (Option Value)} {oc2 kV2 dc2 pm2 Se ct2:Value} {f2:Addr}
  {od3 an3:Option Addr} {sl3:Array (Option Value)} {oc3 kV3 dc3 pm3 Sf ct3:Value} {f3:Addr}
  {od4 an4:Option Addr} {sl4:Array (Option Value)} {oc4 kV4 dc4 pm4 Sg ct4:Value} {f4:Addr}
  {od5 an5:Option Addr} {sl5:Array (Option Value)} {oc5 kV5 dc5 pm5 Sh ct5:Value} {f5:Addr}
  {od6 an6:Option Addr} {sl6:Array (Option Value)} {oc6 kV6 dc6 pm6 Si ct6:Value} {f6:Addr}
  {od7 an7:Option Addr} {sl7:Array (Option Value)} {oc7 kV7 dc7 pm7 ct7:Value} {f7:Addr}
  {yz jI:Addr} {aB8:Option Addr} {aB9:Array (Option Value)} {Sj:Array Value} {aC0:Value}
  {od8 an8:Option Addr} {sl8:Array (Option Value)} {oc8 kV8 dc8 pm8 Sk ct8:Value} {f8:Addr}
  {od9 an9:Option Addr} {sl9:Array (Option Value)} {oc9 kV9 dc9 pm9 Sl ct9:Value} {f9:Addr}
  {dp2 dp3:Option Addr} {dp4:Array (Option Value)} {dp5 dp6 dp7 dp8 Sm dp9:Value} {Bu:Addr}
  {dq0 dq1:Option Addr} {dq2:Array (Option Value)} {dq3 dq4 dq5 dq6 Sn dq7:Value} {Bv:Addr}
  {dq8 dq9:Option Addr} {dr0:Array (Option Value)} {dr1 dr3 dr4 dr5 So dr6:Value} {ka:Addr}
  {dr7 dr8:Option Addr} {dr9:Array (Option Value)} {ds0 ds1 ds2 ds3 ds4:Value} {uU:Addr}
  {yA jJ:Addr} {aE7:Option Addr} {aE8:Array (Option Value)} {Sq:Array Value} {aE9:Value}
  {ds8 ds9:Option Addr} {dt0:Array (Option Value)} {dt1 dt2 dt3 dt4 Sr dt5:Value} {Bw:Addr}
  {dt6 dt7:Option Addr} {dt8:Array (Option Value)} {dt9 du0 du1 du2 Ss du3:Value} {Bz:Addr}
  {du4 du5:Option Addr} {du6:Array (Option Value)} {du7 du8 du9 dv0 Su dv1:Value} {BA:Addr}
  {dv2 dv3:Option Addr} {dv4:Array (Option Value)} {dv5 dv6 dv7 dv8 Sv dv9:Value} {BB:Addr}
  {dw0 dw1:Option Addr} {dw2:Array (Option Value)} {dw3 dw4 dw5 dw6 Sw dw7:Value} {BC:Addr}
  {dw8 dw9:Option Addr} {dx0:Array (Option Value)} {dx1 dx2 dx3 dx4 Sx dx5:Value} {BD:Addr}
  {dx6 dx7:Option Addr} {dx8:Array (Option Value)} {dx9 dy0 dy1 dy2 Sy dy3:Value} {BE:Addr}
  {dy4 dy5:Option Addr} {dy6:Array (Option Value)} {dy7 dy8 dy9 dz0 Sz dz1:Value} {BF:Addr}
  {dz2 dz3:Option Addr} {dz4:Array (Option Value)} {dz5 dz6 dz7 dz8 SA dz9:Value} {BG:Addr}
  {dA0 dA1:Option Addr} {dA2:Array (Option Value)} {dA3 dA4 dA5 dA6 SD dA7:Value} {BH:Addr}
  {dA8 dA9:Option Addr} {dB0:Array (Option Value)} {dB1 dB2 dB3 dB4 SE dB5:Value} {rN:Addr}
  {dB6 dB7:Option Addr} {dB8:Array (Option Value)} {dB9 dC0 dC1 dC2 SF dC3:Value} {BJ:Addr}
  {dC4 dC5:Option Addr} {dC6:Array (Option Value)} {dC7 dC8 dC9 dD0 SG dD1:Value} {BK:Addr}
  {dD2 dD3:Option Addr} {dD4:Array (Option Value)} {dD5 dD6 dD7 dD8 SH dD9:Value} {BL:Addr}
  {dE0 dE1:Option Addr} {dE2:Array (Option Value)} {dE3 dE4 dE5 dE6 SI dE7:Value} {uV:Addr}
  {dE8 dE9:Option Addr} {dF0:Array (Option Value)} {dF1 dF2 dF3 dF4 SJ dF5:Value} {uW:Addr}
  {dF6 dF7:Option Addr} {dF8:Array (Option Value)} {dF9 dG0 dG1 dG2 SK dG3:Value} {BM:Addr}
  {dG4 dG5:Option Addr} {dG6:Array (Option Value)} {dG7 dG8 dG9 dH0 SM dH1:Value} {BN:Addr}
  {dH2 dH3:Option Addr} {dH4:Array (Option Value)} {dH5 dH6 dH7 dH8 SN dH9:Value} {BO:Addr}
  {dI0 dI1:Option Addr} {dI2:Array (Option Value)} {dI3 dI4 dI5 dI6 SO dI7:Value} {uX:Addr}
  {dI8 dI9:Option Addr} {dJ0:Array (Option Value)} {dJ1 dJ2 dJ3 dJ4 SQ dJ5:Value} {uY:Addr}
  {dJ6 dJ7:Option Addr} {dJ8:Array (Option Value)} {dJ9 dK0 dK1 dK2 SR dK3:Value} {uZ:Addr}
  {dK4 dK5:Option Addr} {dK6:Array (Option Value)} {dK7 dK8 dK9 dL0 SS dL1:Value} {u3:Addr}
  {dL2 dL3:Option Addr} {dL4:Array (Option Value)} {dL5 dL6 dL7 dL8 SU dL9:Value} {BP:Addr}
  {dM0 dM1:Option Addr} {dM2:Array (Option Value)} {dM3 dM4 dM5 dM6 SV dM7:Value} {nY:Addr}
  {dM8 dM9:Option Addr} {dN0:Array (Option Value)} {dN1 dN2 dN3 dN4 SW dN5:Value} {BQ:Addr}
  {dN6 dN7:Option Addr} {dN8:Array (Option Value)} {dN9 dO0 dO1 dO2 SX dO3:Value} {BR:Addr}
  {dO4 dO5:Option Addr} {dO6:Array (Option Value)} {dO7 dO8 dO9 dP2 SY dP3:Value} {BS:Addr}
  {dP4 dP5:Option Addr} {dP6:Array (Option Value)} {dP7 dP8 dP9 dQ0 S0 dQ1:Value} {BU:Addr}
  {dQ2 dQ3:Option Addr} {dQ4:Array (Option Value)} {dQ5 dQ6 dQ7 dQ8 S3 dQ9:Value} {BV:Addr}
  {dR0 dR3:Option Addr} {dR4:Array (Option Value)} {dR5 dR6 dR7 dR8 S4 dR9:Value} {BW:Addr}
  {dS0 S5:Option Addr} {dS1:Array (Option Value)} {dS2 S6 S7 S8 HX S9:Value} {HY:Addr}
  {aS gj jK aU:Addr}
  (yt:nsIn K mainGlobals "BitField"=some (some (.ref aS)))
  (yu:nsIn K mainGlobals "ByNought"=some (some (.ref gj)))
  (uO:nsIn K mainGlobals "Field"=some (some (.ref jK)))
  (yv:nsIn K mainGlobals "PrimeField"=some (some (.ref aU)))
  (a0:nsIn K mainGlobals "_law_told"=some (some (.ref f0)))
  (l0:K.lookup f0=some ⟨oc0,od0,.func (fnOf "_law_told" "_law_told" (bB tK) (bf tK) (ay tK) .none kV0 dc0 pm0 an0 Sb ct0),sl0⟩)
  (c0:codeIn K Sb "_law_told"=true)
  (k0:keepIn K (.ref f0)=true)
  (a1:nsIn K mainGlobals "powers_of"=some (some (.ref f1)))
  (l1:K.lookup f1=some ⟨oc1,od1,.func (fnOf "powers_of" "powers_of" (bB tL) (bf tL) (ay tL) .none kV1 dc1 pm1 an1 Sd ct1),sl1⟩)
  (c1:codeIn K Sd "powers_of"=true)
  (k1:keepIn K (.ref f1)=true)
  (a2:nsIn K mainGlobals "step_powers"=some (some (.ref f2)))
  (l2:K.lookup f2=some ⟨oc2,od2,.func (fnOf "step_powers" "step_powers" (bB tM) (bf tM) (ay tM) .none kV2 dc2 pm2 an2 Se ct2),sl2⟩)
  (c2:codeIn K Se "step_powers"=true)
  (k2:keepIn K (.ref f2)=true)
  (a3:nsIn K mainGlobals "logs_of"=some (some (.ref f3)))
  (l3:K.lookup f3=some ⟨oc3,od3,.func (fnOf "logs_of" "logs_of" (bB tN) (bf tN) (ay tN) .none kV3 dc3 pm3 an3 Sf ct3),sl3⟩)
  (c3:codeIn K Sf "logs_of"=true)
  (k3:keepIn K (.ref f3)=true)
  (a4:findIn K (.ref jK) "step_power"=some (some (.ref f4)))
  (l4:K.lookup f4=some ⟨oc4,od4,.func (fnOf "step_power" "Field.step_power" (bB tO) (bf tO) (ay tO) .none kV4 dc4 pm4 an4 Sg ct4),sl4⟩)
  (c4:codeIn K Sg "Field.step_power"=true)
  (k4:keepIn K (.ref f4)=true)
  (a5:findIn K (.ref jK) "__init__"=some (some (.ref f5)))
  (l5:K.lookup f5=some ⟨oc5,od5,.func (fnOf "__init__" "Field.__init__" (bB tP) (bf tP) (ay tP) .none kV5 dc5 pm5 an5 Sh ct5),sl5⟩)
  (c5:codeIn K Sh "Field.__init__"=true)
  (k5:keepIn K (.ref f5)=true)
  (a6:nsIn K mainGlobals "makes_prime_field"=some (some (.ref f6)))
  (l6:K.lookup f6=some ⟨oc6,od6,.func (fnOf "makes_prime_field" "makes_prime_field" (bB tQ) (bf tQ) (ay tQ) .none kV6 dc6 pm6 an6 Si ct6),sl6⟩)
  (c6:codeIn K Si "makes_prime_field"=true)
  (k6:keepIn K (.ref f6)=true)
  (a7:findIn K (.ref aU) "__init__"=some (some (.ref f7)))
  (l7:K.lookup f7=some ⟨oc7,od7,.func (fnOf "__init__" "PrimeField.__init__" (bB my) (bf my) (ay my) .none kV7 dc7 pm7 an7 (.ref yz) ct7),sl7⟩)
  (c7:codeIn K (.ref yz) "PrimeField.__init__"=true)
  (k7:keepIn K (.ref f7)=true)
  (Tc:K.lookup yz=some ⟨aC0,aB8,.fields Sj,aB9⟩)
  (Td:Sj[11]?=some (.ref jI))
  (HZ:codeHdIn K yz jI=true)
  (a8:nsIn K mainGlobals "product_rows"=some (some (.ref f8)))
  (l8:K.lookup f8=some ⟨oc8,od8,.func (fnOf "product_rows" "product_rows" (bB tR) (bf tR) (ay tR) .none kV8 dc8 pm8 an8 Sk ct8),sl8⟩)
  (c8:codeIn K Sk "product_rows"=true)
  (k8:keepIn K (.ref f8)=true)
  (a9:nsIn K mainGlobals "bits_divided"=some (some (.ref f9)))
  (l9:K.lookup f9=some ⟨oc9,od9,.func (fnOf "bits_divided" "bits_divided" (bB tS) (bf tS) (ay tS) .none kV9 dc9 pm9 an9 Sl ct9),sl9⟩)
  (c9:codeIn K Sl "bits_divided"=true)
  (k9:keepIn K (.ref f9)=true)
  (Ia:nsIn K mainGlobals "stands_alone"=some (some (.ref Bu)))
  (Ib:K.lookup Bu=some ⟨dp5,dp2,.func (fnOf "stands_alone" "stands_alone" (bB tU) (bf tU) (ay tU) .none dp6 dp7 dp8 dp3 Sm dp9),dp4⟩)
  (Ic:codeIn K Sm "stands_alone"=true)
  (Ie:keepIn K (.ref Bu)=true)
  (Ig:nsIn K mainGlobals "makes_bit_field"=some (some (.ref Bv)))
  (Ih:K.lookup Bv=some ⟨dq3,dq0,.func (fnOf "makes_bit_field" "makes_bit_field" (bB tV) (bf tV) (ay tV) .none dq4 dq5 dq6 dq1 Sn dq7),dq2⟩)
  (Ii:codeIn K Sn "makes_bit_field"=true)
  (Ij:keepIn K (.ref Bv)=true)
  (Ik:nsIn K mainGlobals "bits_times"=some (some (.ref ka)))
  (Il:K.lookup ka=some ⟨dr1,dq8,.func (fnOf "bits_times" "bits_times" (bB tW) (bf tW) (ay tW) .none dr3 dr4 dr5 dq9 So dr6),dr0⟩)
  (Im:codeIn K So "bits_times"=true)
  (Io:keepIn K (.ref ka)=true)
  (Te:findIn K (.ref aS) "__init__"=some (some (.ref uU)))
  (Ip:K.lookup uU=some ⟨ds0,dr7,.func (fnOf "__init__" "BitField.__init__" (bB mB) (bf mB) (ay mB) .none ds1 ds2 ds3 dr8 (.ref yA) ds4),dr9⟩)
  (Iq:codeIn K (.ref yA) "BitField.__init__"=true)
  (Ir:keepIn K (.ref uU)=true)
  (Tf:K.lookup yA=some ⟨aE9,aE7,.fields Sq,aE8⟩)
  (Tg:Sq[11]?=some (.ref jJ))
  (Iu:codeHdIn K yA jJ=true)
  (Iw:nsIn K mainGlobals "_law_field"=some (some (.ref Bw)))
  (Iy:K.lookup Bw=some ⟨dt1,ds8,.func (fnOf "_law_field" "_law_field" (bB tX) (bf tX) (ay tX) .none dt2 dt3 dt4 ds9 Sr dt5),dt0⟩)
  (Iz:codeIn K Sr "_law_field"=true)
  (IA:keepIn K (.ref Bw)=true)
  (IB:nsIn K mainGlobals "_law_cell"=some (some (.ref Bz)))
  (IC:K.lookup Bz=some ⟨dt9,dt6,.func (fnOf "_law_cell" "_law_cell" (bB tY) (bf tY) (ay tY) .none du0 du1 du2 dt7 Ss du3),dt8⟩)
  (ID:codeIn K Ss "_law_cell"=true)
  (IE:keepIn K (.ref Bz)=true)
  (IF:nsIn K mainGlobals "_law_many"=some (some (.ref BA)))
  (IG:K.lookup BA=some ⟨du7,du4,.func (fnOf "_law_many" "_law_many" (bB tZ) (bf tZ) (ay tZ) .none du8 du9 dv0 du5 Su dv1),du6⟩)
  (IH:codeIn K Su "_law_many"=true)
  (II:keepIn K (.ref BA)=true)
  (IK:nsIn K mainGlobals "_law_answer"=some (some (.ref BB)))
  (IL:K.lookup BB=some ⟨dv5,dv2,.func (fnOf "_law_answer" "_law_answer" (bB t7) (bf t7) (ay t7) .none dv6 dv7 dv8 dv3 Sv dv9),dv4⟩)
  (IM:codeIn K Sv "_law_answer"=true)
  (IQ:keepIn K (.ref BB)=true)
  (IS:nsIn K mainGlobals "_law_plus"=some (some (.ref BC)))
  (IT:K.lookup BC=some ⟨dw3,dw0,.func (fnOf "_law_plus" "_law_plus" (bB t8) (bf t8) (ay t8) .none dw4 dw5 dw6 dw1 Sw dw7),dw2⟩)
  (IU:codeIn K Sw "_law_plus"=true)
  (IV:keepIn K (.ref BC)=true)
  (IW:nsIn K mainGlobals "_law_times"=some (some (.ref BD)))
  (IY:K.lookup BD=some ⟨dx1,dw8,.func (fnOf "_law_times" "_law_times" (bB t9) (bf t9) (ay t9) .none dx2 dx3 dx4 dw9 Sx dx5),dx0⟩)
  (IZ:codeIn K Sx "_law_times"=true)
  (Ja:keepIn K (.ref BD)=true)
  (Jb:nsIn K mainGlobals "_law_dot"=some (some (.ref BE)))
  (Jc:K.lookup BE=some ⟨dx9,dx6,.func (fnOf "_law_dot" "_law_dot" (bB ub) (bf ub) (ay ub) .none dy0 dy1 dy2 dx7 Sy dy3),dx8⟩)
  (Jd:codeIn K Sy "_law_dot"=true)
  (Je:keepIn K (.ref BE)=true)
  (Jf:nsIn K mainGlobals "_law_by_row"=some (some (.ref BF)))
  (Jg:K.lookup BF=some ⟨dy7,dy4,.func (fnOf "_law_by_row" "_law_by_row" (bB ud) (bf ud) (ay ud) .none dy8 dy9 dz0 dy5 Sz dz1),dy6⟩)
  (Jh:codeIn K Sz "_law_by_row"=true)
  (Ji:keepIn K (.ref BF)=true)
  (Jj:nsIn K mainGlobals "_law_made"=some (some (.ref BG)))
  (Jk:K.lookup BG=some ⟨dz5,dz2,.func (fnOf "_law_made" "_law_made" (bB ue) (bf ue) (ay ue) .none dz6 dz7 dz8 dz3 SA dz9),dz4⟩)
  (Jl:codeIn K SA "_law_made"=true)
  (Jm:keepIn K (.ref BG)=true)
  (Jn:nsIn K mainGlobals "_law_less"=some (some (.ref BH)))
  (Jo:K.lookup BH=some ⟨dA3,dA0,.func (fnOf "_law_less" "_law_less" (bB uf) (bf uf) (ay uf) .none dA4 dA5 dA6 dA1 SD dA7),dA2⟩)
  (Jp:codeIn K SD "_law_less"=true)
  (Jq:keepIn K (.ref BH)=true)
  (Jr:nsIn K mainGlobals "_law_due"=some (some (.ref rN)))
  (Js:K.lookup rN=some ⟨dB1,dA8,.func (fnOf "_law_due" "_law_due" (bB ug) (bf ug) (ay ug) .none dB2 dB3 dB4 dA9 SE dB5),dB0⟩)
  (Jt:codeIn K SE "_law_due"=true)
  (Ju:keepIn K (.ref rN)=true)
  (Jv:nsIn K mainGlobals "_law_copy"=some (some (.ref BJ)))
  (Jw:K.lookup BJ=some ⟨dB9,dB6,.func (fnOf "_law_copy" "_law_copy" (bB uh) (bf uh) (ay uh) .none dC0 dC1 dC2 dB7 SF dC3),dB8⟩)
  (Jx:codeIn K SF "_law_copy"=true)
  (Jy:keepIn K (.ref BJ)=true)
  (Jz:nsIn K mainGlobals "leads"=some (some (.ref BK)))
  (JA:K.lookup BK=some ⟨dC7,dC4,.func (fnOf "leads" "leads" (bB ui) (bf ui) (ay ui) .none dC8 dC9 dD0 dC5 SG dD1),dC6⟩)
  (JB:codeIn K SG "leads"=true)
  (JC:keepIn K (.ref BK)=true)
  (JE:nsIn K mainGlobals "free_places"=some (some (.ref BL)))
  (JF:K.lookup BL=some ⟨dD5,dD2,.func (fnOf "free_places" "free_places" (bB uj) (bf uj) (ay uj) .none dD6 dD7 dD8 dD3 SH dD9),dD4⟩)
  (JG:codeIn K SH "free_places"=true)
  (JH:keepIn K (.ref BL)=true)
  (Th:findIn K (.ref aS) "minus"=some (some (.ref uV)))
  (JI:K.lookup uV=some ⟨dE3,dE0,.func (fnOf "minus" "BitField.minus" (bB uk) (bf uk) (ay uk) .none dE4 dE5 dE6 dE1 SI dE7),dE2⟩)
  (JJ:codeIn K SI "BitField.minus"=true)
  (BX:keepIn K (.ref uV)=true)
  (Ti:findIn K (.ref aU) "minus"=some (some (.ref uW)))
  (JK:K.lookup uW=some ⟨dF1,dE8,.func (fnOf "minus" "PrimeField.minus" (bB um) (bf um) (ay um) .none dF2 dF3 dF4 dE9 SJ dF5),dF0⟩)
  (JL:codeIn K SJ "PrimeField.minus"=true)
  (BY:keepIn K (.ref uW)=true)
  (JM:nsIn K mainGlobals "kernel_of_reduced"=some (some (.ref BM)))
  (JN:K.lookup BM=some ⟨dF9,dF6,.func (fnOf "kernel_of_reduced" "kernel_of_reduced" (bB uo) (bf uo) (ay uo) .none dG0 dG1 dG2 dF7 SK dG3),dF8⟩)
  (JO:codeIn K SK "kernel_of_reduced"=true)
  (JP:keepIn K (.ref BM)=true)
  (JQ:nsIn K mainGlobals "width_of"=some (some (.ref BN)))
  (JR:K.lookup BN=some ⟨dG7,dG4,.func (fnOf "width_of" "width_of" (bB ur) (bf ur) (ay ur) .none dG8 dG9 dH0 dG5 SM dH1),dG6⟩)
  (JS:codeIn K SM "width_of"=true)
  (JT:keepIn K (.ref BN)=true)
  (JU:nsIn K mainGlobals "first_with"=some (some (.ref BO)))
  (JV:K.lookup BO=some ⟨dH5,dH2,.func (fnOf "first_with" "first_with" (bB uu) (bf uu) (ay uu) .none dH6 dH7 dH8 dH3 SN dH9),dH4⟩)
  (JW:codeIn K SN "first_with"=true)
  (JX:keepIn K (.ref BO)=true)
  (Tj:findIn K (.ref aS) "scaled"=some (some (.ref uX)))
  (JY:K.lookup uX=some ⟨dI3,dI0,.func (fnOf "scaled" "BitField.scaled" (bB uv) (bf uv) (ay uv) .none dI4 dI5 dI6 dI1 SO dI7),dI2⟩)
  (JZ:codeIn K SO "BitField.scaled"=true)
  (BZ:keepIn K (.ref uX)=true)
  (Tn:findIn K (.ref aU) "scaled"=some (some (.ref uY)))
  (J0:K.lookup uY=some ⟨dJ1,dI8,.func (fnOf "scaled" "PrimeField.scaled" (bB uw) (bf uw) (ay uw) .none dJ2 dJ3 dJ4 dI9 SQ dJ5),dJ0⟩)
  (J1:codeIn K SQ "PrimeField.scaled"=true)
  (B0:keepIn K (.ref uY)=true)
  (To:findIn K (.ref aS) "lessened"=some (some (.ref uZ)))
  (J2:K.lookup uZ=some ⟨dJ9,dJ6,.func (fnOf "lessened" "BitField.lessened" (bB uz) (bf uz) (ay uz) .none dK0 dK1 dK2 dJ7 SR dK3),dJ8⟩)
  (J3:codeIn K SR "BitField.lessened"=true)
  (B3:keepIn K (.ref uZ)=true)
  (Tp:findIn K (.ref aU) "lessened"=some (some (.ref u3)))
  (J4:K.lookup u3=some ⟨dK7,dK4,.func (fnOf "lessened" "PrimeField.lessened" (bB uA) (bf uA) (ay uA) .none dK8 dK9 dL0 dK5 SS dL1),dK6⟩)
  (J5:codeIn K SS "PrimeField.lessened"=true)
  (B4:keepIn K (.ref u3)=true)
  (J6:nsIn K mainGlobals "cleared"=some (some (.ref BP)))
  (J7:K.lookup BP=some ⟨dL5,dL2,.func (fnOf "cleared" "cleared" (bB uB) (bf uB) (ay uB) .none dL6 dL7 dL8 dL3 SU dL9),dL4⟩)
  (J8:codeIn K SU "cleared"=true)
  (J9:keepIn K (.ref BP)=true)
  (Tq:findIn K (.ref jK) "over"=some (some (.ref nY)))
  (Ka:K.lookup nY=some ⟨dM3,dM0,.func (fnOf "over" "Field.over" (bB uC) (bf uC) (ay uC) .none dM4 dM5 dM6 dM1 SV dM7),dM2⟩)
  (Kb:codeIn K SV "Field.over"=true)
  (yB:keepIn K (.ref nY)=true)
  (Kd:nsIn K mainGlobals "reduced"=some (some (.ref BQ)))
  (Ke:K.lookup BQ=some ⟨dN1,dM8,.func (fnOf "reduced" "reduced" (bB uD) (bf uD) (ay uD) .none dN2 dN3 dN4 dM9 SW dN5),dN0⟩)
  (Kf:codeIn K SW "reduced"=true)
  (Kg:keepIn K (.ref BQ)=true)
  (Kh:nsIn K mainGlobals "kernel"=some (some (.ref BR)))
  (Ki:K.lookup BR=some ⟨dN9,dN6,.func (fnOf "kernel" "kernel" (bB uE) (bf uE) (ay uE) .none dO0 dO1 dO2 dN7 SX dO3),dN8⟩)
  (Kj:codeIn K SX "kernel"=true)
  (Kk:keepIn K (.ref BR)=true)
  (Kl:nsIn K mainGlobals "_law_whole"=some (some (.ref BS)))
  (Kn:K.lookup BS=some ⟨dO7,dO4,.func (fnOf "_law_whole" "_law_whole" (bB uF) (bf uF) (ay uF) .none dO8 dO9 dP2 dO5 SY dP3),dO6⟩)
  (Ko:codeIn K SY "_law_whole"=true)
  (Kp:keepIn K (.ref BS)=true)
  (Kq:nsIn K mainGlobals "_law_row_kind"=some (some (.ref BU)))
  (Ks:K.lookup BU=some ⟨dP7,dP4,.func (fnOf "_law_row_kind" "_law_row_kind" (bB uG) (bf uG) (ay uG) .none dP8 dP9 dQ0 dP5 S0 dQ1),dP6⟩)
  (Kt:codeIn K S0 "_law_row_kind"=true)
  (Ku:keepIn K (.ref BU)=true)
  (Kv:nsIn K mainGlobals "_law_table_kind"=some (some (.ref BV)))
  (Kw:K.lookup BV=some ⟨dQ5,dQ2,.func (fnOf "_law_table_kind" "_law_table_kind" (bB uH) (bf uH) (ay uH) .none dQ6 dQ7 dQ8 dQ3 S3 dQ9),dQ4⟩)
  (Kx:codeIn K S3 "_law_table_kind"=true)
  (Ky:keepIn K (.ref BV)=true)
  (Kz:nsIn K mainGlobals "_law_same"=some (some (.ref BW)))
  (KA:K.lookup BW=some ⟨dR5,dR0,.func (fnOf "_law_same" "_law_same" (bB uI) (bf uI) (ay uI) .none dR6 dR7 dR8 dR3 S4 dR9),dR4⟩)
  (KC:codeIn K S4 "_law_same"=true)
  (KD:keepIn K (.ref BW)=true)
  (B5:nsIn K mainGlobals "law"=some (some (.ref HY)))
  (KG:K.lookup HY=some ⟨dS2,dS0,.func (fnOf "law" "law" (bB mC) (bf mC) (ay mC) .none S6 S7 S8 S5 HX S9),dS1⟩)
  (KH:codeIn K HX "law"=true)
  (KI:keepIn K (.ref HY)=true)
  (B6:PySem.W.plainGet K aS Str.empty=true)
  (B7:PySem.W.hasDictIn K aS=true)
  (B8:PySem.W.plainOver K aS=true)
  (B9:findIn K (.ref aS) "__setattr__"=some (some (.builtin "object.__setattr__")))
  (yc:PySem.W.makesIn K aS=true)
  (KJ:findIn K (.ref aS) "__init__"=some (some (.ref uU)))
  (KL:isFn K (.ref uU)=true)
  (KN:keepIn K (.ref aS)=true)
  (KO:findIn K (.ref aS) "__class__"=some (some (.builtin "object.__class__")))
  (KP:specialIn K (.builtin "object.__class__") "__get__"=some (some (.builtin "getset_descriptor.__get__")))
  (KQ:takesIn K (.builtin "object.__class__")=some true)
  (KR:mroIn K aS (.type "object")=some true)
  (yd:findIn K (.ref aS) "bits"=some none)
  (nU:findIn K (.ref aS) "logs"=some none)
  (uJ:findIn K (.ref aS) "many"=some none)
  (qh:findIn K (.ref aS) "powers"=some none)
  (Bf:findIn K (.ref aS) "prime"=some none)
  (qi:findIn K (.ref aS) "products"=some none)
  (ye:findIn K (.ref aS) "step"=some none)
  (yf:findIn K (.ref aS) "wide"=some none)
  (yg:findIn K (.ref aS) "lessened"=some (some (.ref uZ)))
  (KS:isFn K (.ref uZ)=true)
  (yh:findIn K (.ref aS) "minus"=some (some (.ref uV)))
  (KU:isFn K (.ref uV)=true)
  (yi:findIn K (.ref aS) "over"=some (some (.ref nY)))
  (KW:isFn K (.ref nY)=true)
  (yj:findIn K (.ref aS) "scaled"=some (some (.ref uX)))
  (KY:isFn K (.ref uX)=true)
  (uK:findIn K (.ref aS) "step_power"=some (some (.ref f4)))
  (KZ:isFn K (.ref f4)=true)
  (Ca:PySem.W.plainGet K aU Str.empty=true)
  (Cb:PySem.W.hasDictIn K aU=true)
  (Cc:PySem.W.plainOver K aU=true)
  (Cd:findIn K (.ref aU) "__setattr__"=some (some (.builtin "object.__setattr__")))
  (yk:PySem.W.makesIn K aU=true)
  (K0:findIn K (.ref aU) "__init__"=some (some (.ref f7)))
  (K1:isFn K (.ref f7)=true)
  (K2:keepIn K (.ref aU)=true)
  (K3:findIn K (.ref aU) "__class__"=some (some (.builtin "object.__class__")))
  (K4:specialIn K (.builtin "object.__class__") "__get__"=some (some (.builtin "getset_descriptor.__get__")))
  (K5:takesIn K (.builtin "object.__class__")=some true)
  (K6:mroIn K aU (.type "object")=some true)
  (Bg:findIn K (.ref aU) "bits"=some none)
  (qj:findIn K (.ref aU) "logs"=some none)
  (uL:findIn K (.ref aU) "many"=some none)
  (uM:findIn K (.ref aU) "powers"=some none)
  (nV:findIn K (.ref aU) "prime"=some none)
  (Bh:findIn K (.ref aU) "products"=some none)
  (yl:findIn K (.ref aU) "step"=some none)
  (ym:findIn K (.ref aU) "wide"=some none)
  (yn:findIn K (.ref aU) "lessened"=some (some (.ref u3)))
  (K7:isFn K (.ref u3)=true)
  (yo:findIn K (.ref aU) "minus"=some (some (.ref uW)))
  (K8:isFn K (.ref uW)=true)
  (yp:findIn K (.ref aU) "over"=some (some (.ref nY)))
  (K9:isFn K (.ref nY)=true)
  (yq:findIn K (.ref aU) "scaled"=some (some (.ref uY)))
  (La:isFn K (.ref uY)=true)
  (uN:findIn K (.ref aU) "step_power"=some (some (.ref f4)))
  (Lb:isFn K (.ref f4)=true)
  (Lc:specialIn K (.ref jK) "__getattribute__"=some (some (.builtin "type.__getattribute__")))
  (Ld:PySem.W.readsIn K jK (.type "type")=true)
  (Le:PySem.W.findCls K (.ref jK) (.type "type") "__init__"=some (.val (.ref f5)))
  (Lf:nsIn K mainGlobals "all"=some none)
  (Lg:nsIn K mainGlobals "bool"=some none)
  (Lh:nsIn K mainGlobals "enumerate"=some none)
  (Li:nsIn K mainGlobals "int"=some none)
  (Lj:nsIn K mainGlobals "isinstance"=some none)
  (Lk:nsIn K mainGlobals "len"=some none)
  (Ll:nsIn K mainGlobals "list"=some none)
  (Lm:nsIn K mainGlobals "max"=some none)
  (Ln:nsIn K mainGlobals "range"=some none)
  (Lo:nsIn K mainGlobals "set"=some none)
  (Lp:nsIn K mainGlobals "sorted"=some none)
  (Lq:nsIn K mainGlobals "zip"=some none)
  (Lr:(PySem.W.clsIn K gj).isSome=true)
  (Tr:PySem.W.typeIn K (.ref gj)=some (.type "type"))
  (Ls:PySem.W.excIn K gj [.type "ValueError",.type "Exception",.type "BaseException",.type "object"] "ValueError.__new__"=true)
  (Lu:findIn K (.ref gj) "__getattribute__"=some (some (.builtin "BaseException.__getattribute__")))
  (Lv:findIn K (.ref gj) "__getattr__"=some none)
  (Lw:findIn K (.ref gj) "__class__"=some (some (.builtin "object.__class__")))
  (Lx:specialIn K (.builtin "object.__class__") "__get__"=some (some (.builtin "getset_descriptor.__get__")))
  (Ly:takesIn K (.builtin "object.__class__")=some true)
  (Lz:mroIn K gj (.type "object")=some true)
  (LA:mroIn K gj (.type "BaseException")=some true)
  (nl:K.all (λp=>Es p.2)=true)
  (sub:∀P∈[jI,jJ],P∈ts) :
  ∃fd:FuncData,(∀(s:Shared) (v:Value),BindsTo s fd ⟨[v],[]⟩ [("_law_script",v)])/\∀base:Heap,K.In base->base.Ns mainGlobals mg->Bm mg base->aO l.prog w K mg base aV 11 fa fd ["_law_script"] (Aa ts K):=by
 have e:=hfa.symm.trans (mg_of X G B5)
 cases e
 have F0:=bK (st:=tK) l0 c0 k0
 have b0:=F0.binds (ps:=["_law_cell_here"]) λ_ _ _ _ _ _=>iT (λ_=>rfl)
 have F1:=bK (st:=tL) l1 c1 k1
 have b1:=F1.binds (ps:=["a","product"]) λ_ _ _ _ _ _=>hV (λ_ _=>rfl)
 have F2:=bK (st:=tM) l2 c2 k2
 have b2:=F2.binds (ps:=["many","product"]) λ_ _ _ _ _ _=>hV (λ_ _=>rfl)
 have F3:=bK (st:=tN) l3 c3 k3
 have b3:=F3.binds (ps:=["powers"]) λ_ _ _ _ _ _=>iT (λ_=>rfl)
 have F4:=bK (st:=tO) l4 c4 k4
 have b4:=F4.binds (ps:=["self","n"]) λ_ _ _ _ _ _=>hV (λ_ _=>rfl)
 have F5:=bK (st:=tP) l5 c5 k5
 have b5:=F5.binds (ps:=["self","many","product"]) λ_ _ _ _ _ _=>iU (λ_ _ _=>rfl)
 have F6:=bK (st:=tQ) l6 c6 k6
 have b6:=F6.binds (ps:=["prime"]) λ_ _ _ _ _ _=>iT (λ_=>rfl)
 have F7:=bK (st:=my) l7 c7 k7
 have b7:=F7.binds (ps:=["self","prime"]) λ_ _ _ _ _ _=>hV (λ_ _=>rfl)
 have F8:=bK (st:=tR) l8 c8 k8
 have b8:=F8.binds (ps:=["powers","logs"]) λ_ _ _ _ _ _=>hV (λ_ _=>rfl)
 have F9:=bK (st:=tS) l9 c9 k9
 have b9:=F9.binds (ps:=["a","b"]) λ_ _ _ _ _ _=>hV (λ_ _=>rfl)
 have Ts:=bK (st:=tU) Ib Ic Ie
 have b10:=Ts.binds (ps:=["a"]) λ_ _ _ _ _ _=>iT (λ_=>rfl)
 have Tt:=bK (st:=tV) Ih Ii Ij
 have b11:=Tt.binds (ps:=["bits"]) λ_ _ _ _ _ _=>iT (λ_=>rfl)
 have Tu:=bK (st:=tW) Il Im Io
 have b12:=Tu.binds (ps:=["a","b"]) λ_ _ _ _ _ _=>hV (λ_ _=>rfl)
 have Tv:=bK (st:=mB) Ip Iq Ir
 have b13:=Tv.binds (ps:=["self","bits"]) λ_ _ _ _ _ _=>hV (λ_ _=>rfl)
 have Tw:=bK (st:=tX) Iy Iz IA
 have b14:=Tw.binds (ps:=["_law_told_here"]) λ_ _ _ _ _ _=>iT (λ_=>rfl)
 have Tx:=bK (st:=tY) IC ID IE
 have b15:=Tx.binds (ps:=["_law_script","_law_k"]) λ_ _ _ _ _ _=>hV (λ_ _=>rfl)
 have Tz:=bK (st:=tZ) IG IH II
 have b16:=Tz.binds (ps:=["_law_told_here"]) λ_ _ _ _ _ _=>iT (λ_=>rfl)
 have TB:=bK (st:=t7) IL IM IQ
 have b17:=TB.binds (ps:=["_law_told_here","_law_script","_law_begin","_law_wide","_law_heads"]) λ_ _ _ _ _ _=>Qn (λ_ _ _ _ _=>rfl)
 have TC:=bK (st:=t8) IT IU IV
 have b18:=TC.binds (ps:=["_law_told_here","_law_a","_law_b"]) λ_ _ _ _ _ _=>iU (λ_ _ _=>rfl)
 have TF:=bK (st:=t9) IY IZ Ja
 have b19:=TF.binds (ps:=["_law_told_here","_law_a","_law_b"]) λ_ _ _ _ _ _=>iU (λ_ _ _=>rfl)
 have TH:=bK (st:=ub) Jc Jd Je
 have b20:=TH.binds (ps:=["_law_told_here","_law_xs","_law_ys"]) λ_ _ _ _ _ _=>iU (λ_ _ _=>rfl)
 have TJ:=bK (st:=ud) Jg Jh Ji
 have b21:=TJ.binds (ps:=["_law_told_here","_law_xs","_law_table","_law_wide"]) λ_ _ _ _ _ _=>nO (λ_ _ _ _=>rfl)
 have TK:=bK (st:=ue) Jk Jl Jm
 have b22:=TK.binds (ps:=["_law_told_here","_law_script","_law_answer_here","_law_count","_law_wide","_law_turn"]) λ_ _ _ _ _ _=>ck9 (λ_ _ _ _ _ _=>rfl)
 have TL:=bK (st:=uf) Jo Jp Jq
 have b23:=TL.binds (ps:=["_law_told_here","_law_a","_law_b"]) λ_ _ _ _ _ _=>iU (λ_ _ _=>rfl)
 have TM:=bK (st:=ug) Js Jt Ju
 have b24:=TM.binds (ps:=["_law_told_here","_law_answer_here","_law_heads","_law_wide"]) λ_ _ _ _ _ _=>nO (λ_ _ _ _=>rfl)
 have TN:=bK (st:=uh) Jw Jx Jy
 have b25:=TN.binds (ps:=["_law_table"]) λ_ _ _ _ _ _=>iT (λ_=>rfl)
 have TQ:=bK (st:=ui) JA JB JC
 have b26:=TQ.binds (ps:=["rows"]) λ_ _ _ _ _ _=>iT (λ_=>rfl)
 have TR:=bK (st:=uj) JF JG JH
 have b27:=TR.binds (ps:=["rows","width"]) λ_ _ _ _ _ _=>hV (λ_ _=>rfl)
 have TU:=bK (st:=uk) JI JJ BX
 have b28:=TU.binds (ps:=["self","a","b"]) λ_ _ _ _ _ _=>iU (λ_ _ _=>rfl)
 have TV:=bK (st:=um) JK JL BY
 have b29:=TV.binds (ps:=["self","a","b"]) λ_ _ _ _ _ _=>iU (λ_ _ _=>rfl)
 have TX:=bK (st:=uo) JN JO JP
 have b30:=TX.binds (ps:=["field","rows","width"]) λ_ _ _ _ _ _=>iU (λ_ _ _=>rfl)
 have TY:=bK (st:=ur) JR JS JT
 have b31:=TY.binds (ps:=["table"]) λ_ _ _ _ _ _=>iT (λ_=>rfl)
 have TZ:=bK (st:=uu) JV JW JX
 have b32:=TZ.binds (ps:=["rows","place"]) λ_ _ _ _ _ _=>hV (λ_ _=>rfl)
 have T1:=bK (st:=uv) JY JZ BZ
 have b33:=T1.binds (ps:=["self","a","row"]) λ_ _ _ _ _ _=>iU (λ_ _ _=>rfl)
 have T2:=bK (st:=uw) J0 J1 B0
 have b34:=T2.binds (ps:=["self","a","row"]) λ_ _ _ _ _ _=>iU (λ_ _ _=>rfl)
 have T3:=bK (st:=uz) J2 J3 B3
 have b35:=T3.binds (ps:=["self","row","a","other"]) λ_ _ _ _ _ _=>nO (λ_ _ _ _=>rfl)
 have T4:=bK (st:=uA) J4 J5 B4
 have b36:=T4.binds (ps:=["self","row","a","other"]) λ_ _ _ _ _ _=>nO (λ_ _ _ _=>rfl)
 have T5:=bK (st:=uB) J7 J8 J9
 have b37:=T5.binds (ps:=["field","rows","lead_row","place"]) λ_ _ _ _ _ _=>nO (λ_ _ _ _=>rfl)
 have T6:=bK (st:=uC) Ka Kb yB
 have b38:=T6.binds (ps:=["self","a","b"]) λ_ _ _ _ _ _=>iU (λ_ _ _=>rfl)
 have T7:=bK (st:=uD) Ke Kf Kg
 have b39:=T7.binds (ps:=["field","table"]) λ_ _ _ _ _ _=>hV (λ_ _=>rfl)
 have T8:=bK (st:=uE) Ki Kj Kk
 have b40:=T8.binds (ps:=["field","table"]) λ_ _ _ _ _ _=>hV (λ_ _=>rfl)
 have T9:=bK (st:=uF) Kn Ko Kp
 have b41:=T9.binds (ps:=["_law_x"]) λ_ _ _ _ _ _=>iT (λ_=>rfl)
 have Ua:=bK (st:=uG) Ks Kt Ku
 have b42:=Ua.binds (ps:=["_law_row","_law_wide","_law_many_here"]) λ_ _ _ _ _ _=>iU (λ_ _ _=>rfl)
 have Ub:=bK (st:=uH) Kw Kx Ky
 have b43:=Ub.binds (ps:=["_law_table","_law_rows","_law_wide","_law_many_here"]) λ_ _ _ _ _ _=>nO (λ_ _ _ _=>rfl)
 have Uc:=bK (st:=uI) KA KC KD
 have b44:=Uc.binds (ps:=["_law_found","_law_due_here","_law_wide","_law_many_here"]) λ_ _ _ _ _ _=>nO (λ_ _ _ _=>rfl)
 have Ud:=bK (st:=mC) KG KH KI
 have b45:=Ud.binds (ps:=["_law_script"]) λ_ _ _ _ _ _=>iT (λ_=>rfl)
 have T:Txt K mg ⟨f0,_,f1,_,f2,_,f3,_,f4,_,f5,_,f6,_,f7,_,f8,_,f9,_,Bu,_,Bv,_,ka,_,uU,_,Bw,_,Bz,_,BA,_,BB,_,BC,_,BD,_,BE,_,BF,_,BG,_,BH,_,rN,_,BJ,_,BK,_,BL,_,uV,_,uW,_,BM,_,BN,_,BO,_,uX,_,uY,_,uZ,_,u3,_,BP,_,nY,_,BQ,_,BR,_,BS,_,BU,_,BV,_,BW,_,fa,_,yz,jI,yA,jJ,aS,gj,jK,aU⟩:=⟨F0,mg_of X G a0,b0,F1,mg_of X G a1,b1,F2,mg_of X G a2,b2,F3,mg_of X G a3,b3,F4,b4,F5,b5,F6,mg_of X G a6,b6,F7,b7,F8,mg_of X G a8,b8,F9,mg_of X G a9,b9,Ts,mg_of X G Ia,b10,Tt,mg_of X G Ig,b11,Tu,mg_of X G Ik,b12,Tv,b13,Tw,mg_of X G Iw,b14,Tx,mg_of X G IB,b15,Tz,mg_of X G IF,b16,TB,mg_of X G IK,b17,TC,mg_of X G IS,b18,TF,mg_of X G IW,b19,TH,mg_of X G Jb,b20,TJ,mg_of X G Jf,b21,TK,mg_of X G Jj,b22,TL,mg_of X G Jn,b23,TM,mg_of X G Jr,b24,TN,mg_of X G Jv,b25,TQ,mg_of X G Jz,b26,TR,mg_of X G JE,b27,TU,b28,TV,b29,TX,mg_of X G JM,b30,TY,mg_of X G JQ,b31,TZ,mg_of X G JU,b32,T1,b33,T2,b34,T3,b35,T4,b36,T5,mg_of X G J6,b37,T6,b38,T7,mg_of X G Kd,b39,T8,mg_of X G Kh,b40,T9,mg_of X G Kl,b41,Ua,mg_of X G Kq,b42,Ub,mg_of X G Kv,b43,Uc,mg_of X G Kz,b44,Ud,mg_of X G B5,b45,rfl,HZ,rfl,Iu,⟨B6,B7,B8,B9⟩,⟨yc,KJ,KL,KN⟩,⟨⟨B6,B7,B8,B9⟩,KO,KP,KQ,KR⟩,yd,nU,uJ,qh,Bf,qi,ye,yf,⟨yg,KS,B3⟩,⟨yh,KU,BX⟩,⟨yi,KW,yB⟩,⟨yj,KY,BZ⟩,⟨uK,KZ,k4⟩,⟨Ca,Cb,Cc,Cd⟩,⟨yk,K0,K1,K2⟩,⟨⟨Ca,Cb,Cc,Cd⟩,K3,K4,K5,K6⟩,Bg,qj,uL,uM,nV,Bh,yl,ym,⟨yn,K7,B4⟩,⟨yo,K8,BY⟩,⟨yp,K9,yB⟩,⟨yq,La,B0⟩,⟨uN,Lb,k4⟩,⟨Lc,Ld,Le,k5⟩,mg_none_of X G Lf,mg_none_of X G Lg,mg_none_of X G Lh,mg_none_of X G Li,mg_none_of X G Lj,mg_none_of X G Lk,mg_none_of X G Ll,mg_none_of X G Lm,mg_none_of X G Ln,mg_none_of X G Lo,mg_none_of X G Lp,mg_none_of X G Lq,mg_of X G yt,mg_of X G yu,mg_of X G uO,mg_of X G yv,ZY (mg_of X G yu) Ls,⟨Lr,Lu,Lv,Lw,Lx,Ly,Lz,LA⟩⟩
 exact⟨fnOf "law" "law" (bB mC) (bf mC) (ay mC) .none S6 S7 S8 S5 HX S9,λs v=>.of_eq rfl,λbase _ _ hB=>(cr1 T hB).imp λvs H Q E h=>let z:=ι nl h;⟨λP hP=>z.1 P (sub P hP),z.2⟩⟩
theorem aC1{K:Frag}{h:Heap}{c f k P:Addr}{od an:Option Addr}{sl:Array (Option Value)}{oc kV dc pm ct kt:Value}{ko:Option Addr}{ks:Array (Option Value)}{kf:Array Value}(X:K.In h)(a:nsIn K mainGlobals "PrimeField"=some (some (.ref c)))(b:findIn K (.ref c) "__init__"=some (some (.ref f)))
  (l:K.lookup f=some ⟨oc,od,.func (fnOf "__init__" "PrimeField.__init__" (bB my) (bf my) (ay my) .none kV dc pm an (.ref k) ct),sl⟩) (lk:K.lookup k=some ⟨kt,ko,.fields kf,ks⟩) (lp:kf[11]?=some (.ref P)) (n:K.lookup P=none) (e:codeHdIn K k P=true):K.lookup P=none/\∃c,CodeHd h c P:=⟨n,k,PySem.W.codeHd_of_K X e⟩
theorem aF0{K:Frag}{h:Heap}{c f k P:Addr}{od an:Option Addr}{sl:Array (Option Value)}{oc kV dc pm ct kt:Value}{ko:Option Addr}{ks:Array (Option Value)}{kf:Array Value}(X:K.In h)(a:nsIn K mainGlobals "BitField"=some (some (.ref c)))(b:findIn K (.ref c) "__init__"=some (some (.ref f)))
  (l:K.lookup f=some ⟨oc,od,.func (fnOf "__init__" "BitField.__init__" (bB mB) (bf mB) (ay mB) .none kV dc pm an (.ref k) ct),sl⟩) (lk:K.lookup k=some ⟨kt,ko,.fields kf,ks⟩) (lp:kf[11]?=some (.ref P)) (n:K.lookup P=none) (e:codeHdIn K k P=true):K.lookup P=none/\∃c,CodeHd h c P:=⟨n,k,PySem.W.codeHd_of_K X e⟩
theorem walk{l:PySem.W.OpenLaw}{q:Program}{loose:List Str}{XP:(Str->Option Value)->Heap->Prop}{YP:World->Heap->Prop}{d:DefRec}{K:Params->Frag}{ts:List Addr}(hn:l.most=some 63)(vS:d.params.defaults=[])
  (hY:∀(w:World) (h:Heap),YP w h->(K w.params).In h/\∀P∈ts,h.get? P=some (PySem.W.tabObj #[]))
  (hC:∀(w:World) (h:Heap),(K w.params).In h->∀P∈ts,(K w.params).lookup P=none/\∃c,CodeHd h c P)
  (F:∀(w:World) (mg:Str->Option Value) (fa:Addr) (h:Heap),(K w.params).In h->h.Ns mainGlobals mg->mg d.name=some (.ref fa) ->
   ∃fd:FuncData,(∀(s:Shared) (u:Value),BindsTo s fd ⟨[u],[]⟩ [("_law_script",u)])/\∀base:Heap,(K w.params).In base->base.Ns mainGlobals mg->Bm mg base->aO l.prog w (K w.params) mg base aV 11 fa fd ["_law_script"] (Aa ts (K w.params))) :
  PySem.W.WalkO q loose XP YP l.row.toRowW d [] (λf vs=>PySem.call f vs) :=
 L2.θ (n:=63) (k:=11) (x:="_law_script") (CX:=λ_=>aV) (sp:=λw=>Aa ts (K w.params)) hn (by decide) vS ⟨rfl,by decide,by decide⟩ hY hC F (λ_ _ a ns hl hO hS=>⟨a,ns,rfl,hO,hS,hl,λ_=>rfl⟩) λ_ _ _ _ _ z=>z
end HK17
set_option genInjectivity false in
set_option genSizeOf false in
structure PySem.W.Fast:Prop where
 (tw14628857766407107744 tw2055198948364812480 tw7989432475381116352 tw15240675152119411136 tw14251551645946365472 tw11565808537837714048 tw18112031779856632448 tw7834343588226682656 tw7730300824410878880 tw14104053232516437952 tw8586516142591615936 tw2089426632140359648 tw8408410794268049376 tw8669869986450998305 tw9410487434470896705 tw10055802096937327681 tw14356328864032625793 tw9990065356525234305 tw14361090181753267617 tw6734447931749725633 tw12155260938438501825 tw4532935096628799969 tw15106459347960163809 tw13249341054114577921 tw4148883414436388417 tw5337220271012013633 tw12451300767216587361 tw13215384573068228225 tw17671647360018476705 tw16131912578049251233 tw917634585790995393 tw2495460850924312545 tw10715833200564902978 tw1766931172516017282 tw13070522822984700194 tw18421611771252897090 tw15843559740833035650 tw14312115731476135362 tw6770455573006455266 tw8756823634646227426:True)
 (tw17296780850105574946 tw10641791208099100226 tw13119674073309551234 tw3208011601778431714 tw2449028596229803810 tw6177591238196260674 tw7528091934699703138 tw2174159203489604450 tw15319793904113442690 tw6099681078345332803 tw3286904257874885699 tw6432101259949137091 tw16170645689584448899 tw8969100387407333891 tw7741805660875793987 tw5261530632218472003 tw9786858553514194595 tw1501664174911616707 tw17543462044684654307 tw7813797098274702115 tw15802526332669952835 tw13390197921837175715 tw12923742065837770756 tw12290954511752402980 tw7482084274933617732 tw4722686714628404324 tw5860882057489022084 tw4435185202012239108 tw3650687409214894372 tw9538061570492546340 tw17481725438688062756 tw4316082387988409668 tw12977925033341648196 tw5060441687677390276 tw5218493246845434436 tw17035338506568855108 tw11499410577904170596 tw17346502848351991396 tw13512321321489481412 tw7995397630615164644:True)
 (tw11755385139751126788 tw4983412232614526756 tw13114172822450586436 tw12546817725716772804 tw16167299762168358949 tw5716295465138459717 tw12902910093617102949 tw7863033746202504325 tw2603136581539204357 tw2406241184301776133 tw8987716864158804325 tw17029606715102582117 tw6318718070890637765 tw7133181383424429733 tw732929043240877733 tw7500292976888072933 tw16464029263435803397 tw6858960225451113381 tw2632887266458483653 tw10153794704682958821 tw7456207888124940294 tw12569908548539763718 tw6257923855780061254 tw14629051057759323302 tw12134518547348186310 tw1441370781588996326 tw15042612690013589766 tw18292897158181628230 tw3397954661152955750 tw11350875150451629478 tw9605375209838765510 tw10256179167906482662 tw9793643861950649926 tw17211779344828019302 tw7966600976824382086 tw15846783467344384646 tw9904688505698331366 tw17057425349269164838 tw8699963227701486406 tw15696910217142478726:True)
 (tw8745424210186475559 tw866055459893233767 tw373597183916942535 tw8831077669948975303 tw8673193159370761447 tw3754954768934611207 tw17398431825439084903 tw6271676232095448455 tw15689492821329956231 tw7248670660596906471 tw10470200481019209255 tw15585842277956801095 tw10574320191405622887 tw1794401816338440807 tw3461420221600442023 tw11364535798074137255 tw11988981599781267175 tw14316034702555637511 tw17550156964635210631 tw16151162734088489895 tw16759028873948184519 tw15935334431740581831 tw12087007277628290023 tw12835597894450120744 tw14479583712393351208 tw7324061826142919720 tw15054634848292909128 tw18216307095351714888 tw10315371434537644104 tw7228991730950416520 tw14718002985784811688 tw8450656928800530600 tw13231530192485254312 tw7085895956980962536 tw13975550361047424328 tw14493742686172119464 tw1975806411896661416 tw17764306135242797480 tw17558944706257315336 tw9238550697382904360:True)
 (tw591119600990198312 tw11823401435248143944 tw8680519793327346248 tw7891063537330050664 tw9310820848071599784 tw4302254573940314824 tw3125378840414001000 tw2327011520577577001 tw4036984111983795241 tw4753312630843988073 tw15247959332454701225 tw12724457212607088841 tw16126869586515773769 tw1630021257714978121 tw5968674420064240009 tw8317848196687153641 tw8747335335362632265 tw11945598197405358665 tw18043685326736262761 tw16237026552099374825 tw2471931577892289289 tw11439745988283944713 tw4020561723629975337 tw2712737010433425225 tw10495266805645738825 tw7664083375685136265 tw624710871808300969 tw1857473532321544137 tw5255527105713586153 tw15659875274989986890 tw14613350323899795562 tw14780819973360220298 tw381819193009208490 tw486954937189351626 tw6675452646424452362 tw5535768199158575370 tw17820158241033948458 tw14872422593688681770 tw2684783376626529610 tw6922059356621349258:True)
 (tw5905219045026510218 tw13351500660894581130 tw2996665554671883690 tw3646437768809660010 tw1939806059011861098 tw13282138749244848778 tw6555074840719473322 tw16593762752598495914 tw9964348755173674730 tw2921914413235946 tw10373206967907278570 tw11497216127197486858 tw17668075626662690570 tw15487685905211237162 tw16965516067937652522 tw18337175419617152810 tw17987465464585925482 tw5291185295625601930 tw10265550526064366538 tw17135199492781537291 tw17578123536241404139 tw13438255226226374891 tw15508863783521021195 tw18321508780733523339 tw14355049957908151723 tw15703778004195734955 tw11867163998271103435 tw9448826226648372779 tw9504238117036916267 tw14058925166557105835 tw14617425008490063691 tw2262164394415002475 tw15198489943604867947 tw15384860501382577099 tw7425507657856093163 tw4469969342477520940 tw2186388673965188140 tw7668730229931075756 tw12747788585799711948 tw13928494160402989324:True)
 (tw6258371668601953580 tw1620530057985879468 tw11540391020808096204 tw4514974779720029644 tw9945236262271656428 tw869817897169370636 tw12535895514563207820 tw18144462817886323532 tw11809421105170232172 tw7262576150015320972 tw12607103128865861516 tw12969189838586302380 tw11408589193057394604 tw947818784907330540 tw3308100142255207404 tw3278607300545543148 tw5249766189856933933 tw914265134893818989 tw10085204744616500397 tw9261066005810646221 tw15997014834431385869 tw5961009105401415053 tw10149870643952025101 tw1806006502773827149 tw830264908593447501 tw4571532441816450669 tw10369016511944602253 tw7625266503091994285 tw10559741350781760205 tw16476835064006520589 tw12148305834448698125 tw15673483746999486253 tw2917851185843394349 tw6636523464055629645 tw14959777572269511501 tw8987961770847587181 tw10416889582438269837 tw7018238727520822189 tw15209015142024221645 tw2090987671974771693:True)
 (tw9701710683151142958 tw445408913849054318 tw9076585641370214542 tw2559779830101938350 tw2583803543345871022 tw10728243463224297806 tw1481961698648526190 tw2665838791974468014 tw14062385422849329614 tw1239192977467709966 tw17665614531740654126 tw17473799830245036654 tw14810141612256200334 tw12983466590702517966 tw8587231493413143342 tw11783955129490165550 tw13091096741136253774 tw14497075437025049422 tw13320744682661049198 tw1882901355623941102 tw4983191785344711662 tw15260312016157844527 tw5406329193095448623 tw1535691954564089935 tw10625861705135893615 tw5878389263385873551 tw3465856446523702511 tw17353888713859391791 tw8293998655720701263 tw4184929414603984207 tw17346017404325268879 tw1276320664313371119 tw8184556174329762287 tw9508265403966237231 tw5208686138906035759 tw10138320034969377359 tw320018147034463823 tw89283642540654159 tw632292369994613551 tw18266766691450934063:True)
 (tw8504748412203976720 tw102052312838693904 tw10696439141459130384 tw4854064009046080560 tw5380977793842275408 tw7547996261489315952 tw8932756762456858768 tw10456243752103064752 tw4530067472232701104 tw9638871108788140240 tw8895380813290170672 tw11969078270354667952 tw5079571903206184432 tw3505548596419711472 tw3238617704063342096 tw1541885757352655408 tw15344210341192283888 tw3257065591878893328 tw10446990493953772336 tw12622211928194301744 tw5192547346743814000 tw5178339669268465616 tw16395346010146746320 tw8743243594247235697 tw17232641041883949169 tw5736495456783004849 tw5627148037875654929 tw3909085657138469169 tw17831872239671455025 tw295563176258643281 tw13098923369328179601 tw10396338528283130289 tw14495401410564930065 tw12675438396468240945 tw18297341526635958865 tw17779683783088458353 tw1601964962255119089 tw512136962593526545 tw4413019705710956369 tw9655510609673688082:True)
 (tw5691189272212999314 tw8380852089801777298 tw1409120567660655826 tw7360436534250736914 tw4764210852697953554 tw13591973583255573874 tw16470544014936099218 tw2844572799892868594 tw10709137207582118386 tw1019898193670198930 tw13022868226251655858 tw2205902635813643986 tw13348531489855879922 tw10297089722096292626 tw10204434927143449362 tw7287633002593418066 tw5698315488971146098 tw11320709800078022546 tw10240707326301259827 tw2078020312757453907 tw6492453830964984979 tw12901162164701450419 tw9262610054723624115 tw1781250085775074483 tw12972322292166978803 tw8536676860716117267 tw15740115841716811091 tw16795780519554859379 tw6593223819751216499 tw11461759584617187763 tw12402007508424588851 tw277051365298957971 tw5102073898125913779 tw5664086911888248499 tw1481702999580119827 tw3948595682979268403 tw1740239153342767923 tw12910243511361139507 tw4404112244512852819 tw11881216475374174035:True)
 (tw1081509388541090643 tw4130601636734516083 tw16870822531658745747 tw4911496152651706355 tw3715864897463105523 tw4264645164736359444 tw4201285310136124468 tw860150900473099348 tw7653155541724459220 tw1267114143833127124 tw3992385037860499700 tw17457586408832275796 tw9943333128388099444 tw502995693457032564 tw13790372755978406324 tw12608569939495904692 tw1384026941917454804 tw11748799928506910196 tw15740790538747625012 tw17651136068566339220 tw1484039798096365300 tw12595082254562869012 tw187009154749034324 tw17928903254377918324 tw239421934028760020 tw5909765665036715061 tw3899936498902786133 tw16939926671967124661 tw652064354067306709 tw6156217529383055573 tw4456685536501943541 tw16373892339378204021 tw6968502775218089365 tw8285755607757497813 tw2191717813457780341 tw12962364546166305429 tw13953160107740001941 tw563053236723693365 tw11108891512178165589 tw5912754954129659126:True)
 (tw15369746727667876118 tw10464959896652946710 tw1512978847284616502 tw13506656015631017270 tw14875812024801826134 tw14334530591359600022 tw8264027304953860534 tw13511011235032811062 tw14414803173595432598 tw14456326144853576374 tw6230733306535230166 tw1430020170666461910 tw7857828606956717878 tw113503831329762102 tw5857440610193339190 tw14131249399803413430 tw11869671629652757430 tw17943203306493406166 tw7715261368457166806 tw12890408408686120983 tw9989159249778959415 tw14523639467185471639 tw8465302600675709079 tw12947694390495742231 tw17572730759840778519 tw5478921469129534839 tw15361800772923959703 tw16542822370139287959 tw6766341711183771063 tw6150811807916130807 tw18197014285851335223 tw8773407530197201463 tw7815117790284470839 tw16104665751558632023 tw11595236963796808343 tw4372224958540367639 tw15646897813383660375 tw9699202437697760087 tw7258253444627020663 tw13139214663894176695:True)
 (tw10870127170638048215 tw12894454505596330999 tw18326256042365119512 tw8524883115308701752 tw16431052026222603320 tw18268831600793618552 tw7908514343622130808 tw7153732045311312056 tw15494168346691668248 tw11198083640214220088 tw10039396418170518840 tw10559610263571960184 tw14941278783093940632 tw1039068353282461080 tw13784704639489157560 tw6178405861791271480 tw7927402897922184760 tw4983180023140012664 tw2086860357579961976 tw10681431336419410584 tw13982790733706023608 tw4529739985432281944 tw8837538277180359705 tw12595897614016139321 tw11391633078634213465 tw6090179521289519321 tw6769135026937176345 tw15394394565202011417 tw1864410432602842457 tw671354270034026841 tw5894860979443263833 tw2474951711471380889 tw13532068232099825081 tw14417315675256582585 tw12194158602386571737 tw14920326903514116569 tw11568184085571064345 tw15682064431680904729 tw10626734619599095385 tw16915909523897402009:True)
 (tw11063289032904396473 tw12077336681109206841 tw3710458197737375577 tw10156153482881145753 tw11129422484489458649 tw11726343187721168922 tw1118386501156145210 tw4217888798338944058 tw2116261343829638202 tw13269105702883356730 tw16204701044430884090 tw2932475615938023706 tw827773164137092378 tw15211202157068062010 tw1176102919253856570 tw1332745854326119802 tw13505535485757627770 tw3781841577158050362 tw14292013088160364122 tw14466904071900195514 tw12521302129656442586 tw16346555619587968858 tw16017973697974962106 tw12780502323914182586 tw15546235453770306522 tw16914826398203724762 tw2881781399234791386 tw6967047686147563482 tw8020114103002373114 tw15571219865282263131 tw1315948754936473755 tw12659948545203041595 tw4166571737085982043 tw4202676494140281211 tw7790284329337388411 tw16092821498271866267 tw10207878780873563547 tw3155518326962444827 tw9365084786480984731 tw13156272071208083131:True)
 (tw18247763612540067547 tw7362590775008112379 tw5799695223934770971 tw13535318664632130331 tw17693727877231163227 tw1598812016231760763 tw10660057833492485340 tw15006181404569046364 tw5449035895868670428 tw6383073874207314428 tw15158094200333586044 tw14852508958043948700 tw5931403922012567196 tw5028397778231093948 tw17469293189644191420 tw9754885295776509660 tw17629902323544478428 tw7580037153679806236 tw7187892918755594044 tw11103844520200696732 tw3863918091699447772 tw707105492287807549 tw14254665786258035869 tw9573295353172830461 tw7708748701644726589 tw17549246894476288413 tw14811989255373950397 tw10498502859538446877 tw2635416221171782269 tw15634578053729899165 tw5186778457250355901 tw14884880070183311037 tw12699156513611214557 tw12518671908969229085 tw4818183818784062237 tw15840684163165216541 tw3902585760277416765 tw10905733977514526782 tw9703946518879176830 tw719584076522801310:True)
 (tw18123654556161192158 tw14487176483014876414 tw12988698619534634238 tw4034546326876063038 tw11227389496025698622 tw18313583039158804830 tw10030130176045038078 tw1132262716548563454 tw13513163229211867806 tw960732129508864734 tw1512556813023822590 tw10156589877353336606 tw17365220723458649918 tw12806956372646142814 tw15041350775040395102 tw17479915016701255550 tw13108944305285244894 tw8992743597100125150 tw11030000511923066878 tw10076838196892866558 tw10108364367966205950 tw3493709482937583743 tw8151334344956192959 tw4397199834912333055 tw17964278733180445951 tw1416228138559624479 tw9803573495784942943 tw6501996550015506783 tw3260820462132871583 tw5363588108543486367 tw3577997563926238655 tw16880937591258364447 tw3419622799763231327 tw12866845011933071999 tw6199419289545657983 tw16861008044503631519 tw14242779532873857695 tw17568653548497174175 tw11909180167631867583 tw4023633290310096575:True)
 (tw18056729567800104639 tw5047251792617841343 tw8882960235855885023 tw9610387899979644639 tw15478347335255216863 tw7783392700463876895 tw4918723397993302815 tw17828391134065620767 tw10588853612361338687 tw17943717393365603231 tw5027100341574535103 tw4109113135597723647 tw17027367936393215 tw1172613624393397833:True)
open PySem PySem.W PyProof.Rows
set_option maxRecDepth 100000 in
set_option maxHeartbeats 0 in
theorem PySem.Challenge.cw_mendfield_k17_kernel_found_holds : PySem.Challenge.rw_mendfield_k17_kernel_found.Holds := by
 w_on;o_law;k_head;(case hw=>w_witness2)
 k_fill
 refine HK17.walk (l:=PySem.Challenge.rw_mendfield_k17_kernel_found) rfl rfl (λw h Y=>⟨PySem.W.km_in_of Y,PySem.W.km_tabs_of Y⟩) ?C ?F
 case C =>
  intro w h hX
  repeat' (first | exact List.forall_mem_nil _ | refine List.forall_mem_cons.mpr ⟨?_,?_⟩)
  all_goals first | (refine' HK17.aC1 hX ?a ?b ?l ?lk ?lp ?n ?e;(case a=>k_is);(case b=>k_is);(case l=>k_is);(case lk=>k_is);(case lp=>first | rfl | with_unfolding_all rfl);(case n=>kernel_rfl);(case e=>kernel_rfl)) | (refine' HK17.aF0 hX ?a ?b ?l ?lk ?lp ?n ?e;(case a=>k_is);(case b=>k_is);(case l=>k_is);(case lk=>k_is);(case lp=>first | rfl | with_unfolding_all rfl);(case n=>kernel_rfl);(case e=>kernel_rfl))
 case F =>
  intro w mg fa h KX G vT
  refine' HK17.all_mk KX G vT ?yt ?yu ?uO ?yv ?a0 ?l0 ?c0 ?k0 ?a1 ?l1 ?c1 ?k1 ?a2 ?l2 ?c2 ?k2 ?a3 ?l3 ?c3 ?k3 ?a4 ?l4 ?c4 ?k4 ?a5 ?l5 ?c5 ?k5 ?a6 ?l6 ?c6 ?k6 ?a7 ?l7 ?c7 ?k7 ?Tc ?Td ?HZ ?a8 ?l8 ?c8 ?k8 ?a9 ?l9 ?c9 ?k9 ?Ia ?Ib ?Ic ?Ie ?Ig ?Ih ?Ii ?Ij ?Ik ?Il ?Im ?Io ?Te ?Ip ?Iq ?Ir ?Tf ?Tg ?Iu ?Iw ?Iy ?Iz ?IA ?IB ?IC ?ID ?IE ?IF ?IG ?IH ?II ?IK ?IL ?IM ?IQ ?IS ?IT ?IU ?IV ?IW ?IY ?IZ ?Ja ?Jb ?Jc ?Jd ?Je ?Jf ?Jg ?Jh ?Ji ?Jj ?Jk ?Jl ?Jm ?Jn ?Jo ?Jp ?Jq ?Jr ?Js ?Jt ?Ju ?Jv ?Jw ?Jx ?Jy ?Jz ?JA ?JB ?JC ?JE ?JF ?JG ?JH ?Th ?JI ?JJ ?BX ?Ti ?JK ?JL ?BY ?JM ?JN ?JO ?JP ?JQ ?JR ?JS ?JT ?JU ?JV ?JW ?JX ?Tj ?JY ?JZ ?BZ ?Tn ?J0 ?J1 ?B0 ?To ?J2 ?J3 ?B3 ?Tp ?J4 ?J5 ?B4 ?J6 ?J7 ?J8 ?J9 ?Tq ?Ka ?Kb ?yB ?Kd ?Ke ?Kf ?Kg ?Kh ?Ki ?Kj ?Kk ?Kl ?Kn ?Ko ?Kp ?Kq ?Ks ?Kt ?Ku ?Kv ?Kw ?Kx ?Ky ?Kz ?KA ?KC ?KD ?B5 ?KG ?KH ?KI ?B6 ?B7 ?B8 ?B9 ?yc ?KJ ?KL ?KN ?KO ?KP ?KQ ?KR ?yd ?nU ?uJ ?qh ?Bf ?qi ?ye ?yf ?yg ?KS ?yh ?KU ?yi ?KW ?yj ?KY ?uK ?KZ ?Ca ?Cb ?Cc ?Cd ?yk ?K0 ?K1 ?K2 ?K3 ?K4 ?K5 ?K6 ?Bg ?qj ?uL ?uM ?nV ?Bh ?yl ?ym ?yn ?K7 ?yo ?K8 ?yp ?K9 ?yq ?La ?uN ?Lb ?Lc ?Ld ?Le ?Lf ?Lg ?Lh ?Li ?Lj ?Lk ?Ll ?Lm ?Ln ?Lo ?Lp ?Lq ?Lr ?Tr ?Ls ?Lu ?Lv ?Lw ?Lx ?Ly ?Lz ?LA ?nl ?sub
  (case yt=>k_is)
  (case yu=>k_is)
  (case uO=>k_is)
  (case yv=>k_is)
  (case a0=>k_is)
  (case l0=>k_is)
  (case c0=>k_is)
  (case k0=>k_is)
  (case a1=>k_is)
  (case l1=>k_is)
  (case c1=>k_is)
  (case k1=>k_is)
  (case a2=>k_is)
  (case l2=>k_is)
  (case c2=>k_is)
  (case k2=>k_is)
  (case a3=>k_is)
  (case l3=>k_is)
  (case c3=>k_is)
  (case k3=>k_is)
  (case a4=>k_is)
  (case l4=>k_is)
  (case c4=>k_is)
  (case k4=>k_is)
  (case a5=>k_is)
  (case l5=>k_is)
  (case c5=>k_is)
  (case k5=>k_is)
  (case a6=>k_is)
  (case l6=>k_is)
  (case c6=>k_is)
  (case k6=>k_is)
  (case a7=>k_is)
  (case l7=>k_is)
  (case c7=>k_is)
  (case k7=>k_is)
  (case Tc=>k_is)
  (case Td=>first | rfl | with_unfolding_all rfl)
  (case HZ=>kernel_rfl)
  (case a8=>k_is)
  (case l8=>k_is)
  (case c8=>k_is)
  (case k8=>k_is)
  (case a9=>k_is)
  (case l9=>k_is)
  (case c9=>k_is)
  (case k9=>k_is)
  (case Ia=>k_is)
  (case Ib=>k_is)
  (case Ic=>k_is)
  (case Ie=>k_is)
  (case Ig=>k_is)
  (case Ih=>k_is)
  (case Ii=>k_is)
  (case Ij=>k_is)
  (case Ik=>k_is)
  (case Il=>k_is)
  (case Im=>k_is)
  (case Io=>k_is)
  (case Te=>k_is)
  (case Ip=>k_is)
  (case Iq=>k_is)
  (case Ir=>k_is)
  (case Tf=>k_is)
  (case Tg=>first | rfl | with_unfolding_all rfl)
  (case Iu=>kernel_rfl)
  (case Iw=>k_is)
  (case Iy=>k_is)
  (case Iz=>k_is)
  (case IA=>k_is)
  (case IB=>k_is)
  (case IC=>k_is)
  (case ID=>k_is)
  (case IE=>k_is)
  (case IF=>k_is)
  (case IG=>k_is)
  (case IH=>k_is)
  (case II=>k_is)
  (case IK=>k_is)
  (case IL=>k_is)
  (case IM=>k_is)
  (case IQ=>k_is)
  (case IS=>k_is)
  (case IT=>k_is)
  (case IU=>k_is)
  (case IV=>k_is)
  (case IW=>k_is)
  (case IY=>k_is)
  (case IZ=>k_is)
  (case Ja=>k_is)
  (case Jb=>k_is)
  (case Jc=>k_is)
  (case Jd=>k_is)
  (case Je=>k_is)
  (case Jf=>k_is)
  (case Jg=>k_is)
  (case Jh=>k_is)
  (case Ji=>k_is)
  (case Jj=>k_is)
  (case Jk=>k_is)
  (case Jl=>k_is)
  (case Jm=>k_is)
  (case Jn=>k_is)
  (case Jo=>k_is)
  (case Jp=>k_is)
  (case Jq=>k_is)
  (case Jr=>k_is)
  (case Js=>k_is)
  (case Jt=>k_is)
  (case Ju=>k_is)
  (case Jv=>k_is)
  (case Jw=>k_is)
  (case Jx=>k_is)
  (case Jy=>k_is)
  (case Jz=>k_is)
  (case JA=>k_is)
  (case JB=>k_is)
  (case JC=>k_is)
  (case JE=>k_is)
  (case JF=>k_is)
  (case JG=>k_is)
  (case JH=>k_is)
  (case Th=>k_is)
  (case JI=>k_is)
  (case JJ=>k_is)
  (case BX=>k_is)
  (case Ti=>k_is)
  (case JK=>k_is)
  (case JL=>k_is)
  (case BY=>k_is)
  (case JM=>k_is)
  (case JN=>k_is)
  (case JO=>k_is)
  (case JP=>k_is)
  (case JQ=>k_is)
  (case JR=>k_is)
  (case JS=>k_is)
  (case JT=>k_is)
  (case JU=>k_is)
  (case JV=>k_is)
  (case JW=>k_is)
  (case JX=>k_is)
  (case Tj=>k_is)
  (case JY=>k_is)
  (case JZ=>k_is)
  (case BZ=>k_is)
  (case Tn=>k_is)
  (case J0=>k_is)
  (case J1=>k_is)
  (case B0=>k_is)
  (case To=>k_is)
  (case J2=>k_is)
  (case J3=>k_is)
  (case B3=>k_is)
  (case Tp=>k_is)
  (case J4=>k_is)
  (case J5=>k_is)
  (case B4=>k_is)
  (case J6=>k_is)
  (case J7=>k_is)
  (case J8=>k_is)
  (case J9=>k_is)
  (case Tq=>k_is)
  (case Ka=>k_is)
  (case Kb=>k_is)
  (case yB=>k_is)
  (case Kd=>k_is)
  (case Ke=>k_is)
  (case Kf=>k_is)
  (case Kg=>k_is)
  (case Kh=>k_is)
  (case Ki=>k_is)
  (case Kj=>k_is)
  (case Kk=>k_is)
  (case Kl=>k_is)
  (case Kn=>k_is)
  (case Ko=>k_is)
  (case Kp=>k_is)
  (case Kq=>k_is)
  (case Ks=>k_is)
  (case Kt=>k_is)
  (case Ku=>k_is)
  (case Kv=>k_is)
  (case Kw=>k_is)
  (case Kx=>k_is)
  (case Ky=>k_is)
  (case Kz=>k_is)
  (case KA=>k_is)
  (case KC=>k_is)
  (case KD=>k_is)
  (case B5=>k_is)
  (case KG=>k_is)
  (case KH=>k_is)
  (case KI=>k_is)
  (case B6=>k_is)
  (case B7=>k_is)
  (case B8=>k_is)
  (case B9=>k_is)
  (case yc=>k_is)
  (case KJ=>k_is)
  (case KL=>k_is)
  (case KN=>k_is)
  (case KO=>k_is)
  (case KP=>k_is)
  (case KQ=>k_is)
  (case KR=>k_is)
  (case yd=>k_is)
  (case nU=>k_is)
  (case uJ=>k_is)
  (case qh=>k_is)
  (case Bf=>k_is)
  (case qi=>k_is)
  (case ye=>k_is)
  (case yf=>k_is)
  (case yg=>k_is)
  (case KS=>k_is)
  (case yh=>k_is)
  (case KU=>k_is)
  (case yi=>k_is)
  (case KW=>k_is)
  (case yj=>k_is)
  (case KY=>k_is)
  (case uK=>k_is)
  (case KZ=>k_is)
  (case Ca=>k_is)
  (case Cb=>k_is)
  (case Cc=>k_is)
  (case Cd=>k_is)
  (case yk=>k_is)
  (case K0=>k_is)
  (case K1=>k_is)
  (case K2=>k_is)
  (case K3=>k_is)
  (case K4=>k_is)
  (case K5=>k_is)
  (case K6=>k_is)
  (case Bg=>k_is)
  (case qj=>k_is)
  (case uL=>k_is)
  (case uM=>k_is)
  (case nV=>k_is)
  (case Bh=>k_is)
  (case yl=>k_is)
  (case ym=>k_is)
  (case yn=>k_is)
  (case K7=>k_is)
  (case yo=>k_is)
  (case K8=>k_is)
  (case yp=>k_is)
  (case K9=>k_is)
  (case yq=>k_is)
  (case La=>k_is)
  (case uN=>k_is)
  (case Lb=>k_is)
  (case Lc=>k_is)
  (case Ld=>k_is)
  (case Le=>k_is)
  (case Lf=>k_is)
  (case Lg=>k_is)
  (case Lh=>k_is)
  (case Li=>k_is)
  (case Lj=>k_is)
  (case Lk=>k_is)
  (case Ll=>k_is)
  (case Lm=>k_is)
  (case Ln=>k_is)
  (case Lo=>k_is)
  (case Lp=>k_is)
  (case Lq=>k_is)
  (case Lr=>first | k_is | rfl | decide)
  (case Tr=>k_is)
  (case Ls=>k_exc)
  (case Lu=>k_is)
  (case Lv=>k_is)
  (case Lw=>k_is)
  (case Lx=>k_is)
  (case Ly=>k_is)
  (case Lz=>k_is)
  (case LA=>k_is)
  (case nl=>first | k_is | rfl | decide)
  (case sub=>decide)
