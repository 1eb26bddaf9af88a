import PyProof.Rows.All
import Wide.All
import OpenK.AllK
import Wide.FinOn
import Lean
import PyProof.EqAt
import PyProof.EqKinds
import PyProof.TupleCall
import PyProof.NeKinds
import PyProof.Rows.Range3
import PyProof.FitsBits
import PyProof.StationsW
import PyProof.NsDelKeeps
import PyProof.Rows.CatchOwn
import KE.KTryMore
import PyProof.ExcArgsOwn
import PyProof.ExcAttrAll.ValueError
import OpenK.KOwn
import PyProof.ZipIter
import PyProof.WalksEnum
import PyProof.EnumMake
import KE.KIntText
import PyProof.Conv_int
import PyProof.StrWalks
import PyProof.StrLawsFirst
import KE.KLam
import KE.KNestM
import KE.KRevIter
import PyProof.ListRange
import PyProof.Rows.SortWalk
import PyProof.Rows.SetFrom
import PyProof.FactsAll.set
import PySem.Challenge.RW_mendfield_k15_reduced_rows_found
open Array renaming length_toList→hE,getElem?_eq_getElem→qH,append_assoc→uV,getD→yG,getElem?_toList→Cq,getElem?_eq_some_iff→KA,getElem?_eq_none→K3,toList_append→SK,toList_push→SS
open Bool renaming and_eq_true→da,false_ne_true→hJ,and_true→mG,true_and→n6,or_true→oj,or_false→qw,false_and→uW,false_eq_true→vd,eq_iff_iff→yv,not_false→yL,not_true→yM,true_or→yN,false_or→yO
open Classical renaming byContradiction→SA
open False renaming elim→dQ
open ForInStep renaming yield→B3
open Int renaming toNat_natCast→eE,natAbs_natCast→gB,emod_nonneg→iM,emod_lt_of_pos→iN,natCast_emod→qE,natCast_mul→ve,toNat_of_nonneg→yz,toNat→yA,natCast_add→Cf,natCast_nonneg→Ku,zero_add→KO,fdiv_eq_ediv_of_nonneg→Ss
open List renaming getElem?_eq_getElem→aP,getD_eq_getElem?_getD→aQ,range→aR,replicate→bh,mem_cons→bJ,mem_append→bP,length_map→bU,mem_map→cn,append_assoc→cS,getElem?_map→cY,size_toArray→cZ,all_eq_true→dg,map_map→dk,mem_append_right→dz,map_cons→dF,all_cons→dG,mem_range→dO,length_range→dR,mem_singleton→eF,mem_append_left→eU,lookup_cons→eV,length_append→fh,getElem_mem→fi,zipWith→fj,mem_cons_of_mem→fF,nodup_cons→fZ,getElem?_eq_some_iff→g9,getElem_of_mem→hV,not_mem_nil→hW,length_cons→iY,getElem?_eq_none→i4,set_cons_zero→i5,set_cons_succ→i6,append_nil→jJ,lookup→kl,mem_cons_self→mm,length_take→mw,map_nil→mx,length_drop→my,perm_append_comm→mD,map_append→mE,getElem?_range→mF,cons_append→mH,replicate_succ→nX,nil_append→nY,cons.inj→n8,all_map→n9,getElem?_cons_zero→oh,getElem?_cons_succ→oi,filterMap_cons→qm,getElem?_set_ne→qo,getElem?_append_right→qt,mem_of_getElem?→qu,length_replicate→qv,flatten_cons→qA,all_nil→qC,map_congr_left→qD,ext_getElem→qF,getElem_map→qG,getElem?_append_left→uX,append_inj→u4,pairwise_cons→va,mem_filter→yg,of_mem_zip→yl,getElem?_replicate→ym,length_set→yn,foldl_cons→yo,mem_of_mem_take→yw,getElem?_mapIdx→yx,length_zipWith→yC,pairwise_iff_getElem→yE,length_nil→yJ,cons.injEq→yK,getElem?_set_self→BS,length→BU,reverse_cons→BW,append_eq_nil_iff→B7,set_set→B8,mem_of_mem_drop→Ca,ext_getElem?→Cb,map→Cc,map_zipWith→Cd,mem_map_of_mem→Cg,getElem?_zipWith→Ck,getElem_range→Cn,Perm.refl→Co,getElem?_eq_none_iff→Kt,Pairwise.nil→Kw,Sublist.refl→KD,take_of_length_le→KG,mem_replicate→KH,map_drop→KJ,map_take→KL,drop_eq_nil_of_le→KN,zipWith_map→KP,any_eq_true→KQ,mem_or_eq_of_mem_set→KR,map_id→KU,foldl_append→KW,findIdx?_eq_some_iff_getElem→KY,contains_iff_mem→KZ,findIdx?_eq_none_iff→K0,mem_filterMap→Sr,length_reverse→Sv,set_eq_of_length_le→SE,eq_nil_iff_forall_not_mem→SF,filter_eq_self→SG,range_succ_eq_map→SH,mem_of_find?_eq_some→SI,getElem?_take→SJ,zip_cons_cons→SM,sublist_cons_self→SN,countP_eq_length_filter→SQ,pairwise_lt_range→SR,take_append_drop→SW,length_eq_zero_iff→SX,length_eraseIdx→SY,mem_erase_of_ne→S4,length_erase_of_mem→S5
open Nat renaming le_refl→aX,lt_of_lt_of_le→cq,ne_of_lt→cI,le_trans→dP,lt_irrefl→fE,zero_le→iZ,shiftLeft_eq→i3,xor_zero→jK,mul_comm→kn,testBit_xor→kq,lt_of_le_of_lt→kr,not_lt→ku,zero_xor→mC,le_of_lt→nV,pow_succ→nZ,xor_assoc→n5,mod_lt→oa,lt_succ_self→qq,mul_assoc→qB,two_pow_pos→uZ,sub_self→u5,mul_mod→u6,lt_succ_of_lt→u7,lt_or_ge→u9,succ.inj→vb,ne_of_gt→yh,le_of_eq→yj,le_succ→yk,le_of_not_lt→yp,pow_le_pow_right→yq,eq_of_testBit_eq→yr,testBit_zero→yt,xor_self→yu,mod_eq_of_lt→yy,not_lt_zero→yB,le_of_succ_le→yD,testBit_lt_two_pow→BY,testBit_succ→BZ,strongRecOn→B0,min_self→B9,mod_add_mod→Ce,add_sub_cancel_left→Ci,lt_trichotomy→Cm,one_shiftLeft→Cu,xor_comm→Kx,testBit_and→Ky,mod_mod→KS,testBit_eq_decide_div_mod_eq→Sw,shiftLeft_xor_distrib→Sx,mul_lt_mul_right→Sy,testBit_shiftLeft→Sz,shiftRight_eq_div_pow→SD,exists_eq_add_of_le→SO
open Ne renaming symm→dy
open Option renaming some.inj→cW,some.injEq→mI,getD_none→qy,getD_some→u3,map_some→yH,map_none→yI,none→BX,map_eq_some_iff→KI,isSome_iff_exists→Su
open Or renaming inl→au,inr→bu
open PyProof renaming Rows.callWith_type1→yi,Rows.F.plain_set_update_loop→K2
open PySem renaming Heap.lt_size→bf,Heap.get?_push_of_some→bY,Heap.get?_push_size→cX,Value.ref→dN,SetTable.below→eP,Value.int→gA,Value.none→g8,PassesOwn.never→ia,Heap.size_push→jI,Heap.get?_update_other→km,Value.type→mj,Builtin.bitAnd→mq,Builtin.bitXor→mr,Obj.mapSeq→mB,Heap.SameBut→nW,F.called_set→og,SetTable.grown→qI,Heap.get?_update_self→uY,SetTable.below.go→yF,Value.bool→BR,SeqAt.EqAt→BV,Obj.data_mapFields→B4,Value.type.inj→B5,Builtin.Str.strSliceIndices→B6,NameKind.cell→Cj,Around.under_plainId→Cp,Str.ofString→Cr,F.slot_set_iter→Cs,Builtin.Frozenset.sizeOf→Ct,Value.isInt_shape→Ks,Builtin.List.listTooLong→Kv,Obj.isFreed_of_fields→Kz,Heap.MadeExcOf→KC,SetTable.probe.go→K1,Calls.Name_function_global→Sq,Builtin.List.listLengthHint→SV,Builtin.List.listExtendWith→S0,Builtin.List.listSameRef→S3
open String renaming splitOnAux→SU
open Sum renaming inl→qk,inr→ql
open True renaming intro→qp
set_option Elab.async false
set_option linter.all false
set_option maxRecDepth 100000
namespace L2
open PySem PySem.Spec PyProof.Rows
noncomputable abbrev Key:=Sum Int Str
noncomputable def K4:Key->Value->Bool
 | .inl k,v=>Value.isInt k v
 | .inr x,v=>Value.isStrOf x v
noncomputable def S6(w:World):Key->Int
 | .inl k=>hashInt k
 | .inr x=>hashStr w x
theorem kz:∀{k:Key} {v:Value},K4 k v=true->(∃i t,k=qk i/\v=gA i t)\/(∃x t,k=ql x/\v=Value.str x t)
 | .inl i,v,h=>by
  obtain⟨t,e⟩:=Ks (k:=i) (v:=v) h
  exact .inl ⟨i,t,rfl,e⟩
 | .inr x,v,h=>by
  obtain⟨t,e⟩:=Value.isStrOf_shape (x:=x) (v:=v) h
  exact .inr ⟨x,t,rfl,e⟩
theorem S7(a b:Int):decide ((qk a:Key)=qk b)=(a==b):=by
 by_cases e:a=b
 ·subst e;simp
 ·have h:¬ (qk a:Key)=qk b:=λq=>e (Sum.inl.inj q)
  rw[decide_eq_false h]
  exact(beq_eq_false_iff_ne.mpr e).symm
theorem S8(a b:Str):decide ((ql a:Key)=ql b)=decide (a=b):=by
 by_cases e:a=b
 ·subst e;simp
 ·have h:¬ (ql a:Key)=ql b:=λq=>e (Sum.inr.inj q)
  rw[decide_eq_false h,decide_eq_false e]
theorem S9(a:Int)(b:Str):decide ((qk a:Key)=ql b)=false:=decide_eq_false (λq=>nomatch q)
theorem Tc(a:Str)(b:Int):decide ((ql a:Key)=qk b)=false:=decide_eq_false (λq=>nomatch q)
noncomputable def K5(prog:Program)(w:World):PySem.KeyKind prog w Key where
 is:=K4
 hash:=S6 w
 inj:=λv a b ha hb=>by
  rcases kz ha with⟨i,t,rfl,rfl⟩ | ⟨x,t,rfl,rfl⟩
  ·rcases kz hb with⟨j,u,rfl,e⟩ | ⟨y,u,rfl,e⟩
   ·injection e with e1 _;rw[e1]
   ·exact nomatch e
  ·rcases kz hb with⟨j,u,rfl,e⟩ | ⟨y,u,rfl,e⟩
   ·exact nomatch e
   ·injection e with e1 _;rw[e1]
 byValue:=λk v h=>by
  rcases kz h with⟨i,t,rfl,rfl⟩ | ⟨x,t,rfl,rfl⟩<;>rfl
 pyHash:=λhv h=>by
  rcases kz hv with⟨i,t,rfl,rfl⟩ | ⟨x,t,rfl,rfl⟩
  ·exact wpAny_pyHash_int h
  ·exact wpAny_pyHash_str h
 eqBool:=λhu hv h=>by
  rcases kz hu with⟨i,t,rfl,rfl⟩ | ⟨x,t,rfl,rfl⟩
  ·rcases kz hv with⟨j,u,rfl,rfl⟩ | ⟨y,u,rfl,rfl⟩
   ·rw[S7]at h;exact wpAny_eqBool_int h
   ·rw[S9]at h;exact SeqAt.EqAt.int_str i t y u _ _ _ _ h
  ·rcases kz hv with⟨j,u,rfl,rfl⟩ | ⟨y,u,rfl,rfl⟩
   ·rw[Tc]at h;exact SeqAt.EqAt.str_int x t j u _ _ _ _ h
   ·rw[S8]at h;exact wpAny_eqBool_str h
 «strs»:=λk x t v h=>by
  rcases kz h with⟨i,u,rfl,e⟩ | ⟨y,u,rfl,e⟩
  ·exact nomatch e
  ·injection e with e1 _
   subst e1
   cases v<;>rfl
end L2
namespace L2
open PySem PySem.Spec PyProof.Rows
inductive V where
 | ak | bl (b:Bool) | int (i:Int) | str (x:Str) | yP (b:Array UInt8) | om (b:UInt64) | ref (a:Addr) | ty (n:String)
 deriving DecidableEq
noncomputable def RelV:V->Value->Prop
 | .ak,u=>u=g8
 | .bl b,u=>u=BR b
 | .int i,u=>∃t,u=gA i t
 | .str x,u=>∃t,u=Value.str x t
 | .yP b,u=>∃t,u=Value.bytes b t
 | .om b,u=>∃t,u=Value.float b t
 | .ref a,u=>u=dN a
 | .ty n,u=>u=mj n
noncomputable abbrev Vals:List V->List Value->Prop:=Paired RelV
theorem Vals.length{xs:List V}{us:List Value}(r:Vals xs us):xs.length=us.length:=Paired.length r
theorem Vals.get:∀{xs:List V} {us:List Value} {i:Nat} {x:V},Vals xs us->xs[i]?=some x->∃u,us[i]?=some u/\RelV x u
 | _,_,_,_,.nil,e=>by simp at e
 | _,_,0,_,.cons r _,e=>by simp at e;subst e;exact⟨_,rfl,r⟩
 | _,_,i+1,x,.cons _ t,e=>by
  obtain⟨u,h1,h2⟩:=Vals.get (i:=i) (x:=x) t (by simpa using e)
  exact⟨u,by simpa using h1,h2⟩
theorem Vals.set{x:V}{u:Value}(r:RelV x u):∀{xs:List V} {us:List Value} (i:Nat),Vals xs us->Vals (xs.set i x) (us.set i u)
 | _,_,_,.nil=>.nil
 | _,_,0,.cons _ t=>.cons r t
 | _,_,i+1,.cons q t=>.cons q (Vals.set r i t)
theorem Vals.append:∀{xs ys:List V} {us ws:List Value},Vals xs us->Vals ys ws->Vals (xs++ys) (us++ws)
 | _,_,_,_,.nil,s=>s
 | _,_,_,_,.cons r t,s=>.cons r (Vals.append t s)
theorem Vals.take:∀{xs:List V} {us:List Value} (n:Nat),Vals xs us->Vals (xs.take n) (us.take n)
 | _,_,0,_=>.nil
 | _,_,_+1,.nil=>.nil
 | _,_,n+1,.cons r t=>.cons r (Vals.take n t)
theorem Vals.drop:∀{xs:List V} {us:List Value} (n:Nat),Vals xs us->Vals (xs.drop n) (us.drop n)
 | _,_,0,r=>r
 | _,_,_+1,.nil=>.nil
 | _,_,n+1,.cons _ t=>Vals.drop n t
theorem Vals.none_of:∀{xs:List V} {us:List Value} {i:Nat},Vals xs us->xs[i]?=none->us[i]?=none:=λ{xs us i} r e=>by
 have h1:=r.length
 have h2:xs.length<=i:=Kt.mp e
 exact Kt.mpr (by omega)
noncomputable def jL:Option V->Option Value->Prop
 | some v,some u=>RelV v u
 | none,none=>True
 | _,_=>False
noncomputable def KV{κ:Type}:List (κ × V)->List (κ × Value)->Prop:=Paired λ(p:κ × V) (q:κ × Value)=>p.1=q.1/\RelV p.2 q.2
noncomputable def kV:Key->V
 | .inl i=>.int i
 | .inr x=>.str x
inductive HO where
 | lst (xs:List V)
 | tup (xs:List V)
 | dK (cJ:List (Key × V)) | dT (cJ:List (List Key × V))
 | set (S:Int->Bool) (n:Nat)
 | ins (C dx:Addr) (fs:List (Str × V))
 | own (x:Addr)
 | xd (fs:List (Str × V))
 | met (f x:Addr)
 | vf (lo hi:Int)
 | bL (o:Obj) (u:HO)
 | cH (ps:Array Value)
 | ext (φ:Heap->Prop)
noncomputable abbrev Hp:=Addr->Option HO
noncomputable def upd(H:Hp)(a:Addr)(o:HO):Hp:=λb=>if b=a then some o else H b
theorem bO{H:Hp}{a:Addr}{o:HO}:upd H a o a=some o:=by unfold upd;rw[if_pos rfl]
theorem aM{H:Hp}{a b:Addr}{o:HO}(h:b≠a):upd H a o b=H b:=by unfold upd;rw[if_neg h]
theorem dH{H:Hp}{a b:Addr}{o:HO}(h:H a=some o)(h':H b=none):a≠b:=by
 intro e;subst e;rw[h]at h';cases h'
section
variable(P:Program)(w:World)
noncomputable def cP(H:Hp)(h:Heap)(a:Addr):HO->Prop
 | .lst xs=>xs.length<=sizeLine/\∃(its:List Value) (n:Nat),Vals xs its/\h.get? a=some { cls:=.type "list",data:=.seq its.toArray n }
 | .tup xs=>xs.length<=sizeLine/\∃its:List Value,Vals xs its/\IsTup h a its.toArray
 | .dK cJ=>cJ.length<=sizeLine/\(a==sysModules)=false/\∃vs,KV cJ vs/\h.DictOf (K5 P w) a vs
 | .dT cJ=>cJ.length<=sizeLine/\(a==sysModules)=false/\∃xs:List (List Key × Addr × Value),
   Paired (λ(p:List Key × V) (q:List Key × Addr × Value)=>p.1=q.1/\H q.2.1=some (.tup (p.1.map kV))/\RelV p.2 q.2.2) cJ xs /\
   ∃o es ep,h.get? a=some o/\o.ExactDict/\o.data=.dict es ep/\es.toList=xs.map (entryOfKey (tupleKind (K5 P w)))/\(xs.map (·.1)).Nodup
 | .set S n=>h.SetOf (intKind P w) a S n
 | .ins C dx fs=>H dx=some (.own a)/\fs.length<=1000/\dx≠a/\h.get? a=some (PySem.W.instObj C dx) /\
   ∃mA,h.Ns1 dx mA/\(∀f,jL (fs.lookup f) (mA f))/\PySem.Within mA (fs.map (·.1))
 | .own _=>∃o,h.get? a=some o
 | .xd fs=>∃mA,h.Ns1 a mA/\∀f,jL (fs.lookup f) (mA f)
 | .vf lo hi=>∃t u v,h.get? a=some { cls:=.type "range",data:=.fields #[.int lo t,.int hi u,.int 1 v] }
 | .bL o u=>h.get? a=some o/\cP H h a u
 | .cH ps=>h.get? a=some { cls:=.none,data:=.fields ps }/\TriplesOk ps.toList/\∀pos cv,codeAmong pos ps.toList=some cv->∃c φ,cv=.ref c/\H c=some (.ext φ)/\∀h',φ h'->∃q,h'.CodeRec (.ref c) q
 | .met f x=>h.get? a=some (PySem.W.methodObj (.ref f) (.ref x))
 | .ext φ=>φ h/\(∃o,h.get? a=some o)/\∀h1 h2:Heap,φ h1->(∀b o,(b=a\/H b=some (.own a))->h1.get? b=some o->h2.get? b=some o)->φ h2
noncomputable def bZ(H:Hp)(h:Heap):Prop:=∀a o,H a=some o->cP P w H h a o
end
section
variable{P:Program}{w:World}{H H':Hp}{h h':Heap}{a:Addr}{o:HO}
theorem cP.lt(x:cP P w H h a o):a<h.objs.size:=by
 cases o with
 | lst xs=>obtain⟨_,_,_,_,e⟩:=x;exact bf e
 | tup xs=>obtain⟨_,_,_,p⟩:=x;exact p.lt
 | dK cJ=>obtain⟨_,_,_,_,o,_,_,e,_⟩:=x;exact bf e
 | dT cJ=>obtain⟨_,_,_,_,o,_,_,e,_⟩:=x;exact bf e
 | set S n=>obtain⟨o,_,_,_,e,_⟩:=x;exact bf e
 | ins C dx fs=>obtain⟨_,_,_,e,_⟩:=x;exact bf e
 | own y=>obtain⟨_,e⟩:=x;exact bf e
 | xd fs=>obtain⟨_,⟨_,_,_,e,_⟩,_⟩:=x;exact bf e
 | vf lo hi=>obtain⟨_,_,_,e⟩:=x;exact bf e
 | bL ob u=>obtain⟨e,_⟩:=x;exact bf e
 | cH ps=>exact bf (show h.get? a=some _ from x.1)
 | met f y=>exact bf (show h.get? a=some _ from x)
 | ext φ=>obtain⟨_,⟨_,e⟩,_⟩:=x;exact bf e
theorem Paired.Cv{α β:Type}{F G:α->β->Prop}:∀{l₁:List α} {l₂:List β},Paired F l₁ l₂->(∀a b,F a b->G a b)->Paired G l₁ l₂
 | _,_,.nil,_=>.nil
 | _,_,.cons r t,f=>.cons (f _ _ r) (Paired.Cv t f)
theorem cP.iO(x:cP P w H h a o)(k:∀b u,(b=a\/H b=some (.own a))->h.get? b=some u->h'.get? b=some u)
  (ho:∀b,H b=some (.own a)->H' b=some (.own a)) (ht:∀b xs,H b=some (.tup xs)->H' b=some (.tup xs)) (hx:∀b φ,H b=some (.ext φ)->H' b=some (.ext φ)):cP P w H' h' a o:=by
 induction o with
 | lst xs=>obtain⟨z,its,n,r,e⟩:=x;exact⟨z,its,n,r,k _ _ (.inl rfl) e⟩
 | tup xs=>obtain⟨z,its,r,ob,e,c⟩:=x;exact⟨z,its,r,ob,k _ _ (.inl rfl) e,c⟩
 | dK cJ=>obtain⟨z,y,vs,r,ob,es,ep,e,c⟩:=x;exact⟨z,y,vs,r,ob,es,ep,k _ _ (.inl rfl) e,c⟩
 | dT cJ =>
  obtain⟨z,y,xs,r,ob,es,ep,e,c⟩:=x
  exact⟨z,y,xs,Paired.Cv r λp q z=>⟨z.1,ht _ _ z.2.1,z.2.2⟩,ob,es,ep,k _ _ (.inl rfl) e,c⟩
 | set S n=>obtain⟨ob,es,ep,t,e,c⟩:=x;exact⟨ob,es,ep,t,k _ _ (.inl rfl) e,c⟩
 | ins C dx fs =>
  obtain⟨d,z,ne,e,mA,⟨od,es,ep,e2,c⟩,r⟩:=x
  exact⟨ho _ d,z,ne,k _ _ (.inl rfl) e,mA,⟨od,es,ep,k _ _ (.inr d) e2,c⟩,r⟩
 | own y=>obtain⟨ob,e⟩:=x;exact⟨ob,k _ _ (.inl rfl) e⟩
 | xd fs=>obtain⟨mA,⟨od,es,ep,e,c⟩,r⟩:=x;exact⟨mA,⟨od,es,ep,k _ _ (.inl rfl) e,c⟩,r⟩
 | vf lo hi=>obtain⟨t,u,v,e⟩:=x;exact⟨t,u,v,k _ _ (.inl rfl) e⟩
 | bL ob u ih=>obtain⟨e,q⟩:=x;exact⟨k _ _ (.inl rfl) e,ih q⟩
 | cH ps =>
  obtain⟨e,t,c⟩:=x
  refine⟨k a _ (.inl rfl) e,t,λpos cv q=>?_⟩
  obtain⟨d,φ,e1,e2,e3⟩:=c pos cv q
  exact⟨d,φ,e1,hx _ _ e2,e3⟩
 | met f y =>
  have e:h.get? a=some (PySem.W.methodObj (.ref f) (.ref y)):=x
  show h'.get? a=some (PySem.W.methodObj (.ref f) (.ref y))
  exact k a _ (.inl rfl) e
 | ext φ=>obtain⟨p,⟨o,e⟩,st⟩:=x;exact⟨st _ _ p λb o hb q=>k _ _ hb q,⟨o,k _ _ (.inl rfl) e⟩,λh1 h2 p1 kk=>st h1 h2 p1 λb o hb q=>kk b o (hb.imp id (ho b)) q⟩
theorem bZ.lt(x:bZ P w H h)(e:H a=some o):a<h.objs.size:=(x a o e).lt
theorem bZ.fresh(x:bZ P w H h)(e:h.objs.size<=a):H a=none:=by
 cases q:H a with
 | none=>rfl
 | some u=>exact absurd (cq (x.lt q) e) (fE _)
theorem bZ.kept(x:bZ P w H h)(k:∀b u,h.get? b=some u->h'.get? b=some u):bZ P w H h':=λa o e =>
 (x a o e).iO (λb u _ q=>k b u q) (λ_ q=>q) (λ_ _ q=>q) λ_ _ q=>q
theorem bZ.laid(x:bZ P w H h)(k:∀b u,h.get? b=some u->h'.get? b=some u)(hp:h.objs.size<=a)(new:cP P w (upd H a o) h' a o):bZ P w (upd H a o) h':=λb u e=>by
 have hn:=x.fresh hp
 by_cases hb:b=a
 ·subst hb;rw[bO]at e;cases e;exact new
 ·rw[aM hb]at e
  exact(x b u e).iO (λc v _ q=>k c v q) (λc q=>by rw[aM (dH q hn)];exact q) (λc xs q=>by rw[aM (dH q hn)];exact q) λc xs q=>by rw[aM (dH q hn)];exact q
end
noncomputable def Rd(H:Hp)(a:Addr)(u:HO):Prop:=H a=some u\/∃o,H a=some (.bL o u)
theorem Rd.of{H:Hp}{a:Addr}{u:HO}(h:H a=some u):Rd H a u:=.inl h
theorem Rd.ok{P:Program}{w:World}{H:Hp}{h:Heap}{a:Addr}{u:HO}(r:Rd H a u)(x:bZ P w H h):cP P w H h a u:=by
 rcases r with r | ⟨o,r⟩
 ·exact x a u r
 ·obtain⟨_,q⟩:=x a _ r
  exact q
noncomputable def yQ:Option HO->Prop
 | some (.lst _)=>True
 | some (.dK _)=>True
 | some (.dT _)=>True
 | some (.set _ _)=>True
 | some (.ins _ _ _)=>True
 | _=>False
section
variable{P:Program}{w:World}{H:Hp}{h h':Heap}{x e:Addr}{o':HO}
theorem bZ.write(ok:bZ P w H h)(mu:yQ (H x))(he:e=x\/H e=some (.own x))(k:∀b u,b≠e->h.get? b=some u->h'.get? b=some u)(qJ:∃u,h'.get? e=some u)
  (new:cP P w (upd H x o') h' x o'):bZ P w (upd H x o') h':=λb u q=>by
 have K6:∀c y,H c=some (.own y)->c≠x:=λc y r z=>by subst z;rw[r]at mu;exact mu
 have Td:∀c xs,H c=some (.tup xs)->c≠x:=λc xs r z=>by subst z;rw[r]at mu;exact mu
 by_cases hb:b=x
 ·subst hb;rw[bO]at q;cases q;exact new
 ·rw[aM hb]at q
  by_cases oo:b=e
  ·have q':H b=some (.own x):=by
    rcases he with z | z
    ·exact absurd (oo.trans z) hb
    ·rw[oo];exact z
   rw[q]at q';cases q'
   obtain⟨v,hv⟩:=qJ
   exact⟨v,by rw[oo];exact hv⟩
  ·refine(ok b u q).iO (λc v hc r=>k c v ?_ r) (λc r=>by rw[aM (K6 c b r)];exact r) (λc xs r=>by rw[aM (Td c xs r)];exact r) λc φ r=>by rw[aM (λz=>by rw[z]at r;rw[r]at mu;exact mu)];exact r
   rcases hc with rfl | hc
   ·exact oo
   ·rintro rfl
    rcases he with z | z
    ·exact K6 c b hc z
    ·rw[hc]at z;cases z;exact hb rfl
end
structure Un(fs ex:List Addr)(H H':Hp)(h h':Heap):Prop where
 keep:∀b o,h.get? b=some o->H b=none->b ∉ fs->b ∉ ex->h'.get? b=some o
 slot:∀b o,h.get? b=some o->H b=none->b∈fs->b ∉ ex->∃sl,h'.get? b=some { o with slots:=sl }
 free:∀b o,h.get? b=some o->H b=none->b ∉ ex->H' b=none
 there:∀b o,h.get? b=some o->b ∉ ex->∃o',h'.get? b=some o'
 fk:∀b xs,H b=some (.tup xs)->H' b=some (.tup xs)
 eW:∀b o u,H b=some (.bL o u)->H' b=some (.bL o u)
 eG:∀b ps,H b=some (.cH ps)->∃more,H' b=some (.cH (ps++more))
section
variable{fs Cw ex K7:List Addr}{H H1 H2:Hp}{h h1 h2 h':Heap}{a x e:Addr}{o:HO}
theorem Un.any(u:Un fs ex H H1 h h1){b:Addr}{ob:Obj}(q:h.get? b=some ob)(n:H b=none)(hx:b ∉ ex):∃sl,h1.get? b=some { ob with slots:=sl }:=by
 by_cases hb:b∈fs
 ·exact u.slot b ob q n hb hx
 ·exact⟨ob.slots,u.keep b ob q n hb hx⟩
theorem Un.trans(a:Un fs ex H H1 h h1)(b:Un fs ex H1 H2 h1 h2):Un fs ex H H2 h h2 where
 keep:=λc ob q n hc hx=>b.keep c ob (a.keep c ob q n hc hx) (a.free c ob q n hx) hc hx
 slot:=λc ob q n hc hx=>by
  obtain⟨sl,e1⟩:=a.slot c ob q n hc hx
  obtain⟨vg,e2⟩:=b.slot c _ e1 (a.free c ob q n hx) hc hx
  exact⟨vg,e2⟩
 free:=λc ob q n hx=>by
  obtain⟨o',e1⟩:=a.there c ob q hx
  exact b.free c o' e1 (a.free c ob q n hx) hx
 there:=λc ob q hx=>by
  obtain⟨o',e1⟩:=a.there c ob q hx
  exact b.there c o' e1 hx
 fk:=λc xs q=>b.fk c xs (a.fk c xs q)
 eW:=λc ob xs q=>b.eW c ob xs (a.eW c ob xs q)
 eG:=λc ps q=>by
  obtain⟨m1,e1⟩:=a.eG c ps q
  obtain⟨m2,e2⟩:=b.eG c _ e1
  exact⟨m1++m2,by rw[e2,uV]⟩
theorem Un.kept(k:∀b u,h.get? b=some u->h'.get? b=some u):Un fs ex H H h h' :=
 ⟨λb ob q _ _ _=>k b ob q,λb ob q _ _ _=>⟨ob.slots,k b ob q⟩,λ_ _ _ n _=>n,λb ob q _=>⟨ob,k b ob q⟩,λ_ _ q=>q,λ_ _ _ q=>q,λ_ ps q=>⟨#[],by rw[q];simp⟩⟩
theorem Un.refl:Un fs ex H H h h:=Un.kept λ_ _ q=>q
theorem Un.laid(k:∀b u,h.get? b=some u->h'.get? b=some u)(hp:h.objs.size<=a)(hn:H a=none):Un fs ex H (upd H a o) h h' where
 keep:=λb u q _ _ _=>k b u q
 slot:=λb u q _ _ _=>⟨u.slots,k b u q⟩
 free:=λb u q n _=>by rw[aM (cI (cq (bf q) hp))];exact n
 there:=λb u q _=>⟨u,k b u q⟩
 fk:=λb xs q=>by rw[aM (dH q hn)];exact q
 eW:=λb u xs q=>by rw[aM (dH q hn)];exact q
 eG:=λb ps q=>⟨#[],by rw[aM (dH q hn),q];simp⟩
theorem Un.write(mu:yQ (H x))(he:e=x\/H e=some (.own x))(k:∀b u,b≠e->h.get? b=some u->h'.get? b=some u)(qJ:∃u,h'.get? e=some u):Un fs ex H (upd H x o) h h':=by
 have hx:∀b,H b=none->b≠x:=λb n z=>by subst z;rw[n]at mu;exact mu
 have hb:∀b,H b=none->b≠e:=λb n z=>by
  subst z
  rcases he with r | r
  ·exact hx b n r
  ·rw[n]at r;cases r
 have hm:∀b u,H b=some u->¬ yQ (some u)->b≠x:=λb u q nm z=>by subst z;rw[q]at mu;exact nm mu
 refine⟨λb u q n _ _=>k b u (hb b n) q,λb u q n _ _=>⟨u.slots,k b u (hb b n) q⟩,λb u q n _=>by rw[aM (hx b n)];exact n,λb u q _=>?_,
  λb xs q=>by rw[aM (hm b _ q λz=>z)];exact q,λb u xs q=>by rw[aM (hm b _ q λz=>z)];exact q,λb ps q=>⟨#[],by rw[aM (hm b _ q λz=>z),q];simp⟩⟩
 by_cases oo:b=e
 ·subst oo;exact qJ
 ·exact⟨u,k b u oo q⟩
theorem Un.mono(u:Un fs ex H H1 h h1)(hs:∀b∈fs,b∈Cw)(hx:∀b∈ex,b∈K7):Un Cw K7 H H1 h h1 :=
 ⟨λb ob q n hb he=>u.keep b ob q n (λz=>hb (hs b z)) λz=>he (hx b z),λ_ _ q n _ he=>u.any q n λz=>he (hx _ z),λb ob q n he=>u.free b ob q n λz=>he (hx b z),λb ob q he=>u.there b ob q λz=>he (hx b z),u.fk,u.eW,u.eG⟩
end
noncomputable def yR(h:Heap)(H:Hp):List Addr:=(aR h.objs.size).filter λa=>(H a).isSome
noncomputable def jM(h:Heap)(H:Hp):Heap:=PySem.W.hideAll h (yR h H)
theorem Te(h:Heap)(H:Hp):(jM h H).objs.size=h.objs.size:=PySem.W.hideAll_size _ _
theorem Tf{h:Heap}{H:Hp}{b:Addr}{o:Obj}(e:h.get? b=some o)(n:H b=none):(jM h H).get? b=some o :=
 PySem.W.hideAll_get _ e λhm=>by
  have q:(H b).isSome=true:=(yg.mp hm).2
  rw[n]at q;simp at q
theorem Tg{h:Heap}{H:Hp}{b:Addr}{o:Obj}(e:(jM h H).get? b=some o):h.get? b=some o/\H b=none:=by
 have e':h.get? b=some o:=PySem.W.of_hideAll (yR h H) e
 refine⟨e',?_⟩
 cases q:H b with
 | none=>rfl
 | some x =>
  have hm:b∈yR h H:=yg.mpr ⟨dO.mpr (bf e'),by simp[q]⟩
  have z:(jM h H).get? b=none:=PySem.W.hideAll_none (yR h H) hm
  rw[z]at e;cases e
noncomputable def Th(g h:Heap)(L:Addr):List (Addr × Obj):=(aR h.objs.size).filterMap λa=>if a=L\/(g.get? a).isSome=true then none else(h.get? a).map λo=>(a,o)
noncomputable def eH(g h:Heap)(L d:Addr):List (Addr × Obj):=(Th g h L).filter λp=>decide (p.1≠d)
end L2
namespace L2
open PySem PySem.Spec PyProof.Rows
structure Mod(K:PySem.W.Frag)(mg:Str->Option Value)(base:Heap):Prop where
 kA:K.In base
 glob:base.Ns mainGlobals mg
 blt:∃mb,base.Ns builtinsNs mb/\∀x:Str,x≠"__name__"->mb x=bootBuiltins x
 nolimit:base.NoLimit
structure Cx where
 prog:Program
 w:World
 K:PySem.W.Frag
 mg:Str->Option Value
 base:Heap
 A:Around
 N:List Str
 bQ:Shared
 i7:Hp
 env:Env
 outer:List Env
 stack:List Env
 ex:List Addr
 fn:Str->Bool
 calm:Bool
 pn:List (Addr × Obj)
 xe:Value->Shared->Prop
noncomputable def cK(l:List Env):List Addr:=l.filterMap (·.frame)
noncomputable abbrev Cx.fs(X:Cx):List Addr:=cK X.outer
noncomputable def i8(sc:Scope)(x:Str):Prop:=sc.names.lookup x=some .local\/sc.names.lookup x=some .cell\/sc.names.lookup x=some .free
noncomputable def Loc(sc:Scope)(x:Str):Prop:=sc.names.lookup x=some .local\/sc.names.lookup x=some .cell
noncomputable def Ti(env:Env)(h:Heap)(m:Str->Option Value)(x:Str)(u:Value):Prop :=
 (env.kindOf x=some .local/\m x=some u)\/((env.kindOf x=some .cell\/env.kindOf x=some .free)/\∃c,env.cells.lookup x=some c/\h.IsCell c (some u))
structure Cx.Ok(X:Cx):Prop where
 mod:Mod X.K X.mg X.base
 kind:X.env.scope.kind=.function
 glob:X.env.globals=mainGlobals
 blt:X.env.builtins=builtinsNs
 above:X.bQ.heap.objs.size<=X.env.locals
 inj:∀x y c,X.env.cells.lookup x=some c->X.env.cells.lookup y=some c->x=y
 has:∀x,(X.env.kindOf x=some .cell\/X.env.kindOf x=some .free)->∃c,X.env.cells.lookup x=some c
 oq:∀x c,X.fn x=true->X.env.cells.lookup x=some c->X.bQ.heap.objs.size<=c
 hd:X.calm=true->X.A.handled=none
 frames:X.A.frames=some X.stack
 vh:X.stack=X.outer\/(X.stack=X.env::X.outer/\X.env.frame=some X.env.locals)
 vi:∀b∈X.ex,b≠X.env.locals/\∀x c,X.env.cells.lookup x=some c->c≠b
 bs:∀b o,X.base.get? b=some o->X.bQ.heap.get? b=some o/\X.i7 b=none
 gC:X.base.objs.size<=X.bQ.heap.objs.size
 qK:∀b o,X.base.get? b=some o->b ∉ X.ex
 qL:∀b∈X.ex,b ∉ X.fs
 eX:X.bQ.heap.FunFrames X.base X.outer
 ib:∀b∈X.fs,X.i7 b=none
structure Inv(X:Cx)(pins:List (Addr × Obj))(σ:List (Option V))(H:Hp)(s:Shared):Prop where
 ok:X.Ok
 os:s.os=X.bQ.os
 bare:AllBare s.gens
 base:Un X.fs X.ex X.i7 H X.bQ.heap s.heap
 loc:∃m,s.heap.Ns X.env.locals m/\∀(i:Nat) (x:Str) (v:V),X.N[i]?=some x->σ[i]?=some (some v)->i8 X.env.scope x->∃u,RelV v u/\Ti X.env s.heap m x u
 cell:∀x c,X.env.cells.lookup x=some c->∃v,s.heap.IsCell c v
 free:H X.env.locals=none
 gb:∀x c,X.env.cells.lookup x=some c->H c=none
 pin:∀p∈X.pn++pins,s.heap.get? p.1=some p.2/\H p.1=none/\p.1≠X.env.locals/\p.1 ∉ X.fs/\∀v,p.2.data≠.cell v
 ay:bZ X.prog X.w H s.heap
 len:σ.length=X.N.length
section
variable{X:Cx}{pins:List (Addr × Obj)}{σ:List (Option V)}{H H':Hp}{s:Shared}{h':Heap}
theorem Cx.Ok.Tj(ok:X.Ok){b:Addr}{o:Obj}(e:X.base.get? b=some o):b ∉ X.fs:=λhb=>by
 have:=(ok.eX.mem hb).1
 rw[e]at this;cases this
theorem Inv.bs(I:Inv X pins σ H s):∀b o,X.base.get? b=some o->s.heap.get? b=some o/\H b=none:=λb o e =>
 ⟨I.base.keep b o (I.ok.bs b o e).1 (I.ok.bs b o e).2 (I.ok.Tj e) (I.ok.qK b o e),I.base.free b o (I.ok.bs b o e).1 (I.ok.bs b o e).2 (I.ok.qK b o e)⟩
theorem Inv.bk(I:Inv X pins σ H s):∀b o,X.base.get? b=some o->s.heap.get? b=some o:=λb o e=>(I.bs b o e).1
theorem Inv.mod(I:Inv X pins σ H s):Mod X.K X.mg X.base:=I.ok.mod
theorem Inv.cE(I:Inv X pins σ H s):X.K.In s.heap:=I.ok.mod.kA.keeps I.bk
theorem Inv.nolimit(I:Inv X pins σ H s):s.heap.NoLimit:=I.ok.mod.nolimit.keeps I.bk
theorem Inv.fr(I:Inv X pins σ H s):∃m,Fr X.base X.env.locals s.heap m :=
 let⟨m,hn,_⟩:=I.loc
 ⟨m,hn,I.bk,dP I.ok.gC I.ok.above⟩
theorem Inv.lt(I:Inv X pins σ H s):X.env.locals<s.heap.objs.size:=let⟨_,hn,_⟩:=I.loc;hn.lt
theorem Inv.sz(I:Inv X pins σ H s):X.bQ.heap.objs.size<=s.heap.objs.size:=dP I.ok.above (nV I.lt)
theorem Inv.K8(I:Inv X pins σ H s){a:Addr}(h:s.heap.objs.size<=a):a ∉ X.fs:=λhb=>by
 obtain⟨_,o,ho,_⟩:=I.ok.eX.mem hb
 exact absurd (cq (bf ho) (dP I.sz h)) (fE _)
theorem Inv.mJ(I:Inv X pins σ H s):∀x c,X.env.cells.lookup x=some c->c≠X.env.locals:=λx c e z=>by
 obtain⟨v,o,ho,hd⟩:=I.cell x c e
 obtain⟨m,⟨o',es,ep,i9,vj,_⟩,_⟩:=I.loc
 rw[z,i9]at ho;cases ho;rw[vj]at hd;cases hd
theorem Inv.eX(I:Inv X pins σ H s):s.heap.FunFrames X.base X.outer:=by
 have all:∀(l:List Env),(∀b∈cK l,b∈X.fs)->X.bQ.heap.FunFrames X.base l->s.heap.FunFrames X.base l:=by
  intro l
  induction l with
  | nil=>intro _ _;trivial
  | cons env r ih =>
   intro hs hl
   obtain⟨hk,⟨L,o,hf,hn,ho,hd⟩,hr⟩:=hl
   have hL:L∈X.fs:=hs L (by unfold cK;rw[qm,hf];exact mm)
   obtain⟨sl,e⟩:=I.base.slot L o ho (I.ok.ib L hL) hL λz=>I.ok.qL L z hL
   exact⟨hk,⟨L,_,hf,hn,e,hd⟩,ih (λb hb=>hs b (by unfold cK;rw[qm,hf];exact fF _ hb)) hr⟩
 exact all X.outer (λ_ hb=>hb) I.ok.eX
theorem Inv.stack(I:Inv X pins σ H s):s.heap.FunFrames X.base X.stack:=by
 rcases I.ok.vh with e | ⟨e,hf⟩
 ·rw[e];exact I.eX
 ·rw[e]
  obtain⟨m,hn,_⟩:=I.loc
  refine .cons (by rw[I.ok.kind];decide) hf hn ?_ I.eX
  exact Heap.get?_none_of_le (dP I.ok.gC I.ok.above)
theorem Inv.vk(I:Inv X pins σ H s):∀b∈cK X.stack,b∈X.env.locals::X.fs:=λb hb=>by
 rcases I.ok.vh with e | ⟨e,hf⟩
 ·rw[e]at hb;exact fF _ hb
 ·rw[e]at hb
  unfold cK at hb
  rw[qm,hf]at hb
  exact hb
theorem Inv.yS(I:Inv X pins σ H s):∀b∈cK X.stack,H b=none:=λb hb=>by
 rcases bJ.mp (I.vk b hb)with e | hb
 ·rw[e];exact I.free
 ·obtain⟨_,o,ho,_⟩:=I.ok.eX.mem hb
  exact I.base.free b o ho (I.ok.ib b hb) λz=>I.ok.qL b z hb
theorem Inv.step{g':Array GenState}{t':Nat}{d':Drawn}{ch:List Addr}(I:Inv X pins σ H s)
  (jN:∀b∈ch,(b∈X.ex\/X.bQ.heap.objs.size<=b)/\b≠X.env.locals/\(∀x c,X.env.cells.lookup x=some c->c≠b)/\∀p∈X.pn++pins,p.1≠b)
  (keep:∀b o,b≠X.env.locals->b ∉ X.fs->b ∉ ch->s.heap.get? b=some o->H b=none->h'.get? b=some o)
  (slot:∀b o,b≠X.env.locals->b∈X.fs->b ∉ ch->s.heap.get? b=some o->H b=none->∃sl,h'.get? b=some { o with slots:=sl }) (free:∀b o,b ∉ ch->s.heap.get? b=some o->H b=none->H' b=none)
  (there:∀b o,b ∉ ch->s.heap.get? b=some o->∃o',h'.get? b=some o')
  (fk:∀b xs,H b=some (.tup xs)->H' b=some (.tup xs)) (eW:∀b o u,H b=some (.bL o u)->H' b=some (.bL o u)) (eG:∀b ps,H b=some (.cH ps)->∃more,H' b=some (.cH (ps++more)))
  (ns:∀m,s.heap.Ns X.env.locals m->h'.Ns X.env.locals m) (ay:bZ X.prog X.w H' h') (hg:AllBare g') :
  Inv X pins σ H' { s with heap:=h',gens:=g',drawn:=d',toks:=t' }:=by
 have qM:∀b o,X.bQ.heap.get? b=some o->b≠X.env.locals:=λb o e=>cI (cq (bf e) I.ok.above)
 have qN:∀b o,X.bQ.heap.get? b=some o->b ∉ X.ex->b ∉ ch:=λb o e hx hb=>by
  rcases(jN b hb).1 with z | z
  ·exact hx z
  ·exact absurd (cq (bf e) z) (fE _)
 have cellK:∀x c,X.env.cells.lookup x=some c->∀v,s.heap.IsCell c v->h'.IsCell c v:=λx c e v ⟨o,ho,hd⟩=>by
  have vm:c ∉ ch:=λz=>(jN c z).2.2.1 x c e rfl
  by_cases hc:c∈X.fs
  ·obtain⟨sl,q⟩:=slot c o (I.mJ x c e) hc vm ho (I.gb x c e)
   exact⟨_,q,hd⟩
  ·exact⟨o,keep c o (I.mJ x c e) hc vm ho (I.gb x c e),hd⟩
 refine⟨I.ok,I.os,hg,⟨λb o e n hb hx=>?_,λb o e n hb hx=>?_,λb o e n hx=>?_,λb o e hx=>?_,λb xs e=>fk b xs (I.base.fk b xs e),λb o xs e=>eW b o xs (I.base.eW b o xs e),λb ps e=>?_⟩,?_,λx c e=>?_,?_,λx c e=>?_,λp hp=>?_,ay,I.len⟩
 ·exact keep b o (qM b o e) hb (qN b o e hx) (I.base.keep b o e n hb hx) (I.base.free b o e n hx)
 ·obtain⟨sl,e1⟩:=I.base.slot b o e n hb hx
  obtain⟨vg,e2⟩:=slot b _ (qM b o e) hb (qN b o e hx) e1 (I.base.free b o e n hx)
  exact⟨vg,e2⟩
 ·obtain⟨o',e1⟩:=I.base.there b o e hx
  exact free b o' (qN b o e hx) e1 (I.base.free b o e n hx)
 ·obtain⟨o',e1⟩:=I.base.there b o e hx
  exact there b o' (qN b o e hx) e1
 ·obtain⟨m1,e1⟩:=I.base.eG b ps e
  obtain⟨m2,e2⟩:=eG b _ e1
  exact⟨m1++m2,by rw[e2,uV]⟩
 ·obtain⟨m,hn,hl⟩:=I.loc
  refine⟨m,ns m hn,λi x v e1 e2 e3=>?_⟩
  obtain⟨u,r,l⟩:=hl i x v e1 e2 e3
  refine⟨u,r,?_⟩
  rcases l with l | ⟨k,c,e,z⟩
  ·exact .inl l
  ·exact .inr ⟨k,c,e,cellK x c e _ z⟩
 ·obtain⟨v,z⟩:=I.cell x c e
  exact⟨v,cellK x c e v z⟩
 ·obtain⟨m,⟨o,_,_,ho,_⟩,_⟩:=I.loc
  exact free _ o (λz=>(jN _ z).2.1 rfl) ho I.free
 ·obtain⟨v,o,ho,hd⟩:=I.cell x c e
  exact free c o (λz=>(jN c z).2.2.1 x c e rfl) ho (I.gb x c e)
 ·obtain⟨e,n,ne,nf,d⟩:=I.pin p hp
  have vm:p.1 ∉ ch:=λz=>(jN p.1 z).2.2.2 p hp rfl
  exact⟨keep p.1 p.2 ne nf vm e n,free p.1 p.2 vm e n,ne,nf,d⟩
theorem Inv.un{t':Nat}(I:Inv X pins σ H s)(u:Un X.fs [] H H' s.heap h')(ay:bZ X.prog X.w H' h'):Inv X pins σ H' { s with heap:=h',toks:=t' }:=by
 obtain⟨m,⟨o,es,ep,ho,r⟩,_⟩:=id I.loc
 obtain⟨sl,hL⟩:=u.any ho I.free (by simp)
 exact I.step (g':=s.gens) (d':=s.drawn) (ch:=[]) (λ_ z=>nomatch z) (λb o _ hb _ e n=>u.keep b o e n hb (by simp)) (λb o _ hb _ e n=>u.slot b o e n hb (by simp)) (λb o _ e n=>u.free b o e n (by simp)) (λb o _ e=>u.there b o e (by simp)) u.fk u.eW u.eG (λm' hm=>by
  obtain⟨o',Cy,Cz,i9,r'⟩:=hm
  rw[ho]at i9;cases i9
  exact⟨_,Cy,Cz,hL,r'⟩) ay I.bare
theorem Inv.call{g':Array GenState}{t':Nat}{d':Drawn}{ch:List Addr}(I:Inv X pins σ H s)(u:Un (cK X.stack) ch H H' s.heap h')(ay:bZ X.prog X.w H' h')(hg:AllBare g')
  (jN:∀b∈ch,(b∈X.ex\/X.bQ.heap.objs.size<=b)/\b≠X.env.locals/\(∀x c,X.env.cells.lookup x=some c->c≠b)/\∀p∈X.pn++pins,p.1≠b) :
  Inv X pins σ H' { s with heap:=h',gens:=g',drawn:=d',toks:=t' }:=by
 obtain⟨m,⟨o,es,ep,ho,r⟩,_⟩:=id I.loc
 obtain⟨sl,hL⟩:=u.any ho I.free λz=>(jN _ z).2.1 rfl
 exact I.step (ch:=ch) jN (λb o hL hb hc e n=>u.keep b o e n (λz=>(bJ.mp (I.vk b z)).elim hL hb) hc) (λb o _ _ hc e n=>u.any e n hc) (λb o hc e n=>u.free b o e n hc) (λb o hc e=>u.there b o e hc) u.fk u.eW u.eG (λm' hm=>by
  obtain⟨o',Cy,Cz,i9,r'⟩:=hm
  rw[ho]at i9;cases i9
  exact⟨_,Cy,Cz,hL,r'⟩) ay hg
theorem Inv.turned{t':Nat}{it:Addr}(I:Inv X pins σ H s)(k:∀b o,b≠it->s.heap.get? b=some o->h'.get? b=some o)(hn:H it=none)(hL:it≠X.env.locals)
  (h1:it∈X.ex\/X.bQ.heap.objs.size<=it) (h2:∀x c,X.env.cells.lookup x=some c->c≠it) (h3:∀p∈X.pn++pins,p.1≠it):Inv X pins σ H { s with heap:=h',toks:=t' }:=by
 have mK:∀b u,H b=some u->b≠it:=λb u e z=>by rw[z,hn]at e;cases e
 refine I.step (g':=s.gens) (d':=s.drawn) (ch:=[it]) (λb hb=>?_) (λb o _ _ hc e _=>k b o (λz=>hc (by simp[z])) e) (λb o _ _ hc e _=>⟨o.slots,k b o (λz=>hc (by simp[z])) e⟩) (λ_ _ _ _ n=>n)
  (λb o hc e=>⟨o,k b o (λz=>hc (by simp[z])) e⟩) (λ_ _ e=>e) (λ_ _ _ e=>e) (λb ps e=>⟨#[],by rw[e];simp⟩) (λm hm=>?_) (λb u e=>?_) I.bare
 ·have e:b=it:=by simpa using hb
  subst e
  exact⟨h1,hL,h2,h3⟩
 ·obtain⟨o,es,ep,ho,r⟩:=hm
  exact⟨o,es,ep,k _ o (dy hL) ho,r⟩
 ·refine(I.ay b u e).iO (λc v hc q=>k c v ?_ q) (λ_ q=>q) (λ_ _ q=>q) λ_ _ q=>q
  rcases hc with z | z
  ·rw[z];exact mK b u e
  ·exact mK c _ z
theorem Inv.tok(I:Inv X pins σ H s)(t:Nat):Inv X pins σ H { s with toks:=t }:=I.un (h':=s.heap) (t':=t) Un.refl I.ay
theorem Inv.kept{t':Nat}(I:Inv X pins σ H s)(k:∀b u,s.heap.get? b=some u->h'.get? b=some u):Inv X pins σ H { s with heap:=h',toks:=t' }:=I.un (Un.kept k) (I.ay.kept k)
theorem Inv.laid{a:Addr}{o:HO}{t':Nat}(I:Inv X pins σ H s)(k:∀b u,s.heap.get? b=some u->h'.get? b=some u)(hp:s.heap.objs.size<=a)(new:cP X.prog X.w (upd H a o) h' a o) :
  Inv X pins σ (upd H a o) { s with heap:=h',toks:=t' }:=I.un (Un.laid k hp (I.ay.fresh hp)) (I.ay.laid k hp new)
theorem Inv.write{x e:Addr}{o:HO}{t':Nat}(I:Inv X pins σ H s)(mu:yQ (H x))(he:e=x\/H e=some (.own x))(k:∀b u,b≠e->s.heap.get? b=some u->h'.get? b=some u)(qJ:∃u,h'.get? e=some u)
  (new:cP X.prog X.w (upd H x o) h' x o):Inv X pins σ (upd H x o) { s with heap:=h',toks:=t' }:=I.un (Un.write mu he k qJ) (I.ay.write mu he k qJ new)
theorem Inv.weak{av:List (Option V)}(I:Inv X pins σ H s)(hl:av.length=σ.length)(w:∀(i:Nat) v,av[i]?=some (some v)->σ[i]?=some (some v)):Inv X pins av H s :=
 ⟨I.ok,I.os,I.bare,I.base,let⟨m,hn,qO⟩:=I.loc;⟨m,hn,λi x v e1 e2 e3=>qO i x v e1 (w i v e2) e3⟩,I.cell,I.free,I.gb,I.pin,I.ay,hl.trans I.len⟩
theorem Inv.K9{CA:List (Addr × Obj)}(I:Inv X pins σ H s)(h:∀p∈CA,s.heap.get? p.1=some p.2/\H p.1=none/\p.1≠X.env.locals/\p.1 ∉ X.fs/\∀v,p.2.data≠.cell v):Inv X CA σ H s :=
 ⟨I.ok,I.os,I.bare,I.base,I.loc,I.cell,I.free,I.gb,λp hp=>(bP.mp hp).elim (λz=>I.pin p (eU _ z)) (h p),I.ay,I.len⟩
theorem La{N:List Str}(hN:N.Nodup){i j:Nat}{x:Str}(a:N[i]?=some x)(b:N[j]?=some x):i=j:=by
 obtain⟨h1,e1⟩:=g9.mp a
 obtain⟨h2,e2⟩:=g9.mp b
 exact(List.getElem_inj hN).mp (e1.trans e2.symm)
theorem Tn{M:Model}{A:Around}{E:Value->Shared->Prop}{i:Nat}{x:Str}{v:V}{u:Value}{Q:Unit->Shared->Prop}(I:Inv X pins σ H s)(hN:X.N.Nodup)(hi:X.N[i]?=some x)(hx:Loc X.env.scope x)(r:RelV v u)
  (h:∀s',Inv X pins (σ.set i (some v)) H s'->(∃a,nW a s.heap s'.heap/\(a=X.env.locals\/X.env.cells.lookup x=some a))->Q () s') (hf:X.fn x=true\/X.env.scope.names.lookup x=some .local:=by first | exact .inl rfl | exact .inr rfl | assumption):wpAny M A (storeName X.env x u) Q E s:=by
 obtain⟨m,hn,hl⟩:=id I.loc
 have To:(X.env.scope.kind==.class||(X.env.scope.kind==.module&&X.env.locals != X.env.globals))=false:=by rw[I.ok.kind];rfl
 have Lb:i<σ.length:=by rw[I.len];exact(g9.mp hi).1
 have mJ:=I.mJ
 have tracked:∀{a:Addr} {h':Heap},(∃o,s.heap.get? a=some o/\H a=none)->nW a s.heap h'->bZ X.prog X.w H h':=λ{a h'} ha hs b ob e=>by
  obtain⟨_,_,Lc⟩:=ha
  refine(I.ay b ob e).iO (λc w' hc q=>(hs.2 c ?_).trans q) (λ_ q=>q) (λ_ _ q=>q) λ_ _ q=>q
  rintro rfl
  rcases hc with rfl | hc
  ·rw[Lc]at e;cases e
  ·rw[Lc]at hc;cases hc
 rcases hx with hk | hk
 ·refine wpAny_storeName_local hk hn (λh' Tp hs=>?_) To
  obtain⟨oL,_,_,vn,_⟩:=id hn
  refine h _ ⟨I.ok,I.os,I.bare,⟨λb o e n hb hx=>?_,λb o e n hb hx=>?_,I.base.free,λb o e hx=>?_,I.base.fk,I.base.eW,I.base.eG⟩,⟨_,Tp,λj y v' e1 e2 e3=>?_⟩,λy c e=>?_,I.free,I.gb,λp hp=>?_,tracked ⟨oL,vn,I.free⟩ hs,by simpa using I.len⟩ ⟨_,hs,.inl rfl⟩
  ·exact(hs.2 b (cI (cq (bf e) I.ok.above))).trans (I.base.keep b o e n hb hx)
  ·obtain⟨sl,e1⟩:=I.base.slot b o e n hb hx
   exact⟨sl,(hs.2 b (cI (cq (bf e) I.ok.above))).trans e1⟩
  ·obtain⟨o',e1⟩:=I.base.there b o e hx
   exact⟨o',(hs.2 b (cI (cq (bf e) I.ok.above))).trans e1⟩
  ·by_cases hj:j=i
   ·subst hj
    rw[hi]at e1;cases e1
    rw[BS Lb]at e2
    cases e2
    exact⟨u,r,.inl ⟨hk,by simp⟩⟩
   ·rw[qo (dy hj)]at e2
    obtain⟨u',r',q⟩:=hl j y v' e1 e2 e3
    refine⟨u',r',?_⟩
    rcases q with⟨k,e⟩ | ⟨k,c,e,z⟩
    ·refine .inl ⟨k,?_⟩
     have:y≠x:=λe=>hj (La hN e1 (e ▸ hi))
     simp[this,e]
    ·exact .inr ⟨k,c,e,z.sameBut hs (mJ y c e)⟩
  ·obtain⟨w',z⟩:=I.cell y c e
   exact⟨w',z.sameBut hs (mJ y c e)⟩
  ·obtain⟨e,n,ne,nf,d⟩:=I.pin p hp
   exact⟨(hs.2 p.1 ne).trans e,n,ne,nf,d⟩
 ·have vo:X.fn x=true:=by
   rcases hf with z | z
   ·exact z
   ·rw[z]at hk;cases hk
  obtain⟨c,hc⟩:=I.ok.has x (.inl hk)
  obtain⟨w',z⟩:=I.cell x c hc
  refine wpAny_storeName_cell I.ok.kind hk hc z (λh' vp hs=>?_)
  obtain⟨oc,gD,Tq⟩:=id z
  refine h { s with heap:=h' } ⟨I.ok,I.os,I.bare,⟨λb o e n hb hx=>?_,λb o e n hb hx=>?_,I.base.free,λb o e hx=>?_,I.base.fk,I.base.eW,I.base.eG⟩,⟨m,hn.sameBut hs (dy (mJ x c hc)),λj y v' e1 e2 e3=>?_⟩,λy c' e=>?_,I.free,I.gb,λp hp=>?_,tracked ⟨oc,gD,I.gb x c hc⟩ hs,by simpa using I.len⟩ ⟨c,hs,.inr hc⟩
  ·exact(hs.2 b (cI (cq (bf e) (I.ok.oq x c vo hc)))).trans (I.base.keep b o e n hb hx)
  ·obtain⟨sl,e1⟩:=I.base.slot b o e n hb hx
   exact⟨sl,(hs.2 b (cI (cq (bf e) (I.ok.oq x c vo hc)))).trans e1⟩
  ·obtain⟨o',e1⟩:=I.base.there b o e hx
   exact⟨o',(hs.2 b (cI (cq (bf e) (I.ok.oq x c vo hc)))).trans e1⟩
  ·by_cases hj:j=i
   ·subst hj
    rw[hi]at e1;cases e1
    rw[BS Lb]at e2
    cases e2
    exact⟨u,r,.inr ⟨.inl hk,c,hc,vp⟩⟩
   ·rw[qo (dy hj)]at e2
    obtain⟨u',r',q⟩:=hl j y v' e1 e2 e3
    refine⟨u',r',?_⟩
    rcases q with q | ⟨k,c',e,z'⟩
    ·exact .inl q
    ·refine .inr ⟨k,c',e,z'.sameBut hs ?_⟩
     rintro rfl
     exact hj (La hN e1 (I.ok.inj _ _ _ e hc ▸ hi))
  ·by_cases Ld:c'=c
   ·subst Ld;exact⟨_,vp⟩
   ·obtain⟨w2,z2⟩:=I.cell y c' e
    exact⟨w2,z2.sameBut hs Ld⟩
  ·obtain⟨e,n,ne,nf,d⟩:=I.pin p hp
   refine⟨(hs.2 p.1 ?_).trans e,n,ne,nf,d⟩
   intro q
   rw[q,gD]at e
   have q':oc=p.2:=cW e
   exact d w' (by rw[<-q'];exact Tq)
theorem CB{M:Model}{A:Around}{E:Value->Shared->Prop}{i:Nat}{x:Str}{v:V}{u:Value}{Q:Unit->Shared->Prop}(I:Inv X pins σ H s)(hN:X.N.Nodup)(hi:X.N[i]?=some x)(hx:Loc X.env.scope x)(r:RelV v u)
  (h:∀s',Inv X pins (σ.set i (some v)) H s'->Q () s') (hf:X.fn x=true\/X.env.scope.names.lookup x=some .local:=by first | exact .inl rfl | exact .inr rfl | assumption):wpAny M A (storeName X.env x u) Q E s :=
 Tn I hN hi hx r (λs' I' _=>h s' I') hf
theorem Inv.Tr{s':Shared}{ch:List Addr}(I:Inv X pins σ H s)(ho:s'.os=s.os)(u:Un (cK X.stack) ch H H' s.heap s'.heap)(ay:bZ X.prog X.w H' s'.heap)(hg:AllBare s'.gens)
  (jN:∀b∈ch,(b∈X.ex\/X.bQ.heap.objs.size<=b)/\b≠X.env.locals/\(∀x c,X.env.cells.lookup x=some c->c≠b)/\∀p∈X.pn++pins,p.1≠b):Inv X pins σ H' s':=by
 obtain⟨h',g',d',t',o'⟩:=s'
 have e:o'=s.os:=ho
 subst e
 exact I.call (g':=g') (t':=t') (d':=d') u ay hg jN
end
noncomputable abbrev XK:=Value->Option Addr->Hp->Prop
noncomputable abbrev St:=List (Option V)
noncomputable abbrev VK:=V->Hp->Prop
noncomputable abbrev TE:=St->Hp->VK->Prop
noncomputable abbrev TT:=St->Hp->(Bool->Hp->Prop)->Prop
noncomputable abbrev TA:=St->Hp->(List V->Hp->Prop)->Prop
structure Ends where
 nx:St->Hp->Prop
 rt:VK
 bk:St->Hp->Prop:=λ_ _=>False
 ct:St->Hp->Prop:=λ_ _=>False
noncomputable abbrev TS:=Ends->St->Hp->Prop
noncomputable def EP(X:Cx)(pins:List (Addr × Obj))(σ:St)(Q:VK)(u:Value)(s':Shared):Prop:=∃v H',Inv X pins σ H' s'/\RelV v u/\Q v H'
noncomputable def TP(X:Cx)(pins:List (Addr × Obj))(σ:St)(Q:Bool->Hp->Prop)(b:Bool)(s':Shared):Prop:=∃H',Inv X pins σ H' s'/\Q b H'
noncomputable def AP(X:Cx)(pins:List (Addr × Obj))(σ:St)(Q:List V->Hp->Prop)(us:List Value)(s':Shared):Prop:=∃vs H',Inv X pins σ H' s'/\Vals vs us/\Q vs H'
noncomputable def SP(X:Cx)(pins:List (Addr × Obj))(D:Ends)(f:Flow)(s':Shared):Prop :=
 match f with
 | .next=>∃av H',Inv X pins av H' s'/\D.nx av H'
 | .brk=>∃av H',Inv X pins av H' s'/\D.bk av H'
 | .cont=>∃av H',Inv X pins av H' s'/\D.ct av H'
 | .ret u=>∃v av H',Inv X pins av H' s'/\RelV v u/\D.rt v H'
noncomputable def PE(X:Cx)(e:Expr)(t:TE):Prop :=
 ∀(pins:List (Addr × Obj)) (s:Shared) (σ:St) (H:Hp) (Q:VK),Inv X pins σ H s->t σ H Q->wpAny (model X.prog X.w) X.A (eval e X.env) (EP X pins σ Q) X.xe s
noncomputable def PT(X:Cx)(e:Expr)(t:TT):Prop :=
 ∀(pins:List (Addr × Obj)) (s:Shared) (σ:St) (H:Hp) (Q:Bool->Hp->Prop),Inv X pins σ H s->t σ H Q->wpAny (model X.prog X.w) X.A (isTrue e X.env (eval e X.env)) (TP X pins σ Q) X.xe s
noncomputable def PW(X:Cx)(e:Expr)(t:TT):Prop :=
 ∀(whole:Sem Value) (pins:List (Addr × Obj)) (s:Shared) (σ:St) (H:Hp) (Q:Bool->Hp->Prop),Inv X pins σ H s->t σ H Q->wpAny (model X.prog X.w) X.A (isTrue e X.env whole) (TP X pins σ Q) X.xe s
theorem PW.pt{X:Cx}{e:Expr}{t:TT}(h:PW X e t):PT X e t:=h _
noncomputable def PA(X:Cx)(es:List Expr)(t:TA):Prop :=
 ∀(pos:Pos) (pins:List (Addr × Obj)) (s:Shared) (σ:St) (H:Hp) (Q:List V->Hp->Prop),Inv X pins σ H s->t σ H Q->wpAny (model X.prog X.w) X.A (spliced (backTo pos (starEach es X.env))) (AP X pins σ Q) X.xe s
noncomputable def PS(X:Cx)(st:Stmt)(t:TS):Prop :=
 ∀(pins:List (Addr × Obj)) (s:Shared) (σ:St) (H:Hp) (D:Ends),Inv X pins σ H s->t D σ H->wpAny (model X.prog X.w) X.A (exec st X.env) (SP X pins D) X.xe s
noncomputable def PSs(X:Cx)(st:List Stmt)(t:TS):Prop :=
 ∀(pins:List (Addr × Obj)) (s:Shared) (σ:St) (H:Hp) (D:Ends),Inv X pins σ H s->t D σ H->wpAny (model X.prog X.w) X.A (execs st X.env) (SP X pins D) X.xe s
theorem aH{α:Type}{t:Sem α}{Q Q':α->Shared->Prop}{M:Model}{A:Around}{E:Value->Shared->Prop}{s:Shared}(h:wpAny M A t Q E s)(hQ:∀a s,Q a s->Q' a s):wpAny M A t Q' E s:=wpAny_mono h hQ λ_ _ x=>x
end L2
namespace L2
open PySem PySem.Spec PyProof.Rows
section
variable{X:Cx}
noncomputable def Le(i:Nat):TE:=λσ H Q=>∃v,σ[i]?=some (some v)/\Q v H
noncomputable def tC(v:V):TE:=λ_ H Q=>Q v H
theorem mL{i:Nat}{x:Str}{pos:Pos}(hN:X.N[i]?=some x)(hv:i8 X.env.scope x)(hd:(x==("__debug__":Str))=false:=by decide)(bV:(x==("__classdict__":Str))=false:=by decide):PE X (.Name x pos) (Le i):=by
 intro pins s σ H Q I h
 obtain⟨v,e,h⟩:=h
 obtain⟨m,hn,hl⟩:=I.loc
 obtain⟨u,r,l⟩:=hl i x v hN e hv
 have fin:EP X pins σ Q u s:=⟨v,H,I,r,h⟩
 rcases l with⟨hk,hm⟩ | ⟨hk,c,hc,yT⟩
 ·exact wpAny_Name (wpAny_loadName_local I.ok.kind hk hn hm fin) hd
 ·rcases hk with hk | hk
  ·exact wpAny_Name (wpAny_loadName_cell I.ok.kind hk hc yT fin) hd
  ·exact wpAny_Name (wpAny_loadName_free I.ok.kind hk hc yT fin bV) hd
theorem qP{i j pos}:PE X (.Constant (.int i) j pos) (tC (.int i)):=λ_ _ _ H _ I h=>wpAny_Constant_int ⟨.int i,H,I.tok _,⟨_,rfl⟩,h⟩
theorem Ts{b j pos}:PE X (.Constant (.bool b) j pos) (tC (.bl b)):=λ_ _ _ H _ I h=>Constant_bool ⟨.bl b,H,I,rfl,h⟩
theorem Tt{j pos}:PE X (.Constant .none j pos) (tC .ak):=λ_ _ _ H _ I h=>Constant_none ⟨.ak,H,I,rfl,h⟩
theorem Tu{x j pos}:PE X (.Constant (.str x) j pos) (tC (.str x)):=λ_ _ _ H _ I h=>Calls.Constant_str ⟨.str x,H,I.tok _,⟨_,rfl⟩,h⟩
noncomputable def Gl(X:Cx)(x:Str):Prop:=X.env.kindOf x=some .globalImplicit
theorem yU{E:Value->Shared->Prop}{pins:List (Addr × Obj)}{s:Shared}{σ:St}{H:Hp}{x:Str}{u:Value}{pos:Pos}{Q:Value->Shared->Prop}(I:Inv X pins σ H s)(hg:Gl X x)(hm:X.mg x=some u)(h:Q u s)
  (hd:(x==("__debug__":Str))=false:=by decide):wpAny (model X.prog X.w) X.A (eval (.Name x pos) X.env) Q E s :=
 Sq I.ok.kind hg (Calls.loadGlobal_global (by rw[I.ok.glob];exact I.mod.glob.keeps I.bk) hm h) hd
theorem ou{E:Value->Shared->Prop}{pins:List (Addr × Obj)}{s:Shared}{σ:St}{H:Hp}{x:Str}{u:Value}{pos:Pos}{Q:Value->Shared->Prop}(I:Inv X pins σ H s)(hg:Gl X x)(hm:X.mg x=none)(hv:bootBuiltins x=some u)(h:Q u s)
  (hn:x≠"__name__":=by decide) (hd:(x==("__debug__":Str))=false:=by decide):wpAny (model X.prog X.w) X.A (eval (.Name x pos) X.env) Q E s:=by
 obtain⟨mb,h1,h2⟩:=I.mod.blt
 exact Sq I.ok.kind hg (Calls.loadGlobal_builtin (by rw[I.ok.glob];exact I.mod.glob.keeps I.bk) hm (by rw[I.ok.blt];exact h1.keeps I.bk) ((h2 x hn).trans hv) h) hd
theorem Tv{x:Str}{v:V}{u:Value}{pos:Pos}(hg:Gl X x)(hm:X.mg x=none)(hv:bootBuiltins x=some u)(r:RelV v u)(hn:x≠"__name__":=by decide)(hd:(x==("__debug__":Str))=false:=by decide):PE X (.Name x pos) (tC v) :=
 λ_ _ _ H _ I h=>ou I hg hm hv ⟨v,H,I,r,h⟩ hn hd
variable{a b:Expr}{ta tb:TE}{pos:Pos}
noncomputable def tB(t:TE):TT:=λσ H Q=>t σ H λx H1=>∃c,x=.bl c/\Q c H1
theorem CC{e:Expr}{t:TE}(h:PE X e t)(he:∀whole,isTrue e X.env whole=(do let v<-whole;standAt e.pos;holding [v] (truthy v)):=by intro _;rfl):PT X e (tB t):=by
 intro pins s σ H Q I hw
 refine isTrue_plain (aH (h pins s σ H _ I hw) λv s1 ⟨x,H1,I1,r1,q1⟩=>?_) (he _)
 obtain⟨d,rfl,q⟩:=q1
 cases r1
 exact wpAny_truthy_bool ⟨H1,I1,q⟩
variable{tA Lf:TT}{eH:List Expr}
noncomputable def Tw(t u:TT):TT:=λσ H Q=>t σ H λc H1=>if c=true then Q true H1 else u σ H1 Q
noncomputable def Tx(t:TT):TT:=λσ H Q=>t σ H λc H1=>Q (!c) H1
theorem mM(ha:PT X a tA):PW X (.BoolOp .Or [a] pos) tA:=by
 intro wh pins s σ H Q I h
 refine isTrue_or (aH (ha pins s σ H Q I h) λc s1 e=>?_)
 cases c with
 | false=>exact isTrue_or_nil e
 | true=>exact e
theorem Tz(ha:PT X a tA)(hb:PW X (.BoolOp .Or (b::eH) pos) Lf):PW X (.BoolOp .Or (a::b::eH) pos) (Tw tA Lf):=by
 intro wh pins s σ H Q I h
 refine isTrue_or (aH (ha pins s σ H _ I h) λc s1 ⟨H1,I1,q1⟩=>?_)
 cases c with
 | true=>exact⟨H1,I1,q1⟩
 | false=>exact hb wh pins s1 σ H1 Q I1 q1
theorem CD(ha:PT X a tA):PT X (.UnaryOp .Not a pos) (Tx tA):=by
 intro pins s σ H Q I h
 exact isTrue_not (ha pins s σ H (λc H1=>Q (!c) H1) I h)
noncomputable def TB(ta tb:TE):TE:=λσ H Q=>ta σ H λx H1=>∃c,x=.bl c/\if c=true then tb σ H1 Q else Q (.bl false) H1
noncomputable def TC(ta:TE):TE:=λσ H Q=>ta σ H λx H1=>∃c,x=.bl c/\Q (.bl (!c)) H1
theorem qQ{op}{t:TE}(h:PE X a t):PE X (.BoolOp op [a] pos) t:=λpins s σ H Q I hw=>BoolOp_one (h pins s σ H Q I hw)
theorem TF(ha:PE X a ta)(hb:PE X (.BoolOp .And (b::eH) pos) tb):PE X (.BoolOp .And (a::b::eH) pos) (TB ta tb):=by
 intro pins s σ H Q I h
 refine BoolOp_and (aH (ha pins s σ H _ I h) λv s1 ⟨x,H1,I1,r1,q1⟩=>?_)
 obtain⟨c,rfl,q1⟩:=q1
 cases r1
 refine wpAny_truthy_bool ?_
 cases c with
 | true=>exact hb pins s1 σ H1 Q I1 q1
 | false=>exact⟨.bl false,H1,I1,rfl,q1⟩
theorem TH(ha:PE X a ta):PE X (.UnaryOp .Not a pos) (TC ta):=by
 intro pins s σ H Q I h
 refine UnaryOp_ (aH (ha pins s σ H _ I h) λv s1 ⟨x,H1,I1,r1,q1⟩=>?_)
 obtain⟨c,rfl,q1⟩:=q1
 cases r1
 exact not_of (wpAny_truthy_bool ⟨.bl (!c),H1,I1,rfl,q1⟩)
noncomputable def TJ(t:TT)(ta tb:TE):TE:=λσ H Q=>t σ H λc H1=>if c=true then ta σ H1 Q else tb σ H1 Q
theorem TK{c:Expr}(hc:PT X c tA)(ha:PE X a ta)(hb:PE X b tb):PE X (.IfExp c a b pos) (TJ tA ta tb):=by
 intro pins s σ H Q I h
 refine wpAny_IfExp (aH (hc pins s σ H _ I h) λd s1 ⟨H1,I1,q1⟩=>?_)
 cases d with
 | true=>exact ha pins s1 σ H1 Q I1 q1
 | false=>exact hb pins s1 σ H1 Q I1 q1
end
end L2
namespace L2
open PySem PySem.Spec PyProof.Rows
noncomputable def bq(K:PySem.W.Frag)(H:Hp)(a:Addr)(xs:List V):Prop :=
 Rd H a (.lst xs) \/
  ∃(o:Obj) (its:Array Value) (n:Nat),K.lookup a=some o/\o.cls=.type "list"/\o.dict=none/\o.data=.seq its n/\its.size<=sizeLine/\Vals xs its.toList
noncomputable def eQ(K:PySem.W.Frag)(H:Hp)(a:Addr)(xs:List V):Prop :=
 Rd H a (.tup xs) \/
  ∃(o:Obj) (its:Array Value) (n:Nat),K.lookup a=some o/\o.cls=.type "tuple"/\o.data=.seq its n/\its.size<=sizeLine/\Vals xs its.toList
noncomputable def TL:Value->Option V
 | .none=>some .ak
 | .bool b=>some (.bl b)
 | .int i _=>some (.int i)
 | .str x _=>some (.str x)
 | .bytes b _=>some (.yP b)
 | .float b _=>some (.om b)
 | .ref a=>some (.ref a)
 | .type n=>some (.ty n)
 | _=>none
theorem RelV.abs{x:V}{u:Value}(r:RelV x u):TL u=some x:=by
 cases x with
 | ak=>cases r;rfl
 | bl _=>cases r;rfl
 | int _=>obtain⟨t,rfl⟩:=r;rfl
 | str _=>obtain⟨t,rfl⟩:=r;rfl
 | yP _=>obtain⟨t,rfl⟩:=r;rfl
 | om _=>obtain⟨t,rfl⟩:=r;rfl
 | ref _=>cases r;rfl
 | ty _=>cases r;rfl
theorem RelV.inj{x y:V}{u:Value}(r:RelV x u)(q:RelV y u):x=y:=cW (r.abs.symm.trans q.abs)
theorem Vals.inj:∀{xs ys:List V} {us:List Value},Vals xs us->Vals ys us->xs=ys
 | _,_,_,.nil,.nil=>rfl
 | _,_,_,.cons r t,.cons r' t'=>by rw[r.inj r',Vals.inj t t']
section
variable{X:Cx}{pins:List (Addr × Obj)}{σ:St}{H:Hp}{s:Shared}{a:Addr}{xs ys:List V}
theorem bq.of{K:PySem.W.Frag}(h:H a=some (.lst xs)):bq K H a xs:=.inl (.inl h)
theorem eQ.of{K:PySem.W.Frag}(h:H a=some (.tup xs)):eQ K H a xs:=.inl (.inl h)
theorem Inv.list(I:Inv X pins σ H s)(h:bq X.K H a xs):∃its:List Value,Vals xs its/\PlainL s.heap a its.toArray/\xs.length<=sizeLine:=by
 rcases h with h | ⟨o,its,n,hk,hc,hd,hs,hz,r⟩
 ·obtain⟨z,its,n,r,e⟩:=h.ok I.ay
  exact⟨its,r,⟨_,n,e,rfl,rfl,rfl⟩,z⟩
 ·refine⟨its.toList,r,⟨o,n,I.cE a o hk,hc,hd,by simpa using hs⟩,?_⟩
  have e:=r.length
  simp only[hE]at e
  omega
theorem Inv.tuple(I:Inv X pins σ H s)(h:eQ X.K H a xs):∃its:List Value,Vals xs its/\IsTup s.heap a its.toArray/\xs.length<=sizeLine:=by
 rcases h with h | ⟨o,its,n,hk,hc,hs,hz,r⟩
 ·obtain⟨z,its,r,p⟩:=h.ok I.ay
  exact⟨its,r,p,z⟩
 ·refine⟨its.toList,r,⟨o,I.cE a o hk,hc,n,by simpa using hs⟩,?_⟩
  have e:=r.length
  simp only[hE]at e
  omega
theorem Inv.yV(I:Inv X pins σ H s)(h:bq X.K H a xs)(h':bq X.K H a ys):xs=ys:=by
 obtain⟨its,r,⟨o,n,e,_,_,d⟩,_⟩:=I.list h
 obtain⟨its',r',⟨o',n',e',_,_,d'⟩,_⟩:=I.list h'
 rw[e]at e';cases e'
 rw[d]at d'
 injection d' with d1 _
 have:its=its':=by simpa using congrArg Array.toList d1
 subst this
 exact r.inj r'
end
noncomputable abbrev Cx.ie(X:Cx)(E:Value->Shared->Prop):Cx:={ X with xe:=E }
noncomputable abbrev Cx.eR(X:Cx):Cx:=X.ie λ_ _=>False
theorem Cx.Ok.ie{X:Cx}(ok:X.Ok)(E:Value->Shared->Prop):(X.ie E).Ok :=
 ⟨ok.mod,ok.kind,ok.glob,ok.blt,ok.above,ok.inj,ok.has,ok.oq,ok.hd,ok.frames,ok.vh,ok.vi,ok.bs,ok.gC,ok.qK,ok.qL,ok.eX,ok.ib⟩
theorem Cx.Ok.jc{X:Cx}{E:Value->Shared->Prop}(ok:(X.ie E).Ok):X.Ok :=
 ⟨ok.mod,ok.kind,ok.glob,ok.blt,ok.above,ok.inj,ok.has,ok.oq,ok.hd,ok.frames,ok.vh,ok.vi,ok.bs,ok.gC,ok.qK,ok.qL,ok.eX,ok.ib⟩
section
variable{X:Cx}{pins:List (Addr × Obj)}{σ:St}{H:Hp}{s:Shared}{E:Value->Shared->Prop}
theorem Inv.ie(I:Inv X pins σ H s)(E:Value->Shared->Prop):Inv (X.ie E) pins σ H s:=⟨I.ok.ie E,I.os,I.bare,I.base,I.loc,I.cell,I.free,I.gb,I.pin,I.ay,I.len⟩
theorem Inv.jc(I:Inv (X.ie E) pins σ H s):Inv X pins σ H s:=⟨I.ok.jc,I.os,I.bare,I.base,I.loc,I.cell,I.free,I.gb,I.pin,I.ay,I.len⟩
theorem SP.jc{D:Ends}{f:Flow}{s':Shared}(h:SP (X.ie E) pins D f s'):SP X pins D f s':=by
 cases f with
 | next=>obtain⟨av,H',I,q⟩:=h;exact⟨av,H',I.jc,q⟩
 | brk=>obtain⟨av,H',I,q⟩:=h;exact⟨av,H',I.jc,q⟩
 | cont=>obtain⟨av,H',I,q⟩:=h;exact⟨av,H',I.jc,q⟩
 | ret u=>obtain⟨v,av,H',I,r,q⟩:=h;exact⟨v,av,H',I.jc,r,q⟩
theorem PE.eR{e:Expr}{t:TE}(h:PE X.eR e t):PE X e t:=λpins s σ H Q I hw =>
 wpAny_mono (h pins s σ H Q (I.ie _) hw) (λ_ _ ⟨v,H',I',r,q⟩=>⟨v,H',I'.jc,r,q⟩) λ_ _ z=>dQ z
theorem PT.eR{e:Expr}{t:TT}(h:PT X.eR e t):PT X e t:=λpins s σ H Q I hw =>
 wpAny_mono (h pins s σ H Q (I.ie _) hw) (λ_ _ ⟨H',I',q⟩=>⟨H',I'.jc,q⟩) λ_ _ z=>dQ z
theorem PSs.eR{st:List Stmt}{t:TS}(h:PSs X.eR st t):PSs X st t:=λpins s σ H D I hw =>
 wpAny_mono (h pins s σ H D (I.ie _) hw) (λ_ _ q=>q.jc) λ_ _ z=>dQ z
end
section
variable{X:Cx}{st:Stmt}{eH:List Stmt}{t u:TS}{e:Expr}{te:TE}{pos:Pos}
noncomputable def TM:TS:=λD σ H=>D.nx σ H
noncomputable def TN(t u:TS):TS:=λD σ H=>t { D with nx:=u D } σ H
theorem CF:PSs X [] TM:=λ_ _ σ H _ I h=>wpAny_execs_nil ⟨σ,H,I,h⟩
theorem je(h1:PS X st t)(h2:PSs X eH u):PSs X (st::eH) (TN t u):=by
 intro pins s σ H D I h
 refine wpAny_execs_cons (aH (h1 pins s σ H { D with nx:=u D } I h) λf s1 q=>?_)
 cases f with
 | next =>
  obtain⟨av,H',I',q⟩:=q
  exact h2 pins s1 av H' D I' q
 | ret v=>exact q
 | brk=>exact q
 | cont=>exact q
theorem qR(h1:PS X st t):PSs X [st] t:=by
 intro pins s σ H D I h
 refine wpAny_execs_cons (aH (h1 pins s σ H D I h) λf s1 q=>?_)
 cases f with
 | next=>exact wpAny_execs_nil q
 | ret v=>exact q
 | brk=>exact q
 | cont=>exact q
theorem Inv.quiet{pins:List (Addr × Obj)}{σ:St}{H:Hp}{s:Shared}(I:Inv X pins σ H s):interactive X.env=false:=by simp[interactive,I.ok.kind]
noncomputable def TQ(te:TE):TS:=λD σ H=>te σ H λ_ H1=>D.nx σ H1
theorem yW(he:PE X e te)(hs:swapsWith e none pos.line X.env=pure false:=by rfl):PS X (.Expr e pos) (TQ te):=by
 intro pins s σ H D I h
 exact wpAny_Expr_any (aH (he pins s σ H _ I h) λv s1 ⟨x,H1,I1,r1,q1⟩=>⟨σ,H1,I1,q1⟩) I.quiet hs
noncomputable def TR(te:TE):TS:=λD σ H=>te σ H D.rt
theorem TU(he:PE X e te):PS X (.Return (some e) pos) (TR te):=by
 intro pins s σ H D I h
 exact wpAny_Return_some (aH (he pins s σ H _ I h) λv s1 ⟨x,H1,I1,r1,q1⟩=>⟨x,σ,H1,I1,r1,q1⟩)
noncomputable def TV(c:TT)(t u:TS):TS:=λD σ H=>c σ H λb H1=>if b=true then t D σ H1 else u D σ H1
theorem CG{c:Expr}{a b:List Stmt}{tc:TT}(hc:PT X c tc)(ha:PSs X a t)(hb:PSs X b u):PS X (.If c a b pos) (TV tc t u):=by
 intro pins s σ H D I h
 refine wpAny_If (aH (hc pins s σ H _ I h) λd s1 ⟨H1,I1,q1⟩=>?_)
 cases d with
 | true=>exact ha pins s1 σ H1 D I1 q1
 | false=>exact hb pins s1 σ H1 D I1 q1
noncomputable def TX:TS:=λ_ _ _=>False
theorem Lg:PS X st TX:=λ_ _ _ _ _ _ h=>h.elim
end
noncomputable abbrev TG:=V->St->Hp->(St->Hp->Prop)->Prop
noncomputable abbrev oy:=List V->St->Hp->(St->Hp->Prop)->Prop
noncomputable def PG(X:Cx)(target:Expr)(t:TG):Prop :=
 ∀(pins:List (Addr × Obj)) (s:Shared) (σ:St) (H:Hp) (v:V) (u:Value) (Q:St->Hp->Prop),Inv X pins σ H s->RelV v u->t v σ H Q ->
  wpAny (model X.prog X.w) X.A (assign target X.env u) (λ_ s'=>∃av H',Inv X pins av H' s'/\Q av H') X.xe s
noncomputable def yX(X:Cx)(ts:List Expr)(t:oy):Prop :=
 ∀(pins:List (Addr × Obj)) (s:Shared) (σ:St) (H:Hp) (vs:List V) (us:List Value) (Q:St->Hp->Prop),Inv X pins σ H s->Vals vs us->t vs σ H Q ->
  wpAny (model X.prog X.w) X.A (assignInOrder ((assignEach ts X.env).map (·.2)) us) (λ_ s'=>∃av H',Inv X pins av H' s'/\Q av H') X.xe s
noncomputable abbrev CH:=V->V->V->Hp->(Hp->Prop)->Prop
noncomputable def Lh(X:Cx)(t:CH):Prop :=
 ∀(pins:List (Addr × Obj)) (s:Shared) (σ:St) (H:Hp) (o i v:V) (ov iv u:Value) (Q:Hp->Prop),Inv X pins σ H s->RelV o ov->RelV i iv->RelV v u->t o i v H Q ->
  wpAny (model X.prog X.w) X.A (setItem ov iv u) (λ_ s'=>∃H',Inv X pins σ H' s'/\Q H') X.xe s
noncomputable abbrev CI:=V->V->Hp->VK->Prop
noncomputable def TY(X:Cx)(op:Operator)(t:CI):Prop :=
 ∀(pins:List (Addr × Obj)) (s:Shared) (σ:St) (H:Hp) (x y:V) (v u:Value) (Q:VK),Inv X pins σ H s->RelV x v->RelV y u->t x y H Q ->
  wpAny (model X.prog X.w) X.A (inplaceOp op v u) (EP X pins σ Q) X.xe s
section
variable{X:Cx}{pos:Pos}
noncomputable def yY(i:Nat):TG:=λv σ H Q=>Q (σ.set i (some v)) H
theorem yZ{i:Nat}{x:Str}(hN:X.N.Nodup)(hi:X.N[i]?=some x)(hx:Loc X.env.scope x)(hf:X.fn x=true\/X.env.scope.names.lookup x=some .local:=by first | exact .inl rfl | exact .inr rfl | assumption):PG X (.Name x pos) (yY i):=by
 intro pins s σ H v u Q I r h
 exact wpAny_assign_Name (CB I hN hi hx r (λs' I'=>⟨_,H,I',h⟩) hf)
noncomputable def TZ:oy:=λvs σ H Q=>vs=[]/\Q σ H
noncomputable def T1(t:TG)(u:oy):oy:=λvs σ H Q=>∃v r,vs=v::r/\t v σ H λav H'=>u r av H' Q
theorem T2:yX X [] TZ:=by
 intro pins s σ H vs us Q I r h
 obtain⟨e,h⟩:=h
 subst e
 cases r
 exact assignInOrder_nil ⟨σ,H,I,h⟩
theorem Li{e:Expr}{es:List Expr}{t:TG}{u:oy}(h1:PG X e t)(h2:yX X es u)
  (hs:(assignEach (e::es) X.env).map (·.2)=assign e X.env::(assignEach es X.env).map (·.2):=by rfl):yX X (e::es) (T1 t u):=by
 intro pins s σ H vs us Q I r h
 obtain⟨v,vr,e1,h⟩:=h
 subst e1
 cases r with
 | cons r rr =>
  rw[hs]
  refine assignInOrder_cons (aH (h1 pins s σ H _ _ _ I r h) λ_ s1 ⟨fm,H1,I1,q1⟩=>?_)
  exact h2 pins s1 fm H1 _ _ Q I1 rr q1
noncomputable def T3(K:PySem.W.Frag)(n:Nat)(t:oy):TG:=λv σ H Q=>∃a xs,v=.ref a/\eQ K H a xs/\xs.length=n/\t xs σ H Q
theorem T4{es:List Expr}{k:Nat}{t:oy}{n:Nat}(hc:X.calm=true)(h:yX X es t)
  (hn:(assignEach es X.env).length=n:=by rfl) (cx:(assignEach es X.env).findIdx? (·.1)=none:=by rfl):PG X (.Tuple es k pos) (T3 X.K n t):=by
 intro pins s σ H v u Q I r hw
 obtain⟨a,xs,e1,hq,hl,hw⟩:=hw
 subst e1
 cases r
 obtain⟨its,rv,ht,hz⟩:=I.tuple hq
 refine assign_Tuple_tuple (I.ok.hd hc) ht (by simp[hn,<- hl,rv.length]) cx λh' hx=>?_
 have I1:Inv X pins σ H { s with heap:=h' }:=I.kept (t':=s.toks) λb o e=>hx b o (cI (bf e)) e
 exact h pins _ σ H xs _ Q I1 (by simpa using rv) hw
noncomputable def T5(to ti:TE)(t:CH):TG:=λv σ H Q=>to σ H λo H1=>ti σ H1 λi H2=>t o i v H2 λH3=>Q σ H3
theorem Lj{o i:Expr}{to ti:TE}{t:CH}(ho:PE X o to)(hi:PE X i ti)(hs:Lh X t)
  (ha:∀v,assign (.Subscript o i pos) X.env v=(do
   let ov<-holding [v] (eval o X.env)
   let iv<-holding [v,ov] (eval i X.env)
   standAt pos
   holding [v,ov,iv] (setItem ov iv v)
   release [v,ov,iv] []):=by intro _;rfl):PG X (.Subscript o i pos) (T5 to ti t):=by
 intro pins s σ H v u Q I r h
 rw[ha]
 refine wpAny_bind (wpAny_holding (aH (ho pins s σ H _ I h) λov s1 ⟨x,H1,I1,r1,q1⟩=>?_))
 refine wpAny_bind (wpAny_holding (aH (hi pins s1 σ H1 _ I1 q1) λiv s2 ⟨y,H2,I2,r2,q2⟩=>?_))
 refine wpAny_bind (wpAny_standAt (wpAny_bind (wpAny_holding (aH (hs pins s2 σ H2 x y v ov iv u _ I2 r1 r2 r q2) λ_ s3 ⟨H3,I3,q3⟩=>?_))))
 exact wpAny_release ⟨σ,H3,I3,q3⟩
noncomputable def CJ(te:TE)(g:TG):TS:=λD σ H=>te σ H λx H1=>g x σ H1 D.nx
theorem Lk{tg e:Expr}{te:TE}{g:TG}(he:PE X e te)(hg:PG X tg g)(hs:swapsWithSole [tg] e pos.line X.env=pure false:=by rfl)(hw:swappedStores [tg] e X.env=pure none:=by rfl)
  (h1:(assignEach [tg] X.env).map (·.2)=[assign tg X.env]:=by rfl):PS X (.Assign [tg] e pos) (CJ te g):=by
 intro pins s σ H D I h
 refine wpAny_Assign_stores (aH (he pins s σ H _ I h) λv s1 ⟨x,H1,I1,r1,q1⟩=>?_) hs hw
 rw[h1]
 exact aH (hg pins s1 σ H1 x v _ I1 r1 q1) λ_ s2 q=>q
theorem Ll{i:Nat}{x:Str}{e:Expr}{te:TE}{pos':Pos}(hN:X.N.Nodup)(hi:X.N[i]?=some x)(hx:Loc X.env.scope x)(he:PE X e te)(hs:swapsWith e (some (.Name x pos')) pos.line X.env=pure false:=by rfl)(hf:X.fn x=true\/X.env.scope.names.lookup x=some .local:=by first | exact .inl rfl | exact .inr rfl | assumption) :
  PS X (.Assign [.Name x pos'] e pos) (CJ te (yY i)):=by
 intro pins s σ H D I h
 refine wpAny_Assign_Name (aH (he pins s σ H _ I h) λv s1 ⟨y,H1,I1,r1,q1⟩=>?_) hs
 exact CB I1 hN hi hx r1 (λs2 I2=>⟨_,H1,I2,q1⟩) hf
noncomputable def T6(i:Nat)(te:TE)(ti:CI):TS:=λD σ H=>∃x,σ[i]?=some (some x)/\te σ H λy H1=>ti x y H1 λz H2=>D.nx (σ.set i (some z)) H2
theorem T7{i:Nat}{x:Str}{e:Expr}{te:TE}{op:Operator}{ti:CI}{pos':Pos}(hN:X.N.Nodup)(hi:X.N[i]?=some x)(hx:Loc X.env.scope x)(he:PE X e te)(ho:TY X op ti)(hf:X.fn x=true\/X.env.scope.names.lookup x=some .local:=by first | exact .inl rfl | exact .inr rfl | assumption) :
  PS X (.AugAssign (.Name x pos') op e pos) (T6 i te ti):=by
 intro pins s σ H D I h
 obtain⟨v,e1,h⟩:=h
 obtain⟨m,hn,hl⟩:=I.loc
 have T8:i8 X.env.scope x:=by rcases hx with k | k;exact .inl k;exact .inr (.inl k)
 obtain⟨u,r,l⟩:=hl i x v hi e1 T8
 refine wpAny_AugAssign_Name ?_
 have go:wpAny (model X.prog X.w) X.A (eval e X.env) (λw jf=>wpAny (model X.prog X.w) X.A (inplaceOp op u w) (λr T9=>wpAny (model X.prog X.w) X.A (storeName X.env x r) (λ_=>SP X pins D .next) X.xe T9) X.xe jf) X.xe s:=by
  refine aH (he pins s σ H _ I h) λw s1 ⟨y,H1,I1,r1,q1⟩=>?_
  refine aH (ho pins s1 σ H1 v y u w _ I1 r r1 q1) λz s2 ⟨zv,H2,I2,r2,q2⟩=>?_
  exact CB I2 hN hi hx r2 (λs3 I3=>⟨_,H2,I3,q2⟩) hf
 rcases l with⟨hk,hm⟩ | ⟨hk,c,hc,yT⟩
 ·exact wpAny_loadName_local I.ok.kind hk hn hm go
 ·rcases hk with hk | hk
  ·exact wpAny_loadName_cell I.ok.kind hk hc yT go
  ·rcases hx with k | k
   ·have:X.env.scope.names.lookup x=some .free:=hk
    rw[k]at this;cases this
   ·have:X.env.scope.names.lookup x=some .free:=hk
    rw[k]at this;cases this
end
section
variable{X:Cx}{pos:Pos}
noncomputable def Ua(c:TT)(tb:TS):TS:=λD σ H=>∃W:Nat->St->Hp->Prop,(∃m,W m σ H)/\∀m σ H,W m σ H ->
 c σ H λb H1=>if b=true then ∃N:St->Hp->Prop,(∀av H',N av H'->∃m',m'<m/\W m' av H')/\tb { D with nx:=N,ct:=N,bk:=D.nx } σ H1 else D.nx σ H1
theorem Ub{c:Expr}{body:List Stmt}{tc:TT}{tb:TS}(hp:PassesOwn (model X.prog X.w) X.A X.env X.xe)(hc:PT X c tc)(hb:PSs X body tb):PS X (.While c body [] pos) (Ua tc tb):=by
 intro pins s σ H D I h
 obtain⟨W,⟨m0,w0⟩,turn⟩:=h
 refine wpAny_While (codeAny_whileLoop (λn s'=>∃av H',Inv X pins av H' s'/\W n av H') ?_ m0 ⟨σ,H,I,w0⟩)
 rintro n s1 ⟨fm,H1,I1,w1⟩
 refine wpAny_passesOwn hp (aH (hc pins s1 fm H1 _ I1 (turn n fm H1 w1)) λb s2 ⟨H2,I2,q2⟩=>?_)
 cases b with
 | true =>
  obtain⟨N,hN,q2⟩:=q2
  rw[if_pos rfl]
  refine wpAny_passesOwn hp (aH (hb pins s2 fm H2 _ I2 q2) λf s3 q3=>?_)
  cases f with
  | next =>
   obtain⟨jg,H3,I3,n3⟩:=q3
   obtain⟨m',hm,w3⟩:=hN jg H3 n3
   exact⟨m',hm,jg,H3,I3,w3⟩
  | cont =>
   obtain⟨jg,H3,I3,n3⟩:=q3
   obtain⟨m',hm,w3⟩:=hN jg H3 n3
   exact⟨m',hm,jg,H3,I3,w3⟩
  | brk=>exact q3
  | ret v=>exact q3
 | false =>
  rw[if_neg hJ]
  exact wpAny_execs_nil ⟨fm,H2,I2,q2⟩
end
structure It where
 go:Nat->Hp->Prop
 iP:Nat->Hp->V->Hp->Prop
 stop:Nat->Hp->Prop
noncomputable def gE(X:Cx)(pins:List (Addr × Obj))(H:Hp)(b:Addr):Prop :=
 H b=none/\b≠X.env.locals/\b ∉ X.fs/\(b∈X.ex\/X.bQ.heap.objs.size<=b)/\(∀x c,X.env.cells.lookup x=some c->c≠b)/\∀p∈X.pn++pins,p.1≠b
theorem Inv.y0{X:Cx}{pins:List (Addr × Obj)}{σ:St}{H H':Hp}{s:Shared}{b:Addr}(I:Inv X pins σ H s)(hb:s.heap.objs.size<=b)(hn:H' b=none):gE X pins H' b:=by
 refine⟨hn,yh (cq I.lt hb),I.K8 hb,.inr (dP I.sz hb),λx c e z=>?_,λp hp z=>?_⟩
 ·obtain⟨v,q⟩:=I.cell x c e
  exact absurd (cq q.lt (by rw[z];exact hb)) (fE _)
 ·exact absurd (cq (bf (I.pin p hp).1) (by rw[z];exact hb)) (fE _)
structure Turn(P:Program)(w:World)(K:PySem.W.Frag)(tg:Expr)(J:It)(fp:List Addr)(it:Addr)(tn:Nat->Heap->Prop):Prop where
 mem:it∈fp
 obj:∀i h,tn i h->∀b∈fp,∃o,h.get? b=some o/\∀v,o.data≠.cell v
 keep:∀i h h',tn i h->(∀b∈fp,∀o,h.get? b=some o->h'.get? b=some o)->tn i h'
 item:∀(X:Cx),X.prog=P->X.w=w->X.K=K->X.calm=true->∀(i:Nat) (pins:List (Addr × Obj)) (s:Shared) (σ:St) (H:Hp) (E:Value->Shared->Prop),Inv X pins σ H s->(∀b∈fp,gE X pins H b)->tn i s.heap->J.go i H ->
  wpAny (model P w) X.A (pyNext (.ref it)) (λr s1=>∃u,r=some u /\
   wpAny (model P w) X.A (letOwnedTupleGo tg (.ref it) u) (λ_ s2=>∃x H',Inv X pins σ H' s2/\RelV x u/\J.iP i H x H'/\tn (i+1) s2.heap/\∀b∈fp,H' b=none) E s1) E s
 done:∀(X:Cx),X.prog=P->X.w=w->X.K=K->X.calm=true->∀(i:Nat) (pins:List (Addr × Obj)) (s:Shared) (σ:St) (H:Hp) (E:Value->Shared->Prop),Inv X pins σ H s->(∀b∈fp,gE X pins H b)->tn i s.heap->J.stop i H ->
  wpAny (model P w) X.A (pyNext (.ref it)) (λr s1=>r=none/\Inv X pins σ H s1) E s
 self:∀(A:Around) (i:Nat) (s:Shared) (Q:Value->Shared->Prop) (E:Value->Shared->Prop),tn i s.heap->Q (.ref it) s->wpAny (model P w) A (pyIter (.ref it)) Q E s
noncomputable abbrev TI:=St->Hp->(It->Hp->Prop)->Prop
noncomputable def Lm(X:Cx)(pins:List (Addr × Obj))(σ:St)(tg:Expr)(R:It->Hp->Prop)(CK:Value)(s2:Shared):Prop :=
 ∃(it:Addr) (fp:List Addr) (tn:Nat->Heap->Prop) (J:It) (H':Hp),CK=.ref it/\Inv X pins σ H' s2/\Turn X.prog X.w X.K tg J fp it tn/\tn 0 s2.heap/\(∀b∈fp,gE X pins H' b)/\R J H'
noncomputable def PI(X:Cx)(tg iter:Expr)(wi:TI):Prop :=
 ∀(pins:List (Addr × Obj)) (s:Shared) (σ:St) (H:Hp) (R:It->Hp->Prop),Inv X pins σ H s->wi σ H R ->
  wpAny (model X.prog X.w) X.A (eval iter X.env) (λv s1=>wpAny (model X.prog X.w) X.A (pyIter v) (Lm X pins σ tg R) X.xe s1) X.xe s
theorem Ln{M:Model}{A:Around}{E:Value->Shared->Prop}{s:Shared}{tg:Expr}{it:Addr}{u:Value}{o:Obj}{n:String}{vs:Array Value}{Q:Unit->Shared->Prop}(ho:s.heap.get? it=some o)(hc:o.cls=.type n)(hd:o.data=.fields vs)
  (hn:["enumerate","zip","dict_itemiterator","dict_reverseitemiterator","odict_iterator","itertools.zip_longest","itertools.pairwise"].contains n=false) (hQ:Q () s):wpAny M A (letOwnedTupleGo tg (.ref it) u) Q E s:=by
 unfold letOwnedTupleGo
 cases tg<;>first
  | exact wpAny_pure hQ
  | (cases u<;>first
    | exact wpAny_pure hQ
    | (refine wpAny_bind (wpAny_load ho ?_)
       rw[hc,hd]
       show wpAny M A (if(["enumerate","zip","dict_itemiterator","dict_reverseitemiterator","odict_iterator","itertools.zip_longest","itertools.pairwise"].contains n&&vs[0]?==some (rawInt _))=true then _ else _) Q E s
       rw[if_neg (by intro h;rw[hn,uW]at h;cases h)]
       exact wpAny_pure hQ))
noncomputable def CL(K:PySem.W.Frag)(a:Addr):It :=
 ⟨λi H=>∃xs x,bq K H a xs/\xs[i]?=some x,λi H x H'=>H'=H/\∀xs,bq K H a xs->xs[i]?=some x,λi H=>∃xs,bq K H a xs/\xs.length<=i⟩
noncomputable def vq(lo:Int)(n:Nat):It:=⟨λi _=>i<n,λi H x H'=>H'=H/\x=.int (lo+i),λi _=>n<=i⟩
theorem Uc{P:Program}{w:World}{K:PySem.W.Frag}{tg:Expr}(a it:Addr):Turn P w K tg (CL K a) [it] it (λi h=>h.IsListIter it a i) where
 mem:=by simp
 obj:=λi h st b hb=>by
  have e:b=it:=by simpa using hb
  subst e
  obtain⟨o,e,c,d⟩:=st
  exact⟨o,e,λv z=>by rw[d]at z;cases z⟩
 keep:=λi h h' st k=>st.at λo e=>k it (by simp) o e
 item:=by
  intro X hP hw hK hc i pins s σ H E I hf st hg
  subst hP hw hK
  obtain⟨xs,x,hq,hx⟩:=hg
  obtain⟨its,rv,p,hz⟩:=I.list hq
  obtain⟨u,hu,ru⟩:=rv.get hx
  obtain⟨f0,f1,f2,f3,f4,f5⟩:=hf it (by simp)
  refine wpAny_pyNext_list_item st p.isList (x:=u) (by simpa using hu) λh' mO sb=>?_
  have I1:Inv X pins σ H { s with heap:=h' }:=I.turned (t':=s.toks) (λb o hb e=>(sb.2 b hb).trans e) f0 f1 f3 f4 f5
  obtain⟨o,e,c,d⟩:=id mO
  exact⟨u,rfl,Ln (s:={ s with heap:=h' }) e c d (by decide) ⟨x,H,I1,ru,⟨rfl,λys hy=>by rw[I.yV hy hq];exact hx⟩,mO,λb hb=>(hf b hb).1⟩⟩
 done:=by
  intro X hP hw hK hc i pins s σ H E I hf st hg
  subst hP hw hK
  obtain⟨xs,hq,hx⟩:=hg
  obtain⟨its,rv,p,hz⟩:=I.list hq
  obtain⟨f0,f1,f2,f3,f4,f5⟩:=hf it (by simp)
  have hl:=rv.length
  exact wpAny_pyNext_list_end (I.ok.hd hc) st p.isList (by simp;omega) λh' eb=>⟨rfl,I.turned (t':=s.toks) (λb o hb e=>eb b o hb e) f0 f1 f3 f4 f5⟩
 self:=λ_ _ _ _ _ st h=>wpAny_pyIter_listiter st h
theorem Ud{P:Program}{w:World}{K:PySem.W.Frag}{tg:Expr}(it:Addr)(lo:Int)(n:Nat):Turn P w K tg (vq lo n) [it] it (λi h=>IsRangeIter h it (lo+(i:Nat)*1) ((n:Int)-(i:Nat)) 1) where
 mem:=by simp
 obj:=λi h st b hb=>by
  have e:b=it:=by simpa using hb
  subst e
  exact⟨_,st,λv z=>by
   have z':Data.fields _=Data.cell v:=z
   cases z'⟩
 keep:=λi h h' st k=>k it (by simp) _ st
 item:=by
  intro X hP hw hK hc i pins s σ H E I hf st hg
  subst hP hw hK
  obtain⟨f0,f1,f2,f3,f4,f5⟩:=hf it (by simp)
  have W:=Walks.range (prog:=X.prog) (w:=X.w) (I.ok.hd hc) it lo 1 n
  refine W.item i s _ _ hg st λv h' tk hv mO kk=>?_
  obtain⟨t,rfl⟩:=hv
  have I1:Inv X pins σ H { s with heap:=h',toks:=tk }:=I.turned (λb o hb e=>kk b o (by simpa using hb) e) f0 f1 f3 f4 f5
  refine⟨_,rfl,Ln (s:={ s with heap:=h',toks:=tk }) (n:="range_iterator") mO rfl rfl (by decide) ⟨.int (lo+i),H,I1,⟨t,?_⟩,⟨rfl,rfl⟩,mO,λb hb=>(hf b hb).1⟩⟩
  rw[Int.mul_one]
 done:=by
  intro X hP hw hK hc i pins s σ H E I hf st hg
  subst hP hw hK
  obtain⟨f0,f1,f2,f3,f4,f5⟩:=hf it (by simp)
  exact wpAny_pyNext_range_end (I.ok.hd hc) st (by have:n<=i:=hg;omega) λh' eb=>⟨rfl,I.turned (t':=s.toks) (λb o hb e=>eb b o hb e) f0 f1 f3 f4 f5⟩
 self:=λ_ _ _ _ _ st h=>wpAny_pyIter_rangeiter st h
end L2
namespace L2
open PySem PySem.Spec PyProof.Rows
section
variable{X:Cx}{tg:Expr}
noncomputable def Ue(K:PySem.W.Frag)(tl:TE):TI:=λσ H R=>tl σ H λx H1=>∃a,x=.ref a/\(∃xs,bq K H1 a xs)/\R (CL K a) H1
theorem Ug{l:Expr}{tl:TE}(hl:PE X l tl):PI X tg l (Ue X.K tl):=by
 intro pins s σ H R I h
 refine aH (hl pins s σ H _ I h) λv s1 ⟨x,H1,I1,r1,q1⟩=>?_
 obtain⟨a,e,⟨xs,hq⟩,q⟩:=q1
 subst e
 cases r1
 obtain⟨its,rv,p,hz⟩:=I1.list hq
 refine wpAny_pyIter_list p.isList ?_
 refine⟨s1.heap.objs.size,[s1.heap.objs.size],_,_,H1,rfl,I1.kept (t':=s1.toks) λb o e=>bY _ e,Uc a _,⟨_,cX _ rfl,rfl,rfl⟩,λb hb=>?_,q⟩
 have e:b=s1.heap.objs.size:=by simpa using hb
 subst e
 exact I1.y0 (aX _) (I1.ay.fresh (aX _))
theorem Lo{pins:List (Addr × Obj)}{σ:St}{H:Hp}{s:Shared}{R:It->Hp->Prop}{E:Value->Shared->Prop}{lo hi:Int}{t u v:Tok}{tk:Nat}(I:Inv X pins σ H s)(h1:-(2 ^ 62)<=lo)(h2:lo<2 ^ 62)(h3:-(2 ^ 62)<=hi)(h4:hi<2 ^ 62)
  (q:R (vq lo (hi-lo).toNat) H):wpAny (model X.prog X.w) X.A (pyIter (.ref s.heap.objs.size)) (Lm X pins σ tg R) E { s with heap:=s.heap.push { cls:=.type "range",data:=.fields #[.int lo t,.int hi u,.int 1 v] },toks:=tk }:=by
 refine wpAny_pyIter_range (IsRange.new ..) (small_one h1 h2 h3 h4) ?_
 have I1:Inv X pins σ H { s with heap:=s.heap.push { cls:=.type "range",data:=.fields #[.int lo t,.int hi u,.int 1 v] },toks:=tk }:=I.kept λb o e=>bY _ e
 refine⟨(s.heap.push { cls:=.type "range",data:=.fields #[.int lo t,.int hi u,.int 1 v] }).objs.size,[(s.heap.push { cls:=.type "range",data:=.fields #[.int lo t,.int hi u,.int 1 v] }).objs.size],_,_,H,rfl,
  I1.kept (t':=tk) λb o e=>bY _ e,Ud _ lo (hi-lo).toNat,?_,λb hb=>?_,q⟩
 ·have e1:lo+((0:Nat):Int)*1=lo:=by simp
  have e2:(((hi-lo).toNat:Nat):Int)-((0:Nat):Int)=Builtin.Range.rangeSize lo hi 1:=by rw[rangeSize_one];split<;>omega
  show IsRangeIter _ _ (lo+((0:Nat):Int)*1) ((((hi-lo).toNat:Nat):Int)-((0:Nat):Int)) 1
  rw[e1,e2]
  exact cX _ rfl
 ·have e:b=(s.heap.push { cls:=.type "range",data:=.fields #[.int lo t,.int hi u,.int 1 v] }).objs.size:=by simpa using hb
  subst e
  exact I1.y0 (aX _) (I1.ay.fresh (aX _))
noncomputable def Uh(ta:TA):TI:=λσ H R=>ta σ H λvs H1=>∃j:Int,vs=[.int j]/\-(2 ^ 62)<=j/\j<2 ^ 62/\R (vq 0 j.toNat) H1
noncomputable def Ui(ta:TA):TI:=λσ H R=>ta σ H λvs H1=>∃i j:Int,vs=[.int i,.int j]/\(-(2 ^ 62)<=i/\i<2 ^ 62/\-(2 ^ 62)<=j/\j<2 ^ 62)/\R (vq i (j-i).toNat) H1
theorem Uj{a:Expr}{ta:TA}{p pos:Pos}(hg:Gl X "range")(hm:X.mg "range"=none)(ha:PA X [a] ta)(hs:starEach [a] X.env=[(false,eval a X.env)]:=by rfl):PI X tg (.Call (.Name "range" p) [a] [] pos) (Uh ta):=by
 intro pins s σ H R I h
 refine Call_ (ou I hg hm boot_range (yi (aH (ha pos pins s σ H _ I h) λus s1 ⟨vs,H1,I1,r1,q1⟩=>?_) hs rfl))
 obtain⟨j,e,q1,q2,q⟩:=q1
 subst e
 cases r1 with
 | cons r rr =>
  cases rr
  obtain⟨t,rfl⟩:=r
  exact call_range_1 (Lo I1 (by omega) (by omega) q1 q2 (by simpa using q))
theorem Uk{a b:Expr}{ta:TA}{p pos:Pos}(hg:Gl X "range")(hm:X.mg "range"=none)(ha:PA X [a,b] ta)(hs:starEach [a,b] X.env=[(false,eval a X.env),(false,eval b X.env)]:=by rfl)(gF:starEach [b] X.env=[(false,eval b X.env)]:=by rfl) :
  PI X tg (.Call (.Name "range" p) [a,b] [] pos) (Ui ta):=by
 intro pins s σ H R I h
 refine Call_ (ou I hg hm boot_range (yi (aH (ha pos pins s σ H _ I h) λus s1 ⟨vs,H1,I1,r1,q1⟩=>?_) (by rw[hs,gF]) (by rw[gF];rfl)))
 obtain⟨i,j,e,⟨q1,q2,q3,q4⟩,q⟩:=q1
 subst e
 cases r1 with
 | cons r rr =>
  cases rr with
  | cons r' rr =>
   cases rr
   obtain⟨t,rfl⟩:=r
   obtain⟨t',rfl⟩:=r'
   exact call_range_2 (Lo I1 q1 q2 q3 q4 q)
noncomputable def Ul(wi:TI)(g:TG)(tb:TS):TS:=λD σ H=>wi σ H λJ H1=>∃W:Nat->Nat->St->Hp->Prop,(∃m,W 0 m σ H1)/\∀i m σ H,W i m σ H ->
 (J.stop i H/\D.nx σ H)\/(J.go i H/\∃N:St->Hp->Prop,(∀av H',N av H'->∃m',m'<m/\W (i+1) m' av H')/\∀x H',J.iP i H x H'->g x σ H' λjO H2=>tb { D with nx:=N,ct:=N,bk:=D.nx } jO H2)
noncomputable def vt(fp:List Addr)(h:Heap):List (Addr × Obj):=fp.filterMap λb=>(h.get? b).map λo=>(b,o)
theorem y6{fp:List Addr}{h:Heap}{b:Addr}{o:Obj}(hb:b∈fp)(e:h.get? b=some o):(b,o)∈vt fp h:=Sr.mpr ⟨b,hb,by rw[e];rfl⟩
theorem Um{fp:List Addr}{h:Heap}{p:Addr × Obj}(hp:p∈vt fp h):p.1∈fp/\h.get? p.1=some p.2:=by
 obtain⟨b,hb,e⟩:=Sr.mp hp
 cases q:h.get? b with
 | none=>rw[q]at e;cases e
 | some o =>
  rw[q]at e
  have e':(b,o)=p:=cW e
  subst e'
  exact⟨hb,q⟩
theorem Inv.pinned{pins:List (Addr × Obj)}{σ:St}{H:Hp}{s:Shared}{fp:List Addr}(I:Inv X pins σ H s)(hf:∀b∈fp,gE X pins H b)(ho:∀b∈fp,∃o,s.heap.get? b=some o/\∀v,o.data≠.cell v):Inv X (pins++vt fp s.heap) σ H s :=
 I.K9 λp hp=>(bP.mp hp).elim (λz=>I.pin p (dz _ z)) λz=>by
  obtain⟨hb,e⟩:=Um z
  obtain⟨f0,f1,f2,_⟩:=hf p.1 hb
  obtain⟨o,e',d⟩:=ho p.1 hb
  rw[e]at e';cases e'
  exact⟨e,f0,f1,f2,d⟩
theorem Inv.vv{pins pl:List (Addr × Obj)}{σ:St}{H:Hp}{s:Shared}(I:Inv X (pins++pl) σ H s):Inv X pins σ H s:=I.K9 λp hp=>I.pin p (dz _ (eU _ hp))
theorem Uo{iter:Expr}{body:List Stmt}{wi:TI}{g:TG}{tb:TS}{pos:Pos}(hp:PassesOwn (model X.prog X.w) X.A X.env X.xe)(hc:X.calm=true)(hi:PI X tg iter wi)(hg:PG X tg g)(hb:PSs X body tb)
  (hs:∀x,foldedSetIterable iter X.env x=pure x:=by intro _;rfl):PS X (.For tg iter body [] pos) (Ul wi g tb):=by
 intro pins s σ H D I h
 refine wpAny_For (aH (hi pins s σ H _ I h) λv s1 h1=>aH h1 λCK s2 h2=>?_) hs
 obtain⟨it,fp,tn,J,H2,e,I2,T,vw,f2,W,⟨m0,w0⟩,turn⟩:=h2
 subst e
 have CM:∀{H':Hp},(∀b∈fp,H' b=none)->∀b∈fp,gE X pins H' b:=λhn b hb=>⟨hn b hb,(f2 b hb).2⟩
 refine codeAny_forLoop_any (λn s'=>∃i av H',Inv X pins av H' s'/\tn i s'.heap/\(∀b∈fp,H' b=none)/\W i n av H') ?_ m0 ⟨0,σ,H2,I2,vw,λb hb=>(f2 b hb).1,w0⟩
 rintro n s3 ⟨i,jg,H3,I3,Lp,Lq,w3⟩
 rcases turn i n jg H3 w3 with⟨stop,qn⟩ | ⟨go,N,hN,step⟩
 ·refine wpAny_passesOwn hp (aH (T.done X rfl rfl rfl hc i pins s3 jg H3 X.xe I3 (CM Lq) Lp stop) λr s4 ⟨hr,I4⟩=>?_)
  subst hr
  exact wpAny_execs_nil ⟨jg,H3,I4,qn⟩
 ·refine wpAny_passesOwn hp (aH (T.item X rfl rfl rfl hc i pins s3 jg H3 X.xe I3 (CM Lq) Lp go) λr s4 ⟨u,hr,h4⟩=>?_)
  subst hr
  refine wpAny_passesOwn hp (aH h4 λ_ s5 ⟨x,H5,I5,r5,y5,oA,CN⟩=>?_)
  have CO:=I5.pinned (CM CN) (T.obj _ _ oA)
  refine wpAny_passesOwn hp (aH (hg _ s5 jg H5 x u _ CO r5 (step x H5 y5)) λ_ s6 ⟨CP,H6,I6,q6⟩=>?_)
  refine wpAny_passesOwn hp (aH (hb _ s6 CP H6 _ I6 q6) λf s7 q7=>?_)
  have again:∀{jh:St} {H7:Hp},Inv X (pins++vt fp s5.heap) jh H7 s7->N jh H7->∃m,m<n/\∃i av H',Inv X pins av H' s7/\tn i s7.heap/\(∀b∈fp,H' b=none)/\W i m av H':=λ{jh H7} I7 n7=>by
   obtain⟨m',hm,w7⟩:=hN jh H7 n7
   refine⟨m',hm,i+1,jh,H7,I7.vv,T.keep _ _ _ oA λb hb o e=>(I7.pin (b,o) (dz _ (dz _ (y6 hb e)))).1,λb hb=>?_,w7⟩
   obtain⟨o,e,d⟩:=T.obj _ _ oA b hb
   exact(I7.pin (b,o) (dz _ (dz _ (y6 hb e)))).2.1
  cases f with
  | next=>obtain⟨jh,H7,I7,n7⟩:=q7;exact again I7 n7
  | cont=>obtain⟨jh,H7,I7,n7⟩:=q7;exact again I7 n7
  | brk=>obtain⟨jh,H7,I7,q7⟩:=q7;exact⟨jh,H7,I7.vv,q7⟩
  | ret v=>obtain⟨x7,jh,H7,I7,r7,q7⟩:=q7;exact⟨x7,jh,H7,I7.vv,r7,q7⟩
end
end L2
namespace L2
open PySem PySem.Spec PyProof.Rows
noncomputable abbrev R2:=V->V->Hp->VK->Prop
noncomputable def cg(X:Cx)(f:Value->Value->Sem Value)(r:R2):Prop :=
 ∀(pins:List (Addr × Obj)) (s:Shared) (σ:St) (H:Hp) (x y:V) (v u:Value) (Q:VK),Inv X pins σ H s->RelV x v->RelV y u->r x y H Q ->
  wpAny (model X.prog X.w) X.A (f v u) (EP X pins σ Q) X.xe s
noncomputable def eY(X:Cx)(f:Value)(r:List V->Hp->VK->Prop):Prop :=
 ∀(pins:List (Addr × Obj)) (s:Shared) (σ:St) (H:Hp) (xs:List V) (us:List Value) (Q:VK),Inv X pins σ H s->Vals xs us->r xs H Q ->
  wpAny (model X.prog X.w) X.A (call f us) (EP X pins σ Q) X.xe s
noncomputable def vx(r:R2)(ta tb:TE):TE:=λσ H Q=>ta σ H λx H1=>tb σ H1 λy H2=>r x y H2 Q
noncomputable def rI(C:Int->Int->Prop)(g:Int->Int->V):R2:=λx y H Q=>∃i j,x=.int i/\y=.int j/\C i j/\Q (g i j) H
noncomputable def ig(g:Int->Int->V):R2:=λx y H Q=>∃i j,x=.int i/\y=.int j/\Q (g i j) H
section
variable{X:Cx}{a b c:Expr}{ta tb tc:TE}{pos:Pos}
theorem CQ(ha:PE X a ta)(hb:PE X b tb){pins:List (Addr × Obj)}{s:Shared}{σ:St}{H:Hp}{R:V->V->Hp->Prop}(I:Inv X pins σ H s)
  (h:ta σ H λx H1=>tb σ H1 λy H2=>R x y H2) {Q:Value->Shared->Prop} {f:Value->Value->Sem Value}
  (hf:∀v u s2 x y H2,Inv X pins σ H2 s2->RelV x v->RelV y u->R x y H2->wpAny (model X.prog X.w) X.A (f v u) Q X.xe s2) :
  wpAny (model X.prog X.w) X.A (eval a X.env) (λv bj=>wpAny (model X.prog X.w) X.A (eval b X.env) (λu jf=>wpAny (model X.prog X.w) X.A (f v u) Q X.xe jf) X.xe bj) X.xe s:=by
 refine aH (ha pins s σ H _ I h) λv s1 ⟨x,H1,I1,r1,q1⟩=>?_
 refine aH (hb pins s1 σ H1 _ I1 q1) λu s2 ⟨y,H2,I2,r2,q2⟩=>?_
 exact hf v u s2 x y H2 I2 r1 r2 q2
theorem vy{op:Operator}{r:R2}(ho:cg X (binaryOp op) r)(ha:PE X a ta)(hb:PE X b tb):PE X (.BinOp a op b pos) (vx r ta tb):=by
 intro pins s σ H Q I h
 exact wpAny_BinOp (CQ ha hb I h λv u s2 x y H2 I2 rx ry q=>ho pins s2 σ H2 x y v u Q I2 rx ry q)
theorem vz{f:Value->Value->Sem Value}{C:Int->Int->Prop}{g:Int->Int->Int}
  (rule:∀(i j:Int) (t u:Tok) (s:Shared) (Q:Value->Shared->Prop) (E:Value->Shared->Prop),C i j->Q (.int (g i j) s.toks) { s with toks:=s.toks+1 }->wpAny (model X.prog X.w) X.A (f (.int i t) (.int j u)) Q E s) :
  cg X f (rI C λi j=>.int (g i j)):=by
 intro pins s σ H x y v u Q I rx ry h
 obtain⟨i,j,rfl,rfl,hc,q⟩:=h
 obtain⟨t,rfl⟩:=rx
 obtain⟨t',rfl⟩:=ry
 exact rule i j t t' s _ _ hc ⟨.int (g i j),H,I.tok _,⟨_,rfl⟩,q⟩
theorem qS{f:Value->Value->Sem Value}{g:Int->Int->Int}
  (rule:∀(i j:Int) (t u:Tok) (s:Shared) (Q:Value->Shared->Prop) (E:Value->Shared->Prop),Q (.int (g i j) s.toks) { s with toks:=s.toks+1 }->wpAny (model X.prog X.w) X.A (f (.int i t) (.int j u)) Q E s) :
  cg X f (ig λi j=>.int (g i j)):=by
 intro pins s σ H x y v u Q I rx ry h
 obtain⟨i,j,rfl,rfl,q⟩:=h
 obtain⟨t,rfl⟩:=rx
 obtain⟨t',rfl⟩:=ry
 exact rule i j t t' s _ _ ⟨.int (g i j),H,I.tok _,⟨_,rfl⟩,q⟩
theorem y7{f:Value->Value->Sem Value}{g:Int->Int->Bool}
  (rule:∀(i j:Int) (t u:Tok) (s:Shared) (Q:Value->Shared->Prop) (E:Value->Shared->Prop),Q (.bool (g i j)) s->wpAny (model X.prog X.w) X.A (f (.int i t) (.int j u)) Q E s) :
  cg X f (ig λi j=>.bl (g i j)):=by
 intro pins s σ H x y v u Q I rx ry h
 obtain⟨i,j,rfl,rfl,q⟩:=h
 obtain⟨t,rfl⟩:=rx
 obtain⟨t',rfl⟩:=ry
 exact rule i j t t' s _ _ ⟨.bl (g i j),H,I,rfl,q⟩
noncomputable def ji(i j:Int):Prop:=(-(2 ^ 64)<i/\i<2 ^ 64)\/(-(2 ^ 64)<j/\j<2 ^ 64)
theorem ji.ok{i j:Int}(h:ji i j):IntMulOk i j:=by
 rcases h with⟨h1,h2⟩ | ⟨h1,h2⟩
 ·exact .of_left (intBits_le_64 h1 h2)
 ·exact .of_right (intBits_le_64 h1 h2)
theorem Up(k:Nat):(0:Int)<=2 ^ k:=by
 rw[two_pow_cast]
 exact Ku _
theorem Uq:cg X (binaryOp .Add) (ig λi j=>.int (i+j)):=qS λ_ _ _ _ _ _ _ q=>add_int q
theorem CS:cg X (binaryOp .Sub) (ig λi j=>.int (i-j)):=qS λ_ _ _ _ _ _ _ q=>sub_int q
theorem Ur:cg X (binaryOp .Mod) (rI (λ_ j=>0<j) λi j=>.int (i%j)):=vz λi j _ _ _ _ _ hc q=>by
 have h1:(0:Int)<j:=hc
 exact mod_int' (by omega) (by rw[Int.fmod_eq_emod_of_nonneg i (by omega)];exact q)
theorem Us:cg X (binaryOp .RShift) (rI (λ_ j=>0<=j) λi j=>.int (i/2 ^ j.toNat)):=vz λi j _ _ _ _ _ hc q =>
 rshift_int hc (by rw[Ss i (Up _)];exact q)
theorem Ut:cg X (binaryOp .BitAnd) (ig λi j=>.int (mq i j)):=qS λ_ _ _ _ _ _ _ q=>and_int q
theorem Uu:cg X (binaryOp .BitXor) (ig λi j=>.int (mr i j)):=qS λ_ _ _ _ _ _ _ q=>xor_int q
theorem Uv:cg X (inplaceOp .Add) (ig λi j=>.int (i+j)):=qS λ_ _ _ _ _ _ _ q=>iadd_int q
theorem Uw:cg X (inplaceOp .BitXor) (ig λi j=>.int (mr i j)):=qS λ_ _ _ _ _ _ _ q=>ixor_int q
end
section
variable{X:Cx}{a b c:Expr}{ta tb tc:TE}{pos:Pos}
theorem Ux{pins:List (Addr × Obj)}{σ:St}{H:Hp}{s:Shared}{Q:VK}{k k':Bool}(I:Inv X pins σ H s)(q:Q (.bl k) H)(e:k=k'):EP X pins σ Q (.bool k') s:=by
 subst e
 exact⟨.bl k,H,I,rfl,q⟩
theorem Uy:cg X (compareOp .Lt) (ig λi j=>.bl (decide (i<j))):=y7 λ_ _ _ _ _ _ _ q=>lt_int q
theorem Uz:cg X (compareOp .LtE) (ig λi j=>.bl (decide (i<=j))):=y7 λ_ _ _ _ _ _ _ q=>le_int q
theorem UA:cg X (compareOp .Gt) (ig λi j=>.bl (decide (j<i))):=y7 λ_ _ _ _ _ _ _ q=>gt_int q
theorem UB:cg X (compareOp .GtE) (ig λi j=>.bl (decide (j<=i))):=y7 λ_ _ _ _ _ _ _ q=>ge_int q
theorem UC:cg X (compareOp .IsNot) (λx y H Q=>y=.ak/\Q (.bl (!decide (x=.ak))) H):=by
 intro pins s σ H x y v u Q I rx ry h
 obtain⟨rfl,q⟩:=h
 cases ry
 refine isnot_none_gen (Ux I q ?_)
 cases x<;>first
  | (cases rx;rfl)
  | (obtain⟨t,rfl⟩:=rx;rfl)
theorem cg.or{f:Value->Value->Sem Value}{r r':R2}(h:cg X f r)(h':cg X f r'):cg X f (λx y H Q=>r x y H Q\/r' x y H Q):=by
 intro pins s σ H x y v u Q I rx ry q
 rcases q with q | q
 ·exact h pins s σ H x y v u Q I rx ry q
 ·exact h' pins s σ H x y v u Q I rx ry q
theorem bW(b:Expr){op:CmpOp}(h:op≠.In:=by decide)(h2:op≠.NotIn:=by decide):behindInMarks op b=false:=by
 have e1:(op==CmpOp.In)=false:=by cases op<;>first | rfl | exact absurd rfl h
 have e2:(op==CmpOp.NotIn)=false:=by cases op<;>first | rfl | exact absurd rfl h2
 cases b<;>simp[behindInMarks,e1,e2]
theorem UD{op:CmpOp}{r:R2}(ho:cg X (compareOp op) r)(ha:PE X a ta)(hb:PE X b tb)(hm:behindInMarks op b=false):PE X (.Compare a [op] [b] pos) (vx r ta tb):=by
 intro pins s σ H Q I h
 exact wpAny_Compare1 (CQ ha hb I h λv u s2 x y H2 I2 rx ry q=>ho pins s2 σ H2 x y v u Q I2 rx ry q) hm
noncomputable def Lr(t:TE):TT:=λσ H Q=>t σ H λx H'=>∃k,x=.bl k/\Q k H'
theorem UE{op:CmpOp}{r:R2}(ho:cg X (compareOp op) r)(ha:PE X a ta)(hb:PE X b tb)(hm:behindInMarks op b=false):PT X (.Compare a [op] [b] pos) (Lr (vx r ta tb)):=by
 intro pins s σ H Q I h
 refine wpAny_isTrue_Compare1 (aH (ha pins s σ H _ I h) λv s1 ⟨x,H1,I1,r1,q1⟩=>aH (hb pins s1 σ H1 _ I1 q1) λu s2 ⟨y,H2,I2,r2,q2⟩ =>
  aH (ho pins s2 σ H2 x y v u _ I2 r1 r2 q2) λc s3 ⟨z,H3,I3,r3,k,e,q3⟩=>?_) hm
 subst e
 cases r3
 exact wpAny_truthy_bool ⟨H3,I3,q3⟩
noncomputable def Ls(r r':R2)(ta tb tc:TE):TE:=λσ H Q=>ta σ H λx H1=>tb σ H1 λy H2=>r x y H2 λz H3=>∃k,z=.bl k /\
 (if k=true then tc σ H3 λw' H4=>r' y w' H4 Q else Q (.bl false) H3)
theorem UG{op oB:CmpOp}{r r':R2}(ho:cg X (compareOp op) r)(i9:cg X (compareOp oB) r')(ha:PE X a ta)(hb:PE X b tb)(hc:PE X c tc)
  (hm:lastMarks [op,oB] [b,c]=false:=by with_unfolding_all rfl):PE X (.Compare a [op,oB] [b,c] pos) (Ls r r' ta tb tc):=by
 intro pins s σ H Q I h
 refine Compare_chain (aH (ha pins s σ H _ I h) λv s1 ⟨x,H1,I1,r1,q1⟩=>chain_link (aH (hb pins s1 σ H1 _ I1 q1) λu s2 ⟨y,H2,I2,r2,q2⟩ =>
  aH (ho pins s2 σ H2 x y v u _ I2 r1 r2 q2) λd s3 ⟨z,H3,I3,r3,k,e,q3⟩=>?_)) hm
 subst e
 cases r3
 refine wpAny_truthy_bool ?_
 cases k with
 | false=>exact ite_ff ⟨.bl false,H3,I3,rfl,q3⟩
 | true=>exact ite_tt (chain_last (aH (hc pins s3 σ H3 _ I3 q3) λw' s4 ⟨z',H4,I4,r4,q4⟩=>i9 pins s4 σ H4 y z' u w' Q I4 r2 r4 q4))
theorem qT:(sizeLine:Nat)<2 ^ 63:=by rw[sizeLine_eq];decide
theorem UH:cg X (binaryOp .Add) (λx y H Q=>∃i j,x=.str i/\y=.str j/\i.length+j.length<=sizeLine/\Q (.str (i++j)) H):=by
 intro pins s σ H x y v u Q I rx ry h
 obtain⟨i,j,rfl,rfl,hz,q⟩:=h
 obtain⟨t,rfl⟩:=rx
 obtain⟨t',rfl⟩:=ry
 exact add_str (λt' tk=>⟨.str (i++j),H,I.tok _,⟨_,rfl⟩,q⟩) hz
theorem vA{x:V}{us:List Value}(r:Vals [x] us):∃u,us=[u]/\RelV x u:=by
 cases r with
 | cons r1 r2=>cases r2;exact⟨_,rfl,r1⟩
theorem UI{x y:V}{us:List Value}(r:Vals [x,y] us):∃u w',us=[u,w']/\RelV x u/\RelV y w':=by
 cases r with
 | cons r1 r2 =>
  cases r2 with
  | cons r3 r4=>cases r4;exact⟨_,_,rfl,r1,r3⟩
theorem UJ(hc:X.calm=true):eY X (.builtin "max") (λxs H Q=>∃i j,xs=[.int i,.int j]/\Q (.int (if j>i then j else i)) H):=by
 intro pins s σ H xs us Q I r h
 obtain⟨i,j,rfl,q⟩:=h
 obtain⟨u,w',rfl,⟨t,rfl⟩,⟨t',rfl⟩⟩:=UI r
 refine max_two_ints (I.ok.hd hc) λh' tk k=>⟨_,H,I.kept k,?_,q⟩
 by_cases hj:j>i
 ·rw[if_pos hj,if_pos hj];exact⟨_,rfl⟩
 ·rw[if_neg hj,if_neg hj];exact⟨_,rfl⟩
theorem UK:eY X (.type "int") (λxs H Q=>(∃i,xs=[.int i]/\Q (.int i) H)\/∃k,xs=[.bl k]/\Q (.int (if k then 1 else 0)) H):=by
 intro pins s σ H xs us Q I r h
 rcases h with⟨i,rfl,q⟩ | ⟨k,rfl,q⟩
 ·obtain⟨u,rfl,t,rfl⟩:=vA r
  exact call_int_int ⟨.int i,H,I,⟨_,rfl⟩,q⟩
 ·obtain⟨u,rfl,r1⟩:=vA r
  cases r1
  exact call_int_bool ⟨.int (if k then 1 else 0),H,I.tok _,⟨_,rfl⟩,q⟩
end
end L2
namespace L2
open PySem PySem.Spec PyProof.Rows
structure oE(h:Heap)(x dx C:Addr)(mA:Str->Option Value):Prop where
 obj:h.get? x=some (PySem.W.instObj C dx)
 ns:h.Ns1 dx mA
 ne:dx≠x
theorem UL{h:Heap}{dx:Addr}{mA:Str->Option Value}(n:h.Ns1 dx mA):∃od,h.get? dx=some od/\∀name,PySem.W.lookIn name od=some (mA name):=by
 obtain⟨o,es,ep,ho,hd,hk,_,hm⟩:=n
 refine⟨o,ho,λname=>?_⟩
 have e:=hm name
 unfold nsFind findBy at e
 rw[<-Array.find?_toList]at e
 unfold PySem.W.lookIn
 rw[hd]
 dsimp only
 split
 ·rename_i y q
  rw[q]at e
  exact congrArg some e
 ·rename_i q
  rw[q]at e
  have a:es.toList.any (·.refKey)=false:=by
   rw[List.any_eq_false]
   intro y hy
   obtain⟨z,t,UM⟩:=hk y (Array.mem_toList_iff.mp hy)
   simp[DictEntry.refKey,UM]
  have a':¬ es.toList.any (·.refKey)=true:=by rw[a];exact hJ
  rw[if_neg a']
  exact congrArg some e
theorem oE.look{h:Heap}{x dx C:Addr}{mA:Str->Option Value}(I:oE h x dx C mA):∃od,PySem.W.InstAt h x (PySem.W.instObj C dx) C (some od)/\∀name,PySem.W.lookIn name od=some (mA name) :=
 let⟨od,ho,hl⟩:=UL I.ns
 ⟨od,⟨I.obj,rfl,rfl,ho⟩,hl⟩
section
variable{prog:Program}{w:World}{A:Around}{E:Value->Shared->Prop}{s:Shared}{K:PySem.W.Frag}{x dx C f:Addr}{mA:Str->Option Value}{name:Str}{v:Value}
theorem UN{expr:Bool}{Q:Value->Shared->Prop}(X:K.In s.heap)(I:oE s.heap x dx C mA)(hg:PySem.W.plainGet K C name=true)(hh:PySem.W.hasDictIn K C=true)
  (ha:PySem.W.findIn K (.ref C) name=some none) (hv:mA name=some v) (UO:PySem.W.handedIn v=true) (h:Q v { s with toks:=s.toks+1 }) :
  wpAny (model prog w) A (getAttr (.ref x) name expr) Q E s:=by
 obtain⟨od,J,hl⟩:=I.look
 exact PySem.W.get_value X J (PySem.W.plainGet_of hg).1 (PySem.W.findObj_own hh ha rfl (by rw[hl,hv])) UO h
theorem UP{pl:Sem Bool}{Q:Value × List Value->Shared->Prop}(X:K.In s.heap)(I:oE s.heap x dx C mA)(hg:PySem.W.plainGet K C name=true)
  (hf:PySem.W.findIn K (.ref C) name=some (some (.ref f))) (ht:PySem.W.isFn K (.ref f)=true) (hv:mA name=none) (h:Q (.ref f,[.ref x]) s) :
  wpAny (model prog w) A (getMethod (.ref x) name pl) Q E s:=by
 obtain⟨od,J,hl⟩:=I.look
 exact PySem.W.method_fn X J (PySem.W.plainGet_of hg).1 (PySem.W.plainGet_of hg).2 hf (beq_iff_eq.mp ht) (by show(PySem.W.lookIn name od).map (·.isSome)=some false;rw[hl,hv];rfl) h
theorem UQ{ns:List Str}{Q:Unit->Shared->Prop}(X:K.In s.heap)(I:oE s.heap x dx C mA)
  (hs:PySem.W.findIn K (.ref C) "__setattr__"=some (some (.builtin "object.__setattr__"))) (hp:PySem.W.plainOver K C=true) (ht:PySem.W.takerIn K C name=some none) (hh:PySem.W.hasDictIn K C=true)
  (hw:PySem.Within mA ns) (jP:ns.length<=sizeLine)
  (h:∀h',oE h' x dx C (λy=>if y=name then some v else mA y)->nW dx s.heap h'->Q () { s with heap:=h',toks:=s.toks+2 }) :
  wpAny (model prog w) A (setAttr (.ref x) name v) Q E s:=by
 obtain⟨od,J,hl⟩:=I.look
 refine PySem.W.set_plain X J hs (PySem.W.osa_open (s:={ s with toks:=s.toks+1 }) (r:=none) X J hp ht λb=>?_)
 obtain⟨cd,hc,vj⟩:=PySem.W.any_some hh
 have hx:s.heap.get? x=some ⟨.ref C,some dx,.plain,#[]⟩:=I.obj
 refine wpAny_bind (wpAny_pure (wpAny_bind (wpAny_bind (wpAny_loadPart hx (wpAny_bind (PySem.W.Looks.here (s:={ s with toks:=s.toks+1 }) (PySem.W.looks_clsIn X hc) ?_))))))
 rw[vj]
 refine wpAny_pure (a:=some dx) (wpAny_bind (wpAny_pure (wpAny_bind ?_)))
 refine wpAny_nsSet1 (s:={ s with toks:=s.toks+1 }) I.ns λh' qU gF=>?_
 obtain⟨oD,esD,epD,UR,US,UT⟩:=qU.count (PySem.Within.cons name v hw)
 refine wpAny_bind (wpAny_lookBehind UR (by rw[US];exact pastItsLine_dict (dP UT (by rw[iY];omega))) ?_)
 exact wpAny_pure (h _ ⟨(gF.2 _ (dy I.ne)).trans I.obj,qU,I.ne⟩ gF)
theorem UU{R:Result->Shared->Prop}{vs:List Value}{kw:List (Str × Value)}(X:K.In s.heap)(hm:PySem.W.makesIn K C=true)
  (hi:PySem.W.findIn K (.ref C) "__init__"=some (some (.ref f))) (hf:PySem.W.typeIn K (.ref f)=some (.type "function"))
  (h:codeAny (model prog w) (A.under (.builtin "type.__call__" ⟨.ref C::vs,kw⟩)) (.call (.ref f) ⟨.ref (s.heap.objs.size+1)::vs,kw⟩) (PySem.W.InitBack (s.heap.objs.size+1) R)
   { s with heap:=(s.heap.push PySem.W.emptyDict).push (PySem.W.instObj C s.heap.objs.size) }) :
  codeAny (model prog w) A (.call (.ref C) ⟨vs,kw⟩) R s:=by
 obtain⟨hh,g,d,t,os⟩:=s
 exact PySem.W.make_core (PySem.W.makes_of X hm) (PySem.W.looks_findIn X hi) (λself=>PySem.W.bind_fn X self hf) (.inl rfl) h
end
noncomputable def eI(f:Str)(v:V):List (Str × V)->List (Str × V)
 | []=>[(f,v)]
 | (g,x)::r=>if g=f then(g,v)::r else(g,x)::eI f v r
theorem Lu(f g:Str)(v:V):∀fs:List (Str × V),(eI f v fs).lookup g=if g=f then some v else fs.lookup g
 | []=>by
  show kl g [(f,v)]=_
  by_cases h:g=f
  ·have hb:(g==f)=true:=beq_iff_eq.mpr h
   simp only[kl,hb,if_pos h]
  ·have hb:(g==f)=false:=beq_eq_false_iff_ne.mpr h
   simp only[kl,hb,if_neg h]
 | (k,x)::r=>by
  have ih:=Lu f g v r
  rw[show eI f v ((k,x)::r)=(if k=f then(k,v)::r else(k,x)::eI f v r) from rfl]
  by_cases hk:k=f
  ·rw[if_pos hk]
   by_cases h:g=k
   ·have hb:(g==k)=true:=beq_iff_eq.mpr h
    simp only[kl,hb,if_pos (h.trans hk)]
   ·have hb:(g==k)=false:=beq_eq_false_iff_ne.mpr h
    simp only[kl,hb,if_neg (λe:g=f=>h (e.trans hk.symm))]
  ·rw[if_neg hk]
   by_cases h:g=k
   ·have hb:(g==k)=true:=beq_iff_eq.mpr h
    simp only[kl,hb,if_neg (λe:g=f=>hk (h.symm.trans e))]
   ·have hb:(g==k)=false:=beq_eq_false_iff_ne.mpr h
    simp only[kl,hb]
    exact ih
theorem CT(f:Str)(v:V):∀fs:List (Str × V),f∈(eI f v fs).map (·.1)/\∀g,g∈fs.map (·.1)->g∈(eI f v fs).map (·.1)
 | []=>⟨by simp[eI],λg h=>by simp at h⟩
 | (k,x)::r=>by
  obtain⟨i1,i2⟩:=CT f v r
  rw[show eI f v ((k,x)::r)=(if k=f then(k,v)::r else(k,x)::eI f v r) from rfl]
  by_cases hk:k=f
  ·rw[if_pos hk]
   subst hk
   exact⟨by simp,λg h=>by simpa using h⟩
  ·rw[if_neg hk]
   refine⟨?_,λg h=>?_⟩
   ·rw[dF]
    exact fF _ i1
   ·rw[dF]at h ⊢
    rcases bJ.mp h with e | e
    ·exact bJ.mpr (.inl e)
    ·exact fF _ (i2 g e)
theorem Lv(f:Str)(v:V):∀fs:List (Str × V),(eI f v fs).length<=fs.length+1
 | []=>by simp[eI]
 | (k,x)::r=>by
  have ih:=Lv f v r
  rw[show eI f v ((k,x)::r)=(if k=f then(k,v)::r else(k,x)::eI f v r) from rfl]
  by_cases hk:k=f
  ·rw[if_pos hk,iY,iY];omega
  ·rw[if_neg hk,iY,iY];omega
theorem jL.some_of{v:V}{o:Option Value}(r:jL (some v) o):∃u,o=some u/\RelV v u:=by
 cases o with
 | none=>exact(show False from r).elim
 | some u=>exact⟨u,rfl,r⟩
theorem jL.none_of{o:Option Value}(r:jL none o):o=none:=by
 cases o with
 | none=>rfl
 | some u=>exact(show False from r).elim
theorem UW{v:V}{u:Value}(r:RelV v u):PySem.W.handedIn u=true:=by
 cases v with
 | ak=>cases(show u=g8 from r);rfl
 | bl b=>cases(show u=BR b from r);rfl
 | int i=>obtain⟨t,e⟩:=(show ∃t,u=gA i t from r);cases e;rfl
 | str x=>obtain⟨t,e⟩:=(show ∃t,u=Value.str x t from r);cases e;rfl
 | yP b=>obtain⟨t,e⟩:=(show ∃t,u=Value.bytes b t from r);cases e;rfl
 | om b=>obtain⟨t,e⟩:=(show ∃t,u=Value.float b t from r);cases e;rfl
 | ref a=>cases(show u=dN a from r);rfl
 | ty n=>cases(show u=mj n from r);rfl
section
variable{P:Program}{w:World}{H H':Hp}{h h':Heap}{a C dx:Addr}{fs Cw:List (Str × V)}
theorem y8(ay:bZ P w H h)(e:H a=some (.ins C dx fs)):∃mA,oE h a dx C mA/\(∀f,jL (fs.lookup f) (mA f))/\PySem.Within mA (fs.map (·.1))/\fs.length<=1000/\H dx=some (.own a):=by
 obtain⟨d,z,ne,ob,mA,n,r,q⟩:=(show cP P w H h a (.ins C dx fs) from ay a _ e)
 exact⟨mA,⟨ob,n,ne⟩,r,q,z,d⟩
end
structure dS(K:PySem.W.Frag)(C:Addr):Prop where
 pg:PySem.W.plainGet K C Str.empty=true
 hd:PySem.W.hasDictIn K C=true
 po:PySem.W.plainOver K C=true
 sa:PySem.W.findIn K (.ref C) "__setattr__"=some (some (.builtin "object.__setattr__"))
theorem dS.get{K:PySem.W.Frag}{C:Addr}(c:dS K C)(f:Str):PySem.W.plainGet K C f=true:=c.pg
noncomputable def cu(K:PySem.W.Frag)(C:Addr)(f:Str):Prop:=PySem.W.findIn K (.ref C) f=some none
theorem cu.UX{K:PySem.W.Frag}{C:Addr}{f:Str}(n:cu K C f):PySem.W.takerIn K C f=some none:=by
 unfold PySem.W.takerIn
 rw[show PySem.W.findIn K (.ref C) f=some none from n]
 rfl
structure Meth(K:PySem.W.Frag)(C:Addr)(m:Str)(f:Addr):Prop where
 at_:PySem.W.findIn K (.ref C) m=some (some (.ref f))
 fn:PySem.W.isFn K (.ref f)=true
 kp:PySem.W.keepIn K (.ref f)=true
section
variable{X:Cx}{pins:List (Addr × Obj)}{σ:St}{H:Hp}{s:Shared}{a C dx:Addr}{fs:List (Str × V)}{f:Str}{v:V}{A:Around}{E:Value->Shared->Prop}
theorem UY{b:Bool}{Q:Value->Shared->Prop}(I:Inv X pins σ H s)(e:H a=some (.ins C dx fs))(c:dS X.K C)(n:cu X.K C f)(l:fs.lookup f=some v)
  (h:∀u s',Inv X pins σ H s'->RelV v u->Q u s'):wpAny (model X.prog X.w) A (getAttr (.ref a) f b) Q E s:=by
 obtain⟨mA,O,r,_,_,_⟩:=y8 I.ay e
 obtain⟨u,hu,ru⟩:=jL.some_of (v:=v) (o:=mA f) (by rw[<-l];exact r f)
 exact UN I.cE O (c.get f) c.hd n hu (UW ru) (h u _ (I.tok _) ru)
theorem CU{m:Str}{g:Addr}{pl:Sem Bool}{Q:Value × List Value->Shared->Prop}(I:Inv X pins σ H s)(e:H a=some (.ins C dx fs))(c:dS X.K C)(k:Meth X.K C m g)(l:fs.lookup m=none)
  (h:Q (.ref g,[.ref a]) s):wpAny (model X.prog X.w) A (getMethod (.ref a) m pl) Q E s:=by
 obtain⟨mA,O,r,_,_,_⟩:=y8 I.ay e
 have hn:mA m=none:=jL.none_of (by rw[<-l];exact r m)
 exact UP I.cE O (c.get m) k.at_ k.fn hn h
theorem by4{y:V}{u:Value}{Q:Unit->Shared->Prop}(I:Inv X pins σ H s)(e:H a=some (.ins C dx fs))(c:dS X.K C)(n:cu X.K C f)(hl:fs.length<1000)(ry:RelV y u)
  (h:∀s',Inv X pins σ (upd H a (.ins C dx (eI f y fs))) s'->Q () s'):wpAny (model X.prog X.w) A (setAttr (.ref a) f u) Q E s:=by
 obtain⟨mA,O,r,wi,_,ho⟩:=y8 I.ay e
 have hz:(fs.map (·.1)).length<=sizeLine:=by rw[bU,sizeLine_eq];omega
 refine UQ I.cE O c.sa c.po n.UX c.hd wi hz λh' O' sb=>h _ ?_
 have hd:∃o,h'.get? dx=some o:=let⟨o,_,_,e',_⟩:=O'.ns;⟨o,e'⟩
 refine I.write (x:=a) (e:=dx) (by rw[e];exact qp) (.inr ho) (λb q hb z=>(sb.2 b hb).trans z) hd ?_
 refine⟨by rw[aM O.ne];exact ho,?_,O.ne,O'.obj,_,O'.ns,λg=>?_,λg hg=>?_⟩
 ·have:=Lv f y fs;omega
 ·show jL ((eI f y fs).lookup g) (if g=f then some u else mA g)
  rw[Lu]
  by_cases q:g=f
  ·rw[if_pos q,if_pos q];exact ry
  ·rw[if_neg q,if_neg q];exact r g
 ·by_cases q:g=f
  ·rw[q];exact(CT f y fs).1
  ·refine(CT f y fs).2 g (wi g λz=>hg ?_)
   show(if g=f then some u else mA g)=none
   rw[if_neg q];exact z
theorem Inv.made(I:Inv X pins σ H s):Inv X pins σ (upd (upd H s.heap.objs.size (.own (s.heap.objs.size+1))) (s.heap.objs.size+1) (.ins C s.heap.objs.size []))
  { s with heap:=(s.heap.push PySem.W.emptyDict).push (PySem.W.instObj C s.heap.objs.size) }:=by
 have e1:(s.heap.push PySem.W.emptyDict).get? s.heap.objs.size=some PySem.W.emptyDict:=cX s.heap rfl
 have e2:((s.heap.push PySem.W.emptyDict).push (PySem.W.instObj C s.heap.objs.size)).get? (s.heap.objs.size+1)=some (PySem.W.instObj C s.heap.objs.size):=by
  have:=cX (s.heap.push PySem.W.emptyDict) (o:=PySem.W.instObj C s.heap.objs.size) rfl
  rwa [jI]at this
 have e3:(s.heap.push PySem.W.emptyDict).Ns s.heap.objs.size (λ_=>none):=⟨PySem.W.emptyDict,#[],_,e1,rfl,(λe he=>absurd he (by simp)),λ_=>rfl⟩
 have I1:=I.laid (a:=s.heap.objs.size) (o:=.own (s.heap.objs.size+1)) (h':=s.heap.push PySem.W.emptyDict) (t':=s.toks) (λb u q=>bY _ q) (aX _) ⟨_,e1⟩
 refine I1.laid (a:=s.heap.objs.size+1) (o:=.ins C s.heap.objs.size []) (t':=s.toks) (λb u q=>bY _ q) (yj (jI _ _)) ?_
 have ne:s.heap.objs.size≠s.heap.objs.size+1:=cI (qq _)
 refine⟨by rw[aM ne,bO],iZ _,ne,e2,λ_=>none,(Heap.Ns1.of_empty e3).at λo q=>bY _ q,λ_=>qp,λy hy=>absurd rfl hy⟩
theorem UZ{prog:Program}{w:World}{env:Env}{e:Expr}{f:Str}{pos:Pos}{s:Shared}{Q:Value->Shared->Prop}(hb:attributeBase e f env (eval e env)=eval e env)
  (h:wpAny (model prog w) A (eval e env) (λo bj=>wpAny (model prog w) A (getAttr o f true) Q E bj) E s):wpAny (model prog w) A (eval (.Attribute e f pos) env) Q E s :=
 Attribute_any_ h (by rw[arm_eval_Attribute,hb])
end
noncomputable def U0(K:PySem.W.Frag)(ta:TE)(f:Str):TE:=λσ H Q=>ta σ H λx H1=>∃a C dx fs v,x=.ref a/\H1 a=some (.ins C dx fs)/\dS K C/\cu K C f/\fs.lookup f=some v/\Q v H1
noncomputable def U1(K:PySem.W.Frag)(ta tv:TE)(f:Str):TS:=λD σ H=>tv σ H λy H1=>ta σ H1 λx H2=>∃a C dx fs,x=.ref a/\H2 a=some (.ins C dx fs)/\dS K C/\cu K C f/\fs.length<1000 /\
 D.nx σ (upd H2 a (.ins C dx (eI f y fs)))
section
variable{X:Cx}{o e value:Expr}{f:Str}{pos pos' kB:Pos}{ta tv:TE}
theorem y9(he:PE X e ta)(hb:attributeBase e f X.env (eval e X.env)=eval e X.env):PE X (.Attribute e f pos) (U0 X.K ta f):=by
 intro pins s σ H Q I h
 refine UZ hb (aH (he pins s σ H _ I h) λu s1 ⟨x,H1,I1,rx,a,C,dx,fs,v,ex,ea,c,n,l,q⟩=>?_)
 subst ex
 obtain rfl:u=dN a:=rx
 exact UY I1 ea c n l λu' s2 I2 ru=>⟨v,H1,I2,ru,q⟩
theorem mP(ha:PE X o ta)(hv:PE X value tv)(hs:swapsWith value (some (.Attribute o f pos')) pos.line X.env=pure false):PS X (.Assign [.Attribute o f pos'] value pos) (U1 X.K ta tv f):=by
 intro pins s σ H D I h
 refine plainObj_wpAny_Assign_Attribute (aH (hv pins s σ H _ I h) λu s1 ⟨y,H1,I1,ry,q⟩=>aH (ha pins s1 σ H1 _ I1 q) λov s2 ⟨x,H2,I2,rx,a,C,dx,fs,ex,ea,c,n,l,q2⟩=>?_) hs
 subst ex
 obtain rfl:ov=dN a:=rx
 exact by4 I2 ea c n l ry λs3 I3=>⟨σ,_,I3,q2⟩
end
section
variable{X:Cx}{pins:List (Addr × Obj)}{σ:St}{H:Hp}{s:Shared}{A:Around}{E:Value->Shared->Prop}{Q:Value->Shared->Prop}{c:Value}{b:Bool}
inductive gg(K:PySem.W.Frag)(H:Hp):V->Value->Prop where
 | ak:gg K H .ak (.type "NoneType")
 | bl (x:Bool):gg K H (.bl x) (.type "bool")
 | int (i:Int):gg K H (.int i) (.type "int")
 | str (x:Str):gg K H (.str x) (.type "str")
 | om (x:UInt64):gg K H (.om x) (.type "float")
 | lst {a:Addr} {xs:List V} (e:H a=some (.lst xs)):gg K H (.ref a) (.type "list")
 | bL {a:Addr} {o:Obj} {xs:List V} (e:H a=some (.bL o (.lst xs))):gg K H (.ref a) (.type "list")
 | tup {a:Addr} {xs:List V} (e:H a=some (.tup xs)):gg K H (.ref a) (.type "tuple")
 | dK {a:Addr} {cJ:List (Key × V)} (e:H a=some (.dK cJ)):gg K H (.ref a) (.type "dict")
 | dT {a:Addr} {cJ:List (List Key × V)} (e:H a=some (.dT cJ)):gg K H (.ref a) (.type "dict")
 | ins {a C dx:Addr} {fs:List (Str × V)} (e:H a=some (.ins C dx fs)) (cl:dS K C) (ha:PySem.W.findIn K (.ref C) "__class__"=some (some (.builtin "object.__class__")))
   (hn:PySem.W.specialIn K (.builtin "object.__class__") "__get__"=some (some (.builtin "getset_descriptor.__get__"))) (CV:PySem.W.takesIn K (.builtin "object.__class__")=some true)
   (hm:PySem.W.mroIn K C (.type "object")=some true):gg K H (.ref a) (.ref C)
theorem U2{x:V}{u t:Value}(I:Inv X pins σ H s)(rx:RelV x u)(ty:gg X.K H x t)(e:PySem.W.kitOne X.K t c=some b)(h:∀tk,Q (.bool b) { s with toks:=tk }) :
  wpAny (model X.prog X.w) A (call (.builtin "isinstance") [u,c]) Q E s:=by
 cases ty with
 | ak=>cases(show u=g8 from rx);exact PySem.W.kia_one PySem.W.kitx_none I.cE qp e (λz=>nomatch z) h
 | bl y=>cases(show u=BR y from rx);exact PySem.W.kia_one PySem.W.kitx_bool I.cE qp e (λz=>nomatch z) h
 | int i=>obtain⟨t,q⟩:=(show ∃t,u=gA i t from rx);cases q;exact PySem.W.kia_one PySem.W.kitx_int I.cE qp e (λz=>nomatch z) h
 | str y=>obtain⟨t,q⟩:=(show ∃t,u=Value.str y t from rx);cases q;exact PySem.W.kia_one PySem.W.kitx_str I.cE qp e (λz=>nomatch z) h
 | om y=>obtain⟨t,q⟩:=(show ∃t,u=Value.float y t from rx);cases q;exact PySem.W.kia_one PySem.W.kitx_float I.cE qp e (λz=>nomatch z) h
 | @lst a xs ea =>
  cases(show u=dN a from rx)
  obtain⟨_,_,n,_,h1⟩:=(show cP X.prog X.w H s.heap a (.lst xs) from I.ay a _ ea)
  exact PySem.W.kia_one PySem.W.kitx_list I.cE ⟨_,h1,rfl⟩ e (λz=>nomatch z) h
 | @bL a ob xs ea =>
  cases(show u=dN a from rx)
  obtain⟨_,_,_,n,_,h1⟩:=(show cP X.prog X.w H s.heap a (.bL ob (.lst xs)) from I.ay a _ ea)
  exact PySem.W.kia_one PySem.W.kitx_list I.cE ⟨_,h1,rfl⟩ e (λz=>nomatch z) h
 | @tup a xs ea =>
  cases(show u=dN a from rx)
  obtain⟨_,_,_,p⟩:=(show cP X.prog X.w H s.heap a (.tup xs) from I.ay a _ ea)
  obtain⟨o,h1,h2,_⟩:=p
  exact PySem.W.kia_one PySem.W.kitx_tuple I.cE ⟨o,h1,h2⟩ e (λz=>nomatch z) h
 | @dK a cJ ea =>
  cases(show u=dN a from rx)
  obtain⟨_,_,vs,_,p⟩:=(show cP X.prog X.w H s.heap a (.dK cJ) from I.ay a _ ea)
  obtain⟨o,es,ep,h1,h2,_⟩:=p
  exact PySem.W.kia_one PySem.W.kitx_dict I.cE ⟨o,h1,h2.1⟩ e (λz=>nomatch z) h
 | @dT a cJ ea =>
  cases(show u=dN a from rx)
  obtain⟨_,_,xs,_,o,es,ep,h1,h2,_⟩:=(show cP X.prog X.w H s.heap a (.dT cJ) from I.ay a _ ea)
  exact PySem.W.kia_one PySem.W.kitx_dict I.cE ⟨o,h1,h2.1⟩ e (λz=>nomatch z) h
 | @ins a C dx fs ea cl ha hn CV hm =>
  cases(show u=dN a from rx)
  obtain⟨mA,O,_⟩:=y8 I.ay ea
  obtain⟨od,J,_⟩:=O.look
  exact PySem.W.kia_one (PySem.W.kitx_own (cl.get _) cl.hd ha hn CV hm) I.cE J e (λz=>nomatch z) h
end
end L2
namespace L2
open PySem PySem.Spec PyProof.Rows
structure bK(k:Nat)(A:Around):Prop where
 hd:A.handled=none
 dp:A.depth+3*k+5<recursionLimit
 un:A.units+16*k+200<cLine
theorem bK.mono{j k:Nat}{A:Around}(r:bK k A)(h:j<=k):bK j A:=⟨r.hd,by have:=r.dp;omega,by have:=r.un;omega⟩
theorem bK.deeper{k:Nat}{A:Around}(r:bK (k+1) A)(env:Env):bK k (A.deeper env) :=
 ⟨r.hd,by have:=r.dp;show A.depth+1+3*k+5<_;omega,by have:=r.un;show A.units+3+16*k+200<_;omega⟩
theorem bK.in1{k:Nat}{A:Around}(r:bK (k+1) A):bK k A.in1 :=
 ⟨r.hd,by have:=r.dp;show A.depth+3*k+5<_;omega,by have:=r.un;show A.units+1+16*k+200<_;omega⟩
theorem U3{A:Around}{C:Addr}{us:List Value}{kw:List (Str × Value)}:(A.under (.builtin "type.__call__" ⟨.ref C::us,kw⟩)).depth=A.depth+1:=by
 first | rfl | simp[Around.under,Code.weight,Code.isCreation,Code.isGuard,Code.isCaller,Code.frames,Code.isFrame,guardIds]
theorem U4{A:Around}{C:Addr}{us:List Value}{kw:List (Str × Value)}:(A.under (.builtin "type.__call__" ⟨.ref C::us,kw⟩)).units=A.units+1:=by
 first | rfl | simp[Around.under,Code.cUnits,Code.frames,Code.isFrame]
theorem bK.make{k:Nat}{A:Around}(r:bK (k+1) A)(C:Addr)(us:List Value)(kw:List (Str × Value)):bK k (A.under (.builtin "type.__call__" ⟨.ref C::us,kw⟩)) :=
 ⟨r.hd,by have:=r.dp;rw[U3];omega,by have:=r.un;rw[U4];omega⟩
theorem bK.depth{k:Nat}{A:Around}(r:bK k A):A.depth<recursionLimit:=by have:=r.dp;omega
theorem bK.units{k:Nat}{A:Around}(r:bK k A):A.units+64<cLine:=by have:=r.un;omega
noncomputable def U5:TA:=λ_ H Q=>Q [] H
noncomputable def U6(ta:TE)(tr:TA):TA:=λσ H Q=>ta σ H λx H1=>tr σ H1 λxs H2=>Q (x::xs) H2
section
variable{X:Cx}{e:Expr}{es:List Expr}{te:TE}{t:TA}{pos:Pos}
theorem ij:PA X [] U5:=λ_ _ _ _ H Q I h=>Calls.spliced_nil ⟨[],H,I,.nil,h⟩
theorem eJ(ha:PE X e te)(hr:PA X es t)(hs:starEach (e::es) X.env=(false,eval e X.env)::starEach es X.env:=by rfl):PA X (e::es) (U6 te t):=by
 intro pos pins s σ H Q I h
 rw[hs]
 show wpAny _ _ (spliced ((false,eval e X.env)::backTo pos (starEach es X.env))) _ _ s
 refine Calls.spliced_cons (aH (ha pins s σ H _ I h) λu s1 ⟨x,H1,I1,r1,q1⟩=>?_)
 exact aH (hr pos pins s1 σ H1 _ I1 q1) λus s2 ⟨xs,H2,I2,r2,q2⟩=>⟨x::xs,H2,I2,.cons r1 r2,q2⟩
noncomputable def U7(t:TA):TE:=λσ H Q=>t σ H λxs H1=>xs.length<=sizeLine/\∀p,H1 p=none->Q (.ref p) (upd H1 p (.tup xs))
noncomputable def U8(t:TA):TE:=λσ H Q=>t σ H λxs H1=>xs.length<=sizeLine/\∀p,H1 p=none->Q (.ref p) (upd H1 p (.lst xs))
theorem U9{x1}(h:PA X es t):PE X (.Tuple es x1 pos) (U7 t):=by
 intro pins s σ H Q I hq
 refine wpAny_Tuple_spliced (aH (h pos pins s σ H _ I hq) λus s1 ⟨xs,H1,I1,r,z,q⟩=>⟨by rw[<-r.length];exact z,?_⟩)
 have hf:H1 s1.heap.objs.size=none:=I1.ay.fresh (aX _)
 refine⟨.ref s1.heap.objs.size,upd H1 s1.heap.objs.size (.tup xs),I1.laid (t':=s1.toks) (λb u e=>bY _ e) (aX _) ?_,rfl,q _ hf⟩
 exact⟨z,us,r,⟨_,cX _ rfl,rfl,_,rfl⟩⟩
theorem Va(h:PA X es t):PE X (.List es pos) (U8 t):=by
 intro pins s σ H Q I hq
 refine wpAny_List_spliced (aH (h pos pins s σ H _ I hq) λus s1 ⟨xs,H1,I1,r,z,q⟩=>⟨by rw[<-r.length];exact z,?_⟩)
 have hf:H1 s1.heap.objs.size=none:=I1.ay.fresh (aX _)
 refine⟨.ref s1.heap.objs.size,upd H1 s1.heap.objs.size (.lst xs),I1.laid (t':=s1.toks) (λb u e=>bY _ e) (aX _) ?_,rfl,q _ hf⟩
 exact⟨z,us,0,r,cX _ rfl⟩
end
noncomputable abbrev Sp:=List V->Hp->VK->XK->Prop
noncomputable abbrev dA:=List Env->Hp->Shared->XK->Value->Shared->Prop
structure fo(P:Program)(w:World)(K:PySem.W.Frag)(mg:Str->Option Value)(base:Heap)(A:Around)(outer:List Env)(s:Shared)(H:Hp):Prop where
 frames:A.frames=some outer
 mod:Mod K mg base
 bs:∀b o,base.get? b=some o->s.heap.get? b=some o/\H b=none
 gC:base.objs.size<=s.heap.objs.size
 eX:s.heap.FunFrames base outer
 ib:∀b∈cK outer,H b=none
 ay:bZ P w H s.heap
 bare:AllBare s.gens
noncomputable def CE(outer:List Env)(P:Program)(w:World)(H:Hp)(s:Shared)(Q:VK)(u:Value)(s':Shared):Prop :=
 ∃v H',s'.os=s.os/\AllBare s'.gens/\Un (cK outer) [] H H' s.heap s'.heap/\bZ P w H' s'.heap/\RelV v u/\Q v H'
noncomputable def CR(CX:dA)(outer:List Env)(P:Program)(w:World)(H:Hp)(s:Shared)(Q:VK)(E:XK)(r:Result)(s':Shared):Prop :=
 match r with
 | .ok (.ret u)=>CE outer P w H s Q u s'
 | .ok _=>False
 | .error e=>CX outer H s E e s'
structure aO(P:Program)(w:World)(K:PySem.W.Frag)(mg:Str->Option Value)(base:Heap)(CX:dA)(k:Nat)(f:Addr)(fd:FuncData)(ps:List Str)(sp:Sp):Prop where
 len:∀vs H Q E,sp vs H Q E->vs.length=ps.length
 run:∀(A:Around) (outer:List Env) (s:Shared) (H:Hp) (args:Args) (us:List Value) (vs:List V) (Q:VK) (E:XK),bK k A->fo P w K mg base A outer s H->BindsTo s fd args (ps.zip us)->Vals vs us->sp vs H Q E ->
  codeAny (model P w) A (.call (.ref f) args) (CR CX outer P w H s Q E) s
theorem aO.mono{P:Program}{w:World}{K:PySem.W.Frag}{mg:Str->Option Value}{base:Heap}{CX:dA}{j k:Nat}{f:Addr}{fd:FuncData}{ps:List Str}{sp:Sp}(F:aO P w K mg base CX j f fd ps sp)(h:j<=k) :
  aO P w K mg base CX k f fd ps sp:=⟨F.len,λA outer s H args us vs Q E hr=>F.run A outer s H args us vs Q E (hr.mono h)⟩
theorem aO.imp{P:Program}{w:World}{K:PySem.W.Frag}{mg:Str->Option Value}{base:Heap}{CX:dA}{k:Nat}{f:Addr}{fd:FuncData}{ps:List Str}{sp Lw:Sp}(F:aO P w K mg base CX k f fd ps sp)
  (h:∀vs H Q E,Lw vs H Q E->sp vs H Q E):aO P w K mg base CX k f fd ps Lw :=
 ⟨λvs H Q E q=>F.len vs H Q E (h _ _ _ _ q),λA outer s H args us vs Q E hr he hb hv hs=>F.run A outer s H args us vs Q E hr he hb hv (h _ _ _ _ hs)⟩
theorem fo.make{P:Program}{w:World}{K:PySem.W.Frag}{mg:Str->Option Value}{base:Heap}{A:Around}{outer:List Env}{s:Shared}{H:Hp}(e:fo P w K mg base A outer s H)(C:Addr)(us:List Value)(kw:List (Str × Value)) :
  fo P w K mg base (A.under (.builtin "type.__call__" ⟨.ref C::us,kw⟩)) outer s H:=⟨by first | exact e.frames | (simpa[Around.under,Code.envs,Code.isFrame,pushEnvs]using e.frames),e.mod,e.bs,e.gC,e.eX,e.ib,e.ay,e.bare⟩
theorem fo.in1{P:Program}{w:World}{K:PySem.W.Frag}{mg:Str->Option Value}{base:Heap}{A:Around}{outer:List Env}{s:Shared}{H:Hp}(e:fo P w K mg base A outer s H) :
  fo P w K mg base A.in1 outer s H:=⟨e.frames,e.mod,e.bs,e.gC,e.eX,e.ib,e.ay,e.bare⟩
section
variable{X:Cx}{pins:List (Addr × Obj)}{σ:St}{H:Hp}{s s':Shared}
theorem Inv.vB(I:Inv X pins σ H s):fo X.prog X.w X.K X.mg X.base X.A X.stack s H :=
 ⟨I.ok.frames,I.ok.mod,I.bs,dP I.ok.gC I.sz,I.stack,I.yS,I.ay,I.bare⟩
theorem Inv.after{Q:VK}{u:Value}(I:Inv X pins σ H s)(h:CE X.stack X.prog X.w H s Q u s'):EP X pins σ Q u s':=by
 obtain⟨v,H',os,bare,un,ay,r,q⟩:=h
 obtain⟨hh,g,d,t,Vb⟩:=s'
 obtain rfl:Vb=s.os:=os
 exact⟨v,H',I.call (h':=hh) (g':=g) (d':=d) (t':=t) (ch:=[]) un ay bare (λb z=>absurd z (by simp)),r,q⟩
end
noncomputable def Vc(sp:Sp)(dU:List V)(E:XK)(t:TA):TE:=λσ H Q=>t σ H λvs H1=>sp (vs++dU) H1 Q E
noncomputable def Vd(C:Addr)(m:Str)(sp:Sp)(dU:List V)(E:XK)(ta:TE)(t:TA):TE:=λσ H Q=>ta σ H λx H1=>∃a dx fs,x=.ref a/\H1 a=some (.ins C dx fs)/\fs.lookup m=none /\
 t σ H1 λvs H2=>sp (x::(vs++dU)) H2 Q E
noncomputable def Ve(C:Addr)(sp:Sp)(dU:List V)(E:XK)(t:TA):TE:=λσ H Q=>t σ H λvs H1=>∀x dx,H1 x=none->H1 dx=none->dx≠x ->
 sp (.ref x::(vs++dU)) (upd (upd H1 dx (.own x)) x (.ins C dx [])) (λv H2=>v=.ak/\Q (.ref x) H2) E
noncomputable def Binds(K:PySem.W.Frag)(fd:FuncData)(ps:List Str)(ds:List Value):Prop :=
 ∀(s:Shared) (us:List Value),K.In s.heap->(us++ds).length=ps.length->BindsTo s fd ⟨us,[]⟩ (ps.zip (us++ds))
theorem Binds.all{K:PySem.W.Frag}{fd:FuncData}{ps:List Str}(h:∀us:List Value,us.length=ps.length->bindArgs fd ⟨us,[]⟩=pure (ps.zip us)):Binds K fd ps []:=λs us _ hl=>by
 rw[jJ]at hl ⊢
 exact .of_eq (h us hl)
noncomputable def jQ(CX:dA)(X:Cx)(E:XK):Prop:=∀(pins:List (Addr × Obj)) (σ:St) (H:Hp) (s:Shared) (e:Value) (s':Shared),Inv X pins σ H s->CX X.stack H s E e s'->X.xe e s'
section
variable{X:Cx}{CX:dA}{k:Nat}{f C:Addr}{fd:FuncData}{ps:List Str}{sp:Sp}{dU:List V}{ds:List Value}{E:XK}{x m:Str}{p pos apos:Pos}{e o:Expr}{es:List Expr}{ta:TE}{t:TA}
theorem za{pins:List (Addr × Obj)}{σ:St}{H:Hp}{s:Shared}{Q:VK}{us:List Value}{vs:List V}(F:aO X.prog X.w X.K X.mg X.base CX k f fd ps sp)(hr:bK k X.A)(hb:Binds X.K fd ps ds)(hd:Vals dU ds)(hx:jQ CX X E)
  (I:Inv X pins σ H s) (r:Vals vs us) (h:sp (vs++dU) H Q E):wpAny (model X.prog X.w) X.A (call (.ref f) us) (EP X pins σ Q) X.xe s:=by
 have r2:Vals (vs++dU) (us++ds):=r.append hd
 have hl:(us++ds).length=ps.length:=by rw[<-r2.length];exact F.len _ _ _ _ h
 refine wpAny_call (codeAny_mono (F.run X.A X.stack s H ⟨us,[]⟩ (us++ds) (vs++dU) Q E hr I.vB (hb s us I.cE hl) r2 h) λr s' hq=>?_)
 cases r with
 | error e=>exact hx pins σ H s e s' I hq
 | ok fl =>
  cases fl with
  | ret u=>exact I.after hq
  | next=>exact dQ hq
  | brk=>exact dQ hq
  | cont=>exact dQ hq
theorem oF(F:aO X.prog X.w X.K X.mg X.base CX k f fd ps sp)(hr:bK k X.A)(hg:Gl X x)(hm:X.mg x=some (.ref f))(hk:PySem.W.keepIn X.K (.ref f)=true)(hb:Binds X.K fd ps ds)(hd:Vals dU ds)(hx:jQ CX X E)
  (ha:PA X (e::es) t) (dB:(x==("__debug__":Str))=false:=by decide) (he:starEach (e::es) X.env=(false,eval e X.env)::starEach es X.env:=by rfl) (bE:(backTo pos (starEach es X.env)).any (·.1)=false:=by rfl) :
  PE X (.Call (.Name x p) (e::es) [] pos) (Vc sp dU E t):=by
 intro pins s σ H Q I h
 refine wpAny_Call_Name_kw (yU I hg hm ?_ dB)
 refine PySem.W.callWith_K (h₀:=X.base) I.ok.mod.kA hk (aH (ha pos pins s σ H _ I h) λus s1 ⟨vs,H1,I1,r,q⟩=>⟨I1.cE,?_⟩) he bE
 exact za F hr hb hd hx I1 r q
theorem Vf{pl:Sem Bool}(he:PE X o ta)(c:dS X.K C)(hm:Meth X.K C m f)(F:aO X.prog X.w X.K X.mg X.base CX k f fd ps sp)(hr:bK k X.A)(hb:Binds X.K fd ps ds)(hd:Vals dU ds)(hx:jQ CX X E)(ha:PA X (e::es) t)
  (cx:starEach (e::es) X.env=(false,eval e X.env)::starEach es X.env:=by rfl) (bE:(backTo pos (starEach es X.env)).any (·.1)=false:=by rfl)
  (ht:eval (.Call (.Attribute o m apos) (e::es) [] pos) X.env=(do
   let ov<-eval o X.env
   standAt apos.atName
   let (f,first)<-holding [ov] (getMethod ov m pl)
   callWith pos f first (backTo pos (starEach (e::es) X.env)) (backToKw pos (keywordEach [] X.env))):=by rfl) :
  PE X (.Call (.Attribute o m apos) (e::es) [] pos) (Vd C m sp dU E ta t):=by
 intro pins s σ H Q I h
 refine PySem.W.methodCall_KW (pl:=pl) (aH (he pins s σ H _ I h) λu s1 ⟨x,H1,I1,rx,a,dx,fs,ex,ea,l,q⟩=>?_) ht
 subst ex
 obtain rfl:u=dN a:=rx
 refine CU I1 ea c hm l ?_
 refine PySem.W.callWith_K (first:=[.ref a]) (h₀:=X.base) I.ok.mod.kA hm.kp (aH (ha pos pins s1 σ H1 _ I1 q) λus s2 ⟨vs,H2,I2,r,q2⟩=>⟨I2.cE,?_⟩) cx bE
 exact za (us:=.ref a::us) (vs:=.ref a::vs) F hr hb hd hx I2 (.cons rfl r) q2
structure Mk(K:PySem.W.Frag)(C f:Addr):Prop where
 makes:PySem.W.makesIn K C=true
 init:PySem.W.findIn K (.ref C) "__init__"=some (some (.ref f))
 fn:PySem.W.isFn K (.ref f)=true
 kp:PySem.W.keepIn K (.ref C)=true
theorem Vg{pins:List (Addr × Obj)}{σ:St}{H:Hp}{s:Shared}{Q:VK}{us:List Value}{vs:List V}(M:Mk X.K C f)(F:aO X.prog X.w X.K X.mg X.base CX k f fd ps sp)(hr:bK (k+1) X.A)(hb:Binds X.K fd ps ds)(hd:Vals dU ds)
  (hx:jQ CX X E) (I:Inv X pins σ H s) (r:Vals vs us)
  (h:∀x dx,H x=none->H dx=none->dx≠x->sp (.ref x::(vs++dU)) (upd (upd H dx (.own x)) x (.ins C dx [])) (λv H2=>v=.ak/\Q (.ref x) H2) E) :
  wpAny (model X.prog X.w) X.A (call (.ref C) us) (EP X pins σ Q) X.xe s:=by
 have hq:=h (s.heap.objs.size+1) s.heap.objs.size (I.ay.fresh (yk _)) (I.ay.fresh (aX _)) (cI (qq _))
 have I2:=Inv.made (C:=C) I
 have r2:Vals (V.ref (s.heap.objs.size+1)::(vs++dU)) (dN (s.heap.objs.size+1)::(us++ds)):=.cons rfl (r.append hd)
 have hl:(dN (s.heap.objs.size+1)::us++ds).length=ps.length:=by
  have e:=r2.length
  rw[F.len _ _ _ _ hq]at e
  exact e.symm
 refine wpAny_call (UU (f:=f) I.cE M.makes M.init (beq_iff_eq.mp M.fn) (codeAny_mono (F.run _ X.stack _ _ ⟨dN (s.heap.objs.size+1)::us,[]⟩ (dN (s.heap.objs.size+1)::(us++ds)) _ _ E (hr.make C us [])
  (I2.vB.make C us []) (hb _ (dN (s.heap.objs.size+1)::us) I2.cE hl) r2 hq) λr s' kC=>?_))
 cases r with
 | error e=>exact hx pins σ _ _ e s' I2 kC
 | ok fl =>
  cases fl with
  | ret u =>
   obtain⟨v,H',I3,rv,ev,q3⟩:=I2.after kC
   subst ev
   exact⟨rv,⟨V.ref (s.heap.objs.size+1),H',I3,rfl,q3⟩⟩
  | next=>exact dQ kC
  | brk=>exact dQ kC
  | cont=>exact dQ kC
theorem Vh(M:Mk X.K C f)(F:aO X.prog X.w X.K X.mg X.base CX k f fd ps sp)(hr:bK (k+1) X.A)(hg:Gl X x)(hm:X.mg x=some (.ref C))(hb:Binds X.K fd ps ds)(hd:Vals dU ds)(hx:jQ CX X E)
  (ha:PA X (e::es) t) (dB:(x==("__debug__":Str))=false:=by decide) (he:starEach (e::es) X.env=(false,eval e X.env)::starEach es X.env:=by rfl) (bE:(backTo pos (starEach es X.env)).any (·.1)=false:=by rfl) :
  PE X (.Call (.Name x p) (e::es) [] pos) (Ve C sp dU E t):=by
 intro pins s σ H Q I h
 refine wpAny_Call_Name_kw (yU I hg hm ?_ dB)
 refine PySem.W.callWith_K (h₀:=X.base) I.ok.mod.kA M.kp (aH (ha pos pins s σ H _ I h) λus s1 ⟨vs,H1,I1,r,q⟩=>⟨I1.cE,?_⟩) he bE
 exact Vg M F hr hb hd hx I1 r q
end
section
variable{X:Cx}{CX:dA}{k:Nat}{f C:Addr}{fd:FuncData}{ps ks:List Str}{sp:Sp}{E:XK}{x m:Str}{p pos apos dA3:Pos}{e o:Expr}{es:List Expr}{kws:List Keyword}{te ta:TE}{t tk:TA}{nm:Option Str}
variable{g:List Value->List Value->List Value}{gV:List V->List V->List V}
end
structure bB(N P:List Str)(sc:Scope):Prop where
 kind:sc.kind=.function
 co:sc.isCoroutine=false
 gen:sc.isGenerator=false
 nd:N.Nodup
 pre:N.take P.length=P
 par:∀x∈P,sc.names.lookup x=some .local\/sc.names.lookup x=some .cell
 Vi:∀y∈sc.names,y.2≠.free
theorem Lx{kindOf:Str->Option NameKind}{x:Str}:∀{binds:List (Str × Value)} {m:Str->Option Value},(∀v,(x,v) ∉ binds)->bindL kindOf binds m x=m x
 | [],_,_=>rfl
 | (n,v)::r,m,h=>by
  unfold bindL
  rw[Lx λw hw=>h w (fF _ hw)]
  split
  ·have:x≠n:=by rintro rfl;exact h v mm
   simp[this]
  ·rfl
theorem Ly{kindOf:Str->Option NameKind}{x:Str}:∀{binds:List (Str × Value)} {m:Str->Option Value},(∀v,(x,v) ∉ binds)->bindC kindOf binds m x=m x
 | [],_,_=>rfl
 | (n,v)::r,m,h=>by
  unfold bindC
  rw[Ly λw hw=>h w (fF _ hw)]
  split
  ·rfl
  ·have:x≠n:=by rintro rfl;exact h v mm
   simp[this]
theorem Lz{kindOf:Str->Option NameKind}{x:Str}{v:Value}:∀{P:List Str} {vs:List Value} {i:Nat} {m:Str->Option Value},P.Nodup->P[i]?=some x->vs[i]?=some v->kindOf x=some .local ->
  bindL kindOf (P.zip vs) m x=some v
 | [],_,_,_,_,h,_,_=>by simp at h
 | _::_,[],_,_,_,_,h,_=>by simp at h
 | p::P,w::vs,0,m,nd,h1,h2,hk=>by
  simp at h1 h2;subst h1;subst h2
  show bindL kindOf ((p,w)::P.zip vs) m p=_
  unfold bindL
  rw[Lx λv hv=>(fZ.mp nd).1 (yl hv).1,if_pos hk]
  simp
 | p::P,w::vs,i+1,m,nd,h1,h2,hk=>by
  show bindL kindOf ((p,w)::P.zip vs) m x=_
  unfold bindL
  exact Lz (i:=i) (fZ.mp nd).2 (by simpa using h1) (by simpa using h2) hk
theorem LA{kindOf:Str->Option NameKind}{x:Str}{v:Value}:∀{P:List Str} {vs:List Value} {i:Nat} {m:Str->Option Value},P.Nodup->P[i]?=some x->vs[i]?=some v->kindOf x≠some .local ->
  bindC kindOf (P.zip vs) m x=some v
 | [],_,_,_,_,h,_,_=>by simp at h
 | _::_,[],_,_,_,_,h,_=>by simp at h
 | p::P,w::vs,0,m,nd,h1,h2,hk=>by
  simp at h1 h2;subst h1;subst h2
  show bindC kindOf ((p,w)::P.zip vs) m p=_
  unfold bindC
  rw[Ly λv hv=>(fZ.mp nd).1 (yl hv).1,if_neg hk]
  simp
 | p::P,w::vs,i+1,m,nd,h1,h2,hk=>by
  show bindC kindOf ((p,w)::P.zip vs) m x=_
  unfold bindC
  exact LA (i:=i) (fZ.mp nd).2 (by simpa using h1) (by simpa using h2) hk
noncomputable def start(N:List Str)(vs:List V):St:=vs.map some++bh (N.length-vs.length) none
noncomputable def gG(CX:dA)(P:Program)(w:World)(K:PySem.W.Frag)(mg:Str->Option Value)(base:Heap)(N:List Str)(qual:Str)(scope:Scope)(f:Addr)(cd:Value)(A:Around)(outer:List Env)(s:Shared)(H:Hp)(E:XK):Cx where
 prog:=P
 w:=w
 K:=K
 mg:=mg
 base:=base
 A:=A.deeper (envOfC qual scope s.heap.objs.size f cd)
 N:=N
 bQ:=s
 i7:=H
 env:=envOfC qual scope s.heap.objs.size f cd
 outer:=outer
 stack:=envOfC qual scope s.heap.objs.size f cd::outer
 ex:=[]
 calm:=true
 fn:=λ_=>true
 pn:=[]
 xe:=λe s'=>wpAny (model P w) (A.deeper (envOfC qual scope s.heap.objs.size f cd)) (leaving (envOfC qual scope s.heap.objs.size f cd) e) (λ_ oG=>CX outer H s E e oG) (λe' oG=>CX outer H s E e' oG) s'
theorem LB{sc:Scope}{n:Nat}{x:Str}(h:sc.names.lookup x=some .cell):∃c,(cellsFrom n sc.names []).lookup x=some c:=by
 have q:=PySem.W.cellsFrom_some sc.names n [] (.inl h)
 exact Su.mp q
theorem Vj{CX:dA}{P:Program}{w:World}{K:PySem.W.Frag}{mg:Str->Option Value}{base:Heap}{N ps:List Str}{qual:Str}{scope:Scope}{f:Addr}{cd:Value}{A:Around}{outer:List Env}{s s1:Shared}{H:Hp}{E:XK}{us:List Value}{vs:List V}
  (S:bB N ps scope) (hd:A.handled=none) (e0:fo P w K mg base A outer s H) (hl:vs.length=ps.length) (r:Vals vs us)
  (x:InCallC s s.heap.objs.size (bindL (envOfC qual scope s.heap.objs.size f cd).kindOf (ps.zip us) λ_=>none) (cellsFrom (s.heap.objs.size+1) scope.names []) (bindC (envOfC qual scope s.heap.objs.size f cd).kindOf (ps.zip us) λ_=>none) s1) :
  Inv (gG CX P w K mg base N qual scope f cd A outer s H E) [] (start N vs) H s1:=by
 have bE:ps.length<=N.length:=by have:=congrArg BU S.pre;rw[mw]at this;omega
 obtain⟨h1,tk,rfl,hk⟩:=x.done
 have vC:∀b:Addr,b ∉ (gG CX P w K mg base N qual scope f cd A outer s H E).ex:=λb z=>absurd (show b∈([]:List Addr) from z) (by simp)
 refine⟨⟨e0.mod,S.kind,rfl,rfl,aX _,λy z c h1 h2=>?_,λy hy=>?_,λy c _ h=>?_,λ_=>hd,Around.frames_deeper e0.frames,.inr ⟨rfl,rfl⟩,λb z=>absurd z (vC b),e0.bs,e0.gC,λb _ _=>vC b,λb z=>absurd z (vC b),e0.eX,e0.ib⟩,
  rfl,e0.bare,Un.kept hk,⟨_,x.toInCall.ns,λi y v h1 h2 h3=>?_⟩,λy c h=>⟨_,x.cell y c h⟩,e0.ay.fresh (aX _),λy c h=>?_,λp hp=>absurd (show p∈([]:List (Addr × Obj)) from hp) (by simp),e0.ay.kept hk,?_⟩
 ·exact name_of_addr x.apart (PySem.mem_of_lookup h1) (PySem.mem_of_lookup h2)
 ·have hy:scope.names.lookup y=some .cell\/scope.names.lookup y=some .free:=hy
  rcases hy with hy | hy
  ·exact LB hy
  ·exact absurd rfl (S.Vi _ (PySem.mem_of_lookup hy))
 ·exact nV (x.above y c (PySem.mem_of_lookup h))
 ·have hi:i<vs.length:=by
   unfold start at h2
   by_cases hi:i<vs.length
   ·exact hi
   ·rw[qt (by simpa using hi)]at h2
    rw[ym]at h2
    split at h2<;>cases h2
  have ha:vs[i]?=some v:=by
   unfold start at h2
   rw[uX (by simpa using hi),cY]at h2
   cases e:vs[i]? with
   | none=>rw[e]at h2;cases h2
   | some a=>rw[e]at h2;cases h2;rfl
  obtain⟨u,hu,rv⟩:=r.get ha
  have hp:ps[i]?=some y:=by
   rw[<-S.pre,List.getElem?_take_of_lt (by omega)];exact h1
  have LC:ps.Nodup:=by rw[<-S.pre];exact S.nd.sublist (List.take_sublist _ _)
  refine⟨u,rv,?_⟩
  rcases S.par y (qu hp)with k | k
  ·exact .inl ⟨k,Lz LC hp hu k⟩
  ·obtain⟨c,e⟩:=LB (n:=s.heap.objs.size+1) k
   refine .inr ⟨.inl k,c,e,?_⟩
   have q:=x.cell y c e
   rw[LA LC hp hu (by show scope.names.lookup y≠_;rw[k];decide)]at q
   exact q
 ·exact e0.ay.fresh (nV (x.above y c (PySem.mem_of_lookup h)))
 ·unfold start
  show _=N.length
  rw[fh,bU,qv]
  omega
theorem CW{CX:dA}{P:Program}{w:World}{K:PySem.W.Frag}{mg:Str->Option Value}{base:Heap}{k:Nat}{f:Addr}{name qual:Str}{params:Arguments}{body:List Stmt}{scope:Scope}{dV kV doc pm aG ct oc:Value}{an od:Option Addr}
  {jR:Array (Option Value)} {N ps:List Str} {sp:Sp} (lk:K.lookup f=some ⟨oc,od,.func (PySem.W.fnOf name qual params body scope dV kV doc pm an aG ct),jR⟩) (bV:PySem.W.codeIn K aG qual=true) (S:bB N ps scope)
  (len:∀vs H Q E,sp vs H Q E->vs.length=ps.length)
  (gh:∀(A:Around) (outer:List Env) (s:Shared) (H:Hp) (vs:List V) (Q:VK) (E:XK),bK k (A.deeper (envOfC qual scope s.heap.objs.size f aG))->sp vs H Q E ->
   ∃t,PSs (gG CX P w K mg base N qual scope f aG A outer s H E) body t/\t { nx:=λ_ H'=>Q .ak H',rt:=Q } (start N vs) H) :
  aO P w K mg base CX (k+1) f (PySem.W.fnOf name qual params body scope dV kV doc pm an aG ct) ps sp:=by
 refine⟨len,λA outer s H args us vs Q E hr e0 hb r gH=>?_⟩
 have hl:=len _ _ _ _ gH
 have KX:K.In s.heap:=e0.mod.kA.keeps λb o e=>(e0.bs b o e).1
 have lim:s.heap.NoLimit:=e0.mod.nolimit.keeps λb o e=>(e0.bs b o e).1
 have gI:∀y∈ps.zip us,scope.names.lookup y.1=some .local\/(scope.names.lookup y.1=some .cell/\((cellsFrom (s.heap.objs.size+1) scope.names []).lookup y.1).isSome=true):=λ⟨n,v⟩ hy=>by
  rcases S.par n (yl hy).1 with q | q
  ·exact .inl q
  ·exact .inr ⟨q,PySem.W.cellsFrom_some _ _ _ (.inl q)⟩
 refine codeAny_call_function hr.depth (KX _ _ lk) rfl S.co S.gen rfl (PySem.W.codeRec_of KX bV) (hb _ _ _ _ ?_)
 refine wpAny_newFunctionEnv_cells S.kind gI λenv he s1 x=>?_
 subst he
 refine⟨lim.keeps x.toInCall.keep,codeAny_func ?_⟩
 obtain⟨t,ht,hq⟩:=gh A outer s H vs Q E (hr.deeper _) gH
 have I:Inv (gG CX P w K mg base N qual scope f aG A outer s H E) [] (start N vs) H s1:=Vj S hr.hd e0 hl r x
 refine wpAny_mono (ht [] s1 (start N vs) H _ I hq) (λfl s' hs=>?_) λe s' hs=>hs
 have fin:∀{av:St} {H':Hp} {v:V} {u:Value},Inv (gG CX P w K mg base N qual scope f aG A outer s H E) [] av H' s'->RelV v u->Q v H'->CE outer P w H s Q u s' :=
  λ{av H' v u} J rv q=>⟨v,H',J.os,J.bare,J.base,J.ay,rv,q⟩
 cases fl with
 | ret u =>
  obtain⟨v,av,H',J,rv,q⟩:=hs
  exact fin J rv q
 | next =>
  obtain⟨av,H',J,q⟩:=hs
  exact fin (v:=V.ak) (u:=g8) J rfl q
 | brk =>
  obtain⟨_,_,_,q⟩:=hs
  exact dQ q
 | cont =>
  obtain⟨_,_,_,q⟩:=hs
  exact dQ q
end L2
namespace L2
open PySem PySem.Spec PyProof.Rows
section
variable{X:Cx}{x:Str}{p pos:Pos}{e:Expr}{es:List Expr}{t:TA}{id T:String}{r:List V->Hp->VK->Prop}
noncomputable def CY(r:List V->Hp->VK->Prop)(t:TA):TE:=λσ H Q=>t σ H λvs H1=>r vs H1 Q
theorem CZ(hc:eY X (.builtin id) r)(hg:Gl X x)(hm:X.mg x=none)(hv:bootBuiltins x=some (.builtin id))(ha:PA X (e::es) t)(hn:x≠"__name__":=by decide)(dB:(x==("__debug__":Str))=false:=by decide)
  (he:starEach (e::es) X.env=(false,eval e X.env)::starEach es X.env:=by rfl) (bE:(backTo pos (starEach es X.env)).any (·.1)=false:=by rfl):PE X (.Call (.Name x p) (e::es) [] pos) (CY r t):=by
 intro pins s σ H Q I h
 refine wpAny_Call_Name_kw (ou I hg hm hv ?_ hn dB)
 exact PyProof.Rows.callWith_builtin1 (aH (ha pos pins s σ H _ I h) λus s1 ⟨vs,H1,I1,r1,q1⟩=>hc pins s1 σ H1 vs us Q I1 r1 q1) he bE
theorem LD(hc:eY X (.type T) r)(hg:Gl X x)(hm:X.mg x=none)(hv:bootBuiltins x=some (.type T))(ha:PA X (e::es) t)(hn:x≠"__name__":=by decide)(dB:(x==("__debug__":Str))=false:=by decide)
  (he:starEach (e::es) X.env=(false,eval e X.env)::starEach es X.env:=by rfl) (bE:(backTo pos (starEach es X.env)).any (·.1)=false:=by rfl):PE X (.Call (.Name x p) (e::es) [] pos) (CY r t):=by
 intro pins s σ H Q I h
 refine wpAny_Call_Name_kw (ou I hg hm hv ?_ hn dB)
 exact yi (aH (ha pos pins s σ H _ I h) λus s1 ⟨vs,H1,I1,r1,q1⟩=>hc pins s1 σ H1 vs us Q I1 r1 q1) he bE
end
end L2
namespace HT
open PySem PyProof.Rows
section
open PySem.SeqAt
open PySem.AutoSeq1 (wpAny_loadPart')
open PySem.MeetsSeq PySem.MeetsSeq2 PySem.MeetsSeq3
end
section
variable{prog:Program}{w:World}{A:Around}{E:Value->Shared->Prop}{s:Shared}
noncomputable def cy(n d:Nat):Option Int->Nat
 | none=>d
 | some v=>if v<0 then(v+(n:Int)).toNat else min v.toNat n
theorem C2(n d k:Nat):cy n d (some (k:Int))=min k n:=by
 show(if(k:Int)<0 then((k:Int)+(n:Int)).toNat else min (k:Int).toNat n)=min k n
 rw[if_neg (by omega),eE]
end
end HT
namespace L2
open PySem PySem.Spec PyProof.Rows
noncomputable abbrev TO:=St->Hp->(Option Int->Hp->Prop)->Prop
noncomputable def PO(X:Cx)(e:Option Expr)(t:TO):Prop :=
 ∀(pins:List (Addr × Obj)) (s:Shared) (σ:St) (H:Hp) (Q:Option Int->Hp->Prop),Inv X pins σ H s->t σ H Q ->
  wpAny (model X.prog X.w) X.A (evalPart e X.env) (λu s'=>∃o H',Inv X pins σ H' s'/\IsPart u o/\Q o H') X.xe s
noncomputable def Vk:TO:=λ_ H Q=>Q none H
noncomputable def Vl(t:TE):TO:=λσ H Q=>t σ H λx H1=>∃i,x=.int i/\Q (some i) H1
theorem Vm{ns:List Int}:∀{us:List Value},Vals (ns.map V.int) us->IntsAre us ns:=by
 induction ns with
 | nil=>intro us r;rw[mx]at r;cases r;exact .nil
 | cons n ns ih =>
  intro us r
  rw[dF]at r
  cases r with
  | cons r1 r2 =>
   obtain⟨t,e⟩:=r1
   subst e
   exact .cons n t (ih r2)
section
variable{X:Cx}{e:Expr}{te:TE}{lo hi:Option Expr}{tl th:TO}{pos p2:Pos}
theorem Vn:PO X none Vk:=by
 intro pins s σ H Q I h
 rw[evalPart_none]
 exact wpAny_pure ⟨none,H,I,.none,h⟩
theorem Vo(h:PE X e te):PO X (some e) (Vl te):=by
 intro pins s σ H Q I hw
 rw[evalPart_some]
 refine aH (h pins s σ H _ I hw) λu s1 ⟨x,H1,I1,r1,q1⟩=>?_
 obtain⟨i,rfl,q⟩:=q1
 obtain⟨t,rfl⟩:=r1
 exact⟨some i,H1,I1,.int i t,q⟩
noncomputable def oH(X:Cx)(r:V->Option Int->Option Int->Hp->VK->Prop):Prop :=
 ∀(pins:List (Addr × Obj)) (s:Shared) (σ:St) (H:Hp) (x:V) (v vl vu:Value) (lo hi:Option Int) (sl:Addr) (Q:VK),Inv X pins σ H s->RelV x v->s.heap.IsSliceOf sl vl vu .none->IsPart vl lo->IsPart vu hi->r x lo hi H Q ->
  ∃T id,typeLookup (.type T) "__getitem__"=pure (some (.builtin id))/\s.TypeIs v T/\wpAny (model X.prog X.w) X.A (getItem v (.ref sl)) (EP X pins σ Q) X.xe s
theorem oH.or{r r':V->Option Int->Option Int->Hp->VK->Prop}(h:oH X r)(h':oH X r'):oH X (λx lo hi H Q=>r x lo hi H Q\/r' x lo hi H Q):=by
 intro pins s σ H x v vl vu lo hi sl Q I rx hs pl pu q
 rcases q with q | q
 ·exact h pins s σ H x v vl vu lo hi sl Q I rx hs pl pu q
 ·exact h' pins s σ H x v vl vu lo hi sl Q I rx hs pl pu q
noncomputable def Vp(r:V->Option Int->Option Int->Hp->VK->Prop)(te:TE)(tl th:TO):TE:=λσ H Q=>te σ H λx H1=>tl σ H1 λl H2=>th σ H2 λu H3=>r x l u H3 Q
theorem Vq{r:V->Option Int->Option Int->Hp->VK->Prop}(hr:oH X r)(he:PE X e te)(hl:PO X lo tl)(hu:PO X hi th):PE X (.Subscript e (.Slice lo hi none p2) pos) (Vp r te tl th):=by
 intro pins s σ H Q I h
 refine Subscript_ (aH (he pins s σ H _ I h) λv s1 ⟨x,H1,I1,r1,q1⟩=>?_)
 refine wpAny_Slice (aH (hl pins s1 σ H1 _ I1 q1) λvl s2 ⟨l,H2,I2,pl,q2⟩=>aH (hu pins s2 σ H2 _ I2 q2) λvu s3 ⟨u,H3,I3,pu,q3⟩=>?_)
 rw[evalPart_none]
 refine wpAny_pure ?_
 have I4:Inv X pins σ H3 { s3 with heap:=s3.heap.push { cls:=.type "slice",data:=.fields #[vl,vu,.none] } }:=I3.kept (t':=s3.toks) λb ob q=>bY _ q
 obtain⟨T,id,hT,ht,hg⟩:=hr pins { s3 with heap:=s3.heap.push { cls:=.type "slice",data:=.fields #[vl,vu,.none] } } σ H3 x v vl vu l u s3.heap.objs.size Q I4 r1 (Heap.IsSliceOf.new ..) pl pu q3
 show wpAny (model X.prog X.w) X.A (subscriptTail e (.Slice lo hi none p2) v (.ref s3.heap.objs.size)) (EP X pins σ Q) X.xe { s3 with heap:=s3.heap.push { cls:=.type "slice",data:=.fields #[vl,vu,.none] } }
 exact tail_any (ops:=[.ref s3.heap.objs.size,v]) ht hT hg (by with_unfolding_all rfl)
noncomputable def qV(xs:List V)(lo hi:Option Int):List V:=(xs.drop (HT.cy xs.length 0 lo)).take (HT.cy xs.length xs.length hi-HT.cy xs.length 0 lo)
theorem Vr(xs:List V)(lo hi:Option Int):(qV xs lo hi).length<=xs.length:=by
 unfold qV
 rw[mw,my]
 omega
end
end L2
namespace L2
open PySem PySem.Spec PyProof.Rows
noncomputable def fG(n:Nat)(i:Int):Option Nat:=if 0<=i then(if i<n then some i.toNat else none)else if -(n:Int)<=i then some (i+n).toNat else none
noncomputable def dm{α:Type}(xs:List α)(i:Int):Option α:=(fG xs.length i).bind λj=>xs[j]?
theorem LF{n:Nat}{i:Int}{j:Nat}(h:fG n i=some j):seqIndex? i n=some j/\j<n/\-(n:Int)<=i/\i<n:=by
 unfold fG at h
 by_cases h0:0<=i
 ·rw[if_pos h0]at h
  by_cases h1:i<n
  ·rw[if_pos h1]at h
   have e:i.toNat=j:=cW h
   exact⟨by rw[seqIndex_of h0 h1,e],by omega,by omega,h1⟩
  ·rw[if_neg h1]at h;cases h
 ·rw[if_neg h0]at h
  by_cases h1:-(n:Int)<=i
  ·rw[if_pos h1]at h
   have e:(i+n).toNat=j:=cW h
   exact⟨by rw[seqIndex_neg (by omega) h1,e],by omega,h1,by omega⟩
  ·rw[if_neg h1]at h;cases h
theorem mQ{α:Type}{xs:List α}{i:Int}{v:α}(h:dm xs i=some v):∃j,seqIndex? i xs.length=some j/\xs[j]?=some v/\j<xs.length/\-(xs.length:Int)<=i/\i<xs.length:=by
 unfold dm at h
 cases e:fG xs.length i with
 | none=>rw[e]at h;cases h
 | some j =>
  rw[e]at h
  obtain⟨h1,h2,h3,h4⟩:=LF e
  exact⟨j,h1,h,h2,h3,h4⟩
theorem zb{α:Type}{xs:List α}{j:Nat}{v:α}(h:xs[j]?=some v):dm xs (j:Int)=some v:=by
 have hj:j<xs.length:=(g9.mp h).1
 have e:fG xs.length (j:Int)=some j:=by
  unfold fG
  rw[if_pos (by omega),if_pos (by omega)];simp
 unfold dm;rw[e];exact h
noncomputable def LG(b:Expr):Prop:=∀o i,subscripted b false o i=operate [o,i] (getItem o i)
noncomputable def kD(X:Cx)(r:R2):Prop :=
 ∀(value slice:Expr) (pins:List (Addr × Obj)) (s:Shared) (σ:St) (H:Hp) (x y:V) (v u:Value) (Q:VK),Inv X pins σ H s->RelV x v->RelV y u->r x y H Q ->
  subscripted slice false v u=operate [v,u] (getItem v u)->wpAny (model X.prog X.w) X.A (subscriptTail value slice v u) (EP X pins σ Q) X.xe s
noncomputable def mR(X:Cx)(id:String)(r:V->List V->Hp->VK->Prop):Prop :=
 ∀(pins:List (Addr × Obj)) (s:Shared) (σ:St) (H:Hp) (x:V) (xs:List V) (v:Value) (us:List Value) (Q:VK),Inv X pins σ H s->RelV x v->Vals xs us->r x xs H Q ->
  wpAny (model X.prog X.w) X.A (call (.builtin id) (v::us)) (EP X pins σ Q) X.xe s
section
variable{X:Cx}{a b:Expr}{ta tb:TE}{pos:Pos}
theorem kD.or{r r':R2}(h:kD X r)(h':kD X r'):kD X (λx y H Q=>r x y H Q\/r' x y H Q):=by
 intro value slice pins s σ H x y v u Q I rx ry q hs
 rcases q with q | q
 ·exact h value slice pins s σ H x y v u Q I rx ry q hs
 ·exact h' value slice pins s σ H x y v u Q I rx ry q hs
theorem mR.or{id:String}{r r':V->List V->Hp->VK->Prop}(h:mR X id r)(h':mR X id r'):mR X id (λx xs H Q=>r x xs H Q\/r' x xs H Q):=by
 intro pins s σ H x xs v us Q I rx rs q
 rcases q with q | q
 ·exact h pins s σ H x xs v us Q I rx rs q
 ·exact h' pins s σ H x xs v us Q I rx rs q
theorem LH{r:R2}(hr:kD X r)(ha:PE X a ta)(hb:PE X b tb)(hs:LG b):PE X (.Subscript a b pos) (vx r ta tb):=by
 intro pins s σ H Q I h
 exact Subscript_ (CQ ha hb I h λv u s2 x y H2 I2 rx ry q=>hr a b pins s2 σ H2 x y v u Q I2 rx ry q (hs _ _))
noncomputable def LJ(K:PySem.W.Frag):R2:=λx y H Q=>∃p xs i v,x=.ref p/\y=.int i/\bq K H p xs/\dm xs i=some v/\Q v H
noncomputable def LK(K:PySem.W.Frag):R2:=λx y H Q=>∃p xs i v,x=.ref p/\y=.int i/\eQ K H p xs/\dm xs i=some v/\Q v H
noncomputable def LL:R2:=λx y H Q=>∃z i c,x=.str z/\y=.int i/\z.length<=sizeLine/\dm z.cps.toList i=some c/\Q (.str ⟨#[c]⟩) H
theorem LM:kD X (LJ X.K):=by
 intro value slice pins s σ H x y v u Q I rx ry h hs
 obtain⟨p,xs,i,z,rfl,rfl,hq,he,q⟩:=h
 cases rx
 obtain⟨t,rfl⟩:=ry
 obtain⟨its,r,pl,hz⟩:=I.list hq
 obtain⟨j,h1,h2,h3,h4,h5⟩:=mQ he
 obtain⟨w,ew,aT⟩:=r.get h2
 have hl:=r.length
 have hn:=qT
 have fin:EP X pins σ Q w s:=⟨z,H,I,aT,q⟩
 by_cases h0:0<=i
 ·have hj:i.toNat=j:=by
   rw[seqIndex_of h0 h5]at h1
   exact cW h1
  exact item_listR pl.isList h0 (by omega) (by rw[hj];simpa using ew) fin hs
 ·have hj:(i+(its.toArray.size:Int)).toNat=j:=by
   rw[seqIndex_neg (by omega) h4]at h1
   rw[cZ,<- hl]
   exact cW h1
  exact subscriptTail_builtinR (x:=w) pl.isList.typeIs slot_list_getitem.lookup
   (wpAny_getItem_list_neg (Q:=λr s'=>r=w/\EP X pins σ Q r s') pl.isList (by omega) (by rw[cZ]<;>omega) (by omega) (by rw[hj];simpa using ew) ⟨rfl,fin⟩) hs
theorem Vs:kD X (LK X.K):=by
 intro value slice pins s σ H x y v u Q I rx ry h hs
 obtain⟨p,xs,i,z,rfl,rfl,hq,he,q⟩:=h
 cases rx
 obtain⟨t,rfl⟩:=ry
 obtain⟨its,r,pl,hz⟩:=I.tuple hq
 obtain⟨j,h1,h2,h3,h4,h5⟩:=mQ he
 obtain⟨w,ew,aT⟩:=r.get h2
 have hl:=r.length
 have hn:=qT
 have fin:EP X pins σ Q w s:=⟨z,H,I,aT,q⟩
 exact subscriptTail_builtinR (x:=w) pl.typeIs slot_tuple_getitem.lookup
  (getItem_tuple (j:=j) (Q:=λr s'=>r=w/\EP X pins σ Q r s') pl (by omega) (by omega) (by rw[cZ,<- hl];exact h1) (by simpa using ew) ⟨rfl,fin⟩) hs
theorem Vt:kD X LL:=by
 intro value slice pins s σ H x y v u Q I rx ry h hs
 obtain⟨z,i,c,rfl,rfl,hz,he,q⟩:=h
 obtain⟨t,rfl⟩:=rx
 obtain⟨t',rfl⟩:=ry
 obtain⟨j,h1,h2,h3,h4,h5⟩:=mQ he
 have hl:z.cps.toList.length=z.length:=by simp[Str.length]
 rw[hl]at h1 h4 h5
 have hn:=qT
 exact tail_any (typeIs_str s z t) slot_str_getitem.lookup (getItem_str (c:=c) (by
  have e1:decide (i < -(2 ^ 63:Int))=false:=decide_eq_false (by omega)
  have e2:decide (i ≥ 2 ^ 63)=false:=decide_eq_false (by omega)
  rw[e1,e2,qw]) (by rw[h1];simpa using h2) ⟨.str ⟨#[c]⟩,H,I.tok _,⟨_,rfl⟩,q⟩) hs
noncomputable def Vu(K:PySem.W.Frag):R2:=λx y H Q=>LJ K x y H Q\/LK K x y H Q\/LL x y H Q
theorem Vv:kD X (Vu X.K):=LM.or (Vs.or Vt)
theorem Vw(its:List Value)(n j:Nat)(u:Value):mB (·.setIfInBounds j u) { cls:=.type "list",data:=.seq its.toArray n }={ cls:=.type "list",data:=.seq (its.set j u).toArray n }:=by
 simp[mB]
theorem Inv.lst{pins:List (Addr × Obj)}{σ:St}{H:Hp}{s:Shared}{p:Addr}{xs:List V}(I:Inv X pins σ H s)(h:H p=some (.lst xs)) :
  ∃(its:List Value) (n:Nat),Vals xs its/\s.heap.get? p=some { cls:=.type "list",data:=.seq its.toArray n }/\xs.length<=sizeLine:=by
 obtain⟨z,its,n,r,e⟩:=I.ay p _ h
 exact⟨its,n,r,e,z⟩
theorem Inv.Vx{pins:List (Addr × Obj)}{σ:St}{H:Hp}{s:Shared}{p:Addr}{xs ys:List V}{its its':List Value}{n n':Nat}{f:Obj->Obj}(I:Inv X pins σ H s)(h:H p=some (.lst xs))
  (ho:s.heap.get? p=some { cls:=.type "list",data:=.seq its.toArray n }) (hf:f { cls:=.type "list",data:=.seq its.toArray n }={ cls:=.type "list",data:=.seq its'.toArray n' }) (r:Vals ys its') (hz:ys.length<=sizeLine) (t:Nat) :
  Inv X pins σ (upd H p (.lst ys)) { s with heap:=s.heap.update p f,toks:=t }:=by
 have e:(s.heap.update p f).get? p=some { cls:=.type "list",data:=.seq its'.toArray n' }:=by
  rw[uY f ho (by rw[hf]<;>rfl),hf]
 refine I.write (x:=p) (e:=p) (by rw[h];trivial) (.inl rfl) (λb u hb q=>(km _ _ (dy hb)).trans q) ⟨_,e⟩ ?_
 exact⟨hz,its',n',r,e⟩
noncomputable def Vy:V->V->V->Hp->(Hp->Prop)->Prop:=λo i v H Q=>∃p xs k j,o=.ref p/\i=.int k/\H p=some (.lst xs)/\fG xs.length k=some j/\Q (upd H p (.lst (xs.set j v)))
theorem LN:Lh X Vy:=by
 intro pins s σ H o i v ov iv u Q I ro ri rv h
 obtain⟨p,xs,k,j,rfl,rfl,hp,hj,q⟩:=h
 cases ro
 obtain⟨t,rfl⟩:=ri
 obtain⟨its,n,r,ho,hz⟩:=I.lst hp
 obtain⟨h1,h2,h3,h4⟩:=LF hj
 have hl:=r.length
 have hn:=qT
 have I':Inv X pins σ (upd H p (.lst (xs.set j v))) { s with heap:=s.heap.update p (mB (·.setIfInBounds j u)) } :=
  I.Vx hp ho (Vw its n j u) (r.set rv j) (by rw[yn];exact hz) s.toks
 by_cases h0:0<=k
 ·have hk:k.toNat=j:=by
   rw[seqIndex_of h0 h4]at h1
   exact cW h1
  exact PySem.W.ki_setAt ho h0 (by omega) (by rw[cZ,<- hl];exact h4) (by rw[hk];exact⟨_,I',q⟩)
 ·have hk:(k+(its.toArray.size:Int)).toNat=j:=by
   rw[seqIndex_neg (by omega) h3]at h1
   rw[cZ,<- hl]
   exact cW h1
  exact PySem.W.ki_setBack ho (by omega) (by rw[cZ,<- hl];exact h3) (by omega) (by rw[hk];exact⟨_,I',q⟩)
theorem C3(lo hi:Option Int)(n:Nat):(sliceBounds lo hi none n).1=((HT.cy n 0 lo:Nat):Int)/\(sliceBounds lo hi none n).2.1=((HT.cy n n hi:Nat):Int)/\(sliceBounds lo hi none n).2.2=1:=by
 refine⟨?_,?_,rfl⟩
 ·cases lo with
  | none=>simp[sliceBounds,HT.cy]
  | some i =>
   simp only[sliceBounds,HT.cy,qy,show(1:Int)>0 by decide,if_true]
   by_cases h:i<0
   ·simp only[h,if_true]<;>omega
   ·simp only[h,if_false]<;>omega
 ·cases hi with
  | none=>simp[sliceBounds,HT.cy]
  | some i =>
   simp only[sliceBounds,HT.cy,qy,show(1:Int)>0 by decide,if_true]
   by_cases h:i<0
   ·simp only[h,if_true]<;>omega
   ·simp only[h,if_false]<;>omega
theorem Vz(its:List Value)(lo hi:Option Int):slicePick its.toArray lo hi none=((its.drop (HT.cy its.length 0 lo)).take (HT.cy its.length its.length hi-HT.cy its.length 0 lo)).toArray:=by
 obtain⟨h1,h2,h3⟩:=C3 lo hi its.toArray.size
 unfold slicePick
 rw[h1,h2,h3]
 simp only[sliceRange_one,pick_run,cZ]<;>rfl
noncomputable def VA(K:PySem.W.Frag):V->Option Int->Option Int->Hp->VK->Prop:=λx lo hi H Q=>∃a xs,x=.ref a/\bq K H a xs/\∀p,H p=none->Q (.ref p) (upd H p (.lst (qV xs lo hi)))
theorem VB:oH X (VA X.K):=by
 intro pins s σ H x v vl vu lo hi sl Q I rx hs pl pu h
 obtain⟨a,xs,rfl,hx,q⟩:=h
 cases rx
 obtain⟨its,r,ht,hz⟩:=I.list hx
 have hlen:=r.length
 refine⟨"list",_,slot_list_getitem.lookup,ht.isList.typeIs,?_⟩
 refine wpAny_getItem_list_slice ht.isList hs pl pu .none (by simp) ?_ (by rw[cZ]<;>omega)
 rw[Vz,<- hlen]
 refine⟨.ref s.heap.objs.size,_,I.laid (t':=s.toks) (o:=.lst (qV xs lo hi)) (λb ob q=>bY _ q) (aX _) ?_,rfl,q _ (I.ay.fresh (aX _))⟩
 exact⟨dP (Vr xs lo hi) hz,_,0,(r.drop (HT.cy xs.length 0 lo)).take (HT.cy xs.length xs.length hi-HT.cy xs.length 0 lo),cX _ rfl⟩
noncomputable def kE:V->Bool
 | .ak=>true
 | .bl _=>true
 | .int _=>true
 | .str _=>true
 | _=>false
noncomputable def jS:V->V->Bool
 | .ak,.ak=>true
 | .bl a,.bl b=>a==b
 | .bl a,.int b=>(if a then 1 else 0)==b
 | .int a,.bl b=>a==(if b then 1 else 0)
 | .int a,.int b=>a==b
 | .str a,.str b=>a==b
 | _,_=>false
theorem VC{A:Around}{s:Shared}{y x:V}{u v:Value}(ry:RelV y u)(rx:RelV x v)(fy:kE y=true)(fx:kE x=true):BV A s u v (jS y x):=by
 cases y with
 | ak =>
  cases ry
  cases x with
  | ak=>cases rx;exact SeqAt.EqAt.same _
  | bl b=>cases rx;exact SeqAt.EqAt.none_bool b
  | int b=>obtain⟨t,rfl⟩:=rx;exact SeqAt.EqAt.none_int b t
  | str b=>obtain⟨t,rfl⟩:=rx;exact SeqAt.EqAt.none_str b t
  | _=>exact absurd (show false=true from fx) hJ
 | bl a =>
  cases ry
  cases x with
  | ak=>cases rx;exact SeqAt.EqAt.bool_none a
  | bl b=>cases rx;exact SeqAt.EqAt.bool_bool a b
  | int b=>obtain⟨t,rfl⟩:=rx;exact SeqAt.EqAt.bool_int a b t
  | str b=>obtain⟨t,rfl⟩:=rx;exact SeqAt.EqAt.bool_str a b t
  | _=>exact absurd (show false=true from fx) hJ
 | int a =>
  obtain⟨t',rfl⟩:=ry
  cases x with
  | ak=>cases rx;exact SeqAt.EqAt.int_none a t'
  | bl b=>cases rx;exact SeqAt.EqAt.int_bool a t' b
  | int b=>obtain⟨t,rfl⟩:=rx;exact SeqAt.EqAt.int_int a t' b t
  | str b=>obtain⟨t,rfl⟩:=rx;exact SeqAt.EqAt.int_str a t' b t
  | _=>exact absurd (show false=true from fx) hJ
 | str a =>
  obtain⟨t',rfl⟩:=ry
  cases x with
  | ak=>cases rx;exact SeqAt.EqAt.str_none a t'
  | bl b=>cases rx;exact SeqAt.EqAt.str_bool a t' b
  | int b=>obtain⟨t,rfl⟩:=rx;exact SeqAt.EqAt.str_int a t' b t
  | str b=>obtain⟨t,rfl⟩:=rx;exact SeqAt.EqAt.str_str a t' b t
  | _=>exact absurd (show false=true from fx) hJ
 | _=>exact absurd (show false=true from fy) hJ
noncomputable def kF(x:V)(u:Value):Bool:=match u with
 | .none=>jS .ak x
 | .bool b=>jS (.bl b) x
 | .int i _=>jS (.int i) x
 | .str z _=>jS (.str z) x
 | _=>false
theorem LO{x y:V}{u:Value}(r:RelV y u)(f:kE y=true):kF x u=jS y x:=by
 cases y with
 | ak=>cases r;rfl
 | bl b=>cases r;rfl
 | int i=>obtain⟨t,rfl⟩:=r;rfl
 | str z=>obtain⟨t,rfl⟩:=r;rfl
 | _=>exact absurd (show false=true from f) hJ
theorem C4{x:V}:∀{xs:List V} {us:List Value},Vals xs us->xs.all kE=true->us.any (kF x)=xs.any λy=>jS y x
 | _,_,.nil,_=>rfl
 | y::xs,u::us,.cons r t,f=>by
  rw[dG,da]at f
  rw[List.any_cons,List.any_cons,LO r f.1,C4 t f.2]
theorem C5{A:Around}{s:Shared}{x:V}{v:Value}(rx:RelV x v)(fx:kE x=true):∀{xs:List V} {us:List Value},Vals xs us->xs.all kE=true->∀u∈us,BV A s u v (kF x u)
 | _,_,.nil,_=>λu hu=>by cases hu
 | y::xs,u::us,.cons r t,f=>λu' hu=>by
  rw[dG,da]at f
  rcases bJ.mp hu with rfl | hu
  ·rw[LO r f.1];exact VC r rx f.1 fx
  ·exact C5 rx fx t f.2 u' hu
noncomputable def vD(x:V)(xs:List V):Bool:=xs.any λy=>jS y x
noncomputable def VD(K:PySem.W.Frag)(neg:Bool):R2:=λx y H Q=>∃p xs,y=.ref p/\(bq K H p xs\/eQ K H p xs)/\kE x=true/\xs.all kE=true/\Q (.bl (if neg then !vD x xs else vD x xs)) H
theorem VE:cg X (compareOp .In) (VD X.K false):=by
 intro pins s σ H x y v u Q I rx ry h
 obtain⟨p,xs,rfl,hq,fx,fs,q⟩:=h
 cases ry
 rcases hq with hq | hq
 ·obtain⟨its,r,pl,hz⟩:=I.list hq
  refine SeqAt.in_listAt (kF x) pl.isList (λw hw=>C5 rx fx r fs w (by simpa using hw)) ⟨.bl _,H,I,rfl,?_⟩
  rw[show its.toArray.any (kF x)=its.any (kF x) by simp,C4 r fs]
  exact q
 ·obtain⟨its,r,pl,hz⟩:=I.tuple hq
  refine SeqAt.in_tupleAt (kF x) pl (λw hw=>C5 rx fx r fs w (by simpa using hw)) ⟨.bl _,H,I,rfl,?_⟩
  rw[show its.toArray.any (kF x)=its.any (kF x) by simp,C4 r fs]
  exact q
theorem VF:eY X (.builtin "len") (λxs H Q=>∃p ys,xs=[.ref p]/\(bq X.K H p ys\/eQ X.K H p ys)/\Q (.int ys.length) H):=by
 intro pins s σ H xs us Q I r h
 obtain⟨p,ys,rfl,hq,q⟩:=h
 obtain⟨u,rfl,rx⟩:=vA r
 cases rx
 have hn:=qT
 rcases hq with hq | hq
 ·obtain⟨its,r',pl,hz⟩:=I.list hq
  have hlen:=r'.length
  exact Calls.call_len_list pl.isList (by simp only[cZ]<;>omega) ⟨.int ys.length,H,I.tok _,⟨s.toks+1,by rw[cZ,hlen]⟩,q⟩
 ·obtain⟨its,r',pl,hz⟩:=I.tuple hq
  have hlen:=r'.length
  exact len_tuple pl (by simp only[cZ]<;>omega) ⟨.int ys.length,H,I.tok _,⟨s.toks+1,by rw[cZ,hlen]⟩,q⟩
theorem VG:eY X (.builtin "len") (λxs H Q=>∃z,xs=[.str z]/\z.length<=sizeLine/\Q (.int z.length) H):=by
 intro pins s σ H xs us Q I r h
 obtain⟨z,rfl,hz,q⟩:=h
 obtain⟨u,rfl,t,rfl⟩:=vA r
 have hn:=qT
 exact len_str (by omega) ⟨.int z.length,H,I.tok _,⟨_,rfl⟩,q⟩
theorem eY.or{f:Value}{r r':List V->Hp->VK->Prop}(h:eY X f r)(h':eY X f r'):eY X f (λxs H Q=>r xs H Q\/r' xs H Q):=by
 intro pins s σ H xs us Q I rs q
 rcases q with q | q
 ·exact h pins s σ H xs us Q I rs q
 ·exact h' pins s σ H xs us Q I rs q
theorem VH:eY X (.type "list") (λxs H Q=>∃p ys,xs=[.ref p]/\(bq X.K H p ys\/eQ X.K H p ys)/\∀l,H l=none->Q (.ref l) (upd H l (.lst ys))):=by
 intro pins s σ H xs us Q I r h
 obtain⟨p,ys,rfl,hq,q⟩:=h
 obtain⟨u,rfl,rx⟩:=vA r
 cases rx
 have fin:∀(its:List Value),Vals ys its->ys.length<=sizeLine->∀(h':Heap) (c':Nat),(∀b o',s.heap.get? b=some o'->h'.get? b=some o') ->
   h'.get? s.heap.objs.size=some { cls:=.type "list",dict:=none,data:=.seq its.toArray c',slots:=#[] }->EP X pins σ Q (.ref s.heap.objs.size) { s with heap:=h' }:=λits r' hz h' c' kp e =>
  ⟨.ref s.heap.objs.size,_,I.laid (t':=s.toks) kp (aX _) (show cP X.prog X.w _ h' _ (.lst ys) from⟨hz,its,c',r',e⟩),rfl,q _ (I.ay.fresh (aX _))⟩
 rcases hq with hq | hq
 ·obtain⟨its,r',pl,hz⟩:=I.list hq
  have hlen:=r'.length
  obtain⟨o,ho,hc,n,hd⟩:=pl.isList
  exact call_list_seq p (.inl rfl) ho hc hd (λh' c' kp e=>fin its r' hz h' c' kp e) (by simp only[cZ]<;>omega)
 ·obtain⟨its,r',pl,hz⟩:=I.tuple hq
  have hlen:=r'.length
  obtain⟨o,ho,hc,n,hd⟩:=pl
  exact call_list_seq p (.inr rfl) ho hc hd (λh' c' kp e=>fin its r' hz h' c' kp e) (by simp only[cZ]<;>omega)
noncomputable def C6(K:PySem.W.Frag)(T:String)(x:V)(H:Hp):Prop:=match x with
 | .str _=>T="str"
 | .int _=>T="int"
 | .ref p=>(T="list"/\∃xs,bq K H p xs)\/(T="tuple"/\∃o,K.lookup p=some o/\o.cls=.type "tuple"/\o.dict=none) \/
   (T="dict"/\((∃cJ,H p=some (.dK cJ))\/∃cJ,H p=some (.dT cJ)))\/(T="set"/\∃S n,H p=some (.set S n))
 | _=>False
theorem LP{pins:List (Addr × Obj)}{σ:St}{H:Hp}{s:Shared}{T:String}{x:V}{v:Value}(I:Inv X pins σ H s)(r:RelV x v)(ty:C6 X.K T x H) :
  s.TypeIs v T/\∀a,v=.ref a->∃ob,s.heap.get? a=some ob/\ob.dict=none:=by
 cases x with
 | str z =>
  obtain⟨t,rfl⟩:=r
  cases(show T="str" from ty)
  exact⟨typeIs_str s z t,λ_ e=>nomatch e⟩
 | int i =>
  obtain⟨t,rfl⟩:=r
  cases(show T="int" from ty)
  exact⟨typeIs_int s i t,λ_ e=>nomatch e⟩
 | ref p =>
  cases r
  rcases ty with⟨rfl,xs,hq⟩ | ⟨rfl,o,hk,hc,hd⟩ | ⟨rfl,hk⟩ | ⟨rfl,S,n,hk⟩
  ·obtain⟨its,_,pl,_⟩:=I.list hq
   refine⟨pl.isList.typeIs,λa e=>?_⟩
   cases e
   obtain⟨o,n,e,c,hd,_⟩:=pl
   exact⟨o,e,hd⟩
  ·refine⟨⟨o,I.cE p o hk,hc⟩,λa e=>?_⟩
   cases e
   exact⟨o,I.cE _ o hk,hd⟩
  ·have z:∃o,s.heap.get? p=some o/\o.ExactDict:=by
    rcases hk with⟨cJ,hk⟩ | ⟨cJ,hk⟩
    ·obtain⟨_,_,_,_,o,_,_,e,ex,_⟩:=I.ay p _ hk
     exact⟨o,e,ex⟩
    ·obtain⟨_,_,_,_,o,_,_,e,ex,_⟩:=I.ay p _ hk
     exact⟨o,e,ex⟩
   obtain⟨o,e,ex⟩:=z
   refine⟨⟨o,e,ex.1⟩,λa e2=>?_⟩
   cases e2
   exact⟨o,e,ex.2.1⟩
  ·obtain⟨o,_,_,_,e,ex,_⟩:=I.ay p _ hk
   refine⟨⟨o,e,ex.1⟩,λa e2=>?_⟩
   cases e2
   exact⟨o,e,ex.2.1⟩
 | _=>exact dQ ty
noncomputable def LQ(K:PySem.W.Frag)(T:String)(r:V->List V->Hp->VK->Prop)(to:TE):TE:=λσ H Q=>to σ H λx H1=>C6 K T x H1/\r x [] H1 Q
noncomputable def VI(K:PySem.W.Frag)(T:String)(r:V->List V->Hp->VK->Prop)(to:TE)(t:TA):TE:=λσ H Q=>to σ H λx H1=>C6 K T x H1/\t σ H1 λxs H2=>r x xs H2 Q
variable{o e:Expr}{es:List Expr}{to:TE}{t:TA}{name:Str}{apos bM:Pos}{T id:String}{r:V->List V->Hp->VK->Prop}
theorem LR(pa:PlainAttrs T)(slot:Slot T name id)(C7:typeOf (.builtin id)=pure (.type "method_descriptor"))(hm:mR X id r)(ho:PE X o to)
  (jk:attributeBase o name X.env (eval o X.env)=eval o X.env:=by rfl) (jl:(apos.endLine==bM.line)=true:=by rfl):PE X (.Call (.Attribute o name apos) [] [] bM) (LQ X.K T r to):=by
 intro pins s σ H Q I h
 refine wpAny_Call_method0_late jk jl (aH (ho pins s σ H _ I h) λv s1 ⟨x,H1,I1,r1,ty,q1⟩=>?_)
 obtain⟨h1,h2⟩:=LP I1 r1 ty
 exact⟨T,id,pa,slot,C7,h1,h2,Calls.callWith_builtin rfl (PySem.evalArgs_none (hm pins s1 σ H1 x [] v [] Q I1 r1 .nil q1))⟩
theorem VJ(pa:PlainAttrs T)(slot:Slot T name id)(C7:typeOf (.builtin id)=pure (.type "method_descriptor"))(hm:mR X id r)(ho:PE X o to)(ha:PA X (e::es) t)
  (jk:attributeBase o name X.env (eval o X.env)=eval o X.env:=by rfl)
  (C8:((backTo bM (starEach (e::es) X.env)).all (λx=>!x.1)&&(backToKw bM (keywordEach [] X.env)).all (λx=>x.1.isSome)
   && decide ((e::es).length+([]:List Keyword).length+(if([]:List Keyword).isEmpty then 0 else 1)<30))=true:=by rfl)
  (jl:(apos.endLine==bM.line)=true:=by rfl) (hs:starEach (e::es) X.env=(false,eval e X.env)::starEach es X.env:=by rfl) (C9:(backTo bM (starEach es X.env)).any (·.1)=false:=by rfl) :
  PE X (.Call (.Attribute o name apos) (e::es) [] bM) (VI X.K T r to t):=by
 intro pins s σ H Q I h
 refine wpAny_Call_method_late jk C8 jl rfl (aH (ho pins s σ H _ I h) λv s1 ⟨x,H1,I1,r1,ty,q1⟩=>?_)
 obtain⟨h1,h2⟩:=LP I1 r1 ty
 refine⟨T,id,pa,slot,C7,h1,h2,?_⟩
 have hA:=ha bM pins s1 σ H1 _ I1 q1
 rw[hs]at hA ⊢
 refine Calls.callWith_builtin (by show(false||(backTo bM (starEach es X.env)).any (·.1))=false;rw[C9]<;>rfl) (Calls.evalArgs_plain ?_)
 exact aH hA λus s2 ⟨vs,H2,I2,r2,q2⟩=>hm pins s2 σ H2 x vs v us Q I2 r1 r2 q2
/- xs.append(e),list.index on a dA5 tuple .. are mR facts of 06m -/
end
end L2
namespace L2
open PySem PySem.Spec PyProof.Rows
noncomputable def LS(X:Cx)(id:String)(r:V->List V->Hp->VK->Prop):Prop :=
 ∀(pins:List (Addr × Obj)) (s:Shared) (σ:St) (H:Hp) (x:V) (xs:List V) (v:Value) (us:List Value) (Q:VK),Inv X pins σ H s->RelV x v->Vals xs us->r x xs H Q ->
  wpAny (model X.prog X.w) X.A (call (.builtin id) (v::us)) (EP X pins σ Q) X.xe s
theorem Vals.one:∀{x:V} {us:List Value},Vals [x] us->∃u,us=[u]/\RelV x u
 | _,_,.cons r .nil=>⟨_,rfl,r⟩
theorem Vals.two:∀{x y:V} {us:List Value},Vals [x,y] us->∃u v,us=[u,v]/\RelV x u/\RelV y v
 | _,_,_,.cons r (.cons q .nil)=>⟨_,_,rfl,r,q⟩
theorem Vals.zero:∀{us:List Value},Vals [] us->us=[]
 | _,.nil=>rfl
theorem Vals.eraseIdx:∀{xs:List V} {us:List Value} (i:Nat),Vals xs us->Vals (xs.eraseIdx i) (us.eraseIdx i)
 | _,_,_,.nil=>.nil
 | _,_,0,.cons _ t=>t
 | _,_,i+1,.cons r t=>.cons r (Vals.eraseIdx i t)
theorem Vals.reverse{xs:List V}{us:List Value}(h:Vals xs us):Vals xs.reverse us.reverse:=by
 induction h with
 | nil=>exact .nil
 | cons r t ih=>rw[BW,BW];exact Vals.append ih (.cons r .nil)
theorem Vals.rep{xs:List V}{us:List Value}(h:Vals xs us):∀k:Nat,Vals (bh k xs).flatten (bh k us).flatten
 | 0=>.nil
 | k+1=>by
  rw[nX,nX,qA,qA]
  exact Vals.append h (Vals.rep h k)
theorem LU(its:List Value):∀(k:Nat) (acc:List Value),
  List.foldl (λx1 x2=>x1++x2) acc.toArray (bh k its.toArray)=(acc++(bh k its).flatten).toArray
 | 0,acc=>by simp
 | k+1,acc=>by
  have e:acc.toArray++its.toArray=(acc++its).toArray:=by simp
  have e2:(acc++its)++(bh k its).flatten=acc++(bh (k+1) its).flatten:=by
   rw[nX,qA,cS]
  rw[<-e2,<- LU its k (acc++its),<- e,nX,yo]
section
variable{X:Cx}{pins:List (Addr × Obj)}{σ:St}{H:Hp}{s:Shared}{l b:Addr}{xs ys zs:List V}
theorem Inv.LV{its its':List Value}{n:Nat}{f:Array Value->Array Value}{t':Nat}(I:Inv X pins σ H s)(hH:H l=some (.lst xs))
  (e:s.heap.get? l=some { cls:=.type "list",data:=.seq its.toArray n }) (hf:f its.toArray=its'.toArray) (hv:Vals ys its') (hz:ys.length<=sizeLine) :
  Inv X pins σ (upd H l (.lst ys)) { s with heap:=s.heap.update l (mB f),toks:=t' }:=by
 have q:=PySem.IsL.update e f
 rw[hf]at q
 refine I.write (x:=l) (e:=l) (by rw[hH];exact trivial) (.inl rfl) (λb' u hb hu=>(km s.heap (mB f) (dy hb)).trans hu) ⟨_,q⟩ ?_
 exact⟨hz,its',_,hv,q⟩
theorem Inv.LW{its:List Value}{t':Nat}(I:Inv X pins σ H s)(hv:Vals ys its)(hz:ys.length<=sizeLine) :
  Inv X pins σ (upd H s.heap.objs.size (.lst ys)) { s with heap:=s.heap.push { cls:=.type "list",data:=.seq its.toArray },toks:=t' } :=
 I.laid (λ_ _ q=>bY _ q) (aX _) ⟨hz,its,0,hv,cX _ rfl⟩
theorem Inv.fresh(I:Inv X pins σ H s):H s.heap.objs.size=none:=I.ay.fresh (aX _)
theorem Inv.vE(I:Inv X pins σ H s)(hH:H l=some (.lst xs)):xs.length<=sizeLine/\∃(its:List Value) (n:Nat),Vals xs its/\xs.length=its.length/\s.heap.get? l=some { cls:=.type "list",data:=.seq its.toArray n }:=by
 obtain⟨z,its,n,r,e⟩:=I.ay l _ hH
 exact⟨z,its,n,r,r.length,e⟩
theorem VL{n:Nat}(h:n<=sizeLine):Kv n=false:=by
 unfold Kv
 exact decide_eq_false (by omega)
end
section
variable{X:Cx}
noncomputable def VM:V->List V->Hp->VK->Prop:=λx vs H Q=>∃l xs y,x=.ref l/\vs=[y]/\H l=some (.lst xs)/\xs.length<sizeLine/\Q .ak (upd H l (.lst (xs++[y])))
theorem LX:LS X "list.append" VM:=by
 intro pins s σ H x vs v us Q I rx rv h
 obtain⟨l,xs,y,rfl,rfl,hH,hz,q⟩:=h
 cases rx
 obtain⟨u,rfl,ru⟩:=rv.one
 obtain⟨z,its,n,r,hl,e⟩:=I.vE hH
 refine call_meets F.slot_list_append ⟨_,e,rfl⟩ F.entry_list_append (F.args_list_append_2 _ _) (PySem.list_append l its.toArray n u (by rw[cZ];omega)) ⟨e,?_⟩
 refine⟨.ak,_,I.LV (its':=its++[u]) hH e (by simp) (r.append (.cons ru .nil)) ?_,rfl,q⟩
 rw[fh,List.length_singleton]
 omega
noncomputable def VN:V->List V->Hp->VK->Prop:=λx vs H Q=>∃l xs,x=.ref l/\vs=[]/\H l=some (.lst xs)/\Q .ak (upd H l (.lst xs.reverse))
theorem VO:LS X "list.reverse" VN:=by
 intro pins s σ H x vs v us Q I rx rv h
 obtain⟨l,xs,rfl,rfl,hH,q⟩:=h
 cases rx
 have VP:=rv.zero
 subst VP
 obtain⟨z,its,n,r,hl,e⟩:=I.vE hH
 refine call_meets F.slot_list_reverse ⟨_,e,rfl⟩ F.entry_list_reverse (F.args_list_reverse_1 _) (AutoSeq1.list_reverse_list_0 l its.toArray n (by rw[cZ];omega)) ⟨e,?_⟩
 refine⟨.ak,_,I.LV (its':=its.reverse) hH e (by simp) r.reverse ?_,rfl,q⟩
 rw[Sv]
 omega
noncomputable def VQ:R2:=λx y H Q=>∃l b xs zs,x=.ref l/\y=.ref b/\H l=some (.lst xs)/\H b=some (.lst zs)/\xs.length+zs.length<=sizeLine/\∀p,H p=none->Q (.ref p) (upd H p (.lst (xs++zs)))
theorem LY:cg X (binaryOp .Add) VQ:=by
 intro pins s σ H x y v u Q I rx ry h
 obtain⟨l,b,xs,zs,rfl,rfl,hH,hB,hz,q⟩:=h
 cases rx
 cases ry
 obtain⟨z,its,n,r,hl,e⟩:=I.vE hH
 obtain⟨z2,LZ,n2,r2,oI,e2⟩:=I.vE hB
 refine PySem.P.add_list e e2 ?_ (by rw[cZ,cZ];omega)
 have ea:its.toArray++LZ.toArray=(its++LZ).toArray:=by simp
 rw[ea]
 exact⟨.ref _,_,I.LW (t':=s.toks) (r.append r2) (by rw[fh];omega),rfl,q _ I.fresh⟩
noncomputable def VR:R2:=λx y H Q=>∃l k xs,x=.ref l/\y=.int k/\H l=some (.lst xs)/\-(2 ^ 63)<=k/\k<2 ^ 63/\xs.length*k.toNat<=sizeLine /\
 ∀p,H p=none->Q (.ref p) (upd H p (.lst (bh k.toNat xs).flatten))
theorem VS{α:Type}(xs:List α)(k:Nat):(bh k xs).flatten.length=k*xs.length:=by
 induction k with
 | zero=>simp
 | succ k ih=>rw[nX,qA,fh,ih,Nat.succ_mul,Nat.add_comm]
theorem VT:cg X (binaryOp .Mult) VR:=by
 intro pins s σ H x y v u Q I rx ry h
 obtain⟨l,k,xs,rfl,rfl,hH,h1,h2,hz,q⟩:=h
 cases rx
 obtain⟨t,rfl⟩:=ry
 obtain⟨z,its,n,r,hl,e⟩:=I.vE hH
 have hlen:its.toArray.size*k.toNat<=sizeLine:=by rw[cZ,<- hl];exact hz
 have VU:¬ its.toArray.size*k.toNat>(2 ^ 63-1)/8:=by
  have:(sizeLine:Nat)<=(2 ^ 63-1)/8:=by decide
  omega
 have VV:¬ (!Builtin.List.listFitsIndex k)=true:=by
  rw[fitsIndex_both h1 h2]
  exact hJ
 have VW:¬ Kv (its.toArray.size*k.toNat)=true:=by
  rw[VL hlen]
  exact hJ
 have VX:List.foldl (λx1 x2=>x1++x2) #[] (bh (if its.toArray.isEmpty=true then 0 else k.toNat) its.toArray)=(bh k.toNat its).flatten.toArray:=by
  have f0:∀m:Nat,List.foldl (λx1 x2=>x1++x2) #[] (bh m its.toArray)=(bh m its).flatten.toArray:=λm=>by
   have:=LU its m []
   rw[nY]at this
   exact this
  rw[f0]
  cases its with
  | nil=>simp
  | cons a r'=>rw[if_neg (by simp)]
 refine wpAny_binaryOp_repeat_ref (T:="list") (U:="int") (by decide) ⟨_,e,rfl⟩ (λs'=>typeIs_int s' k t) noFill_list_mul F.fills_int_mul F.slot_int_rmul repeat_list F.slot_int_index.lookup
  (call_meets F.slot_int_rmul (typeIs_int s k t) F.entry_int_rmul (F.args_int_rmul_2 _ _) (int___rmul___int_list k t l its.toArray n)
   ⟨e,rfl,⟨_,e,rfl⟩,call_meets F.slot_list_mul ⟨_,e,rfl⟩ F.entry_list_mul (F.args_list_mul_2 _ _) (AutoListH.list___mul___list_int_3 l its.toArray n k t VV VU VW) ⟨e,?_⟩⟩)
 rw[VX]
 exact⟨.ref _,_,I.LW (t':=s.toks) (r.rep k.toNat) (by rw[VS,kn];exact hz),rfl,q _ I.fresh⟩
end
section
variable{prog:Program}{w:World}{A:Around}{E:Value->Shared->Prop}{s:Shared}
end
section
variable{X:Cx}
end
end L2
namespace Att
open PySem PySem.W PySem.Calls PyProof.Rows
theorem VY{P:Params}{h:Heap}:∀(ns:List Int) (vs:List Value),WellAll P h vs (ns.map WData.int)->IntsAre vs ns:=by
 intro ns
 induction ns with
 | nil =>
  intro vs w
  rw[mx]at w
  cases w
  exact .nil
 | cons n ns ih =>
  intro vs w
  rw[dF]at w
  cases w with
  | cons a b =>
   cases a
   exact .cons _ _ (ih _ b)
theorem VZ{l:OpenLaw}{n:Nat}(hn:l.most=some n){P:Params}{h:Heap}{args:List WData}{vals:List Value}
  (zc:l.row.toRowW.claim.pre args=true) (Dc:WellAll P h vals args) :
  ∃a vs ns,vals=[dN a]/\args=[WData.list (ns.map WData.int)]/\h.get? a=some { cls:=.type "list",data:=.seq vs.toArray }/\IntsAre vs ns/\ns.length<=n:=by
 have mS:WShape.hasAll [] args [.list .int]=true:=(pre_splitW zc).1
 have hc:l.pre.holds [] { args:=args }=true:=(pre_splitW zc).2
 obtain⟨d,r,rfl,h1,h2⟩:=hasAllW_cons mS
 obtain rfl:=hasAllW_nil h2
 obtain⟨xs,rfl,h3⟩:=hasW_list h1
 obtain⟨ns,rfl⟩:=items_int h3
 have hlen:ns.length<=n:=by
  unfold OpenLaw.pre at hc
  have h4:(WTm.not (.lt (.lit (.int (n:Int))) (.len (.arg 0)))).holds [] { args:=[.list (ns.map .int)] }=true:=by
   have h4:=(holds_andW hc).1
   rw[hn]at h4
   exact h4
  have h5:=condW_of h4 (w_not (w_lt w_lit (w_len_list (w_arg rfl))))
  rw[bU]at h5
  refine yp λq=>?_
  have q':(n:Int)<((ns.length:Nat):Int):=by omega
  first
   | (rw[decide_eq_true q']at h5;exact absurd h5 (by decide))
   | (simp at h5;omega)
 cases Dc with
 | cons w1 w2 =>
  cases w2
  cases w1 with
  | list ho V0=>exact⟨_,_,ns,rfl,rfl,ho,VY ns _ V0,hlen⟩
theorem V1(l:OpenLaw)(args:List WData):l.row.toRowW.claim.post args (.bool true) args=true :=
 postW_of (r:=l.row.toRowW) (X:=(true==true))
  (show WShape.has [] (.bool true) .bool=true by first | rfl | decide | simp[WShape.has,WShape.arms,WShape.armsAll])
  (show(WTm.eq .res (.lit (.bool true))).value [] { args:=args,res:=some (.bool true),after:=args }=some (.bool (true==true)) from w_eq_bool (w_res rfl) w_lit) rfl
theorem V2{l:OpenLaw}{n:Nat}{q:Program}{loose:List Str}{XP:(Str->Option Value)->Heap->Prop}{YP:World->Heap->Prop}{d:DefRec}
  (hn:l.most=some n) (vF:d.params.defaults=[])
  (call:∀(w:World) (bQ bj:Shared) (mg mb:Str->Option Value) (fa:Addr) (o:Obj) (pm cd doc:Value) (a:Addr) (vs:List Value) (ns:List Int),
   Ground q loose [] XP w bQ mg mb bj.heap->YP w bj.heap ->
   bj.heap.get? fa=some o->o.data=.func (docDef d.name d.params d.body d.scope pm cd doc)->bj.heap.CodeRec cd d.name->mg d.name=some (.ref fa) ->
   bj.heap.get? a=some { cls:=.type "list",data:=.seq vs.toArray }->IntsAre vs ns->ns.length<=n->bj.gens=#[] ->
   codeAny (model l.prog w) callerA (.call (.ref fa) ⟨[.ref a],[]⟩) (λr s'=>r=.ok (.ret (.bool true))/\OldK bj.heap s'.heap/\s'.os=bj.os/\AllBare s'.gens) bj) :
  WalkO q loose XP YP l.row.toRowW d [] (λf vs=>PySem.call f vs):=by
 intro w bQ bj mg mb G Y fa o pm cd doc dV kV ho hd bV hD vG hg args vals as zc dA6 hrd Dc kG
 obtain rfl:dV=.none:=Dflts.none hD vF
 obtain rfl:kV=.none:=Dflts.noKw hD
 obtain⟨a,vs,ns,rfl,rfl,De,hints,hlen⟩:=VZ hn zc Dc
 refine enter_call (codeAny_mono (call w bQ bj mg mb fa o pm cd doc a vs ns G Y ho (fd_plain hd) bV vG De hints hlen hg) λr s' hq=>?_)
 obtain⟨rfl,h2,h3,h4⟩:=hq
 exact⟨.inl ⟨.bool true,.bool true,[],rfl,λ_=>rfl,.bool true,V1 l _,λ_=>⟨Kw,λ_ hm=>(nomatch hm)⟩⟩,h2,h3,h4⟩
section
variable{prog:Program}{w:World}{A:Around}{E:Value->Shared->Prop}{s:Shared}{K:Frag}
noncomputable def cr4(h:Heap)(L d:Addr):List (Addr × Obj):=(aR h.objs.size).filterMap λa=>if a=L\/a=d then none else(h.get? a).map λo=>(a,o)
end
end Att
namespace L2
open PySem PySem.Spec PyProof.Rows
theorem L0:∀{vs:List Value} {ns:List Int},IntsAre vs ns->Vals (ns.map V.int) vs
 | _,_,.nil=>.nil
 | _,_,.cons n t h=>.cons ⟨t,rfl⟩ (L0 h)
end L2
namespace L2
open PySem PySem.Spec PyProof.Rows
end L2
/- THE dB0 dB1 (shape;LID,My.* are dB3):
   My.mT: a structure of L4 addresses dB4 dB5 dB6 names (classes,dB7);My.Txt K t: a structure (Prop) of L4 equations over K;
   My.dB8:{K} {implicit addresses ..} (e1:nsIn K mainGlobals "law"=some (some (.ref f))) (e2:K.lookup f=some ⟨oc,od,.func (fnOf "law" "law" params body scope dV kV doc pm an aG ct),sl⟩) (e3:codeIn K aG "law"=true) ..:∃t,My.Txt K t
(L4 tactic k_is has no namespace: write k_is) -/
namespace L2
open PySem PySem.Spec PyProof.Rows
noncomputable def kH(s:Stmt)(j:Nat):Stmt:=match s with
 | .ClassDef _ _ _ body _ _ _ _ _ _ _=>body.getD j (.Pass ⟨0,0,0,0⟩)
 | _=>.Pass ⟨0,0,0,0⟩
noncomputable def bC(s:Stmt):Arguments:=match s with
 | .FunctionDef _ a _ _ _ _ _ _ _ _=>a
 | _=>{ posonlyargs:=[],args:=[],vararg:=none,kwonlyargs:=[],kw_defaults:=[],kwarg:=none,defaults:=[] }
noncomputable def br(s:Stmt):List Stmt:=match s with
 | .FunctionDef _ _ b _ _ _ _ _ _ _=>b
 | _=>[]
noncomputable def az(s:Stmt):Scope:=match s with
 | .FunctionDef _ _ _ _ _ _ sc _ _ _=>sc
 | _=>{ kind:=.function,names:=[],isGenerator:=false,isCoroutine:=false }
noncomputable abbrev aY:dA:=λ_ _ _ _ _ _=>False
noncomputable abbrev E0:XK:=λ_ _ _=>False
theorem aZ{X:Cx}:jQ aY X E0:=λ_ _ _ _ _ _ _ h=>h.elim
structure bw(K:PySem.W.Frag)(x qual:Str)(st:Stmt)(f:Addr)(fd:FuncData):Prop where
 ex:∃(oc:Value) (od:Option Addr) (kV doc pm:Value) (an:Option Addr) (aG ct:Value) (jR:Array (Option Value)),
  fd=PySem.W.fnOf x qual (bC st) (br st) (az st) .none kV doc pm an aG ct/\K.lookup f=some ⟨oc,od,.func fd,jR⟩/\PySem.W.codeIn K aG qual=true
 kp:PySem.W.keepIn K (.ref f)=true
section
variable{P:Program}{w:World}{K:PySem.W.Frag}{mg:Str->Option Value}{base:Heap}
theorem bw.ok{x qual:Str}{st:Stmt}{f:Addr}{fd:FuncData}{N ps:List Str}{k:Nat}{sp:Sp}(F:bw K x qual st f fd)(S:bB N ps (az st))(len:∀vs H Q E,sp vs H Q E->vs.length=ps.length)
  (gh:∀(aG:Value) (A:Around) (outer:List Env) (s:Shared) (H:Hp) (vs:List V) (Q:VK) (E:XK),bK k (A.deeper (envOfC qual (az st) s.heap.objs.size f aG))->sp vs H Q E ->
   ∃t,PSs (gG aY P w K mg base N qual (az st) f aG A outer s H E).eR (br st) t/\t { nx:=λ_ H'=>Q .ak H',rt:=Q } (start N vs) H):aO P w K mg base aY (k+1) f fd ps sp:=by
 obtain⟨oc,od,kV,doc,pm,an,aG,ct,jR,rfl,lk,bV⟩:=F.ex
 refine CW lk bV S len λA outer s H vs Q E hr gH=>?_
 obtain⟨t,h,q⟩:=gh aG A outer s H vs Q E hr gH
 exact⟨t,h.eR,q⟩
theorem bw.binds{x qual:Str}{st:Stmt}{f:Addr}{fd:FuncData}{ps:List Str}(F:bw K x qual st f fd)
  (h:∀(kV doc pm:Value) (an:Option Addr) (aG ct:Value) (us:List Value),us.length=ps.length->bindArgs (PySem.W.fnOf x qual (bC st) (br st) (az st) .none kV doc pm an aG ct) ⟨us,[]⟩=pure (ps.zip us)):Binds K fd ps []:=by
 obtain⟨oc,od,kV,doc,pm,an,aG,ct,jR,rfl,lk,bV⟩:=F.ex
 exact .all (h kV doc pm an aG ct)
theorem bN{x qual:Str}{st:Stmt}{f:Addr}{oc:Value}{od an:Option Addr}{jR:Array (Option Value)}{kV doc pm aG ct:Value}(l:K.lookup f=some ⟨oc,od,.func (PySem.W.fnOf x qual (bC st) (br st) (az st) .none kV doc pm an aG ct),jR⟩)
  (c:PySem.W.codeIn K aG qual=true) (k:PySem.W.keepIn K (.ref f)=true):bw K x qual st f (PySem.W.fnOf x qual (bC st) (br st) (az st) .none kV doc pm an aG ct):=⟨⟨oc,od,kV,doc,pm,an,aG,ct,jR,rfl,l,c⟩,k⟩
end
section
variable{X:Cx}
theorem pv(i:Nat){x:Str}{pos:Pos}(hN:X.N[i]?=some x:=by rfl)(hv:i8 X.env.scope x:=by first | exact au rfl | exact bu (au rfl) | exact bu (bu rfl))(hd:(x==("__debug__":Str))=false:=by decide)
  (bV:(x==("__classdict__":Str))=false:=by decide):PE X (.Name x pos) (Le i):=mL hN hv hd bV
end
theorem kI{A B:Prop}(h:B):if false=true then A else B:=by
 rw[if_neg hJ]
 exact h
theorem oJ{A B:Prop}(h:A):if true=true then A else B:=by
 rw[if_pos rfl]
 exact h
noncomputable def aa(H H':Hp):Prop:=∀b o,H b=some o->H' b=some o
theorem aa.refl(H:Hp):aa H H:=λ_ _ h=>h
theorem aa.trans{H H1 H2:Hp}(a:aa H H1)(b:aa H1 H2):aa H H2:=λc o h=>b c o (a c o h)
theorem aa.free{H H':Hp}(e:aa H H'){l:Addr}(h:H' l=BX):H l=BX:=by
 cases q:H l with
 | none=>rfl
 | some o =>
  rw[e l o q]at h
  cases h
theorem aa.seq{K:PySem.W.Frag}{H H':Hp}{a:Addr}{xs:List V}(e:aa H H')(h:bq K H a xs):bq K H' a xs:=by
 rcases h with (h | ⟨o,h⟩) | h
 ·exact .inl (.inl (e _ _ h))
 ·exact .inl (.inr ⟨o,e _ _ h⟩)
 ·exact .inr h
end L2
namespace Mf
noncomputable def bl(n:Nat):Nat:=if n=0 then 0 else n.log2+1
theorem dn{n m:Nat}:bl n<=m↔n<2 ^ m:=by
 unfold bl
 by_cases h:n=0
 ·simp[h,uZ]
 ·rw[if_neg h]
  rw[<-Nat.log2_lt h]
  omega
theorem Df{n m:Nat}:m<bl n↔2 ^ m<=n:=by
 have:=@dn n m
 omega
theorem gJ(n:Nat):n<2 ^ bl n:=dn.mp (aX _)
theorem L5{n:Nat}(h:n≠0):2 ^ (bl n-1)<=n:=by
 have:0<bl n:=by unfold bl;rw[if_neg h];omega
 exact Df.mp (by omega)
theorem fH{n:Nat}(h:n≠0):0<bl n:=by
 unfold bl;rw[if_neg h];omega
theorem kJ:bl 0=0:=rfl
theorem qW{n:Nat}(h:n≠0):n.testBit (bl n-1)=true:=by
 have h1:=L5 h
 have h2:=gJ n
 have hp:=fH h
 have e:bl n=(bl n-1)+1:=by omega
 rw[e,nZ]at h2
 rw[Sw]
 have:n/2 ^ (bl n-1)=1:=by
  apply Nat.div_eq_of_lt_le
  ·omega
  ·omega
 rw[this];rfl
theorem V3{x n:Nat}(h:∀i,n<=i->x.testBit i=false):x<2 ^ n:=by
 apply Nat.lt_pow_two_of_testBit
 intro i hi
 exact h i hi
theorem L6{x y n:Nat}(hx:x<2 ^ (n+1))(hy:y<2 ^ (n+1))(tx:x.testBit n=true)(ty:y.testBit n=true):x ^^^ y<2 ^ n:=by
 apply V3
 intro i hi
 rw[kq]
 by_cases e:i=n
 ·rw[e,tx,ty];rfl
 ·have dW:n+1<=i:=by omega
  have p:2 ^ (n+1)<=2 ^ i:=yq (by decide) dW
  rw[BY (cq hx p),BY (cq hy p)]
  rfl
theorem L7(x y z:Nat):(x ^^^ y) ^^^ (z ^^^ y)=x ^^^ z:=by
 apply yr;intro i;simp only[kq]
 cases x.testBit i<;>cases y.testBit i<;>cases z.testBit i<;>rfl
theorem L8(x y z t:Nat):(x ^^^ y) ^^^ (z ^^^ t)=(x ^^^ z) ^^^ (y ^^^ t):=by
 apply yr;intro i;simp only[kq]
 cases x.testBit i<;>cases y.testBit i<;>cases z.testBit i<;>cases t.testBit i<;>rfl
noncomputable def P(a b:Nat):Nat->Nat
 | 0=>0
 | k+1=>P a b k ^^^ (if b.testBit k then a <<< k else 0)
noncomputable def cl(a b:Nat):Nat:=P a b (bl b)
theorem L9{a b k:Nat}(h:b<2 ^ k):∀j,P a b (k+j)=P a b k
 | 0=>rfl
 | j+1=>by
  show P a b (k+j) ^^^ (if b.testBit (k+j)then a <<< (k+j)else 0)=_
  rw[L9 h j]
  have p:2 ^ k<=2 ^ (k+j):=yq (by decide) (by omega)
  rw[BY (cq h p)]
  simp
theorem qX{a b k:Nat}(h:b<2 ^ k):P a b k=cl a b:=by
 have h1:=dn.mpr h
 have e:k=bl b+(k-bl b):=by omega
 rw[e,L9 (gJ b)]
 rfl
theorem Ma(a a' b:Nat):∀k,P (a ^^^ a') b k=P a b k ^^^ P a' b k
 | 0=>(jK 0).symm
 | k+1=>by
  show P (a ^^^ a') b k ^^^ _=(P a b k ^^^ _) ^^^ (P a' b k ^^^ _)
  rw[Ma a a' b k]
  by_cases t:b.testBit k=true
  ·rw[if_pos t,if_pos t,if_pos t,Sx]
   ac_rfl
  ·rw[if_neg t,if_neg t,if_neg t]
   simp
theorem Mb(a b b':Nat):∀k,P a (b ^^^ b') k=P a b k ^^^ P a b' k
 | 0=>(jK 0).symm
 | k+1=>by
  show P a (b ^^^ b') k ^^^ _=(P a b k ^^^ _) ^^^ (P a b' k ^^^ _)
  rw[Mb a b b' k,kq]
  cases b.testBit k<;>cases b'.testBit k<;>simp
  ·ac_rfl
  ·ac_rfl
  ·exact(L7 _ _ _).symm
theorem mU(a a' b:Nat):cl (a ^^^ a') b=cl a b ^^^ cl a' b:=Ma a a' b _
theorem qY{x y n:Nat}(hx:x<2 ^ n)(hy:y<2 ^ n):x ^^^ y<2 ^ n:=Nat.xor_lt_two_pow hx hy
theorem V4(a b b':Nat):cl a (b ^^^ b')=cl a b ^^^ cl a b':=by
 let k:=bl b+bl b'
 have h1:b<2 ^ k:=dn.mp (by omega)
 have h2:b'<2 ^ k:=dn.mp (by omega)
 rw[<-qX (qY h1 h2),<- qX h1,<- qX h2,Mb]
theorem V5(a:Nat):cl a 0=0:=rfl
theorem Mc(b:Nat):∀k,P 0 b k=0
 | 0=>rfl
 | k+1=>by
  show P 0 b k ^^^ _=0
  rw[Mc b k];simp
theorem mV(b:Nat):cl 0 b=0:=Mc b _
theorem V6(b k:Nat):(b/2).testBit k=b.testBit (k+1):=by
 rw[BZ]
theorem Md(a b:Nat):∀k,P a b (k+1)=(if b%2=1 then a else 0) ^^^ P (2*a) (b/2) k
 | 0=>by
  show 0 ^^^ _=_ ^^^ 0
  rw[mC,jK,yt]
  simp
 | k+1=>by
  show P a b (k+1) ^^^ _=_ ^^^ (P (2*a) (b/2) k ^^^ _)
  rw[Md a b k,V6,n5]
  have e:a <<< (k+1)=(2*a) <<< k:=by
   rw[i3,i3,nZ]
   rw[kn 2 a,qB,kn 2]
  rw[e]
theorem Me{b k:Nat}(h:b<2 ^ (k+1)):b/2<2 ^ k:=by
 rw[nZ]at h;omega
theorem Mg(a b:Nat):cl a b=(if b%2=1 then a else 0) ^^^ cl (2*a) (b/2):=by
 have h:b<2 ^ (bl b+1):=Nat.lt_trans (gJ b) (by rw[nZ];have:=uZ (bl b);omega)
 rw[<-qX h,Md,qX (Me h)]
theorem Mh(a b:Nat):∀k,P (2*a) b k=2*P a b k
 | 0=>rfl
 | k+1=>by
  show P (2*a) b k ^^^ _=2*(P a b k ^^^ _)
  rw[Mh a b k]
  have d:∀x y:Nat,2*(x ^^^ y)=2*x ^^^ 2*y:=by
   intro x y
   have h:=@Sx 1 x y
   rw[i3,i3,i3,Nat.pow_one]at h
   rw[kn 2 (x ^^^ y),kn 2 x,kn 2 y]
   exact h
  rw[d]
  by_cases t:b.testBit k=true
  ·rw[if_pos t,if_pos t,i3,i3,qB]
  ·rw[if_neg t,if_neg t]
theorem Dg(a b:Nat):cl (2*a) b=2*cl a b:=Mh a b _
theorem vH(a c t:Nat)(ht:t<2):cl a (2*c+t)=2*cl a c ^^^ (if t=1 then a else 0):=by
 rw[Mg,Dg,Kx]
 have e1:(2*c+t)/2=c:=by omega
 have e2:(2*c+t)%2=t:=by omega
 rw[e1,e2]
theorem V7(a c:Nat):cl a (2*c)=2*cl a c:=by
 have h:=vH a c 0 (by decide)
 simpa using h
theorem Mi(c t:Nat)(ht:t<2):2*c ^^^ t=2*c+t:=by
 apply yr
 intro i
 cases i with
 | zero =>
  rw[kq,yt,yt,yt]
  have:t=0\/t=1:=by omega
  rcases this with h | h<;>subst h<;>simp<;>omega
 | succ i =>
  rw[kq,BZ,BZ,BZ]
  have e1:2*c/2=c:=by omega
  have e2:t/2=0:=by omega
  have e3:(2*c+t)/2=c:=by omega
  rw[e1,e2,e3];simp
theorem Dh:∀b:Nat,cl 1 b=b:=by
 intro b
 induction b using B0 with
 | ind b ih =>
  by_cases h:b=0
  ·subst h;rfl
  ·have e:b=2*(b/2)+b%2:=by omega
   rw[e,vH 1 (b/2) (b%2) (by omega),ih (b/2) (by omega)]
   have:b%2=0\/b%2=1:=by omega
   rcases this with h | h
   ·rw[h];simp
   ·rw[h];rw[if_pos rfl];exact Mi _ _ (by decide)
theorem vI:∀b a:Nat,cl a b=cl b a:=by
 intro b
 induction b using B0 with
 | ind b ih =>
  intro a
  by_cases h:b=0
  ·subst h;rw[mV];rfl
  ·have e:b=2*(b/2)+b%2:=by omega
   have lt:b%2<2:=by omega
   have e':cl b a=cl (2*(b/2) ^^^ b%2) a:=by rw[Mi _ _ lt,<- e]
   rw[e',mU,Dg,<- ih (b/2) (by omega) a]
   have V8:cl a b=cl a (2*(b/2)+b%2):=by rw[<-e]
   rw[V8,vH _ _ _ lt]
   have:b%2=0\/b%2=1:=by omega
   rcases this with h | h
   ·rw[h,mV];rfl
   ·rw[h,Dh];rfl
theorem Di{a m:Nat}(h:a<2 ^ m)(b:Nat):∀k,P a b (k+1)<2 ^ (m+k)
 | 0=>by
  show 0 ^^^ _<_
  rw[mC,Nat.add_zero]
  by_cases t:b.testBit 0=true
  ·rw[if_pos t];simpa using h
  ·rw[if_neg t];exact uZ m
 | k+1=>by
  show P a b (k+1) ^^^ _<_
  have i:=Di h b k
  have p:2 ^ (m+k)<=2 ^ (m+(k+1)):=yq (by decide) (by omega)
  apply qY (cq i p)
  by_cases t:b.testBit (k+1)=true
  ·rw[if_pos t,i3,Nat.pow_add 2 m]
   exact(Sy (uZ _)).mpr h
  ·rw[if_neg t];exact uZ _
theorem V9{a b m n:Nat}(h:a<2 ^ m)(h':b<2 ^ (n+1)):cl a b<2 ^ (m+n):=by
 rw[<-qX h'];exact Di h b n
theorem Wa{a b:Nat}(ha:a≠0)(hb:b≠0):2 ^ (bl a-1+(bl b-1))<=cl a b:=by
 have e:bl b=(bl b-1)+1:=by have:=fH hb;omega
 have ta:=qW ha
 have tb:=qW hb
 apply Nat.ge_two_pow_of_testBit
 unfold cl
 rw[e]
 show(P a b (bl b-1) ^^^ _).testBit _=true
 have e2:bl b-1+1-1=bl b-1:=by omega
 rw[e2,kq,if_pos tb]
 have f:(P a b (bl b-1)).testBit (bl a-1+(bl b-1))=false:=by
  cases q:bl b-1 with
  | zero=>show Nat.testBit 0 _=false;exact Nat.zero_testBit _
  | succ k =>
   apply BY
   have l:=Di (gJ a) b k
   have p:=fH ha
   have e3:bl a-1+(k+1)=bl a+k:=by omega
   rw[e3];exact l
 rw[f,Sz]
 have e4:bl a-1+(bl b-1)-(bl b-1)=bl a-1:=by omega
 rw[e4,ta]
 simp
theorem Mj{a b:Nat}(ha:a≠0)(hb:b≠0):bl (cl a b)=bl a+bl b-1:=by
 have p1:=fH ha
 have p2:=fH hb
 have h1:bl (cl a b)<=bl a+(bl b-1):=dn.mpr (V9 (gJ a) (by
  have e:bl b-1+1=bl b:=by omega
  rw[e];exact gJ b))
 have h2:=Df.mpr (Wa ha hb)
 omega
theorem Ml(s b:Nat):cl (2 ^ s) b=b <<< s:=by
 induction s with
 | zero=>rw[Nat.pow_zero,Dh];rfl
 | succ s ih =>
  rw[nZ,kn,Dg,ih,i3,i3,nZ]
  rw[<-qB,kn 2,qB,kn 2,<- qB,qB]
theorem Wb{a q b r s:Nat}(h:a=cl q b ^^^ r):a=cl (q ^^^ 2 ^ s) b ^^^ (r ^^^ b <<< s):=by
 rw[mU,Ml,h,L7]
theorem Mm{b r:Nat}(hb:b≠0)(h:bl b<=bl r):bl (r ^^^ b <<< (bl r-bl b))<bl r:=by
 have p:=fH hb
 have hr:r≠0:=by
  intro z;rw[z,kJ]at h;omega
 have:r ^^^ b <<< (bl r-bl b)<2 ^ (bl r-1):=by
  apply L6
  ·have e:bl r-1+1=bl r:=by omega
   rw[e];exact gJ r
  ·have e:bl r-1+1=bl b+(bl r-bl b):=by omega
   rw[e,i3,Nat.pow_add]
   exact(Sy (uZ _)).mpr (gJ b)
  ·exact qW hr
  ·rw[Sz]
   have e:bl r-1-(bl r-bl b)=bl b-1:=by omega
   rw[e,qW hb]
   simp;omega
 have:=dn.mpr this
 omega
theorem Wc{x y z:Nat}(h:x ^^^ y=z):x=z ^^^ y:=by
 rw[<-h,n5,yu,jK]
theorem Dj{x y:Nat}(h:x ^^^ y=0):x=y:=by
 have:=Wc h
 rwa [mC]at this
theorem Wd{b q r q' r':Nat}(h:cl q b ^^^ r=cl q' b ^^^ r')(hr:bl r<bl b)(cC:bl r'<bl b):q=q'/\r=r':=by
 have hb:b≠0:=by intro z;rw[z,kJ]at hr;omega
 have e:cl (q ^^^ q') b=r ^^^ r':=by
  rw[mU]
  have z:(cl q b ^^^ r) ^^^ (cl q' b ^^^ r')=0:=by rw[h,yu]
  rw[L8]at z
  exact Dj z
 have lt:bl (r ^^^ r')<bl b:=by
  have h1:r<2 ^ (bl b-1):=dn.mp (by omega)
  have h2:r'<2 ^ (bl b-1):=dn.mp (by omega)
  have:=dn.mpr (qY h1 h2)
  have:=fH hb
  omega
 have z:q ^^^ q'=0:=by
  apply SA
  intro hq
  have h1:=Mj hq hb
  have h2:=fH hq
  rw[e]at h1
  omega
 have zq:=Dj z
 subst zq
 rw[z,mV]at e
 exact⟨rfl,Dj e.symm⟩
end Mf
namespace Mf
open PySem PySem.Builtin.Int
theorem We(x y:Nat):(x ^^^ y)+2*(x &&& y)=x+y:=by
 induction x using B0 generalizing y with
 | ind x ih =>
  by_cases h:x=0
  ·subst h;simp
  ·have h1:=ih (x/2) (by omega) (y/2)
   have e1:(x ^^^ y)/2=x/2 ^^^ y/2:=Nat.xor_div_two
   have e2:(x &&& y)/2=x/2 &&& y/2:=Nat.and_div_two
   have t:∀n:Nat,n%2=if n.testBit 0=true then 1 else 0:=by
    intro n
    rw[yt]
    by_cases h:n%2=1
    ·simp[h]
    ·simp[h];omega
   have m1:(x ^^^ y)%2=(x%2+y%2)%2:=by
    rw[t (x ^^^ y),t x,t y,kq]
    cases x.testBit 0<;>cases y.testBit 0<;>rfl
   have m2:(x &&& y)%2=x%2*(y%2):=by
    rw[t (x &&& y),t x,t y,Ky]
    cases x.testBit 0<;>cases y.testBit 0<;>rfl
   have d1:=Nat.div_add_mod (x ^^^ y) 2
   have d2:=Nat.div_add_mod (x &&& y) 2
   rw[e1]at d1
   rw[e2]at d2
   have hx:x%2=0\/x%2=1:=by omega
   have hy:y%2=0\/y%2=1:=by omega
   rcases hx with hx | hx<;>rcases hy with hy | hy<;>rw[hx,hy]at m1 m2<;>omega
theorem Mn{x y:Int}(hx:0<=x)(hy:0<=y):mq x y=((x.toNat &&& y.toNat:Nat):Int):=by
 unfold mq
 rw[decide_eq_true hx,decide_eq_true hy]
theorem Wf{x y:Int}(hx:0<=x)(hy:0<=y):Builtin.bitOr x y=((x.toNat ||| y.toNat:Nat):Int):=by
 unfold Builtin.bitOr mq Builtin.bitNot
 rw[decide_eq_false (by omega),decide_eq_false (by omega)]
 show-(-((((- (-x-1)-1).toNat ||| (-(-y-1)-1).toNat:Nat):Int))-1)-1=_
 have e1:(- (-x-1)-1).toNat=x.toNat:=by omega
 have e2:(- (-y-1)-1).toNat=y.toNat:=by omega
 rw[e1,e2]
 omega
theorem Wg(x y:Nat):(x ||| y)=(x ^^^ y)+(x &&& y):=by
 have d:(x ^^^ y) &&& (x &&& y)=0:=by
  apply yr;intro i
  simp only[kq,Ky,Nat.zero_testBit]
  cases x.testBit i<;>cases y.testBit i<;>rfl
 have e:(x ||| y)=(x ^^^ y) ^^^ (x &&& y):=by
  apply yr;intro i
  simp only[kq,Ky,Nat.testBit_or]
  cases x.testBit i<;>cases y.testBit i<;>rfl
 have h:=We (x ^^^ y) (x &&& y)
 rw[d]at h
 rw[e];omega
theorem Wh{x y:Int}(hx:0<=x)(hy:0<=y):mr x y=((x.toNat ^^^ y.toNat:Nat):Int):=by
 unfold mr
 rw[Wf hx hy,Mn hx hy,Wg]
 omega
theorem oK(x y:Nat):mr (x:Int) (y:Int)=((x ^^^ y:Nat):Int):=by
 rw[Wh (by omega) (by omega)];rfl
theorem Mo(x y:Nat):mq (x:Int) (y:Int)=((x &&& y:Nat):Int):=by
 rw[Mn (by omega) (by omega)];rfl
theorem qZ(x k:Nat):(x:Int)*2 ^ ((k:Int)).toNat=((x <<< k:Nat):Int):=by
 rw[i3]
 simp
theorem Wi(x k:Nat):(x:Int)/2 ^ ((k:Int)).toNat=((x >>> k:Nat):Int):=by
 rw[SD]
 simp
theorem Wj(x k:Nat):((x >>> k) &&& 1=1)↔x.testBit k=true:=by
 rw[Sw,SD]
 have:(x/2 ^ k) &&& 1=(x/2 ^ k)%2:=Nat.and_two_pow_sub_one_eq_mod _ 1
 rw[this]
 simp
end Mf
namespace Mf
end Mf
namespace Mf
theorem Mp(a b:Nat):∀c,cl (cl a b) c=cl a (cl b c):=by
 intro c
 induction c using B0 with
 | ind c ih =>
  by_cases h:c=0
  ·subst h;rfl
  ·have e:c=2*(c/2)+c%2:=by omega
   have lt:c%2<2:=by omega
   have i:=ih (c/2) (by omega)
   rw[e,vH _ _ _ lt,vH _ _ _ lt,i,V4,V7]
   have:c%2=0\/c%2=1:=by omega
   rcases this with h | h
   ·rw[h];rfl
   ·rw[h];rfl
noncomputable def q8:Nat->Nat->Nat->Nat
 | 0,a,_=>a
 | n+1,a,b=>if bl a<bl b then a else q8 n (a ^^^ b <<< (bl a-bl b)) b
noncomputable def md(a b:Nat):Nat:=q8 (bl a+1) a b
theorem Mq{b:Nat}(hb:b≠0):∀n a,bl a<n->(∃q,a=cl q b ^^^ q8 n a b)/\bl (q8 n a b)<bl b
 | 0,_,h=>absurd h (by omega)
 | n+1,a,h=>by
  unfold q8
  by_cases l:bl a<bl b
  ·rw[if_pos l]
   exact⟨⟨0,by rw[mV,mC]⟩,l⟩
  ·rw[if_neg l]
   have Dk:=Mm hb (show bl b<=bl a by omega)
   obtain⟨⟨q,e⟩,l2⟩:=Mq hb n (a ^^^ b <<< (bl a-bl b)) (by omega)
   refine⟨⟨q ^^^ 2 ^ (bl a-bl b),?_⟩,l2⟩
   rw[mU,Ml]
   have e2:a=(a ^^^ b <<< (bl a-bl b)) ^^^ b <<< (bl a-bl b):=by rw[n5,yu,jK]
   rw[e]at e2
   refine e2.trans ?_
   generalize q8 n _ b=r
   rw[n5,Kx r,<- n5]
theorem vJ{b:Nat}(hb:b≠0)(a:Nat):(∃q,a=cl q b ^^^ md a b)/\bl (md a b)<bl b:=Mq hb _ a (by omega)
theorem vK{a b q r:Nat}(h:a=cl q b ^^^ r)(hr:bl r<bl b):md a b=r:=by
 have hb:b≠0:=by intro z;rw[z,kJ]at hr;omega
 obtain⟨⟨q',e⟩,l⟩:=vJ hb a
 exact(Wd (e.symm.trans h) l hr).2
theorem Wk(q:Nat){b:Nat}(hb:b≠0):md (cl q b) b=0 :=
 vK (q:=q) (by rw[jK]) (by rw[kJ];exact fH hb)
noncomputable def Mr:Nat->Nat->Nat->Nat
 | 0,a,_=>a
 | n+1,a,b=>if b=0 then a else Mr n b (md a b)
noncomputable def gc(a b:Nat):Nat:=Mr (bl b+1) a b
end Mf
namespace Mf
theorem Wl(y:Nat):bl (y/2)=bl y-1:=by
 by_cases h:y=0
 ·subst h;rfl
 ·have p:=fH h
  have h1:bl (y/2)<=bl y-1:=dn.mpr (Me (by
   have e:bl y-1+1=bl y:=by omega
   rw[e];exact gJ y))
  have h2:bl y<=bl (y/2)+1:=dn.mpr (by
   have:=gJ (y/2)
   rw[nZ];omega)
  omega
theorem Wm(x:Nat):bl (2*x)<=bl x+1:=dn.mpr (by
 have:=gJ x
 rw[nZ];omega)
theorem Dm{x y:Nat}(h:x<=y):bl x<=bl y:=dn.mpr (kr h (gJ y))
end Mf
namespace Mf
noncomputable def al(a:Nat):Bool:=decide (2<=a)&&(aR (2 ^ ((bl a-1)/2+1)-2)).all λi=>md a (2+i) != 0
theorem Wn{a:Nat}(h:a<2):al a=false:=by
 unfold al;rw[decide_eq_false (by omega)];rfl
theorem Wo{a:Nat}(h:2<=a)(k:∀i,i<2 ^ ((bl a-1)/2+1)-2->md a (2+i)≠0):al a=true:=by
 unfold al
 rw[decide_eq_true h,n6,dg]
 intro i hi
 have:=k i (dO.mp hi)
 simpa using this
theorem Wq{a i:Nat}(k:i<2 ^ ((bl a-1)/2+1)-2)(z:md a (2+i)=0):al a=false:=by
 unfold al
 rw[Bool.and_eq_false_iff]
 right
 rw[List.all_eq_false]
 exact⟨i,dO.mpr k,by simp[z]⟩
theorem Wr{a:Nat}(h:2<=a){b:Nat}(hb:b<2 ^ ((bl a-1)/2+1)):b<a/\2*bl b<=bl a+1:=by
 have h2:2<=bl a:=by
  have:=Df.mpr (show 2 ^ 1<=a by omega)
  omega
 have l:=dn.mpr hb
 refine⟨cq hb (dP (yq (by decide) ?_) (L5 (by omega))),by omega⟩
 omega
end Mf
namespace L2
open PySem PySem.Spec PyProof.Rows Mf
theorem fI:bootBuiltins "len"=some (.builtin "len"):=by decide +kernel
theorem Ws:bootBuiltins "isinstance"=some (.builtin "isinstance"):=by decide +kernel
theorem Wt:bootBuiltins "max"=some (.builtin "max"):=by decide +kernel
theorem zd:bootBuiltins "all"=some (.builtin "all"):=by decide +kernel
theorem Ms:bootBuiltins "int"=some (.type "int"):=by decide +kernel
theorem Wu:bootBuiltins "bool"=some (.type "bool"):=by decide +kernel
theorem ze:bootBuiltins "list"=some (.type "list"):=by decide +kernel
section
variable{X:Cx}{a b o:Expr}{ta tb to:TE}{pos apos bM:Pos}
theorem Mt(i:Int):Builtin.Int.intBits i=bl i.natAbs:=by
 unfold Builtin.Int.intBits bl
 by_cases h:i=0
 ·subst h;rfl
 ·have h':¬ i.natAbs=0:=by omega
  rw[if_neg h',if_neg (by simpa using h)]
noncomputable def Mu:V->List V->Hp->VK->Prop:=λx vs H Q=>∃i,x=.int i/\vs=[]/\Q (.int (bl i.natAbs:Nat)) H
theorem Wv:mR X "int.bit_length" Mu:=by
 intro pins s σ H x xs v us Q I rx rs h
 obtain⟨i,rfl,rfl,q⟩:=h
 obtain⟨t,rfl⟩:=rx
 cases rs
 refine call_int_bit_length ?_
 rw[Mt]
 exact⟨.int _,H,I.tok _,⟨_,rfl⟩,q⟩
theorem Dn(ho:PE X o to)(jk:attributeBase o "bit_length" X.env (eval o X.env)=eval o X.env:=by rfl)(jl:(apos.endLine==bM.line)=true:=by rfl) :
  PE X (.Call (.Attribute o "bit_length" apos) [] [] bM) (LQ X.K "int" Mu to) :=
 LR PySem.F.plainAttrs_int PySem.F.slot_int_bit_length PySem.F.type_int_bit_length Wv ho jk jl
noncomputable def Mv(i j:Int):Prop:=0<=j/\((bl i.natAbs:Nat):Int)+j<=134217728
theorem Mw:cg X (binaryOp .LShift) (rI Mv λi j=>.int (i*2 ^ j.toNat)):=vz λi j _ _ _ _ _ hc q =>
 lshift_int hc.1 (by rw[Mt];exact Int.le_trans hc.2 (by decide)) q
theorem Ww{x:Str}{n:String}(hg:Gl X x)(hm:X.mg x=none)(hv:bootBuiltins x=some (.type n))(hn:x≠"__name__":=by decide)(hd:(x==("__debug__":Str))=false:=by decide):PE X (.Name x pos) (tC (.ty n)) :=
 Tv hg hm hv rfl hn hd
noncomputable def Wx(K:PySem.W.Frag):List V->Hp->VK->Prop:=λxs H Q=>∃x n t b,xs=[x,.ty n]/\gg K H x t/\PySem.W.kitOne K t (.type n)=some b/\Q (.bl b) H
theorem Wy:eY X (.builtin "isinstance") (Wx X.K):=by
 intro pins s σ H xs us Q I r h
 obtain⟨x,n,t,b,rfl,ty,e,q⟩:=h
 obtain⟨u,v,rfl,ru,rv⟩:=r.two
 cases(show v=mj n from rv)
 exact U2 I ru ty e λtk=>⟨.bl b,H,I.tok _,rfl,q⟩
end
theorem Wz(b i:Nat):decide (V.int (mq ((b:Int)/2 ^ ((0:Int)+(i:Int)).toNat) 1)=V.int 1)=b.testBit i:=by
 have e:((0:Int)+(i:Int)).toNat=((i:Int)).toNat:=by omega
 rw[e,Wi,show(1:Int)=((1:Nat):Int) from rfl,Mo,yv,decide_eq_true_iff,<- Wj]
 constructor
 ·intro h;injection h with h;omega
 ·intro h;rw[h]
theorem WA{a b i:Nat}(h:b.testBit i=true):mr ((P a b i:Nat):Int) ((a:Int)*2 ^ ((0:Int)+(i:Int)).toNat)=((P a b (i+1):Nat):Int):=by
 have e:((0:Int)+(i:Int)).toNat=((i:Int)).toNat:=by omega
 rw[e,qZ,oK]
 show _=((P a b i ^^^ (if b.testBit i then a <<< i else 0):Nat):Int)
 rw[if_pos h]
theorem WB{a b i:Nat}(h:¬ b.testBit i=true):P a b (i+1)=P a b i:=by
 show P a b i ^^^ (if b.testBit i then a <<< i else 0)=_
 rw[if_neg h,jK]
theorem dI{i j:Int}:decide (V.int i=V.int j)=true↔i=j:=by
 rw[decide_eq_true_iff]
 exact⟨λh=>by injection h,λh=>by rw[h]⟩
end L2
namespace L2
open PySem PySem.Spec PyProof.Rows
section
variable{X:Cx}
end
end L2
namespace L2
open PySem PySem.Spec PyProof.Rows
noncomputable def zf(X:Cx)(scope:Scope)(N:List Str)(cl:List (Str × Addr))(C:Addr)(s:Shared)(H:Hp)(fp:List Addr):Cx where
 prog:=X.prog
 w:=X.w
 K:=X.K
 mg:=X.mg
 base:=X.base
 A:=X.A
 N:=N
 bQ:=s
 i7:=H
 env:=compEnvC scope cl C X.env
 outer:=X.stack
 stack:=X.stack
 ex:=fp
 fn:=λ_=>false
 calm:=X.calm
 pn:=[]
 xe:=λ_ _=>False
noncomputable def kK(X:Cx)(scope:Scope)(cl:List (Str × Addr)):List (Str × Nat)->Prop
 | []=>True
 | (y,i)::r=>(X.N[i]?=some y/\(X.env.scope.names.lookup y=some .cell\/X.env.scope.names.lookup y=some .free)/\((relabel scope X.env).names.lookup y=some .cell\/(relabel scope X.env).names.lookup y=some .free)/\∃c,cl.lookup y=some c/\X.env.cells.lookup y=some c)/\kK X scope cl r
theorem kK.at{X:Cx}{scope:Scope}{cl:List (Str × Addr)}:∀{aq:List (Str × Nat)},kK X scope cl aq->∀p∈aq,X.N[p.2]?=some p.1/\(X.env.scope.names.lookup p.1=some .cell\/X.env.scope.names.lookup p.1=some .free)/\((relabel scope X.env).names.lookup p.1=some .cell\/(relabel scope X.env).names.lookup p.1=some .free)/\∃c,cl.lookup p.1=some c/\X.env.cells.lookup p.1=some c
 | [],_,p,hp=>absurd hp (by simp)
 | (y,i)::r,h,p,hp=>by
  rcases bJ.mp hp with e | e
  ·subst e;exact h.1
  ·exact kK.at h.2 p e
noncomputable def kL(Y:Cx)(ifs:List Expr)(t:TT):Prop :=
 ∀(pins:List (Addr × Obj)) (s:Shared) (σ:St) (H:Hp) (Q:Bool->Hp->Prop),Inv Y pins σ H s->t σ H Q ->
  wpAny (model Y.prog Y.w) Y.A (forIn ifs true λc r=>if r=true then do let ok<-isTrue c Y.env (eval c Y.env);pure (B3 ok)else pure (B3 r)) (TP Y pins σ Q) Y.xe s
noncomputable def WC:TT:=λ_ H Q=>Q true H
theorem WD{Y:Cx}:kL Y [] WC:=λ_ _ _ H _ I h=>wpAny_tests_nil ⟨H,I,h⟩
theorem WE{Y:Cx}{c:Expr}{t:TT}(h:PT Y c t):kL Y [c] t:=λpins s σ H Q I q=>wpAny_tests_one (h pins s σ H Q I q)
section
variable{X:Cx}{elt iter:Expr}{x:Str}{px pos:Pos}{ifs:List Expr}{scope:Scope}{cl:List (Str × Addr)}{aq:List (Str × Nat)}{wi:TI}{tt:TT}{te:TE}
end
section
variable{prog:Program}{w:World}{A:Around}{R:Result->Shared->Prop}{s:Shared}
theorem WG{elt target iter:Expr}{ifs:List Expr}{scope:Scope}{pos:Pos}{it acc:Value}{env:Env}(Iv:Nat->Shared->Prop)
  (turn:∀n s,Iv n s->wpAny (model prog w) A (pyNext it) (λr s1=>match r with
   | none=>R (.ok .next) s1
   | some v=>wpAny (model prog w) A (letOwnedTupleGo target it v) (λ_ t1=>wpAny (model prog w) A (assign target env v) (λ_ s2 =>
     wpAny (model prog w) A (forIn ifs true λc r=>if r=true then do let ok<-isTrue c env (eval c env);pure (B3 ok)else pure (B3 r)) (λok s3 =>
      if ok=true then wpAny (model prog w) A (eval elt env) (λy s4=>wpAny (model prog w) A (call (.builtin "list.append") [acc,y]) (λ_ s5=>∃m,m<n/\Iv m s5) (λ_ _=>False) s4) (λ_ _=>False) s3
      else ∃m,m<n/\Iv m s3) (λ_ _=>False) s2) (λ_ _=>False) t1) (λ_ _=>False) s1) (λ_ _=>False) s)
  (n:Nat) (h:Iv n s):codeAny (model prog w) A (.compLoop (.ListComp elt [⟨target,iter,ifs,0⟩] scope pos) 0 it acc env) R s:=by
 refine codeAny_loop rfl Iv (λn s hI=>?_) n h
 change wpAny _ A (Sem.onRaise (compTurn (.ListComp elt [⟨target,iter,ifs,0⟩] scope pos) 0 it acc env) λx=>do noteFrame x env;theTreesLotGoes x) _ _ s
 refine wpAny_noted (wpAny_mono (E:=λ_ _=>False) ?_ (λ_ _ q=>q) λ_ _ z=>z.elim)
 rw[compTurn_list]
 refine wpAny_bind (wpAny_standAt (wpAny_bind (aH (turn n s hI) λr s1 h1=>?_)))
 cases r with
 | none=>exact wpAny_pure h1
 | some v =>
  refine wpAny_bind (aH h1 λ_ t1 k1=>wpAny_bind (aH k1 λ_ s2 h2=>wpAny_bind (aH h2 λok s3 h3=>?_)))
  cases ok with
  | false=>exact wpAny_pure ⟨rfl,h3⟩
  | true=>exact wpAny_bind (wpAny_bind (aH h3 λy s4 h4=>wpAny_bind (aH h4 λ_ s5 h5=>wpAny_pure (wpAny_pure ⟨rfl,h5⟩))))
end
section
variable{X:Cx}{elt iter:Expr}{x:Str}{px pos:Pos}{ifs:List Expr}{scope:Scope}{cl:List (Str × Addr)}{aq:List (Str × Nat)}{wi:TI}{tt:TT}{te:TE}
end
end L2
namespace L2
open PySem PySem.Spec PyProof.Rows
section
variable{X:Cx}
theorem WH{bs:List Bool}{us:List Value}(r:Vals (bs.map V.bl) us):bs.length=us.length/\∀(i:Nat) (v:Value),us[i]?=some v->∃b,bs[i]?=some b/\v=.bool b:=by
 have l:=r.length
 rw[bU]at l
 refine⟨l,λi v e=>?_⟩
 have hi:i<us.length:=(g9.mp e).1
 have hb:i<bs.length:=by omega
 obtain⟨u,e2,q⟩:=r.get (i:=i) (x:=V.bl bs[i]) (by rw[cY,aP hb];rfl)
 rw[e]at e2
 cases e2
 exact⟨bs[i],aP hb,q⟩
theorem WI{s:Shared}{h':Heap}{o:Obj}(hk:∀b x,b ∉ [s.heap.objs.size]->(s.heap.push o).get? b=some x->h'.get? b=some x)(b:Addr)(x:Obj)(e:s.heap.get? b=some x):h'.get? b=some x :=
 hk b x (λhm=>fE _ (by have:=bf e;rw[eF.mp hm]at this;exact this)) (bY _ e)
theorem WJ(bs:List Bool):((aR bs.length).all λi=>(bs[i]?).getD true)=bs.all id:=by
 rw[yv,dg,dg]
 constructor
 ·intro h b hb
  obtain⟨i,hi,rfl⟩:=hV hb
  have:=h i (dO.mpr hi)
  rwa [aP hi]at this
 ·intro h i hi
  have dW:=dO.mp hi
  rw[aP dW]
  exact h _ (fi dW)
theorem WK(hc:X.calm=true):eY X (.builtin "all") (λxs H Q=>∃(p:Addr) (bs:List Bool),xs=[.ref p]/\bq X.K H p (bs.map V.bl)/\Q (.bl (bs.all id)) H):=by
 intro pins s σ H xs us Q I r h
 obtain⟨p,bs,rfl,hS,q⟩:=h
 obtain⟨u,rfl,ru⟩:=r.one
 cases ru
 obtain⟨its,rv,pl,hz⟩:=I.list hS
 obtain⟨hlen,WL⟩:=WH rv
 have hl:=pl.isList
 have dJ:p<s.heap.objs.size:=by obtain⟨_,e,_⟩:=hl;exact bf e
 refine call_all_walk (wpAny_pyIter_list hl ?_)
 refine⟨s.heap.objs.size,[s.heap.objs.size,p],[s.heap.objs.size],its.toArray.size,_,_,λi=>(bs[i]?).getD true,rfl,Walks.list (A:=X.A.in1) (I.ok.hd hc) _ p (cI dJ) its.toArray,
  ⟨⟨_,cX _ rfl,rfl,rfl⟩,hl.push _⟩,λi v s' Q' E' hP hQ=>?_,λh' tk hk=>?_⟩
 ·obtain⟨b,e,rfl⟩:=WL i v (by simpa using hP)
  simp only[e,u3]at hQ
  exact wpAny_truthy_bool hQ
 ·have e:((aR its.toArray.size).all λi=>(bs[i]?).getD true)=bs.all id:=by
   rw[cZ,<- hlen];exact WJ bs
  rw[e]
  exact⟨.bl _,H,I.kept (h':=h') (t':=tk) (WI hk),rfl,q⟩
end
noncomputable def kM(X:Cx):List (Str × Addr)->Prop
 | []=>True
 | (y,c)::r=>X.env.cells.lookup y=some c/\kM X r
theorem kM.all{X:Cx}:∀{cl:List (Str × Addr)},kM X cl->∀y c,cl.lookup y=some c->X.env.cells.lookup y=some c
 | [],_,y,c,h=>by simp at h
 | (z,d)::r,h,y,c,e=>by
  rw[eV]at e
  cases q:y==z with
  | true =>
   rw[q]at e
   cases e
   rw[eq_of_beq q]
   exact h.1
  | false =>
   rw[q]at e
   exact kM.all h.2 y c e
noncomputable def kN(cl:List (Str × Addr)):List (Str × NameKind)->Prop
 | []=>True
 | (y,k)::r=>(k=.local\/k=.globalImplicit\/∃c,cl.lookup y=some c)/\kN cl r
theorem kN.all{cl:List (Str × Addr)}:∀{ns:List (Str × NameKind)},kN cl ns->∀y,(ns.lookup y=some .cell\/ns.lookup y=some .free)->∃c,cl.lookup y=some c
 | [],_,y,h=>by simp at h
 | (z,k)::r,h,y,e=>by
  rw[eV]at e
  cases q:y==z with
  | true =>
   rw[q]at e
   rw[eq_of_beq q]
   rcases h.1 with g | g | g
   ·rw[g]at e;rcases e with e | e<;>cases e
   ·rw[g]at e;rcases e with e | e<;>cases e
   ·exact g
  | false =>
   rw[q]at e
   exact kN.all h.2 y e
section
variable{X:Cx}{elt iter:Expr}{x:Str}{px pos:Pos}{ifs:List Expr}{scope:Scope}{cl:List (Str × Addr)}{wi:TI}{tt:TT}{te:TE}
end
end L2
namespace L2
open PySem PySem.Spec PyProof.Rows Mf
end L2
namespace L2
end L2
namespace L2
open PySem PySem.Spec PyProof.Rows
noncomputable def fJ(aq:List (Str × Nat))(n:Nat)(σ:L2.St):St:=(aq.map λp=>(σ[p.2]?).getD none)++bh n none
noncomputable def Mx(J:It)(aq:List (Str × Nat))(n:Nat)(g:TG)(tt:TT)(te:TE)(σ:L2.St)(H1:Hp)(Q:VK):Prop:=∀D,H1 D=none->∃W:Nat->Nat->List V->Hp->Prop,(∃m,W 0 m [] (upd H1 D (.lst []))) /\
 ∀i m acc H2,W i m acc H2->H2 D=some (.lst acc)/\((J.stop i H2/\Q (.ref D) H2)\/(J.go i H2/\∀x H3,J.iP i H2 x H3->H3 D=some (.lst acc)/\g x (fJ aq n σ) H3 λfm H4 =>
  (fm.length=(fJ aq n σ).length/\∀j,j<aq.length->fm[j]?=(fJ aq n σ)[j]?)/\tt fm H4 λb H5=>H5 D=some (.lst acc) /\
  if b=true then te fm H5 λy H6=>H6 D=some (.lst acc)/\acc.length<sizeLine/\∃m',m'<m/\W (i+1) m' (acc++[y]) (upd H6 D (.lst (acc++[y])))else ∃m',m'<m/\W (i+1) m' acc H5))
noncomputable def zh(wi:TI)(aq:List (Str × Nat))(n:Nat)(g:TG)(tt:TT)(te:TE):TE:=λσ H Q=>wi σ H λJ H1=>Mx J aq n g tt te σ H1 Q
section
variable{X:Cx}{elt iter tg:Expr}{pos:Pos}{ifs:List Expr}{scope:Scope}{cl:List (Str × Addr)}{wi:TI}{tt:TT}{te:TE}{g:TG}
end
end L2
namespace L2
open PySem PySem.Spec PyProof.Rows
section
variable{X:Cx}{tg:Expr}
end
end L2
namespace L2
open PySem PySem.Spec PyProof.Rows
noncomputable def Dq(h:Heap)(a T:Addr)(cls fl:Value):Prop :=
 ∃oe vs oT ts,h.get? a=some oe/\oe.cls=cls/\oe.dict=none/\oe.data=.fields vs/\vs[1]?=some (.ref T)/\T≠a/\h.get? T=some oT/\oT.data=.fields ts/\ts[3]?=some fl
noncomputable abbrev oM(h:Heap)(a T:Addr)(cls:Value):Prop:=Dq h a T cls .none
theorem WM(o:Obj)(f:Array Value->Array Value):(o.mapFields f).dict=o.dict:=by
 obtain⟨c,d,dt,sl⟩:=o
 cases dt<;>rfl
section
variable{M:Model}{A:Around}{E:Value->Shared->Prop}{s:Shared}{base:Heap}{env:Env}{outer:List Env}{L a T:Addr}{cls:Value}{oe:Obj}{vs:Array Value}{Q:Unit->Shared->Prop}
structure Ent(fs:List Addr)(h h':Heap)(a T:Addr)(oe:Obj)(L:Addr):Prop where
 new:h.get? T=none
 ne:T≠a
 keep:∀b o,b≠a->b ∉ fs->h.get? b=some o->h'.get? b=some o
 slot:∀b o,b≠a->h.get? b=some o->∃sl,h'.get? b=some { o with slots:=sl }
 exc:h'.get? a=some (oe.mapFields λz=>z.setIfInBounds 1 (.ref T))
 ent:∃oT ts,h'.get? T=some oT/\oT.data=.fields ts/\ts[3]?=some (rawInt L)
theorem Mz{head:Value}{WN:Bool}(dq:A.frames=some (env::outer))(hl:s.heap.FunFrames base (env::outer))(hf:env.frame=some L)(he:s.heap.get? a=some oe)(hd:oe.data=.fields vs)(jP:1<vs.size)
  (na:a ∉ (env::outer).filterMap (·.frame)) (k:∀h' T',Ent ((env::outer).filterMap (·.frame)) s.heap h' a T' oe L->Q () { s with heap:=h' }) :
  wpAny M A (do let x<-frameOf env;let pl<-entryPlaceOf L WN;let b<-EntryCells.newEntry head x .none (rawInt L) .none pl;setField (.ref a) 1 b) Q E s:=by
 refine wpAny_bind (wpAny_frameOf_fun dq hl hf λg1 so=>wpAny_bind (wpAny_entryPlaceOf λpl ip=>?_))
 unfold EntryCells.newEntry newFields
 have e1:g1.get? a=some oe:=(so.2.1 a na).trans he
 refine wpAny_bind (wpAny_newObj_type ?_ (ip.sizeOk5 _ _ _ _ _))
 generalize MA:({ cls:=.type "traceback",dict:=none,data:=.fields ([head,dN L,.none,rawInt L,.none]++(if pl.isEmpty then bh 6 g8 else pl)).toArray }:Obj)=te
 have e2:(g1.push te).get? a=some oe:=bY te e1
 have WO:te.data=.fields ([head,dN L,.none,rawInt L,.none]++(if pl.isEmpty then bh 6 g8 else pl)).toArray:=by rw[<-MA]
 have nf:te.isFreed=false:=by rw[<-MA];rfl
 refine wpAny_setField e2 hd jP ?_
 have d3:=B4 hd λz=>z.setIfInBounds 1 (dN g1.objs.size)
 have nT:g1.objs.size≠a:=yh (bf e1)
 refine k _ g1.objs.size ⟨?_,nT,λb o hb hz q=>?_,λb o hb q=>?_,uY _ e2 (Kz d3),⟨te,_,?_,WO,?_⟩⟩
 ·cases q:s.heap.get? g1.objs.size with
  | none=>rfl
  | some o=>obtain⟨sl,z⟩:=so.2.2 _ _ q;exact absurd (bf z) (fE _)
 ·rw[km _ _ (dy hb)]
  exact bY te ((so.2.1 b hz).trans q)
 ·obtain⟨sl,z⟩:=so.2.2 b o q
  refine⟨sl,?_⟩
  rw[km _ _ (dy hb)]
  exact bY te z
 ·rw[km _ _ (dy nT)]
  exact cX g1 nf
 ·first | (simp;done) | (rcases ip with rfl | ⟨_,_,_,_,_,_,_,rfl⟩<;>simp)
structure MB(fs Z:List Addr)(h h':Heap)(a T:Addr)(cls:Value):Prop where
 new:h.get? T=none
 keep:∀b o,b ∉ Z->b ∉ fs->h.get? b=some o->h'.get? b=some o
 slot:∀b o,b ∉ Z->h.get? b=some o->∃sl,h'.get? b=some { o with slots:=sl }
 vL:oM h' a T cls
theorem MC{fl:Value}(tr:Dq s.heap a T cls fl)(k:∀h',(∀b o,b≠T->s.heap.get? b=some o->h'.get? b=some o)->oM h' a T cls->Q () { s with heap:=h' }):wpAny M A (setFlight (.ref a) none) Q E s:=by
 obtain⟨oe,vs,oT,ts,h1,h2,h3,h4,h5,h6,h7,h8,h9⟩:=tr
 have sz:3<ts.size:=(KA.mp h9).1
 unfold setFlight
 refine wpAny_bind (wpAny_field h1 h4 h5 ?_)
 rw[if_pos (by simp)]
 refine wpAny_setField h7 h8 sz (k _ (λb o hb q=>(km _ _ (dy hb)).trans q) ?_)
 have d:=B4 h8 λz=>z.setIfInBounds 3 ((none:Option Addr).elim g8 λf=>rawInt f)
 exact⟨oe,vs,_,_,(km _ _ h6).trans h1,h2,h3,h4,h5,h6,uY _ h7 (Kz d),d,by simp[sz]⟩
theorem Ent.fin{fs:List Addr}{h h':Heap}{a T L:Addr}{oe:Obj}{vs:Array Value}(e:Ent fs h h' a T oe L)(hd:oe.data=.fields vs)(jP:1<vs.size)(WQ:oe.dict=none):Dq h' a T oe.cls (rawInt L):=by
 obtain⟨oT,ts,e1,e2,e3⟩:=e.ent
 exact⟨_,_,oT,ts,e.exc,Obj.cls_mapFields _ _,by rw[WM];exact WQ,B4 hd _,by simp[jP],e.ne,e1,e2,e3⟩
theorem WR(dq:A.frames=some (env::outer))(hl:s.heap.FunFrames base (env::outer))(hf:env.frame=some L)(na:a ∉ (env::outer).filterMap (·.frame))(tr:oM s.heap a T cls)
  (k:∀h' T',MB ((env::outer).filterMap (·.frame)) [a,T] s.heap h' a T' cls->Q () { s with heap:=h' }):wpAny M A (noteFrame (.ref a) env) (λ_ jf=>wpAny M A (setFlight (.ref a) none) Q E jf) E s:=by
 obtain⟨oe,vs,oT,ts,h1,h2,h3,h4,h5,h6,h7,h8,h9⟩:=tr
 have s1:1<vs.size:=(KA.mp h5).1
 have s3:3<ts.size:=(KA.mp h9).1
 unfold noteFrame
 simp only[hf]
 refine wpAny_bind (wpAny_field h1 h4 h5 ?_)
 rw[if_pos (by simp)]
 refine wpAny_bind (wpAny_field h7 h8 h9 ?_)
 rw[if_neg (by simp[rawInt])]
 refine wpAny_bind (wpAny_setField h7 h8 s3 ?_)
 generalize hg:s.heap.update T (Obj.mapFields λz=>z.setIfInBounds 3 g8)=g
 have oN:∀b,b≠T->g.get? b=s.heap.get? b:=λb hb=>by rw[<-hg];exact km _ _ (dy hb)
 have bT:∀b o,s.heap.get? b=some o->(∀ws,o.data≠.fields ws)->b≠T:=λb o q hn z=>by subst z;rw[h7]at q;cases q;exact hn ts h8
 have gT:∃WS,g.get? T=some WS:=⟨_,by rw[<-hg];exact uY _ h7 (Kz (B4 h8 _))⟩
 refine Mz (s:={ s with heap:=g }) dq (hl.of_keeps λb o q hn=>⟨o,(oN b (bT b o q hn)).trans q,rfl⟩) hf ((oN a (dy h6)).trans h1) h4 s1 na λh' T' en=>?_
 have WT:T'≠T:=λz=>by subst z;obtain⟨o,q⟩:=gT;rw[en.new]at q;cases q
 refine MC (s:={ s with heap:=h' }) (h2 ▸ en.fin h4 s1 h3) λDr kp Ds=>?_
 refine k Dr T' ⟨(oN T' WT).symm.trans en.new,λb o hz hb q=>?_,λb o hz q=>?_,Ds⟩
 ·have z1:b≠a:=λz=>hz (by simp[z])
  have z2:b≠T:=λz=>hz (by simp[z])
  have z3:b≠T':=λz=>by have:=en.new;rw[<-z,oN b z2,q]at this;cases this
  exact kp b o z3 (en.keep b o z1 hb ((oN b z2).trans q))
 ·have z1:b≠a:=λz=>hz (by simp[z])
  have z2:b≠T:=λz=>hz (by simp[z])
  have z3:b≠T':=λz=>by have:=en.new;rw[<-z,oN b z2,q]at this;cases this
  obtain⟨sl,r⟩:=en.slot b o z1 ((oN b z2).trans q)
  exact⟨sl,kp b _ z3 r⟩
theorem WU{h1:Heap}{args:List Value}(dq:A.frames=some (env::outer))(hl:s.heap.FunFrames base (env::outer))(hf:env.frame=some L)(hx:KC s.heap h1 a cls args)
  (k:∀h' T',MB ((env::outer).filterMap (·.frame)) [] s.heap h' a T' cls->Q () { s with heap:=h' }):wpAny M A (noteFrame (.ref a) env) (λ_ jf=>wpAny M A (setFlight (.ref a) none) Q E jf) E { s with heap:=h1 }:=by
 obtain⟨t,e1,_,_⟩:=hx.there
 have na:a ∉ (env::outer).filterMap (·.frame):=λhb=>by obtain⟨_,o,ho,_⟩:=hl.mem hb;rw[hx.new]at ho;cases ho
 unfold noteFrame
 simp only[hf]
 refine wpAny_bind (wpAny_field (s:={ s with heap:=h1 }) e1 rfl (x:=.none) (by rfl) ?_)
 rw[if_neg (by decide)]
 refine Mz (s:={ s with heap:=h1 }) dq (hl.of_keeps λb o q _=>⟨o,hx.keeps b o q,rfl⟩) hf e1 rfl (by simp) na λh' T' en=>?_
 refine MC (s:={ s with heap:=h' }) (en.fin rfl (by simp) rfl) λDr kp Ds=>?_
 have ba:∀b o,s.heap.get? b=some o->b≠a:=λb o q z=>by rw[z,hx.new]at q;cases q
 have bT:∀b o,s.heap.get? b=some o->b≠T':=λb o q z=>by have:=hx.keeps b o q;rw[z,en.new]at this;cases this
 refine k Dr T' ⟨?_,λb o _ hb q=>kp b o (bT b o q) (en.keep b o (ba b o q) hb (hx.keeps b o q)),λb o _ q=>?_,Ds⟩
 ·cases q:s.heap.get? T' with
  | none=>rfl
  | some o=>exact absurd rfl (bT T' o q)
 ·obtain⟨sl,r⟩:=en.slot b o (ba b o q) (hx.keeps b o q)
  exact⟨sl,kp b _ (bT b o q) r⟩
end
end L2
namespace L2
open PySem PySem.Spec PyProof.Rows
theorem cP.there{P:Program}{w:World}{H:Hp}{h:Heap}{a:Addr}{o:HO}(x:cP P w H h a o):∃u,h.get? a=some u:=by
 cases o with
 | lst xs=>obtain⟨_,_,_,_,e⟩:=x;exact⟨_,e⟩
 | tup xs=>obtain⟨_,_,_,o,e,_⟩:=x;exact⟨o,e⟩
 | dK cJ=>obtain⟨_,_,_,_,o,_,_,e,_⟩:=x;exact⟨_,e⟩
 | dT cJ=>obtain⟨_,_,_,_,o,_,_,e,_⟩:=x;exact⟨_,e⟩
 | set S n=>obtain⟨o,_,_,_,e,_⟩:=x;exact⟨_,e⟩
 | ins C dx fs=>obtain⟨_,_,_,e,_⟩:=x;exact⟨_,e⟩
 | own y=>exact x
 | xd fs=>obtain⟨_,⟨_,_,_,e,_⟩,_⟩:=x;exact⟨_,e⟩
 | vf lo hi=>obtain⟨_,_,_,e⟩:=x;exact⟨_,e⟩
 | bL ob u=>obtain⟨e,_⟩:=x;exact⟨_,e⟩
 | cH ps=>exact⟨_,show h.get? a=some _ from x.1⟩
 | met f y=>exact⟨_,show h.get? a=some _ from x⟩
 | ext φ=>obtain⟨_,e,_⟩:=x;exact e
theorem bZ.none{P:Program}{w:World}{H:Hp}{h:Heap}{a:Addr}(x:bZ P w H h)(e:h.get? a=.none):H a=.none:=by
 cases q:H a with
 | none=>rfl
 | some u=>obtain⟨o,z⟩:=(x a u q).there;rw[e]at z;cases z
structure Apart(X:Cx)(pins:List (Addr × Obj))(H:Hp)(b:Addr):Prop where
 old:X.bQ.heap.get? b=none
 free:H b=none
 loc:b≠X.env.locals
 cell:∀x c,X.env.cells.lookup x=some c->c≠b
 pin:∀p∈X.pn++pins,p.1≠b
 fr:b ∉ cK X.stack
section
variable{X:Cx}{pins:List (Addr × Obj)}{σ:St}{H H':Hp}{s:Shared}{a T b:Addr}{cls:Value}{M:Model}{Q:Unit->Shared->Prop}{E:Value->Shared->Prop}{h':Heap}
theorem WV(I:Inv X pins σ H s)(hb:b∈cK X.stack):∃o,s.heap.get? b=some o/\∀vs,o.data≠.fields vs:=(I.stack.mem hb).2
theorem Inv.old(I:Inv X pins σ H s)(hex:X.ex=[])(e:s.heap.get? b=none):X.bQ.heap.get? b=none:=by
 cases q:X.bQ.heap.get? b with
 | none=>rfl
 | some o=>obtain⟨o',z⟩:=I.base.there b o q (by rw[hex];simp);rw[e]at z;cases z
theorem Inv.apart(I:Inv X pins σ H s)(hex:X.ex=[])(e:s.heap.get? b=none)(n:H' b=none):Apart X pins H' b where
 old:=I.old hex e
 free:=n
 loc:=λz=>by obtain⟨m,⟨o,_,_,ho,_⟩,_⟩:=I.loc;rw[z,ho]at e;cases e
 cell:=λx c hc z=>by obtain⟨v,o,ho,_⟩:=I.cell x c hc;rw[z,e]at ho;cases ho
 pin:=λp hp z=>by have:=(I.pin p hp).1;rw[z,e]at this;cases this
 fr:=λhb=>by obtain⟨o,ho,_⟩:=WV I hb;rw[e]at ho;cases ho
theorem MD(I:Inv X pins σ H s)(cx:X.stack=X.env::X.outer)(hex:X.ex=[])(hf:X.env.frame=some X.env.locals)(Z:List Addr)(hZ:∀b∈Z,X.bQ.heap.get? b=none/\H b=none)
  (keep:∀b o,b ∉ Z->b ∉ cK X.stack->s.heap.get? b=some o->h'.get? b=some o) (slots:∀b o,b ∉ Z->s.heap.get? b=some o->∃sl,h'.get? b=some { o with slots:=sl }) :
  Un (cK X.outer) [] X.i7 H X.bQ.heap h'/\bZ X.prog X.w H h':=by
 have oO:∀b o,X.bQ.heap.get? b=some o->b ∉ Z:=λb o e z=>by rw[(hZ b z).1]at e;cases e
 have sub:∀b,b∈cK X.stack->b=X.env.locals\/b∈cK X.outer:=λb hb=>by
  rw[cx]at hb
  unfold cK at hb
  rw[qm,hf]at hb
  exact bJ.mp hb
 have sup:∀b,b∈cK X.outer->b∈cK X.stack:=λb hb=>by
  rw[cx]
  unfold cK
  rw[qm,hf]
  exact fF _ hb
 have qM:∀b o,X.bQ.heap.get? b=some o->b≠X.env.locals:=λb o e=>cI (cq (bf e) I.ok.above)
 have nx:∀b:Addr,b ∉ X.ex:=λb=>by rw[hex];simp
 refine⟨⟨λb o e n hb _=>?_,λb o e n hb _=>?_,λb o e n _=>I.base.free b o e n (nx b),λb o e _=>?_,I.base.fk,I.base.eW,I.base.eG⟩,λb ob e=>?_⟩
 ·exact keep b o (oO b o e) (λz=>(sub b z).elim (qM b o e) hb) (I.base.keep b o e n hb (nx b))
 ·obtain⟨sl,e1⟩:=I.base.slot b o e n hb (nx b)
  exact(slots b _ (oO b o e) e1).imp λsl h=>h
 ·obtain⟨o',e1⟩:=I.base.there b o e (nx b)
  exact(slots b o' (oO b o e) e1).elim λsl q=>⟨_,q⟩
 ·refine(I.ay b ob e).iO (λc u hc q=>keep c u (λz=>?_) (λz=>?_) q) (λ_ q=>q) (λ_ _ q=>q) λ_ _ q=>q
  ·have n:=(hZ c z).2
   rcases hc with rfl | hc
   ·rw[n]at e;cases e
   ·rw[n]at hc;cases hc
  ·have n:=I.yS c z
   rcases hc with rfl | hc
   ·rw[n]at e;cases e
   ·rw[n]at hc;cases hc
structure ME(X:Cx)(H:Hp)(h':Heap)(a T:Addr)(cls:Value):Prop where
 un:Un (cK X.outer) [] X.i7 H X.bQ.heap h'
 ay:bZ X.prog X.w H h'
 vL:oM h' a T cls
 a0:X.bQ.heap.get? a=none
 a1:H a=none
 t0:X.bQ.heap.get? T=none
 t1:H T=none
theorem WW(I:Inv X pins σ H s)(cx:X.stack=X.env::X.outer)(hex:X.ex=[])(hf:X.env.frame=some X.env.locals)(tr:oM s.heap a T cls)(pa:Apart X pins H a)(pT:Apart X pins H T)
  (hQ:∀h' T',ME X H h' a T' cls->Q () { s with heap:=h' }):wpAny M X.A (leaving X.env (.ref a)) Q E s:=by
 have hZ:∀b∈[a,T],X.bQ.heap.get? b=none/\H b=none:=λb hb=>by
  rcases bJ.mp hb with rfl | hb
  ·exact⟨pa.old,pa.free⟩
  ·rw[eF.mp hb];exact⟨pT.old,pT.free⟩
 have na:a ∉ (X.env::X.outer).filterMap (·.frame):=by have:=pa.fr;rw[cx]at this;exact this
 refine wpAny_bind (WR (base:=X.base) (by rw[I.ok.frames,cx]) (cx ▸ I.stack) hf na tr λh' T' st=>?_)
 have kp:∀b o,b ∉ [a,T]->b ∉ cK X.stack->s.heap.get? b=some o->h'.get? b=some o:=λb o hz hb q=>st.keep b o hz (by rw[cx]at hb;exact hb) q
 obtain⟨un,ay⟩:=MD (h':=h') I cx hex hf [a,T] hZ kp st.slot
 exact hQ h' T' ⟨un,ay,st.vL,pa.old,pa.free,I.old hex st.new,I.ay.none st.new⟩
theorem WX{h1:Heap}{args:List Value}(I:Inv X pins σ H s)(cx:X.stack=X.env::X.outer)(hex:X.ex=[])(hf:X.env.frame=some X.env.locals)(hx:KC s.heap h1 a cls args)
  (hQ:∀h' T',ME X H h' a T' cls->Q () { s with heap:=h' }):wpAny M X.A (leaving X.env (.ref a)) Q E { s with heap:=h1 }:=by
 refine wpAny_bind (WU (base:=X.base) (by rw[I.ok.frames,cx]) (cx ▸ I.stack) hf hx λh' T' st=>?_)
 have kp:∀b o,b ∉ ([]:List Addr)->b ∉ cK X.stack->s.heap.get? b=some o->h'.get? b=some o:=λb o hz hb q=>st.keep b o hz (by rw[cx]at hb;exact hb) q
 obtain⟨un,ay⟩:=MD (h':=h') I cx hex hf [] (λb hb=>absurd hb (by simp)) kp st.slot
 exact hQ h' T' ⟨un,ay,st.vL,I.old hex hx.new,I.ay.none hx.new,I.old hex st.new,I.ay.none st.new⟩
end
noncomputable def kO(P:Program)(w:World):dA:=λouter H s E e s'=>∃a T cls H',e=.ref a/\s'.os=s.os/\AllBare s'.gens/\Un (cK outer) [] H H' s.heap s'.heap/\bZ P w H' s'.heap/\oM s'.heap a T cls /\
 s.heap.get? a=none/\H' a=none/\s.heap.get? T=none/\H' T=none/\E cls none H'
section
variable{X:Cx}{pins:List (Addr × Obj)}{σ:St}{H H':Hp}{s:Shared}{a T b:Addr}{cls:Value}{M:Model}{Q:Unit->Shared->Prop}{E:Value->Shared->Prop}{h':Heap}
theorem Inv.dB9(I:Inv X pins σ H s)(hex:X.ex=[])(Z:List Addr)(hZ:∀b∈Z,Apart X pins H b)
  (keep:∀b o,b ∉ Z->b ∉ cK X.stack->s.heap.get? b=some o->h'.get? b=some o) (slots:∀b o,b ∉ Z->s.heap.get? b=some o->∃sl,h'.get? b=some { o with slots:=sl }) (g':Array GenState) (t':Nat) (d':Drawn) (hg:AllBare g') :
  Inv X pins σ H { s with heap:=h',gens:=g',toks:=t',drawn:=d' }:=by
 have nx:∀b:Addr,b ∉ X.ex:=λb=>by rw[hex];simp
 have any:=slots
 have oO:∀b o,X.bQ.heap.get? b=some o->b ∉ Z:=λb o e z=>by rw[(hZ b z).old]at e;cases e
 have qM:∀b o,X.bQ.heap.get? b=some o->b≠X.env.locals:=λb o e=>cI (cq (bf e) I.ok.above)
 have cz:∀x c,X.env.cells.lookup x=some c->c ∉ Z:=λx c e z=>(hZ c z).cell x c e rfl
 have cellK:∀x c,X.env.cells.lookup x=some c->∀v,s.heap.IsCell c v->h'.IsCell c v:=λx c e v zz=>by
  obtain⟨o,ho,hd⟩:=zz
  obtain⟨sl,q⟩:=any c o (cz x c e) ho
  exact⟨_,q,hd⟩
 have MF:∀b,b ∉ X.fs->b≠X.env.locals->b ∉ cK X.stack:=λb h1 h2 h3=>(bJ.mp (I.vk b h3)).elim h2 h1
 refine⟨I.ok,I.os,hg,⟨λb o e n hb hx=>?_,λb o e n hb hx=>?_,I.base.free,λb o e hx=>?_,I.base.fk,I.base.eW,I.base.eG⟩,?_,λx c e=>?_,I.free,I.gb,λp hp=>?_,λb ob e=>?_,I.len⟩
 ·exact keep b o (oO b o e) (MF b hb (qM b o e)) (I.base.keep b o e n hb hx)
 ·obtain⟨sl,e1⟩:=I.base.slot b o e n hb hx
  obtain⟨vg,e2⟩:=any b _ (oO b o e) e1
  exact⟨vg,e2⟩
 ·obtain⟨o',e1⟩:=I.base.there b o e hx
  obtain⟨sl,e2⟩:=any b o' (oO b o e) e1
  exact⟨_,e2⟩
 ·obtain⟨m,hn,hl⟩:=I.loc
  obtain⟨o,es,ep,ho,hd,r⟩:=id hn
  obtain⟨sl,q⟩:=slots _ o (λz=>(hZ _ z).loc rfl) ho
  refine⟨m,⟨_,es,ep,q,hd,r⟩,λi x v e1 e2 e3=>?_⟩
  obtain⟨u,r,l⟩:=hl i x v e1 e2 e3
  refine⟨u,r,?_⟩
  rcases l with l | ⟨k,c,e,z⟩
  ·exact .inl l
  ·exact .inr ⟨k,c,e,cellK x c e _ z⟩
 ·obtain⟨v,z⟩:=I.cell x c e
  exact⟨v,cellK x c e v z⟩
 ·obtain⟨e,n,ne,nf,d⟩:=I.pin p hp
  exact⟨keep p.1 p.2 (λz=>(hZ _ z).pin p hp rfl) (MF _ nf ne) e,n,ne,nf,d⟩
 ·refine(I.ay b ob e).iO (λc u hc q=>keep c u (λz=>?_) (λz=>?_) q) (λ_ q=>q) (λ_ _ q=>q) λ_ _ q=>q
  ·have n:=(hZ c z).free
   rcases hc with rfl | hc
   ·rw[n]at e;cases e
   ·rw[n]at hc;cases hc
  ·have n:=I.yS c z
   rcases hc with rfl | hc
   ·rw[n]at e;cases e
   ·rw[n]at hc;cases hc
end
end L2
namespace L2
open PySem PySem.W PySem.Spec PySem.Calls PyProof.Rows
section
variable{prog:Program}{w:World}{A:Around}{E:Value->Shared->Prop}{s:Shared}{K:Frag}{x D:Addr}{ox:Obj}{WY:Option Obj}
end
end L2
namespace L2
open PySem PySem.W PySem.Spec PySem.Calls PyProof.Rows
section
variable{prog:Program}{w:World}{A:Around}{E:Value->Shared->Prop}{s:Shared}{K:Frag}{x D:Addr}{ox:Obj}{WY:Option Obj}
structure WZ(K:Frag)(C:Addr):Prop where
 cls:(clsIn K C).isSome=true
 ga:findIn K (.ref C) "__getattribute__"=some (some (.builtin "BaseException.__getattribute__"))
 gt:findIn K (.ref C) "__getattr__"=some none
 ca:findIn K (.ref C) "__class__"=some (some (.builtin "object.__class__"))
 hn:specialIn K (.builtin "object.__class__") "__get__"=some (some (.builtin "getset_descriptor.__get__"))
 tk:takesIn K (.builtin "object.__class__")=some true
 mo:mroIn K C (.type "object")=some true
 mb:mroIn K C (.type "BaseException")=some true
noncomputable def W0(a C:Addr)(h:Heap):Prop:=∃o,h.get? a=some o/\o.cls=.ref C/\notCls o=true/\o.dict=none
end
end L2
namespace L2
open PySem PySem.Spec PyProof.Rows
section
variable{X:Cx}{pins:List (Addr × Obj)}{σ:St}{H:Hp}{s:Shared}{h':Heap}{its:List Addr}{T:Addr}{o:HO}{t':Nat}
theorem Inv.zi(I:Inv X pins σ H s)(k:∀b o,b ∉ its->s.heap.get? b=some o->h'.get? b=some o)(hf:∀b∈its,gE X pins H b):Inv X pins σ H { s with heap:=h',toks:=t' }:=by
 have mK:∀b u,H b=some u->b ∉ its:=λb u e z=>by have:=(hf b z).1;rw[this]at e;cases e
 refine I.step (g':=s.gens) (d':=s.drawn) (ch:=its) (λb hb=>?_) (λb o _ _ hc e _=>k b o hc e) (λb o _ _ hc e _=>⟨o.slots,k b o hc e⟩) (λ_ _ _ _ n=>n)
  (λb o hc e=>⟨o,k b o hc e⟩) (λ_ _ e=>e) (λ_ _ _ e=>e) (λb ps e=>⟨#[],by rw[e];simp⟩) (λm hm=>?_) (λb u e=>?_) I.bare
 ·obtain⟨_,h1,_,h2,h3,h4⟩:=hf b hb
  exact⟨h2,h1,h3,h4⟩
 ·obtain⟨o,es,ep,ho,r⟩:=hm
  exact⟨o,es,ep,k _ o (λz=>(hf _ z).2.1 rfl) ho,r⟩
 ·refine(I.ay b u e).iO (λc v hc q=>k c v ?_ q) (λ_ q=>q) (λ_ _ q=>q) λ_ _ q=>q
  rcases hc with z | z
  ·rw[z];exact mK b u e
  ·exact mK c _ z
theorem Inv.MG(I:Inv X pins σ H s)(k:∀b o,b ∉ its->s.heap.get? b=some o->h'.get? b=some o)(hf:∀b∈its,gE X pins H b)(hT:s.heap.objs.size<=T)(new:cP X.prog X.w (upd H T o) h' T o) :
  Inv X pins σ (upd H T o) { s with heap:=h',toks:=t' }:=by
 have mK:∀b u,H b=some u->b ∉ its:=λb u e z=>by have:=(hf b z).1;rw[this]at e;cases e
 have fT:H T=none:=I.ay.fresh hT
 have neT:∀b u,H b=some u->b≠T:=λb u e z=>by rw[z,fT]at e;cases e
 have W2:∀b u,s.heap.get? b=some u->b≠T:=λb u e z=>absurd (cq (bf e) hT) (by rw[z];exact fE _)
 refine I.step (g':=s.gens) (d':=s.drawn) (ch:=its) (λb hb=>?_) (λb o _ _ hc e _=>k b o hc e) (λb o _ _ hc e _=>⟨o.slots,k b o hc e⟩) (λb u _ e n=>by rw[aM (W2 b u e)];exact n)
  (λb o hc e=>⟨o,k b o hc e⟩) (λb _ e=>by rw[aM (neT b _ e)];exact e) (λb _ _ e=>by rw[aM (neT b _ e)];exact e) (λb ps e=>⟨#[],by rw[aM (neT b _ e),e];simp⟩) (λm hm=>?_) (λb u e=>?_) I.bare
 ·obtain⟨_,h1,_,h2,h3,h4⟩:=hf b hb
  exact⟨h2,h1,h3,h4⟩
 ·obtain⟨o,es,ep,ho,r⟩:=hm
  exact⟨o,es,ep,k _ o (λz=>(hf _ z).2.1 rfl) ho,r⟩
 ·by_cases hb:b=T
  ·subst hb;rw[bO]at e;cases e;exact new
  ·rw[aM hb]at e
   refine(I.ay b u e).iO (λc v hc q=>k c v ?_ q) (λc q=>by rw[aM (neT c _ q)];exact q) (λc _ q=>by rw[aM (neT c _ q)];exact q) λc _ q=>by rw[aM (neT c _ q)];exact q
   rcases hc with z | z
   ·rw[z];exact mK b u e
   ·exact mK c _ z
noncomputable def Dt(K:PySem.W.Frag)(a b:Addr):It :=
 ⟨λi H=>∃xs ys x y,bq K H a xs/\bq K H b ys/\xs[i]?=some x/\ys[i]?=some y,
  λi H v H'=>∃T x y,v=.ref T/\H T=none/\H'=upd H T (.tup [x,y])/\(∀xs,bq K H a xs->xs[i]?=some x)/\∀ys,bq K H b ys->ys[i]?=some y,
  λi H=>∃xs ys,bq K H a xs/\bq K H b ys/\(xs.length<=i\/ys.length<=i)⟩
theorem mW{K:PySem.W.Frag}{a c:Addr}{xs:List V}(hk:X.K=K)(I:Inv X pins σ H s)(h:bq K H a xs)(hf:gE X pins H c)(ho:∃o,s.heap.get? c=some o/\o.cls≠.type "list"):a≠c:=by
 subst hk
 obtain⟨its,rv,p,hz⟩:=I.list h
 obtain⟨o,e,d⟩:=ho
 obtain⟨o',e',c',_⟩:=p.isList
 intro z
 subst z
 rw[e]at e';cases e'
 exact d c'
theorem W3{P:Program}{w:World}{K:PySem.W.Frag}{elts:List Expr}{k:Nat}{pos:Pos}(a b z TI TO i1 i2:Addr)(D5:[z,TI,TO,i1,i2].Nodup) :
  Turn P w K (.Tuple elts k pos) (Dt K a b) [z,TI,TO,i1,i2] z (λi h=>IsZip h z TI TO .none/\IsPair h TI (.ref i1) (.ref i2)/\(∃u v,IsPair h TO u v)/\h.IsListIter i1 a i/\h.IsListIter i2 b i):=by
 have ap:∀(X:Cx) (pins:List (Addr × Obj)) (s:Shared) (σ:St) (H:Hp) (i:Nat) (xs ys:List V),X.K=K->Inv X pins σ H s->(∀b∈[z,TI,TO,i1,i2],gE X pins H b)->IsZip s.heap z TI TO .none->(∃u v,IsPair s.heap TO u v)->s.heap.IsListIter i1 a i->s.heap.IsListIter i2 b i ->
   bq K H a xs->bq K H b ys->ZipApart z TI TO i1 i2 a b:=by
  intro X pins s σ H i xs ys hK I hf hz gK h1 h2 hx hy
  simp only[fZ,bJ,not_or,hW,not_false_eq_true,and_true]at D5
  obtain⟨⟨d1,d2,d3,d4⟩,⟨d5,d6,d7⟩,⟨d8,d9⟩,W4,_⟩:=D5
  have oz:∃o,s.heap.get? z=some o/\o.cls≠.type "list":=⟨_,hz,by intro q;exact absurd (B5 q) (by decide)⟩
  have MH:∃o,s.heap.get? TO=some o/\o.cls≠.type "list":=by obtain⟨u,v,e⟩:=gK;exact⟨_,e,by intro q;exact absurd (B5 q) (by decide)⟩
  have o1:∃o,s.heap.get? i1=some o/\o.cls≠.type "list":=by obtain⟨o,e,c,d⟩:=h1;exact⟨_,e,by rw[c];intro q;exact absurd (B5 q) (by decide)⟩
  have o2:∃o,s.heap.get? i2=some o/\o.cls≠.type "list":=by obtain⟨o,e,c,d⟩:=h2;exact⟨_,e,by rw[c];intro q;exact absurd (B5 q) (by decide)⟩
  exact⟨dy d1,dy d2,dy d3,dy d4,d5,d6,d7,d8,d9,W4,
   mW hK I hx (hf z (by simp)) oz,mW hK I hx (hf TO (by simp)) MH,mW hK I hx (hf i1 (by simp)) o1,mW hK I hx (hf i2 (by simp)) o2,
   mW hK I hy (hf z (by simp)) oz,mW hK I hy (hf TO (by simp)) MH,mW hK I hy (hf i1 (by simp)) o1,mW hK I hy (hf i2 (by simp)) o2⟩
 refine⟨by simp,λi h st c hc=>?_,λi h h' st kk=>?_,?_,?_,λ_ _ _ _ _ st h=>wpAny_pyIter_zip st.1 h⟩
 ·obtain⟨hz,jm,⟨u,v,gK⟩,⟨o1,e1,c1,d1⟩,⟨o2,e2,c2,d2⟩⟩:=st
  simp only[bJ,hW,or_false]at hc
  rcases hc with rfl | rfl | rfl | rfl | rfl
  ·exact⟨_,hz,λv q=>by cases q⟩
  ·exact⟨_,jm,λv q=>by cases q⟩
  ·exact⟨_,gK,λv q=>by cases q⟩
  ·exact⟨_,e1,λv q=>by rw[d1]at q;cases q⟩
  ·exact⟨_,e2,λv q=>by rw[d2]at q;cases q⟩
 ·obtain⟨hz,jm,⟨u,v,gK⟩,h1,h2⟩:=st
  exact⟨kk _ (by simp) _ hz,kk _ (by simp) _ jm,⟨u,v,kk _ (by simp) _ gK⟩,h1.at λo e=>kk _ (by simp) o e,h2.at λo e=>kk _ (by simp) o e⟩
 ·intro X hP hw hK hc i pins s σ H E I hf st hg
  obtain⟨xs,ys,x,y,hx,hy,ex,ey⟩:=hg
  obtain⟨hz,jm,⟨u,v,gK⟩,h1,h2⟩:=st
  have D:=ap X pins s σ H i xs ys hK I hf hz ⟨u,v,gK⟩ h1 h2 hx hy
  subst hP hw hK
  obtain⟨as,ra,pa,_⟩:=I.list hx
  obtain⟨bs,rb,pb,_⟩:=I.list hy
  obtain⟨ux,Du,rx⟩:=ra.get ex
  obtain⟨uy,W5,ry⟩:=rb.get ey
  refine wpAny_pyNext_zip_item D hz jm gK h1 h2 pa.isList pb.isList (x:=ux) (y:=uy) (by simpa using Du) (by simpa using W5) λh' z' W6 iQ ik T' sz kk=>?_
  have fT:H s.heap.objs.size=none:=I.ay.fresh (aX _)
  have I1:Inv X pins σ (upd H s.heap.objs.size (.tup [x,y])) { s with heap:=h',toks:=s.toks }:=I.MG (its:=[z,TO,i1,i2]) (λc o hc e=>kk c o (λq=>hc (by simp[q])) (λq=>hc (by simp[q])) (λq=>hc (by simp[q])) (λq=>hc (by simp[q])) e)
   (λc hc=>hf c (by simp only[bJ,hW,or_false]at hc ⊢;rcases hc with rfl | rfl | rfl | rfl<;>simp)) (aX _) ⟨by show 2<=sizeLine;decide,[ux,uy],.cons rx (.cons ry .nil),⟨_,T',rfl,_,rfl⟩⟩
  have nT:∀c∈[z,TI,TO,i1,i2],c≠s.heap.objs.size:=λc hc q=>by
   have:∃o,s.heap.get? c=some o:=by
    simp only[bJ,hW,or_false]at hc
    rcases hc with rfl | rfl | rfl | rfl | rfl
    ·exact⟨_,hz⟩
    ·exact⟨_,jm⟩
    ·exact⟨_,gK⟩
    ·obtain⟨o,e,_⟩:=h1;exact⟨o,e⟩
    ·obtain⟨o,e,_⟩:=h2;exact⟨o,e⟩
   obtain⟨o,e⟩:=this
   exact absurd (bf e) (by rw[q];exact fE _)
  refine⟨_,rfl,wpAny_letOwnedTupleGo_zip z' λDv Dw sb=>?_⟩
  have Dx:∀c∈[z],gE X pins (upd H s.heap.objs.size (.tup [x,y])) c:=λc hc=>by
   have e:c=z:=by simpa using hc
   subst e
   obtain⟨f0,fr⟩:=hf c (by simp)
   exact⟨by rw[aM (nT c (by simp))];exact f0,fr⟩
  have I2:=Inv.zi (h':=Dv) (its:=[z]) (t':=s.toks) I1 (λc o hc e=>sb.extBut _ _ (λq=>hc (by simp[q])) e) Dx
  refine⟨.ref s.heap.objs.size,_,I2,rfl,⟨_,x,y,rfl,fT,rfl,λW7 cQ=>by rw[I.yV cQ hx];exact ex,λoQ W8=>by rw[I.yV W8 hy];exact ey⟩,⟨Dw,sb.extBut _ _ D.TIz (kk _ _ D.TIz D.TITO D.TIi1 D.TIi2 jm),⟨ux,uy,sb.extBut _ _ D.TOz W6⟩,iQ.extBut sb.extBut D.i1z,ik.extBut sb.extBut D.i2z⟩,λc hc=>?_⟩
  rw[aM (nT c hc)]
  exact(hf c hc).1
 ·intro X hP hw hK hc i pins s σ H E I hf st hg
  obtain⟨xs,ys,hx,hy,hl⟩:=hg
  obtain⟨hz,jm,⟨u,v,gK⟩,h1,h2⟩:=st
  have D:=ap X pins s σ H i xs ys hK I hf hz ⟨u,v,gK⟩ h1 h2 hx hy
  subst hP hw hK
  obtain⟨as,ra,pa,_⟩:=I.list hx
  obtain⟨bs,rb,pb,_⟩:=I.list hy
  have la:=ra.length
  have lb:=rb.length
  refine wpAny_pyNext_zip_end (I.ok.hd hc) D hz jm gK h1 h2 pa.isList pb.isList (hl.imp (λq=>by simp;omega) λq=>by simp;omega) λh' kk=>⟨rfl,?_⟩
  exact I.zi (its:=[z,TO,i1,i2]) (t':=s.toks) (λc o hc e=>kk c o (λq=>hc (by simp[q])) (λq=>hc (by simp[q])) (λq=>hc (by simp[q])) (λq=>hc (by simp[q])) e)
   (λc hc=>hf c (by simp only[bJ,hW,or_false]at hc ⊢;rcases hc with rfl | rfl | rfl | rfl<;>simp))
noncomputable def Dy(K:PySem.W.Frag)(a:Addr):It :=
 ⟨λi H=>∃xs x,bq K H a xs/\xs[i]?=some x,
  λi H v H'=>∃T x,v=.ref T/\H T=none/\H'=upd H T (.tup [.int i,x])/\∀xs,bq K H a xs->xs[i]?=some x,
  λi H=>∃xs,bq K H a xs/\xs.length<=i⟩
theorem W9{P:Program}{w:World}{K:PySem.W.Frag}{elts:List Expr}{k:Nat}{pos:Pos}(a z it:Addr)(oR:z≠it) :
  Turn P w K (.Tuple elts k pos) (Dy K a) [z,it] z (λi h=>(∃old,IsEnum h z it i old)/\h.IsListIter it a i):=by
 refine⟨by simp,λi h st c hc=>?_,λi h h' st kk=>?_,?_,?_,λ_ _ _ _ _ st h=>by obtain⟨⟨old,e⟩,_⟩:=st;exact wpAny_pyIter_enum e h⟩
 ·obtain⟨⟨old,hz⟩,⟨o1,e1,c1,d1⟩⟩:=st
  simp only[bJ,hW,or_false]at hc
  rcases hc with rfl | rfl
  ·exact⟨_,hz,λv q=>by cases q⟩
  ·exact⟨_,e1,λv q=>by rw[d1]at q;cases q⟩
 ·obtain⟨⟨old,hz⟩,h1⟩:=st
  exact⟨⟨old,kk _ (by simp) _ hz⟩,h1.at λo e=>kk _ (by simp) o e⟩
 ·intro X hP hw hK hc i pins s σ H E I hf st hg
  subst hP hw hK
  obtain⟨xs,x,hx,ex⟩:=hg
  obtain⟨⟨old,hz⟩,h1⟩:=st
  obtain⟨as,ra,pa,_⟩:=I.list hx
  obtain⟨ux,Du,rx⟩:=ra.get ex
  refine wpAny_pyNext_enum_item hz h1 pa.isList (x:=ux) (by simpa using Du) oR λh' z' iQ T' sz kk=>?_
  have fT:H s.heap.objs.size=none:=I.ay.fresh (aX _)
  have I1:Inv X pins σ (upd H s.heap.objs.size (.tup [.int i,x])) { s with heap:=h',toks:=s.toks+1 }:=I.MG (its:=[z,it]) (λc o hc e=>kk c o (λq=>hc (by simp[q])) (λq=>hc (by simp[q])) e)
   (λc hc=>hf c hc) (aX _) ⟨by show 2<=sizeLine;decide,[.int i s.toks,ux],.cons ⟨_,rfl⟩ (.cons rx .nil),⟨_,T',rfl,_,rfl⟩⟩
  have nT:∀c∈[z,it],c≠s.heap.objs.size:=λc hc q=>by
   have:∃o,s.heap.get? c=some o:=by
    simp only[bJ,hW,or_false]at hc
    rcases hc with rfl | rfl
    ·exact⟨_,hz⟩
    ·obtain⟨o,e,_⟩:=h1;exact⟨o,e⟩
   obtain⟨o,e⟩:=this
   exact absurd (bf e) (by rw[q];exact fE _)
  refine⟨_,rfl,wpAny_letOwnedTupleGo_enum z' λDv Dw sb=>?_⟩
  have Dx:∀c∈[z],gE X pins (upd H s.heap.objs.size (.tup [.int i,x])) c:=λc hc=>by
   have e:c=z:=by simpa using hc
   subst e
   obtain⟨f0,fr⟩:=hf c (by simp)
   exact⟨by rw[aM (nT c (by simp))];exact f0,fr⟩
  have I2:=Inv.zi (h':=Dv) (its:=[z]) (t':=s.toks+1) I1 (λc o hc e=>sb.extBut _ _ (λq=>hc (by simp[q])) e) Dx
  refine⟨.ref s.heap.objs.size,_,I2,rfl,⟨_,x,rfl,fT,rfl,λW7 cQ=>by rw[I.yV cQ hx];exact ex⟩,⟨⟨ux,by simpa using Dw⟩,iQ.extBut sb.extBut (dy oR)⟩,λc hc=>?_⟩
  rw[aM (nT c hc)]
  exact(hf c hc).1
 ·intro X hP hw hK hc i pins s σ H E I hf st hg
  subst hP hw hK
  obtain⟨xs,hx,hl⟩:=hg
  obtain⟨⟨old,hz⟩,h1⟩:=st
  obtain⟨as,ra,pa,_⟩:=I.list hx
  have la:=ra.length
  refine wpAny_pyNext_enum_end (I.ok.hd hc) hz h1 pa.isList (by simp;omega) λh' kk=>⟨rfl,?_⟩
  exact I.zi (its:=[it]) (t':=s.toks) (λc o hc e=>kk c o (λq=>hc (by simp[q])) e) (λc hc=>hf c (by simp at hc ⊢;simp[hc]))
end
section
variable{X:Cx}{a b:Expr}{ta:TA}{p pos kB:Pos}{elts:List Expr}{x1:Nat}
noncomputable def Xa(K:PySem.W.Frag)(ta:TA):TI:=λσ H R=>ta σ H λvs H1=>∃a b,vs=[.ref a,.ref b]/\(∃xs,bq K H1 a xs)/\(∃ys,bq K H1 b ys)/\R (Dt K a b) H1
theorem Xb:bootBuiltins "zip"=some (.type "zip"):=by decide +kernel
theorem Xc(hg:Gl X "zip")(hm:X.mg "zip"=none)(ha:PA X [a,b] ta)(hs:starEach [a,b] X.env=[(false,eval a X.env),(false,eval b X.env)]:=by rfl)(gF:starEach [b] X.env=[(false,eval b X.env)]:=by rfl) :
  PI X (.Tuple elts x1 kB) (.Call (.Name "zip" p) [a,b] [] pos) (Xa X.K ta):=by
 intro pins s σ H R I h
 refine Call_ (ou I hg hm Xb (yi (aH (ha pos pins s σ H _ I h) λus s1 ⟨vs,H1,I1,r1,q1⟩=>?_) (by rw[hs,gF]) (by rw[gF];rfl)))
 obtain⟨a,b,e,⟨xs,hx⟩,⟨ys,hy⟩,q⟩:=q1
 subst e
 cases r1 with
 | cons r rr =>
  cases rr with
  | cons r2 rr =>
   cases rr
   cases r
   cases r2
   obtain⟨as,ra,pa,_⟩:=I1.list hx
   obtain⟨bs,rb,pb,_⟩:=I1.list hy
   refine call_zip_2 pa.isList pb.isList λh' hz jm gK h1 h2 sz kk=>wpAny_pyIter_zip hz ?_
   refine⟨_,[s1.heap.objs.size+4,s1.heap.objs.size+2,s1.heap.objs.size+3,s1.heap.objs.size,s1.heap.objs.size+1],_,_,H1,rfl,I1.kept (t':=s1.toks) kk,W3 a b _ _ _ _ _ (by simp),⟨hz,jm,⟨_,_,gK⟩,h1,h2⟩,λc hc=>?_,q⟩
   have hle:s1.heap.objs.size<=c:=by
    simp only[bJ,hW,or_false]at hc
    rcases hc with rfl | rfl | rfl | rfl | rfl<;>omega
   exact I1.y0 hle (I1.ay.fresh hle)
noncomputable def Xd(K:PySem.W.Frag)(ta:TA):TI:=λσ H R=>ta σ H λvs H1=>∃a,vs=[.ref a]/\(∃xs,bq K H1 a xs)/\R (Dy K a) H1
theorem Xe:bootBuiltins "enumerate"=some (.type "enumerate"):=by decide +kernel
theorem Xf(hg:Gl X "enumerate")(hm:X.mg "enumerate"=none)(ha:PA X [a] ta)(hs:starEach [a] X.env=[(false,eval a X.env)]:=by rfl) :
  PI X (.Tuple elts x1 kB) (.Call (.Name "enumerate" p) [a] [] pos) (Xd X.K ta):=by
 intro pins s σ H R I h
 refine Call_ (ou I hg hm Xe (yi (aH (ha pos pins s σ H _ I h) λus s1 ⟨vs,H1,I1,r1,q1⟩=>?_) hs rfl))
 obtain⟨a,e,⟨xs,hx⟩,q⟩:=q1
 subst e
 cases r1 with
 | cons r rr =>
  cases rr
  cases r
  obtain⟨as,ra,pa,_⟩:=I1.list hx
  refine call_enumerate_list pa.isList λh' hz h1 sz kk=>wpAny_pyIter_enum hz ?_
  refine⟨_,[s1.heap.objs.size+1,s1.heap.objs.size],_,_,H1,rfl,I1.kept (t':=s1.toks) kk,W9 a (s1.heap.objs.size+1) s1.heap.objs.size (Nat.succ_ne_self _),⟨⟨_,hz⟩,h1⟩,λc hc=>?_,q⟩
  have hle:s1.heap.objs.size<=c:=by
   simp only[bJ,hW,or_false]at hc
   rcases hc with rfl | rfl<;>omega
  exact I1.y0 hle (I1.ay.fresh hle)
end
end L2
namespace L2
open PySem PySem.Spec PyProof.Rows PySem.W PySem.Calls
section
variable{X:Cx}
noncomputable def q9{α:Type}(xs:List α)(lo hi:Option Int):List α:=(xs.drop (HT.cy xs.length 0 lo)).take (HT.cy xs.length xs.length hi-HT.cy xs.length 0 lo)
theorem Xg(x:Str)(lo hi:Option Int):Txt.slice x lo hi=⟨(q9 x.cps.toList lo hi).toArray⟩:=by
 have hx:x.length=x.cps.size:=rfl
 have e:(B6 lo hi 1 x.length).filterMap (x.cps[·]?)=q9 x.cps.toList lo hi:=by
  obtain⟨h1,h2,h3⟩:=C3 lo hi x.length
  have e0:B6 lo hi 1 x.length=sliceRange (sliceBounds lo hi none x.length).1 (sliceBounds lo hi none x.length).2.1 1:=by
   cases lo<;>cases hi<;>rfl
  rw[e0,h1,h2]
  simp only[sliceRange_one,pick_run]
  unfold q9
  rw[hx,hE]
 unfold Txt.slice
 split
 ·rename_i h
  have hl:(B6 lo hi 1 x.length).length=x.length:=by
   rw[da]at h;exact eq_of_beq h.2
  have hs:(q9 x.cps.toList lo hi)=x.cps.toList:=by
   have e2:HT.cy x.cps.toList.length x.cps.toList.length hi-HT.cy x.cps.toList.length 0 lo=x.length:=by
    obtain⟨h1,h2,h3⟩:=C3 lo hi x.length
    have e0:B6 lo hi 1 x.length=sliceRange (sliceBounds lo hi none x.length).1 (sliceBounds lo hi none x.length).2.1 1:=by
     cases lo<;>cases hi<;>rfl
    rw[e0,h1,h2]at hl
    simp only[sliceRange_one,bU,dR]at hl
    rw[hE,<- hx]
    omega
   unfold q9
   have le:HT.cy x.cps.toList.length x.cps.toList.length hi<=x.cps.toList.length:=by
    cases hi with
    | none=>simp[HT.cy]
    | some i=>simp only[HT.cy];split<;>omega
   have Xh:HT.cy x.cps.toList.length 0 lo<=x.cps.toList.length:=by
    cases lo with
    | none=>simp[HT.cy]
    | some i=>simp only[HT.cy];split<;>omega
   rw[hE,<- hx]at e2 le Xh ⊢
   have z:HT.cy x.length 0 lo=0:=by omega
   have z2:HT.cy x.length x.length hi=x.length:=by omega
   rw[z,z2,List.drop_zero,Nat.sub_zero,hx,<- hE,List.take_length]
  rw[hs]
 ·rw[e]
theorem Xi:oH X (λx lo hi H Q=>∃z,x=.str z/\z.length<=sizeLine/\Q (.str ⟨(q9 z.cps.toList lo hi).toArray⟩) H):=by
 intro pins s σ H x v vl vu lo hi sl Q I rx hs pl pu h
 obtain⟨z,rfl,hz,q⟩:=h
 obtain⟨t,rfl⟩:=rx
 refine⟨"str",_,F.slot_str_getitem.lookup,typeIs_str _ _ _,?_⟩
 have fin:∀(l u:Option (Int × Tok)),l.map (·.1)=lo->u.map (·.1)=hi->partValue l=vl->partValue u=vu->wpAny (model X.prog X.w) X.A (getItem (.str z t) (.ref sl)) (EP X pins σ Q) X.xe s:=by
  intro l u h1 h2 h3 h4
  obtain⟨o,e1,e2,e3⟩:=hs
  refine wpAny_getItem_str_slice (l:=l) (u:=u) (st:=none) ⟨o,e1,e2,by rw[e3,h3,h4];rfl⟩ rfl ?_
  have e:Txt.slice z lo hi=(if(((none:Option (Int × Tok)).map (·.1)).getD 1==1&&(slicePicked z l u none).length==z.length)=true then z else⟨((slicePicked z l u none).filterMap (z.cps[·]?)).toArray⟩):=by
   unfold Txt.slice slicePicked;rw[h1,h2];rfl
  refine post_val_or_str ⟨?_,λt' k=>?_⟩
  ·rw[<-e];exact dP (Txt.slice_le z _ _) hz
  ·rw[<-e,Xg];exact⟨.str _,H,I.tok _,⟨_,rfl⟩,q⟩
 cases pl with
 | none =>
  cases pu with
  | none=>exact fin none none rfl rfl rfl rfl
  | int j tj=>exact fin none (some (j,tj)) rfl rfl rfl rfl
 | int i ti =>
  cases pu with
  | none=>exact fin (some (i,ti)) none rfl rfl rfl rfl
  | int j tj=>exact fin (some (i,ti)) (some (j,tj)) rfl rfl rfl rfl
end
end L2
namespace L3
open PySem L2
noncomputable def gL:HO->Bool
 | .cH _=>false
 | _=>true
structure aa(H H':Hp):Prop where
 get:∀b o,H b=some o->(h:gL o=true:=by rfl)->H' b=some o
 tb:∀b ps,H b=some (.cH ps)->∃more,H' b=some (.cH (ps++more))
noncomputable instance {H H':Hp}:CoeFun (aa H H') λ_=>∀b o,H b=some o->(h:gL o=true:=by rfl)->H' b=some o:=⟨λs=>@aa.get _ _ s⟩
theorem Dz{o:HO}(h:gL o=false):∃ps,o=.cH ps:=by
 cases o with
 | cH ps=>exact⟨ps,rfl⟩
 | _=>cases h
theorem aa.of{H H':Hp}(h:∀b o,H b=some o->H' b=some o):aa H H':=⟨λb o e _=>h b o e,λb ps e=>⟨#[],by rw[h b _ e];simp⟩⟩
theorem aa.refl(H:Hp):aa H H:=.of λ_ _ h=>h
theorem aa.trans{H H1 H2:Hp}(a:aa H H1)(b:aa H1 H2):aa H H2 :=
 ⟨λc o h n=>b.get c o (a.get c o h n) n,λc ps h=>by
  obtain⟨m1,e1⟩:=a.tb c ps h
  obtain⟨m2,e2⟩:=b.tb c _ e1
  exact⟨m1++m2,by rw[e2,uV]⟩⟩
theorem aa.any{H H':Hp}(e:aa H H'){l:Addr}{o:HO}(h:H l=some o):∃o',H' l=some o':=by
 cases n:gL o with
 | true=>exact⟨o,e.get l o h n⟩
 | false =>
  obtain⟨ps,rfl⟩:=Dz n
  obtain⟨m,q⟩:=e.tb l ps h
  exact⟨_,q⟩
theorem aa.free{H H':Hp}(e:aa H H'){l:Addr}(h:H' l=BX):H l=BX:=by
 cases q:H l with
 | none=>rfl
 | some o =>
  obtain⟨o',z⟩:=e.any q
  rw[z]at h
  cases h
theorem aa.seq{K:PySem.W.Frag}{H H':Hp}{a:Addr}{xs:List V}(e:aa H H')(h:bq K H a xs):bq K H' a xs:=by
 rcases h with (h | ⟨o,h⟩) | h
 ·exact .inl (.inl (e _ _ h))
 ·exact .inl (.inr ⟨o,e _ _ h⟩)
 ·exact .inr h
inductive rh where
 | ext (φ:Addr->Heap->Prop)
 | lam (of oc:Obj) (c k:Addr)
noncomputable instance:Coe (Addr->Heap->Prop) rh:=⟨.ext⟩
noncomputable def DA(H:Hp)(k:Addr):Prop:=∃ψ,H k=some (.ext ψ)/\∀h,ψ h->∃q,h.CodeRec (.ref k) q
noncomputable def iq(of oc:Obj)(c p:Addr):Heap->Prop:=λh=>h.get? p=some of/\h.get? c=some oc
structure gi(H:Hp)(p:Addr)(of oc:Obj)(c k:Addr):Prop where
 fn:H p=some (.ext (iq of oc c p))
 cell:H c=some (.own p)
 DB:DA H k
noncomputable def mX(H:Hp)(p:Addr):rh->Prop
 | .ext φ=>H p=some (.ext (φ p))
 | .lam of oc c k=>gi H p of oc c k
theorem mX.mono{H H':Hp}{p:Addr}:∀{z:rh},mX H p z->(∀a o,H a=some o->(∀ws,o≠.lst ws)->gL o=true->H' a=some o)->mX H' p z
 | .ext φ,x,k=>k _ _ x (λws q=>by cases q) rfl
 | .lam of oc c k',x,k=>⟨k _ _ x.fn (λws q=>by cases q) rfl,k _ _ x.cell (λws q=>by cases q) rfl,let⟨ψ,e,h⟩:=x.DB;⟨ψ,k _ _ e (λws q=>by cases q) rfl,h⟩⟩
inductive D where
 | ak | bl (b:Bool) | int (i:Int) | str (x:Str)
 | lst (o:Bool) (xs:List D)
 | tup (xs:List D)
 | obj (C:Addr) (ns:List Str) (xs:List D)
 | fz (xs:List D)
 | aV (z:rh)
 deriving Inhabited
noncomputable def D.pl:D->Bool
 | .lst o xs=>!o&&vM xs
 | .tup xs=>vM xs
 | _=>true
where vM:List D->Bool
 | []=>true
 | d::ds=>d.pl&&vM ds
noncomputable def D.fr:D->Bool
 | .lst o xs=>o&&vN xs
 | .tup xs=>vN xs
 | .obj _ _ _=>false
 | .fz _=>false
 | _=>true
where vN:List D->Bool
 | []=>true
 | d::ds=>d.fr&&vN ds
noncomputable def D.sh:D->D
 | .lst _ xs=>.lst false (vO xs)
 | .tup xs=>.tup (vO xs)
 | d=>d
where vO:List D->List D
 | []=>[]
 | d::ds=>d.sh::vO ds
theorem MI(ds:List D):D.pl.vM ds=ds.all D.pl:=by induction ds with | nil=>rfl | cons d ds ih=>simp[D.pl.vM,ih]
theorem MJ(ds:List D):D.fr.vN ds=ds.all D.fr:=by induction ds with | nil=>rfl | cons d ds ih=>simp[D.fr.vN,ih]
theorem MK(ds:List D):D.sh.vO ds=ds.map D.sh:=by induction ds with | nil=>rfl | cons d ds ih=>simp[D.sh.vO,ih]
theorem gM(o:Bool)(xs:List D):(D.lst o xs).pl=(!o&&xs.all D.pl):=by simp[D.pl,MI]
theorem jT(xs:List D):(D.tup xs).pl=xs.all D.pl:=by simp[D.pl,MI]
theorem fK(o:Bool)(xs:List D):(D.lst o xs).fr=(o&&xs.all D.fr):=by simp[D.fr,MJ]
theorem oS(xs:List D):(D.tup xs).fr=xs.all D.fr:=by simp[D.fr,MJ]
theorem dX(o:Bool)(xs:List D):(D.lst o xs).sh=.lst false (xs.map D.sh):=by simp[D.sh,MK]
theorem kP(xs:List D):(D.tup xs).sh=.tup (xs.map D.sh):=by simp[D.sh,MK]
inductive R(F H:Hp):List D->List V->List Addr->Prop
 | nil:R F H [] [] []
 | ak {ds vs B}:R F H ds vs B->R F H (.ak::ds) (.ak::vs) B
 | bl {b ds vs B}:R F H ds vs B->R F H (.bl b::ds) (.bl b::vs) B
 | int {i ds vs B}:R F H ds vs B->R F H (.int i::ds) (.int i::vs) B
 | str {x ds vs B}:R F H ds vs B->R F H (.str x::ds) (.str x::vs) B
 | shr {p ws xs ds vs B}:F p=some (.lst ws)->R F H xs ws []->R F H ds vs B->R F H (.lst false xs::ds) (.ref p::vs) B
 | own {p ws xs A ds vs B}:H p=some (.lst ws)->F p=none->R F H xs ws A->R F H ds vs B->R F H (.lst true xs::ds) (.ref p::vs) (p::(A++B))
 | tup {p ws xs A ds vs B}:H p=some (.tup ws)->R F H xs ws A->R F H ds vs B->R F H (.tup xs::ds) (.ref p::vs) (A++B)
 | obj {p C dx ns ws xs ds vs B}:H p=some (.ins C dx (ns.zip ws))->ns.length=ws.length->R F H xs ws []->R F H ds vs B->R F H (.obj C ns xs::ds) (.ref p::vs) B
 | fz {p o ws xs ds vs B}:F p=some (.bL o (.lst ws))->R F H xs ws []->R F H ds vs B->R F H (.fz xs::ds) (.ref p::vs) B
 | aV {p z ds vs B}:mX H p z->R F H ds vs B->R F H (.aV z::ds) (.ref p::vs) B
inductive S(F H:Hp):List D->List V->Prop
 | nil:S F H [] []
 | ak {ds vs}:S F H ds vs->S F H (.ak::ds) (.ak::vs)
 | bl {b ds vs}:S F H ds vs->S F H (.bl b::ds) (.bl b::vs)
 | int {i ds vs}:S F H ds vs->S F H (.int i::ds) (.int i::vs)
 | str {x ds vs}:S F H ds vs->S F H (.str x::ds) (.str x::vs)
 | shr {p ws xs ds vs}:F p=some (.lst ws)->R F H xs ws []->S F H ds vs->S F H (.lst false xs::ds) (.ref p::vs)
 | own {p ws xs ds vs}:H p=some (.lst ws)->S F H xs ws->S F H ds vs->S F H (.lst true xs::ds) (.ref p::vs)
 | tup {p ws xs ds vs}:H p=some (.tup ws)->S F H xs ws->S F H ds vs->S F H (.tup xs::ds) (.ref p::vs)
 | obj {p C dx ns ws xs ds vs}:H p=some (.ins C dx (ns.zip ws))->ns.length=ws.length->R F H xs ws []->S F H ds vs->S F H (.obj C ns xs::ds) (.ref p::vs)
 | fz {p o ws xs ds vs}:F p=some (.bL o (.lst ws))->R F H xs ws []->S F H ds vs->S F H (.fz xs::ds) (.ref p::vs)
 | aV {p z ds vs}:mX H p z->S F H ds vs->S F H (.aV z::ds) (.ref p::vs)
section
variable{F F' H H':Hp}{d:D}{ds es:List D}{v:V}{vs ws:List V}{A B:List Addr}
theorem R.length(r:R F H ds vs A):ds.length=vs.length:=by
 induction r<;>simp_all
theorem S.length(r:S F H ds vs):ds.length=vs.length:=by
 induction r<;>simp_all
theorem R.cons(r:R F H [d] [v] A)(q:R F H ds vs B):R F H (d::ds) (v::vs) (A++B):=by
 cases r with
 | ak r=>cases r;exact .ak q
 | bl r=>cases r;exact .bl q
 | int r=>cases r;exact .int q
 | str r=>cases r;exact .str q
 | shr h x r=>cases r;exact .shr h x q
 | own h f x r=>cases r;simpa using R.own h f x q
 | tup h x r=>cases r;simpa using R.tup h x q
 | obj h l x r=>cases r;exact .obj h l x q
 | fz h x r=>cases r;exact .fz h x q
 | aV h r=>cases r;exact .aV h q
theorem R.cA(r:R F H (d::ds) vs A):∃v bX A1 A2,vs=v::bX/\A=A1++A2/\R F H [d] [v] A1/\R F H ds bX A2:=by
 cases r with
 | ak r=>exact⟨_,_,[],_,rfl,rfl,.ak .nil,r⟩
 | bl r=>exact⟨_,_,[],_,rfl,rfl,.bl .nil,r⟩
 | int r=>exact⟨_,_,[],_,rfl,rfl,.int .nil,r⟩
 | str r=>exact⟨_,_,[],_,rfl,rfl,.str .nil,r⟩
 | shr h x r=>exact⟨_,_,[],_,rfl,rfl,.shr h x .nil,r⟩
 | @own p _ _ A1 _ _ B1 h f x r=>exact⟨_,_,p::A1,B1,rfl,rfl,by simpa using R.own h f x .nil,r⟩
 | @tup p _ _ A1 _ _ B1 h x r=>exact⟨_,_,A1,B1,rfl,rfl,by simpa using R.tup h x .nil,r⟩
 | obj h l x r=>exact⟨_,_,[],_,rfl,rfl,.obj h l x .nil,r⟩
 | fz h x r=>exact⟨_,_,[],_,rfl,rfl,.fz h x .nil,r⟩
 | aV h r=>exact⟨_,_,[],_,rfl,rfl,.aV h .nil,r⟩
theorem S.cons(r:S F H [d] [v])(q:S F H ds vs):S F H (d::ds) (v::vs):=by
 cases r with
 | ak r=>exact .ak q
 | bl r=>exact .bl q
 | int r=>exact .int q
 | str r=>exact .str q
 | shr h x r=>exact .shr h x q
 | own h x r=>exact .own h x q
 | tup h x r=>exact .tup h x q
 | obj h l x r=>exact .obj h l x q
 | fz h x r=>exact .fz h x q
 | aV h r=>exact .aV h q
theorem S.cA(r:S F H (d::ds) vs):∃v bX,vs=v::bX/\S F H [d] [v]/\S F H ds bX:=by
 cases r with
 | ak r=>exact⟨_,_,rfl,.ak .nil,r⟩
 | bl r=>exact⟨_,_,rfl,.bl .nil,r⟩
 | int r=>exact⟨_,_,rfl,.int .nil,r⟩
 | str r=>exact⟨_,_,rfl,.str .nil,r⟩
 | shr h x r=>exact⟨_,_,rfl,.shr h x .nil,r⟩
 | own h x r=>exact⟨_,_,rfl,.own h x .nil,r⟩
 | tup h x r=>exact⟨_,_,rfl,.tup h x .nil,r⟩
 | obj h l x r=>exact⟨_,_,rfl,.obj h l x .nil,r⟩
 | fz h x r=>exact⟨_,_,rfl,.fz h x .nil,r⟩
 | aV h r=>exact⟨_,_,rfl,.aV h .nil,r⟩
theorem R.append:∀{ds:List D} {vs:List V} {A:List Addr},R F H ds vs A->R F H es ws B->R F H (ds++es) (vs++ws) (A++B)
 | [],_,_,r,q=>by cases r;exact q
 | d::ds,_,_,r,q=>by
  obtain⟨v,bX,A1,A2,rfl,rfl,h1,h2⟩:=r.cA
  simpa using h1.cons (R.append h2 q)
theorem S.append:∀{ds:List D} {vs:List V},S F H ds vs->S F H es ws->S F H (ds++es) (vs++ws)
 | [],_,r,q=>by cases r;exact q
 | d::ds,_,r,q=>by
  obtain⟨v,bX,rfl,h1,h2⟩:=r.cA
  exact h1.cons (S.append h2 q)
theorem R.split:∀{ds:List D} {vs:List V} {A:List Addr},R F H (ds++es) vs A->∃v1 v2 A1 A2,vs=v1++v2/\A=A1++A2/\R F H ds v1 A1/\R F H es v2 A2
 | [],vs,A,r=>⟨[],vs,[],A,rfl,rfl,.nil,r⟩
 | d::ds,_,_,r=>by
  obtain⟨v,bX,A1,A2,rfl,rfl,h1,h2⟩:=R.cA (ds:=ds++es) r
  obtain⟨v1,v2,B1,B2,rfl,rfl,h3,h4⟩:=R.split (ds:=ds) h2
  exact⟨v::v1,v2,A1++B1,B2,rfl,by simp,h1.cons h3,h4⟩
theorem R.get:∀{ds:List D} {vs:List V} {A:List Addr} {i:Nat},R F H ds vs A->ds[i]?=some d->∃v A1,vs[i]?=some v/\R F H [d] [v] A1/\A1 ⊆ A
 | [],_,_,_,_,e=>by simp at e
 | d'::ds,_,_,i,r,e=>by
  obtain⟨v,bX,A1,A2,rfl,rfl,h1,h2⟩:=r.cA
  cases i with
  | zero=>simp at e;subst e;exact⟨v,A1,rfl,h1,by simp⟩
  | succ i =>
   obtain⟨w,B1,e2,q,sb⟩:=R.get (ds:=ds) (i:=i) h2 (by simpa using e)
   exact⟨w,B1,by simpa using e2,q,λx hx=>dz _ (sb hx)⟩
theorem S.get:∀{ds:List D} {vs:List V} {i:Nat},S F H ds vs->ds[i]?=some d->∃v,vs[i]?=some v/\S F H [d] [v]
 | [],_,_,_,e=>by simp at e
 | d'::ds,_,i,r,e=>by
  obtain⟨v,bX,rfl,h1,h2⟩:=r.cA
  cases i with
  | zero=>simp at e;subst e;exact⟨v,rfl,h1⟩
  | succ i =>
   obtain⟨w,e2,q⟩:=S.get (ds:=ds) (i:=i) h2 (by simpa using e)
   exact⟨w,by simpa using e2,q⟩
theorem S.get':∀{ds:List D} {vs:List V} {i:Nat},S F H ds vs->vs[i]?=some v->∃d,ds[i]?=some d/\S F H [d] [v]
 | [],_,_,r,e=>by cases r;simp at e
 | d'::ds,_,i,r,e=>by
  obtain⟨v,bX,rfl,h1,h2⟩:=r.cA
  cases i with
  | zero=>simp at e;subst e;exact⟨d',rfl,h1⟩
  | succ i =>
   obtain⟨w,e2,q⟩:=S.get' (ds:=ds) (i:=i) h2 (by simpa using e)
   exact⟨w,by simpa using e2,q⟩
theorem S.take:∀{ds:List D} {vs:List V} (n:Nat),S F H ds vs->S F H (ds.take n) (vs.take n)
 | _,_,0,r=>by simpa using S.nil
 | [],_,n+1,r=>by cases r;exact .nil
 | d::ds,_,n+1,r=>by
  obtain⟨v,bX,rfl,h1,h2⟩:=r.cA
  exact h1.cons (S.take n h2)
theorem S.drop:∀{ds:List D} {vs:List V} (n:Nat),S F H ds vs->S F H (ds.drop n) (vs.drop n)
 | _,_,0,r=>by simpa using r
 | [],_,n+1,r=>by cases r;exact .nil
 | d::ds,_,n+1,r=>by
  obtain⟨v,bX,rfl,h1,h2⟩:=r.cA
  exact S.drop n h2
theorem gj{p:Addr}{o:HO}(h:Rd F p o)(s:aa F F')(n:gL o=true:=by rfl):Rd F' p o:=by
 rcases h with h | ⟨u,h⟩
 ·exact .inl (s.get _ _ h n)
 ·exact .inr ⟨u,s _ _ h⟩
theorem R.s(r:R F H ds vs A):S F H ds vs:=by
 induction r with
 | nil=>exact .nil
 | ak _ ih=>exact .ak ih
 | bl _ ih=>exact .bl ih
 | int _ ih=>exact .int ih
 | str _ ih=>exact .str ih
 | shr h x _ _ ih=>exact .shr h x ih
 | own h f _ _ i1 i2=>exact .own h i1 i2
 | tup h _ _ i1 i2=>exact .tup h i1 i2
 | obj h l x _ _ ih=>exact .obj h l x ih
 | fz h x _ _ ih=>exact .fz h x ih
 | aV h _ ih=>exact .aV h ih
structure fu(W:List Addr)(H H':Hp):Prop where
 get:∀a o,H a=some o->a ∉ W->(h:gL o=true:=by rfl)->H' a=some o
noncomputable instance {W:List Addr} {H H':Hp}:CoeFun (fu W H H') λ_=>∀a o,H a=some o->a ∉ W->(h:gL o=true:=by rfl)->H' a=some o:=⟨λs=>@fu.get _ _ _ s⟩
noncomputable def gk(W:List Addr)(H:Hp):Prop:=∀a∈W,∃ws,H a=some (.lst ws)
theorem R.keep{W:List Addr}(hf:aa F F')(hb:fu W H H')(hl:gk W H)(r:R F H ds vs A)(hn:∀a∈A,F' a=none)(hd:∀a∈A,a ∉ W):R F' H' ds vs A:=by
 induction r with
 | nil=>exact .nil
 | ak _ ih=>exact .ak (ih hn hd)
 | bl _ ih=>exact .bl (ih hn hd)
 | int _ ih=>exact .int (ih hn hd)
 | str _ ih=>exact .str (ih hn hd)
 | shr h x _ i1 ih=>exact .shr (hf _ _ h) (i1 (by simp) (by simp)) (ih hn hd)
 | own h f _ _ i1 i2 =>
  refine .own (hb _ _ h (hd _ (by simp))) (hn _ (by simp)) (i1 (λa ha=>hn a ?_) λa ha=>hd a ?_) (i2 (λa ha=>hn a ?_) λa ha=>hd a ?_)<;>simp[ha]
 | @tup p ws _ _ _ _ _ h _ _ i1 i2 =>
  refine .tup (hb _ _ h λz=>?_) (i1 (λa ha=>hn a ?_) λa ha=>hd a ?_) (i2 (λa ha=>hn a ?_) λa ha=>hd a ?_)<;>try simp[ha]
  obtain⟨q,e⟩:=hl _ z
  rw[h]at e;cases e
 | obj h l x _ i1 ih =>
  refine .obj (hb _ _ h λz=>?_) l (i1 (by simp) (by simp)) (ih hn hd)
  obtain⟨q,e⟩:=hl _ z
  rw[h]at e;cases e
 | fz h x _ i1 ih=>exact .fz (hf _ _ h) (i1 (by simp) (by simp)) (ih hn hd)
 | aV h _ ih =>
  exact .aV (h.mono λa o e n t=>hb.get a o e (λz=>by
   obtain⟨q,e'⟩:=hl _ z
   rw[e]at e';cases e';exact n _ rfl) t) (ih hn hd)
theorem fu.same(h:aa H H'):fu [] H H':=⟨λa o e _ n=>h.get a o e n⟩
theorem gk.nil:gk [] H:=λa h=>absurd h (by simp)
theorem R.grow(hf:aa F F')(hb:aa H H')(r:R F H ds vs A)(hn:∀a∈A,F' a=none):R F' H' ds vs A :=
 r.keep hf (fu.same hb) gk.nil hn (by simp)
theorem R.shared(hf:aa F F')(hb:aa H H')(r:R F H ds vs []):R F' H' ds vs []:=r.grow hf hb (by simp)
theorem S.mono(hf:aa F F')(hb:aa H H')(r:S F H ds vs):S F' H' ds vs:=by
 induction r with
 | nil=>exact .nil
 | ak _ ih=>exact .ak ih
 | bl _ ih=>exact .bl ih
 | int _ ih=>exact .int ih
 | str _ ih=>exact .str ih
 | shr h x _ ih=>exact .shr (hf _ _ h) (x.shared hf hb) ih
 | own h _ _ i1 i2=>exact .own (hb _ _ h) i1 i2
 | tup h _ _ i1 i2=>exact .tup (hb _ _ h) i1 i2
 | obj h l x _ ih=>exact .obj (hb _ _ h) l (x.shared hf hb) ih
 | fz h x _ ih=>exact .fz (hf _ _ h) (x.shared hf hb) ih
 | aV h _ ih=>exact .aV (h.mono λa o e _ t=>hb.get a o e t) ih
theorem S.r(s:S F H ds vs)(p:ds.all D.pl=true):R F H ds vs []:=by
 induction s with
 | nil=>exact .nil
 | ak _ ih=>exact .ak (ih (by simpa[D.pl]using p))
 | bl _ ih=>exact .bl (ih (by simpa[D.pl]using p))
 | int _ ih=>exact .int (ih (by simpa[D.pl]using p))
 | str _ ih=>exact .str (ih (by simpa[D.pl]using p))
 | shr h x _ ih=>exact .shr h x (ih (by simp[gM]at p;simpa using p.2))
 | own h _ _ i1 i2=>simp[gM]at p
 | tup h _ _ i1 i2 =>
  rw[dG,jT,da]at p
  simpa using R.tup h (i1 p.1) (i2 p.2)
 | obj h l x _ ih=>exact .obj h l x (ih (by simpa[D.pl]using p))
 | fz h x _ ih=>exact .fz h x (ih (by simpa[D.pl]using p))
 | aV h _ ih=>exact .aV h (ih (by simpa[D.pl]using p))
theorem R.pl(r:R F H ds vs []):ds.all D.pl=true:=by
 generalize e:([]:List Addr)=A at r
 induction r with
 | nil=>rfl
 | ak _ ih=>simp[D.pl];simpa using ih e
 | bl _ ih=>simp[D.pl];simpa using ih e
 | int _ ih=>simp[D.pl];simpa using ih e
 | str _ ih=>simp[D.pl];simpa using ih e
 | shr h x _ i1 ih=>simp only[dG,gM,i1 rfl,ih e];rfl
 | own h f _ _ i1 i2=>cases e
 | tup h _ _ i1 i2 =>
  obtain⟨e1,e2⟩:=B7.mp e.symm
  simp only[dG,jT,i1 e1.symm,i2 e2.symm];rfl
 | obj h l x _ i1 ih=>simp[D.pl];simpa using ih e
 | fz h x _ i1 ih=>simp[D.pl];simpa using ih e
 | aV h _ ih=>simp[D.pl];simpa using ih e
theorem D.zj:∀{d:D},d.pl=true->d.sh=d
 | .ak,_=>rfl
 | .bl _,_=>rfl
 | .int _,_=>rfl
 | .str _,_=>rfl
 | .obj _ _ _,_=>rfl
 | .fz _,_=>rfl
 | .aV _,_=>rfl
 | .lst o xs,h=>by
  rw[gM,da]at h
  have:∀(l:List D),(∀x∈l,x∈xs)->l.all D.pl=true->l.map D.sh=l:=by
   intro l hl hp
   induction l with
   | nil=>rfl
   | cons x l ih =>
    simp only[dG,da]at hp
    have hx:x∈xs:=hl x (by simp)
    rw[dF,D.zj hp.1,ih (λy hy=>hl y (by simp[hy])) hp.2]
  rw[dX,this xs (λ_ h=>h) h.2]
  cases o<;>simp_all
 | .tup xs,h=>by
  rw[jT]at h
  have:∀(l:List D),(∀x∈l,x∈xs)->l.all D.pl=true->l.map D.sh=l:=by
   intro l hl hp
   induction l with
   | nil=>rfl
   | cons x l ih =>
    simp only[dG,da]at hp
    have hx:x∈xs:=hl x (by simp)
    rw[dF,D.zj hp.1,ih (λy hy=>hl y (by simp[hy])) hp.2]
  rw[kP,this xs (λ_ h=>h) h]
termination_by d=>sizeOf d
theorem mY{l:List D}(h:l.all D.pl=true):l.map D.sh=l:=by
 induction l with
 | nil=>rfl
 | cons x l ih =>
  simp only[dG,da]at h
  rw[dF,D.zj h.1,ih h.2]
theorem S.frozen(e:aa F H)(s:S F H ds vs):R H H (ds.map D.sh) vs []:=by
 induction s with
 | nil=>exact .nil
 | ak _ ih=>exact .ak ih
 | bl _ ih=>exact .bl ih
 | int _ ih=>exact .int ih
 | str _ ih=>exact .str ih
 | shr h x _ ih =>
  rw[dF,dX,mY x.pl]
  exact .shr (e _ _ h) (x.shared e (aa.refl _)) ih
 | own h _ _ i1 i2=>rw[dF,dX];exact .shr h i1 i2
 | tup h _ _ i1 i2=>rw[dF,kP];simpa using R.tup h i1 i2
 | obj h l x _ ih=>exact .obj h l (x.shared e (aa.refl _)) ih
 | fz h x _ ih=>exact .fz (e _ _ h) (x.shared e (aa.refl _)) ih
 | aV h _ ih=>exact .aV h ih
noncomputable def bL(F H:Hp)(A:List Addr):Hp:=λa=>if a∈A then H a else F a
theorem jU(e:aa F H):aa F (bL F H A):=⟨λa o h n=>by unfold bL;split;exact e.get _ _ h n;exact h,λa ps h=>by unfold bL;split;exact e.tb _ _ h;exact⟨#[],by rw[h];simp⟩⟩
theorem ML(e:aa F H):aa (bL F H A) H:=⟨λa o h n=>by unfold bL at h;split at h;exact h;exact e.get _ _ h n,λa ps h=>by unfold bL at h;split at h;exact⟨#[],by rw[h];simp⟩;exact e.tb _ _ h⟩
theorem zk{a:Addr}(h:a ∉ A):bL F H A a=F a:=by unfold bL;rw[if_neg h]
theorem Xj{a:Addr}(h:a∈A):bL F H A a=H a:=by unfold bL;rw[if_pos h]
theorem R.bL(e:aa F H)(r:R F H ds vs A):∀A',A ⊆ A'->R (L3.bL F H A') H (ds.map D.sh) vs []:=by
 induction r with
 | nil=>exact λ_ _=>.nil
 | ak _ ih=>exact λA' h=>.ak (ih A' h)
 | bl _ ih=>exact λA' h=>.bl (ih A' h)
 | int _ ih=>exact λA' h=>.int (ih A' h)
 | str _ ih=>exact λA' h=>.str (ih A' h)
 | shr h x _ i1 ih =>
  intro A' hA
  rw[dF,dX,mY x.pl]
  exact .shr (jU e _ _ h) (x.shared (jU e) (aa.refl _)) (ih A' hA)
 | own h f _ _ i1 i2 =>
  intro A' hA
  rw[dF,dX]
  exact .shr ((Xj (hA (by simp))).trans h) (i1 A' λa ha=>hA (by simp[ha])) (i2 A' λa ha=>hA (by simp[ha]))
 | tup h _ _ i1 i2 =>
  intro A' hA
  rw[dF,kP]
  simpa using R.tup h (i1 A' λa ha=>hA (by simp[ha])) (i2 A' λa ha=>hA (by simp[ha]))
 | obj h l x _ i1 ih=>exact λA' hA=>.obj h l (x.shared (jU e) (aa.refl _)) (ih A' hA)
 | fz h x _ i1 ih=>exact λA' hA=>.fz (jU e _ _ h) (x.shared (jU e) (aa.refl _)) (ih A' hA)
 | aV h _ ih=>exact λA' hA=>.aV h (ih A' hA)
theorem R.lists(r:R F H ds vs A):∀a∈A,(∃ws,H a=some (.lst ws))/\F a=none:=by
 induction r with
 | nil=>simp
 | ak _ ih=>exact ih
 | bl _ ih=>exact ih
 | int _ ih=>exact ih
 | str _ ih=>exact ih
 | shr h x _ i1 ih=>exact ih
 | own h f _ _ i1 i2 =>
  intro a ha
  rcases bJ.mp ha with rfl | ha
  ·exact⟨⟨_,h⟩,f⟩
  ·exact(bP.mp ha).elim (i1 a) (i2 a)
 | tup h _ _ i1 i2=>exact λa ha=>(bP.mp ha).elim (i1 a) (i2 a)
 | obj h l x _ i1 ih=>exact ih
 | fz h x _ i1 ih=>exact ih
 | aV h _ ih=>exact ih
theorem R.DC(r:R F H ds vs A)(hd:ds.all D.fr=true)(e:aa F' F):R F' H ds vs A:=by
 induction r with
 | nil=>exact .nil
 | ak _ ih=>exact .ak (ih (by simpa[D.fr]using hd))
 | bl _ ih=>exact .bl (ih (by simpa[D.fr]using hd))
 | int _ ih=>exact .int (ih (by simpa[D.fr]using hd))
 | str _ ih=>exact .str (ih (by simpa[D.fr]using hd))
 | shr h x _ i1 ih=>simp[fK]at hd
 | own h f _ _ i1 i2 =>
  rw[dG,fK,da,n6]at hd
  exact .own h (e.free f) (i1 hd.1) (i2 hd.2)
 | tup h _ _ i1 i2 =>
  rw[dG,oS,da]at hd
  exact .tup h (i1 hd.1) (i2 hd.2)
 | obj h l x _ i1 ih=>simp[D.fr]at hd
 | fz h x _ i1 ih=>simp[D.fr]at hd
 | aV h _ ih=>exact .aV h (ih (by simpa[D.fr]using hd))
theorem R.inj(r:R F H ds vs A):∀{B:List Addr},R F H ds vs B->A=B:=by
 induction r with
 | nil=>intro B q;cases q;rfl
 | ak _ ih=>intro B q;cases q with | ak q=>exact ih q
 | bl _ ih=>intro B q;cases q with | bl q=>exact ih q
 | int _ ih=>intro B q;cases q with | int q=>exact ih q
 | str _ ih=>intro B q;cases q with | str q=>exact ih q
 | shr h x _ i1 ih=>intro B q;cases q with | shr _ _ q=>exact ih q
 | own h f _ _ i1 i2 =>
  intro B q
  cases q with
  | own h' f' x' q =>
   rw[h]at h';cases h'
   rw[i1 x',i2 q]
 | tup h _ _ i1 i2 =>
  intro B q
  cases q with
  | tup h' x' q =>
   rw[h]at h';cases h'
   rw[i1 x',i2 q]
 | obj h l x _ i1 ih=>intro B q;cases q with | obj _ _ _ q=>exact ih q
 | fz h x _ i1 ih=>intro B q;cases q with | fz _ _ q=>exact ih q
 | aV h _ ih=>intro B q;cases q with | aV _ q=>exact ih q
theorem R.perm{ps qs:List (D × V)}(hp:ps.Perm qs):∀{A:List Addr},R F H (ps.map (·.1)) (ps.map (·.2)) A->∃A',R F H (qs.map (·.1)) (qs.map (·.2)) A'/\A.Perm A':=by
 induction hp with
 | nil=>exact λr=>⟨_,r,.refl _⟩
 | cons x _ ih =>
  intro A r
  obtain⟨v,bX,A1,A2,e,rfl,h1,h2⟩:=R.cA r
  obtain⟨rfl,rfl⟩:=n8 e
  obtain⟨A',r',p⟩:=ih h2
  exact⟨A1++A',h1.cons r',p.append_left _⟩
 | swap x y l =>
  intro A r
  obtain⟨v,bX,A1,A2,e,rfl,h1,h2⟩:=R.cA r
  obtain⟨rfl,rfl⟩:=n8 e
  obtain⟨v2,MM,B1,B2,e,rfl,h3,h4⟩:=R.cA h2
  obtain⟨rfl,rfl⟩:=n8 e
  exact⟨B1++(A1++B2),h3.cons (h1.cons h4),by rw[<-cS,<- cS];exact mD.append_right _⟩
 | trans _ _ i1 i2 =>
  intro A r
  obtain⟨A',r',p⟩:=i1 r
  obtain⟨A2,r2,p2⟩:=i2 r'
  exact⟨A2,r2,p.trans p2⟩
noncomputable def Full(F H:Hp):Prop:=∀a o,H a=some o->(∀ws,o≠.lst ws)->F a=some o
theorem Full.refl(H:Hp):Full H H:=λ_ _ h _=>h
theorem R.full(hF:Full F H)(hs:aa F H')(r:R F H ds vs A)(e:A=[]):R F H' ds vs []:=by
 induction r with
 | nil=>exact .nil
 | ak _ ih=>exact .ak (ih e)
 | bl _ ih=>exact .bl (ih e)
 | int _ ih=>exact .int (ih e)
 | str _ ih=>exact .str (ih e)
 | shr h x _ i1 ih=>exact .shr h (i1 rfl) (ih e)
 | own h f _ _ i1 i2=>cases e
 | tup h _ _ i1 i2 =>
  obtain⟨e1,e2⟩:=B7.mp e
  exact R.tup (A:=[]) (B:=[]) (hs _ _ (hF _ _ h (by intro ws z;cases z))) (i1 e1) (i2 e2)
 | obj h l x _ i1 ih=>exact .obj (hs _ _ (hF _ _ h (by intro ws z;cases z))) l (i1 rfl) (ih e)
 | fz h x _ i1 ih=>exact .fz h (i1 rfl) (ih e)
 | aV h _ ih=>exact .aV (h.mono λa o e n t=>hs.get a o (hF a o e n) t) (ih e)
open Classical in
noncomputable def snap(F H:Hp):Hp:=λa=>if(∃o,H a=some o/\∀ws,o≠.lst ws)then H a else F a
theorem zo:Full (snap F H) H:=λa o h n=>by unfold snap;rw[if_pos ⟨o,h,n⟩];exact h
theorem rj(e:aa F H):aa F (snap F H):=⟨λa o h n=>by
 unfold snap;split
 ·exact e.get a o h n
 ·exact h,λa ps h=>by
 unfold snap;split
 ·exact e.tb a ps h
 ·exact⟨#[],by rw[h];simp⟩⟩
theorem Xk(e:aa F H):aa (snap F H) H:=⟨λa o h n=>by
 unfold snap at h;split at h
 ·exact h
 ·exact e.get a o h n,λa ps h=>by
 unfold snap at h;split at h
 ·exact⟨#[],by rw[h];simp⟩
 ·exact e.tb a ps h⟩
theorem Xl(e:aa F H){a:Addr}{ws:List V}(h:snap F H a=some (.lst ws)):F a=some (.lst ws):=by
 unfold snap at h;split at h
 ·rename_i z
  obtain⟨o,h1,h2⟩:=z
  rw[h]at h1;exact absurd (cW h1).symm (h2 ws)
 ·exact h
theorem Xm{a:Addr}{ws:List V}(h:H a=some (.lst ws))(n:F a=none):snap F H a=none:=by
 unfold snap;split
 ·rename_i z
  obtain⟨o,h1,h2⟩:=z
  rw[h]at h1;exact absurd (cW h1).symm (h2 ws)
 ·exact n
end
end L3
namespace L3
open PySem L2
noncomputable abbrev Dl:=List (Option D)
inductive RS(F H:Hp):Dl->St->List Addr->Prop
 | nil:RS F H [] [] []
 | ak {δ σ o C}:RS F H δ σ C->RS F H (none::δ) (o::σ) C
 | eZ {d v A δ σ C}:R F H [d] [v] A->RS F H δ σ C->RS F H (some d::δ) (some v::σ) (A++C)
theorem dY{A B:List Addr}:(A++B).Nodup↔A.Nodup/\B.Nodup/\∀a∈A,a ∉ B:=by
 rw[List.nodup_append]
 constructor
 ·rintro⟨h1,h2,h3⟩;exact⟨h1,h2,λa ha hb=>h3 a ha a hb rfl⟩
 ·rintro⟨h1,h2,h3⟩;exact⟨h1,h2,λa ha b hb e=>h3 a ha (e ▸ hb)⟩
section
variable{F F' H H':Hp}{d:D}{v:V}{δ:Dl}{σ:St}{A C:List Addr}{i:Nat}
theorem RS.length(r:RS F H δ σ C):δ.length=σ.length:=by induction r<;>simp_all
theorem RS.pick:∀{δ:Dl} {σ:St} {C:List Addr} {i:Nat},RS F H δ σ C->δ[i]?=some (some d)->∃v A C',σ[i]?=some (some v)/\R F H [d] [v] A/\RS F H (δ.set i none) σ C'/\C.Perm (A++C')
 | _,_,_,_,.nil,e=>by simp at e
 | _,_,_,i,.ak r,e=>by
  cases i with
  | zero=>simp at e
  | succ i =>
   obtain⟨v,A,C',e1,h1,h2,p⟩:=RS.pick r (by simpa using e)
   exact⟨v,A,C',by simpa using e1,h1,.ak h2,p⟩
 | _,_,_,i,.eZ (A:=A0) (C:=C0) h r,e=>by
  cases i with
  | zero =>
   simp at e;subst e
   exact⟨_,A0,C0,rfl,h,.ak r,.refl _⟩
  | succ i =>
   obtain⟨v,A,C',e1,h1,h2,p⟩:=RS.pick r (by simpa using e)
   refine⟨v,A,A0++C',by simpa using e1,h1,.eZ h h2,(p.append_left A0).trans ?_⟩
   rw[<-cS,<- cS]
   exact mD.append_right _
theorem RS.fill:∀{δ:Dl} {σ:St} {C:List Addr} {i:Nat},RS F H δ σ C->δ[i]?=some none->σ[i]?=some (some v)->R F H [d] [v] A->∃C',RS F H (δ.set i (some d)) σ C'/\C'.Perm (A++C)
 | _,_,_,_,.nil,e,_,_=>by simp at e
 | _,_,_,i,.ak r,e,e2,h=>by
  cases i with
  | zero=>simp at e2;subst e2;exact⟨_,.eZ h r,.refl _⟩
  | succ i =>
   obtain⟨C',h1,p⟩:=RS.fill r (by simpa using e) (by simpa using e2) h
   exact⟨C',.ak h1,p⟩
 | _,_,_,i,.eZ (A:=A0) (C:=C0) h0 r,e,e2,h=>by
  cases i with
  | zero=>simp at e
  | succ i =>
   obtain⟨C',h1,p⟩:=RS.fill r (by simpa using e) (by simpa using e2) h
   refine⟨A0++C',.eZ h0 h1,(p.append_left A0).trans ?_⟩
   rw[<-cS,<- cS]
   exact mD.append_right _
theorem RS.drop:∀{δ:Dl} {σ:St} {C:List Addr} (i:Nat),RS F H δ σ C->∃C',RS F H (δ.set i none) σ C'/\C'.Sublist C
 | _,_,_,_,.nil=>⟨_,.nil,.refl _⟩
 | _,_,_,i,.ak r=>by
  cases i with
  | zero=>exact⟨_,.ak r,.refl _⟩
  | succ i=>obtain⟨C',h,s⟩:=RS.drop i r;exact⟨C',.ak h,s⟩
 | _,_,_,i,.eZ (A:=A0) h0 r=>by
  cases i with
  | zero=>exact⟨_,.ak r,List.sublist_append_right _ _⟩
  | succ i=>obtain⟨C',h,s⟩:=RS.drop i r;exact⟨_,.eZ h0 h,(KD A0).append s⟩
theorem RS.vP:∀{δ:Dl} {σ:St} {C:List Addr} {i:Nat} (o:Option V),RS F H δ σ C->(δ[i]?=some none\/δ[i]?=none)->RS F H δ (σ.set i o) C
 | _,_,_,_,_,.nil,_=>.nil
 | _,_,_,i,_,.ak r,e=>by
  cases i with
  | zero=>exact .ak r
  | succ i=>exact .ak (RS.vP _ r (by simpa using e))
 | _,_,_,i,_,.eZ h0 r,e=>by
  cases i with
  | zero=>simp at e
  | succ i=>exact .eZ h0 (RS.vP _ r (by simpa using e))
theorem RS.keep{W:List Addr}(hf:aa F F')(hb:fu W H H')(hl:gk W H)(r:RS F H δ σ C)(hn:∀a∈C,F' a=none)(hd:∀a∈C,a ∉ W):RS F' H' δ σ C:=by
 induction r with
 | nil=>exact .nil
 | ak _ ih=>exact .ak (ih hn hd)
 | eZ h _ ih=>exact .eZ (h.keep hf hb hl (λa ha=>hn a (by simp[ha])) λa ha=>hd a (by simp[ha])) (ih (λa ha=>hn a (by simp[ha])) λa ha=>hd a (by simp[ha]))
theorem RS.lists(r:RS F H δ σ C):∀a∈C,(∃ws,H a=some (.lst ws))/\F a=none:=by
 induction r with
 | nil=>simp
 | ak _ ih=>exact ih
 | eZ h _ ih=>exact λa ha=>(bP.mp ha).elim (h.lists a) (ih a)
theorem RS.none_of:∀{δ:Dl} {σ:St} {C:List Addr} {av:St},RS F H δ σ C->av.length=σ.length->RS F H (av.map λ_=>none) av []
 | _,_,_,[],_,_=>.nil
 | _,_,_,o::av,.nil,e=>by simp at e
 | _,_,_,o::av,.ak r,e=>.ak (RS.none_of r (by simpa using e))
 | _,_,_,o::av,.eZ _ r,e=>.ak (RS.none_of r (by simpa using e))
end
structure Bs where
 H0:Hp
 F0:Hp
structure ai(B:Bs)(F H:Hp)(σ:St)(δ:Dl)(ts:List (D × V)):Prop where
 ext:aa F H
 b1:aa B.H0 H
 b2:aa B.F0 F
 b3:∀a ws,F a=some (.lst ws)->B.F0 a=some (.lst ws)\/B.H0 a=none
 own:∃A C,R F H (ts.map (·.1)) (ts.map (·.2)) A/\RS F H δ σ C/\(A++C).Nodup/\∀a∈A++C,B.H0 a=none
section
variable{B:Bs}{F F' H H':Hp}{d:D}{v:V}{δ:Dl}{σ:St}{ts ps:List (D × V)}{A C W:List Addr}{i:Nat}{p:Addr}{xs ys:List D}{vs ws:List V}
theorem ai.look(c:ai B F H σ δ ts)(e:δ[i]?=some (some d)):∃v,σ[i]?=some (some v)/\S F H [d] [v]:=by
 obtain⟨A,C,r,s,nd,fr⟩:=c.own
 obtain⟨v,A',C',e1,h1,h2,p⟩:=s.pick e
 exact⟨v,e1,h1.s⟩
theorem ai.len(c:ai B F H σ δ ts):δ.length=σ.length:=let⟨_,_,_,s,_⟩:=c.own;s.length
theorem ai.grow(c:ai B F H σ δ ts)(h:aa H H'):ai B F H' σ δ ts:=by
 obtain⟨A,C,r,s,nd,fr⟩:=c.own
 exact⟨c.ext.trans h,c.b1.trans h,c.b2,c.b3,A,C,r.grow (aa.refl _) h λa ha=>(r.lists a ha).2,s.keep (aa.refl _) (fu.same h) gk.nil (λa ha=>(s.lists a ha).2) (by simp),nd,fr⟩
theorem ai.pop(c:ai B F H σ δ ((d,v)::ts)):ai B F H σ δ ts:=by
 obtain⟨A,C,r,s,nd,fr⟩:=c.own
 obtain⟨w,bX,A1,A2,e,rfl,h1,h2⟩:=R.cA r
 obtain⟨rfl,rfl⟩:=n8 e
 refine⟨c.ext,c.b1,c.b2,c.b3,A2,C,h2,s,?_,λa ha=>fr a (by simp at ha ⊢;exact .inr ha)⟩
 rw[cS]at nd
 exact(dY.mp nd).2.1
theorem ai.top(c:ai B F H σ δ ((d,v)::ts)):S F H [d] [v]:=by
 obtain⟨A,C,r,s,nd,fr⟩:=c.own
 obtain⟨w,bX,A1,A2,e,rfl,h1,h2⟩:=R.cA r
 obtain⟨rfl,rfl⟩:=n8 e
 exact h1.s
theorem ai.pushS(c:ai B F H σ δ ts)(s:S F H [d] [v])(pl:d.pl=true):ai B F H σ δ ((d,v)::ts):=by
 obtain⟨A,C,r,q,nd,fr⟩:=c.own
 exact⟨c.ext,c.b1,c.b2,c.b3,A,C,(s.r (by simp[pl])).cons r,q,nd,fr⟩
theorem aa.upd{o:HO}(h:H p=none):aa H (upd H p o):=.of λb u e=>by rw[aM (dH e h)];exact e
theorem ai.pack(c:ai B F H σ δ (ps++ts))(hs:aa H H')(k:∀A1,R F H' (ps.map (·.1)) (ps.map (·.2)) A1->A1.Nodup->∃A',R F H' [d] [v] A'/\A'.Nodup/\∀a∈A',a∈A1\/H a=none):ai B F H' σ δ ((d,v)::ts):=by
 obtain⟨A,C,r,s,nd,fr⟩:=c.own
 rw[mE,mE]at r
 obtain⟨v1,v2,A1,A2,e,rfl,h1,h2⟩:=R.split r
 have l1:(ps.map (·.2)).length=v1.length:=by rw[<-h1.length];simp
 obtain⟨rfl,rfl⟩:=u4 e l1
 rw[cS]at nd fr
 obtain⟨n1,n2,n3⟩:=dY.mp nd
 have g1:=h1.grow (aa.refl F) hs λa ha=>(h1.lists a ha).2
 have g2:=h2.grow (aa.refl F) hs λa ha=>(h2.lists a ha).2
 have gs:=s.keep (aa.refl F) (fu.same hs) gk.nil (λa ha=>(s.lists a ha).2) (by simp)
 obtain⟨A',r',gn,sub⟩:=k A1 g1 n1
 refine⟨c.ext.trans hs,c.b1.trans hs,c.b2,c.b3,A'++A2,C,r'.cons g2,gs,?_,?_⟩
 ·rw[cS]
  refine dY.mpr ⟨gn,n2,λa ha hb=>?_⟩
  rcases sub a ha with z | z
  ·exact n3 a z hb
  ·rcases bP.mp hb with y | y
   ·obtain⟨⟨_,q⟩,_⟩:=h2.lists a y;rw[z]at q;cases q
   ·obtain⟨⟨_,q⟩,_⟩:=s.lists a y;rw[z]at q;cases q
 ·intro a ha
  rw[cS]at ha
  rcases bP.mp ha with y | y
  ·rcases sub a y with z | z
   ·exact fr a (by simp[z])
   ·exact c.b1.free z
  ·exact fr a (dz _ y)
theorem ai.DD(c:ai B F H σ δ ts)(hs:aa H H')(r:R F H' [d] [v] A)(nd:A.Nodup)(fr:∀a∈A,H a=none):ai B F H' σ δ ((d,v)::ts) :=
 ai.pack (ps:=[]) c hs λ_ _ _=>⟨A,r,nd,λa ha=>.inr (fr a ha)⟩
theorem ai.kQ(c:ai B F H σ δ ts)(hp:H p=none)(s:S F H xs vs)(pl:xs.all D.pl=true):ai B F (upd H p (.lst vs)) σ δ ((.lst true xs,.ref p)::ts) :=
 c.DD (aa.upd hp) (A:=[p]) (by simpa using R.own bO (c.ext.free hp) ((s.r pl).shared (aa.refl _) (aa.upd hp)) .nil) (by simp) (by simp[hp])
theorem ai.Xn(c:ai B F H σ δ (ps++ts))(hp:H p=none):ai B F (upd H p (.lst (ps.map (·.2)))) σ δ ((.lst true (ps.map (·.1)),.ref p)::ts):=by
 refine c.pack (aa.upd hp) λA1 r nd=>⟨p::A1,by simpa using R.own bO (c.ext.free hp) r .nil,fZ.mpr ⟨λh=>?_,nd⟩,λa ha=>?_⟩
 ·obtain⟨A,C,r0,_,_,_⟩:=c.own
  rw[mE,mE]at r0
  obtain⟨v1,v2,B1,B2,e,rfl,h1,h2⟩:=R.split r0
  have l1:(ps.map (·.2)).length=v1.length:=by rw[<-h1.length];simp
  obtain⟨rfl,rfl⟩:=u4 e l1
  have g1:=h1.grow (aa.refl F) (aa.upd (o:=.lst (ps.map (·.2))) hp) λa ha=>(h1.lists a ha).2
  have:A1=B1:=R.inj r g1
  subst this
  obtain⟨⟨_,q⟩,_⟩:=h1.lists p h
  rw[hp]at q;cases q
 ·rcases bJ.mp ha with rfl | h
  ·exact .inr hp
  ·exact .inl h
theorem ai.Xo(c:ai B F H σ δ (ps++ts))(hp:H p=none):ai B F (upd H p (.tup (ps.map (·.2)))) σ δ ((.tup (ps.map (·.1)),.ref p)::ts) :=
 c.pack (aa.upd hp) λA1 r nd=>⟨A1,by simpa using R.tup (F:=F) bO r .nil,nd,λa ha=>.inl ha⟩
theorem ai.perm(c:ai B F H σ δ ps)(h:ps.Perm ts):ai B F H σ δ ts:=by
 obtain⟨A,C,r,s,nd,fr⟩:=c.own
 obtain⟨A',r',p⟩:=r.perm h
 have pp:=p.append_right C
 exact⟨c.ext,c.b1,c.b2,c.b3,A',C,r',s,pp.nodup_iff.mp nd,λa ha=>fr a (pp.mem_iff.mpr ha)⟩
theorem ai.move(c:ai B F H σ δ ts)(e:δ[i]?=some (some d)):∃v,σ[i]?=some (some v)/\ai B F H σ (δ.set i none) ((d,v)::ts):=by
 obtain⟨A,C,r,s,nd,fr⟩:=c.own
 obtain⟨v,A',C',e1,h1,h2,p⟩:=s.pick e
 have pp:(A++C).Perm ((A'++A)++C'):=by
  refine(p.append_left A).trans ?_
  rw[<-cS]
  exact mD.append_right _
 exact⟨v,e1,c.ext,c.b1,c.b2,c.b3,A'++A,C',h1.cons r,h2,pp.nodup_iff.mp nd,λa ha=>fr a (pp.mem_iff.mpr ha)⟩
theorem ai.forget(c:ai B F H σ δ ts)(i:Nat):ai B F H σ (δ.set i none) ts:=by
 obtain⟨A,C,r,s,nd,fr⟩:=c.own
 obtain⟨C',h,sb⟩:=s.drop i
 exact⟨c.ext,c.b1,c.b2,c.b3,A,C',r,h,nd.sublist ((KD A).append sb),λa ha=>fr a (((KD A).append sb).subset ha)⟩
theorem ai.fill(c:ai B F H σ δ ((d,v)::ts))(e:δ[i]?=some none)(e2:σ[i]?=some (some v)):ai B F H σ (δ.set i (some d)) ts:=by
 obtain⟨A,C,r,s,nd,fr⟩:=c.own
 obtain⟨w,bX,A1,A2,e',rfl,h1,h2⟩:=R.cA r
 obtain⟨rfl,rfl⟩:=n8 e'
 obtain⟨C',s',p⟩:=s.fill e e2 h1
 have pp:((A1++A2)++C).Perm (A2++C'):=by
  refine((mD (l₁:=A1) (l₂:=A2)).append_right C).trans ?_
  rw[cS]
  exact(p.symm).append_left A2
 exact⟨c.ext,c.b1,c.b2,c.b3,A2,C',h2,s',pp.nodup_iff.mp nd,λa ha=>fr a (pp.mem_iff.mpr ha)⟩
theorem ai.vP(c:ai B F H σ δ ts)(o:Option V)(e:δ[i]?=some none\/δ[i]?=none):ai B F H (σ.set i o) δ ts:=by
 obtain⟨A,C,r,s,nd,fr⟩:=c.own
 exact⟨c.ext,c.b1,c.b2,c.b3,A,C,r,s.vP o e,nd,fr⟩
theorem ai.store(c:ai B F H σ δ ((d,v)::ts))(i:Nat):ai B F H (σ.set i (some v)) (δ.set i (some d)) ts:=by
 by_cases hi:i<δ.length
 ·have c1:=c.forget i
  have hs:i<σ.length:=by rw[<-c.len];exact hi
  have e:(δ.set i none)[i]?=some none:=by simp[hi]
  have c2:=(c1.vP (some v) (.inl e)).fill (i:=i) e (by simp[hs])
  rwa [B8]at c2
 ·have hs:¬ i<σ.length:=by rw[<-c.len];exact hi
  rw[SE (by omega),SE (by omega)]
  exact c.pop
theorem ai.mut(c:ai B F H σ δ (ps++ts))(e:δ[i]?=some (some (.lst true xs)))(e2:σ[i]?=some (some (.ref p)))
  (k:∀ws A1 A2,H p=some (.lst ws)->R F H xs ws A1->R F H (ps.map (·.1)) (ps.map (·.2)) A2->(A1++A2).Nodup->∃A',R F H ys vs A'/\A'.Nodup/\∀a∈A',a∈A1++A2) :
  ai B F (upd H p (.lst vs)) σ (δ.set i (some (.lst true ys))) ts:=by
 have hi:i<δ.length:=(g9.mp e).1
 obtain⟨v,e3,c1⟩:=c.move e
 rw[e2]at e3;cases e3
 obtain⟨A,C,r,s,nd,fr⟩:=c1.own
 have r':R F H (([.lst true xs]++ps.map (·.1))++ts.map (·.1)) ((.ref p::ps.map (·.2))++ts.map (·.2)) A:=by simpa using r
 obtain⟨v1,v2,A1,A2,e4,rfl,h1,h2⟩:=R.split r'
 have l1:(V.ref p::ps.map (·.2)).length=v1.length:=by rw[<-h1.length];simp
 obtain⟨rfl,rfl⟩:=u4 e4 l1
 cases h1 with
 | @own _ rk _ B1 _ _ B2 hH hF hx hr =>
  rw[cS]at nd fr
  obtain⟨n1,n2,n3⟩:=dY.mp nd
  obtain⟨m1,m2⟩:=fZ.mp n1
  obtain⟨A',ra,DE,sub⟩:=k rk B1 B2 hH hx hr m2
  have pA:p ∉ A':=λz=>m1 (sub _ z)
  have pR:p ∉ A2++C:=λz=>n3 p (by simp) z
  have but:fu [p] H (upd H p (.lst vs)):=⟨λa o q z _=>by rw[aM (by simpa using z)];exact q⟩
  have hl:gk [p] H:=λa ha=>by rw[eF.mp ha];exact⟨_,hH⟩
  have g1:=ra.keep (aa.refl F) but hl (λa ha=>(ra.lists a ha).2) λa ha z=>pA (by rw[<-eF.mp z];exact ha)
  have g2:=h2.keep (aa.refl F) but hl (λa ha=>(h2.lists a ha).2) λa ha z=>pR (by rw[<-eF.mp z];exact eU _ ha)
  have gs:=s.keep (aa.refl F) but hl (λa ha=>(s.lists a ha).2) λa ha z=>pR (by rw[<-eF.mp z];exact dz _ ha)
  have fp:B.H0 p=none:=fr p (by simp)
  have b1:aa B.H0 (upd H p (.lst vs)):=⟨λa o q n=>by
   rw[aM (λz=>by rw[z,fp]at q;cases q)]
   exact c1.b1.get a o q n,λa ps q=>by
   rw[aM (λz=>by rw[z,fp]at q;cases q)]
   exact c1.b1.tb a ps q⟩
  have ext:aa F (upd H p (.lst vs)):=⟨λa o q n=>by
   rw[aM (λz=>by rw[z,hF]at q;cases q)]
   exact c1.ext.get a o q n,λa ps q=>by
   rw[aM (λz=>by rw[z,hF]at q;cases q)]
   exact c1.ext.tb a ps q⟩
  have c2:ai B F (upd H p (.lst vs)) σ (δ.set i none) ((.lst true ys,.ref p)::ts):=by
   refine⟨ext,b1,c1.b2,c1.b3,(p::A')++A2,C,R.cons (by simpa using R.own bO hF g1 .nil) g2,gs,?_,?_⟩
   ·rw[cS]
    refine dY.mpr ⟨fZ.mpr ⟨pA,DE⟩,n2,λa ha hb=>?_⟩
    rcases bJ.mp ha with rfl | ha
    ·exact pR hb
    ·exact n3 a (fF _ (sub a ha)) hb
   ·intro a ha
    rw[cS]at ha
    rcases bP.mp ha with z | z
    ·rcases bJ.mp z with rfl | z
     ·exact fp
     ·exact fr a (eU _ (fF _ (sub a z)))
    ·exact fr a (dz _ z)
  have c3:=c2.fill (i:=i) (by simp[hi]) e2
  rwa [B8]at c3
theorem ai.Xp(c:ai B F H σ δ ((d,v)::ts)):∃F',aa F F'/\ai B F' H σ δ ((d.sh,v)::ts):=by
 obtain⟨A,C,r,s,nd,fr⟩:=c.own
 obtain⟨w,bX,A1,A2,e',rfl,h1,h2⟩:=R.cA r
 obtain⟨rfl,rfl⟩:=n8 e'
 rw[cS]at nd fr
 obtain⟨n1,n2,n3⟩:=dY.mp nd
 have out:∀a∈A2++C,bL F H A1 a=F a:=λa ha=>zk λz=>n3 a z ha
 have b3:∀a o,bL F H A1 a=some (.lst o)->B.F0 a=some (.lst o)\/B.H0 a=none:=λa o q=>by
  by_cases z:a∈A1
  ·exact .inr (fr a (eU _ z))
  ·rw[zk z]at q;exact c.b3 a o q
 refine⟨bL F H A1,jU c.ext,ML c.ext,c.b1,c.b2.trans (jU c.ext),b3,A2,C,?_,?_,n2,λa ha=>fr a (dz _ ha)⟩
 ·have g1:=h1.bL c.ext A1 (λ_ h=>h)
  exact R.cons (A:=[]) g1 (h2.keep (jU c.ext) (fu.same (aa.refl H)) gk.nil (λa ha=>by rw[out a (eU _ ha)];exact(h2.lists a ha).2) (by simp))
 ·exact s.keep (jU c.ext) (fu.same (aa.refl H)) gk.nil (λa ha=>by rw[out a (dz _ ha)];exact(s.lists a ha).2) (by simp)
theorem ai.freeze(c:ai B F H σ δ ts)(e:δ[i]?=some (some d)):∃F',aa F F'/\ai B F' H σ (δ.set i (some d.sh)) ts:=by
 have hi:i<δ.length:=(g9.mp e).1
 obtain⟨v,e2,c1⟩:=c.move e
 obtain⟨F',s,c2⟩:=c1.Xp
 refine⟨F',s,?_⟩
 have c3:=c2.fill (i:=i) (by simp[hi]) e2
 rwa [B8]at c3
theorem ai.rebase(c:ai B F H σ δ ts):ai ⟨B.H0,F⟩ F H σ δ ts:=⟨c.ext,c.b1,aa.refl _,λ_ _ q=>.inl q,c.own⟩
theorem ai.Xq{F1:Hp}(c:ai ⟨B.H0,F1⟩ F H σ δ ts)(h:aa B.F0 F1)(h3:∀a ws,F1 a=some (.lst ws)->B.F0 a=some (.lst ws)\/B.H0 a=none):ai B F H σ δ ts :=
 ⟨c.ext,c.b1,h.trans c.b2,λa o q=>(c.b3 a o q).elim (h3 a o) .inr,c.own⟩
theorem ai.only(c:ai B F H σ δ ts){av:St}{ah:Dl}(h:RS F H ah av []):ai B F H av ah ts:=by
 obtain⟨A,C,r,s,nd,fr⟩:=c.own
 exact⟨c.ext,c.b1,c.b2,c.b3,A,[],r,h,by simpa using(dY.mp nd).1,λa ha=>fr a (by simp at ha;simp[ha])⟩
theorem ai.call(c:ai B F H σ δ ts)(hs:aa H H')(hf:aa F F')(he:aa F' H')(h3:∀a ws,F' a=some (.lst ws)->F a=some (.lst ws)\/H a=none)(r:R F' H' [d] [v] A)(nd:A.Nodup)(fr:∀a∈A,H a=none) :
  ai B F' H' σ δ ((d,v)::ts):=by
 obtain⟨A0,C,r0,s,Xr,Xs⟩:=c.own
 have no:∀a,(∃ws,H a=some (.lst ws))/\F a=none->F' a=none:=λa zz=>by
  obtain⟨⟨ws,e⟩,n⟩:=zz
  cases q:F' a with
  | none=>rfl
  | some o =>
   have q2:H' a=some o:=by
    cases n:gL o with
    | true=>exact he.get a o q n
    | false =>
     obtain⟨ps,rfl⟩:=Dz n
     obtain⟨m,z⟩:=he.tb a ps q
     rw[hs a _ e]at z
     cases z
   rw[hs a _ e]at q2
   cases q2
   rcases h3 a ws q with z | z
   ·rw[n]at z;cases z
   ·rw[e]at z;cases z
 refine⟨he,c.b1.trans hs,c.b2.trans hf,λa o q=>(h3 a o q).elim (c.b3 a o) λz=>.inr (c.b1.free z),A++A0,C,R.cons r (r0.grow hf hs λa ha=>no a (r0.lists a ha)),
  s.keep hf (fu.same hs) gk.nil (λa ha=>no a (s.lists a ha)) (by simp),?_,?_⟩
 ·rw[cS]
  refine dY.mpr ⟨nd,Xr,λa ha hb=>?_⟩
  have z:=fr a ha
  rcases bP.mp hb with y | y
  ·obtain⟨⟨_,q⟩,_⟩:=r0.lists a y;rw[z]at q;cases q
  ·obtain⟨⟨_,q⟩,_⟩:=s.lists a y;rw[z]at q;cases q
 ·intro a ha
  rw[cS]at ha
  rcases bP.mp ha with y | y
  ·exact c.b1.free (fr a y)
  ·exact Xs a y
theorem ai.MN(c:ai B F H σ δ ((d,v)::ts)):ai B F H (some v::σ) (some d::δ) ts:=by
 obtain⟨A,C,r,s,nd,fr⟩:=c.own
 obtain⟨w,bX,A1,A2,e',rfl,h1,h2⟩:=R.cA r
 obtain⟨rfl,rfl⟩:=n8 e'
 have pp:((A1++A2)++C).Perm (A2++(A1++C)):=by
  rw[<-cS];exact mD.append_right C
 exact⟨c.ext,c.b1,c.b2,c.b3,A2,A1++C,h2,.eZ h1 s,pp.nodup_iff.mp nd,λa ha=>fr a (pp.mem_iff.mpr ha)⟩
theorem ai.Xt{w:V}(c:ai B F H (some w::σ) (some d::δ) ts):ai B F H σ δ ((d,w)::ts):=by
 obtain⟨A,C,r,s,nd,fr⟩:=c.own
 cases s with
 | @eZ _ _ A1 _ _ C1 h1 s =>
  have pp:(A++(A1++C1)).Perm ((A1++A)++C1):=by
   rw[<-cS];exact mD.append_right C1
  exact⟨c.ext,c.b1,c.b2,c.b3,A1++A,C1,R.cons h1 r,s,pp.nodup_iff.mp nd,λa ha=>fr a (pp.mem_iff.mpr ha)⟩
theorem ai.Xu(c:ai B F H σ δ ((d,v)::(.lst true xs,.ref p)::ts))(hp:H p=some (.lst ws)):ai B F (upd H p (.lst (ws++[v]))) σ δ ((.lst true (xs++[d]),.ref p)::ts):=by
 have c1:=(c.perm (List.Perm.swap _ _ _)).MN
 refine(ai.mut (ps:=[(d,v)]) (i:=0) (ys:=xs++[d]) (vs:=ws++[v]) c1 rfl rfl λdf A1 A2 h r1 r2 nd=>?_).Xt
 rw[hp]at h;cases h
 exact⟨A1++A2,r1.append r2,nd,λa ha=>ha⟩
theorem ai.app(c:ai B F H σ δ ((d,v)::ts))(e:δ[i]?=some (some (.lst true xs)))(e2:σ[i]?=some (some (.ref p)))(hp:H p=some (.lst ws)) :
  ai B F (upd H p (.lst (ws++[v]))) σ (δ.set i (some (.lst true (xs++[d])))) ts :=
 ai.mut (ps:=[(d,v)]) c e e2 λdf A1 A2 h r1 r2 nd=>by
  rw[hp]at h;cases h
  exact⟨A1++A2,r1.append r2,nd,λa ha=>ha⟩
theorem R.DF:∀{xs:List D} {ws:List V} {A1 A2:List Addr} (j:Nat),R F H xs ws A1->R F H [d] [v] A2->(A1++A2).Nodup->∃A',R F H (xs.set j d) (ws.set j v) A'/\A'.Nodup/\∀a∈A',a∈A1++A2
 | [],_,A1,A2,j,r,q,nd=>by cases r;exact⟨[],.nil,by simp,by simp⟩
 | x::xs,_,A1,A2,j,r,q,nd=>by
  obtain⟨w,df,B1,B2,rfl,rfl,h1,h2⟩:=r.cA
  rw[cS]at nd
  obtain⟨n1,n2,n3⟩:=dY.mp nd
  cases j with
  | zero =>
   refine⟨A2++B2,q.cons h2,(mD (l₁:=B2) (l₂:=A2)).nodup_iff.mp n2,λa ha=>?_⟩
   simp only[bP]at ha ⊢
   rcases ha with z | z
   ·exact .inr z
   ·exact .inl (.inr z)
  | succ j =>
   obtain⟨A',r',gn,sub⟩:=R.DF j h2 q n2
   refine⟨B1++A',h1.cons r',dY.mpr ⟨n1,gn,λa ha hb=>n3 a ha (sub a hb)⟩,λa ha=>?_⟩
   rcases bP.mp ha with z | z
   ·simp[z]
   ·have:=sub a z
    simp only[bP]at this ⊢
    rcases this with z | z
    ·exact .inl (.inr z)
    ·exact .inr z
theorem ai.Xv(c:ai B F H σ δ ((d,v)::ts))(e:δ[i]?=some (some (.lst true xs)))(e2:σ[i]?=some (some (.ref p)))(hp:H p=some (.lst ws))(j:Nat) :
  ai B F (upd H p (.lst (ws.set j v))) σ (δ.set i (some (.lst true (xs.set j d)))) ts :=
 ai.mut (ps:=[(d,v)]) c e e2 λdf A1 A2 h r1 r2 nd=>by
  rw[hp]at h;cases h
  exact r1.DF j r2 nd
theorem ai.ownAt(c:ai B F H σ δ ts)(e:δ[i]?=some (some (.lst true xs))):∃p ws,σ[i]?=some (some (.ref p))/\H p=some (.lst ws)/\xs.length=ws.length:=by
 obtain⟨v,e1,s⟩:=c.look e
 cases s with
 | own h x _=>exact⟨_,_,e1,h,x.length⟩
theorem RS.start{ds:List D}{vs:List V}(r:R F H ds vs [])(n:Nat):RS F H (ds.map some++bh n none) (vs.map some++bh n none) []:=by
 have z:∀n,RS F H (bh n none) (bh n none) []:=λn=>by
  induction n with
  | zero=>exact .nil
  | succ n ih=>exact .ak ih
 have:∀(ds:List D) (vs:List V),R F H ds vs []->RS F H (ds.map some++bh n none) (vs.map some++bh n none) []:=by
  intro ds
  induction ds with
  | nil=>intro vs r;cases r;exact z n
  | cons d ds ih =>
   intro vs r
   obtain⟨v,bX,A1,A2,rfl,e,h1,h2⟩:=r.cA
   obtain⟨rfl,rfl⟩:=B7.mp e.symm
   exact .eZ (A:=[]) h1 (ih _ h2)
 exact this ds vs r
theorem ai.start{ds:List D}{vs:List V}(e:aa F H)(r:R F H ds vs [])(n:Nat):ai ⟨H,F⟩ F H (vs.map some++bh n none) (ds.map some++bh n none) [] :=
 ⟨e,aa.refl _,aa.refl _,λ_ _ q=>.inl q,[],[],.nil,RS.start r n,by simp,by simp⟩
theorem ai.snap(c:ai B F H σ δ ts):ai B (L3.snap F H) H σ δ ts:=by
 obtain⟨A,C,r,s,nd,fr⟩:=c.own
 have no:∀a,(∃ws,H a=some (.lst ws))/\F a=none->L3.snap F H a=none:=λa ⟨⟨ws,e⟩,n⟩=>Xm e n
 exact⟨Xk c.ext,c.b1,c.b2.trans (rj c.ext),λa ws q=>c.b3 a ws (Xl c.ext q),A,C,r.grow (rj c.ext) (aa.refl _) λa ha=>no a (r.lists a ha),
  s.keep (rj c.ext) (fu.same (aa.refl _)) gk.nil (λa ha=>no a (s.lists a ha)) (by simp),nd,fr⟩
end
end L3
namespace L3
open PySem L2 PySem.Spec PyProof.Rows
noncomputable abbrev aF:=Dl->(D->Dl->Prop)->Prop
noncomputable abbrev e7:=Dl->(Bool->Dl->Prop)->Prop
noncomputable abbrev cj:=Dl->(List D->Dl->Prop)->Prop
structure rl where
 nx:Dl->Prop
 rt:D->Prop
 bk:Dl->Prop:=λ_=>False
 ct:Dl->Prop:=λ_=>False
 xc:Addr->Dl->Prop:=λ_ _=>False
 xr:Addr->Dl->Prop:=λ_ _=>False
noncomputable abbrev ck:=rl->Dl->Prop
noncomputable def lE(t:aF):TE:=λσ H Q=>∃B F δ ts Qd,ai B F H σ δ ts/\t δ Qd/\∀d ah v F' H',Qd d ah->aa F F'->aa H H'->ai B F' H' σ ah ((d,v)::ts)->Q v H'
noncomputable def lB(t:aF):TE:=λσ H Q=>∃B F δ ts Qd,ai B F H σ δ ts/\t δ Qd/\∀d ah v F' H',Qd d ah->aa F F'->aa H H'->ai B F' H' σ ah ts->S F' H' [d] [v]->Q v H'
noncomputable def lT(t:e7):TT:=λσ H Q=>∃B F δ ts Qd,ai B F H σ δ ts/\t δ Qd/\∀b ah F' H',Qd b ah->aa F F'->aa H H'->ai B F' H' σ ah ts->Q b H'
noncomputable def lA(t:cj):TA:=λσ H Q=>∃B F δ ts Qd,ai B F H σ δ ts/\t δ Qd/\∀ds ah vs F' H',Qd ds ah->aa F F'->aa H H'->ai B F' H' σ ah ts->S F' H' ds vs->Q vs H'
noncomputable def lO(t:cj):TA:=λσ H Q=>∃B F δ ts Qd,ai B F H σ δ ts/\t δ Qd/\∀(ps:List (D × V)) ah F' H',Qd (ps.map (·.1)) ah->aa F F'->aa H H'->ai B F' H' σ ah (ps++ts)->Q (ps.map (·.2)) H'
noncomputable def XL(X:Cx)(B:Bs)(Dd:rl):Prop :=
 (∀C ah pins av F' H' s' a T,Dd.xc C ah->ai B F' H' av ah []->Inv X pins av H' s'->oM s'.heap a T (.ref C)->Apart X pins H' a->Apart X pins H' T->X.xe (.ref a) s') /\
 (∀C ah pins av F' H' s' h' e vs,Dd.xr C ah->ai B F' H' av ah []->Inv X pins av H' s'->KC s'.heap h' e (.ref C) vs->X.xe (.ref e) { s' with heap:=h' })
theorem XL.none{X:Cx}{B:Bs}{Dd:rl}(h1:∀C δ,¬ Dd.xc C δ)(h2:∀C δ,¬ Dd.xr C δ):XL X B Dd:=⟨λC δ _ _ _ _ _ _ _ h=>absurd h (h1 C δ),λC δ _ _ _ _ _ _ _ _ h=>absurd h (h2 C δ)⟩
noncomputable def lS(X:Cx)(t:ck):TS:=λD σ H=>∃B F δ Dd,ai B F H σ δ []/\t Dd δ/\(∀ah av F' H',Dd.nx ah->ai B F' H' av ah []->D.nx av H')/\(∀d v ah av F' H',Dd.rt d->ai B F' H' av ah [(d,v)]->D.rt v H') /\
 (∀ah av F' H',Dd.bk ah->ai B F' H' av ah []->D.bk av H')/\(∀ah av F' H',Dd.ct ah->ai B F' H' av ah []->D.ct av H')/\XL X B Dd
section
variable{X:Cx}{e a b c:Expr}{es:List Expr}{pos:Pos}{st:Stmt}{vQ:List Stmt}
theorem cR{t t':TE}(h:PE X e t)(m:∀σ H Q,t' σ H Q->t σ H Q):PE X e t':=λpins s σ H Q I q=>h pins s σ H Q I (m σ H Q q)
theorem DG{t t':TT}(h:PT X e t)(m:∀σ H Q,t' σ H Q->t σ H Q):PT X e t':=λpins s σ H Q I q=>h pins s σ H Q I (m σ H Q q)
theorem Xw{t t':TT}(h:PW X e t)(m:∀σ H Q,t' σ H Q->t σ H Q):PW X e t':=λwh pins s σ H Q I q=>h wh pins s σ H Q I (m σ H Q q)
theorem vR{t t':TA}(h:PA X es t)(m:∀σ H Q,t' σ H Q->t σ H Q):PA X es t':=λp pins s σ H Q I q=>h p pins s σ H Q I (m σ H Q q)
theorem jn{t t':TS}(h:PS X st t)(m:∀D σ H,t' D σ H->t D σ H):PS X st t':=λpins s σ H D I q=>h pins s σ H D I (m D σ H q)
theorem DH{t t':TS}(h:PSs X vQ t)(m:∀D σ H,t' D σ H->t D σ H):PSs X vQ t':=λpins s σ H D I q=>h pins s σ H D I (m D σ H q)
variable{t u ta tb tc:aF}
theorem ae(h:PE X e (lE t)):PE X e (lB t):=cR h λσ H Q ⟨B,F,δ,ts,Qd,c,q,k⟩=>⟨B,F,δ,ts,Qd,c,q,λd ah v F' H' hd sf sh c'=>k d ah v F' H' hd sf sh c'.pop c'.top⟩
noncomputable def mZ(t:aF):aF:=λδ Q=>t δ λd ah=>d.pl=true/\Q d ah
theorem eK(h:PE X e (lB t)):PE X e (lE (mZ t)):=cR h λσ H Q ⟨B,F,δ,ts,Qd,c,q,k⟩=>⟨B,F,δ,ts,_,c,q,λd ah v F' H' hd sf sh c' s=>k d ah v F' H' hd.2 sf sh (c'.pushS s hd.1)⟩
noncomputable def m4(i:Nat):aF:=λδ Q=>match δ[i]? with
 | some (some d)=>Q d δ
 | _=>False
noncomputable def m5(i:Nat):aF:=λδ Q=>match δ[i]? with
 | some (some d)=>Q d (δ.set i none)
 | _=>False
theorem Xx{i:Nat}{δ:Dl}{Q:D->Dl->Prop}(h:m4 i δ Q):∃d,δ[i]?=some (some d)/\Q d δ:=by
 unfold m4 at h
 split at h
 ·rename_i d e;exact⟨d,e,h⟩
 ·exact h.elim
theorem Xy{i:Nat}{δ:Dl}{Q:D->Dl->Prop}(h:m5 i δ Q):∃d,δ[i]?=some (some d)/\Q d (δ.set i none):=by
 unfold m5 at h
 split at h
 ·rename_i d e;exact⟨d,e,h⟩
 ·exact h.elim
noncomputable def dC(d:D):aF:=λδ Q=>Q d δ
theorem bv(i:Nat){x:Str}(hN:X.N[i]?=some x:=by rfl)(hv:i8 X.env.scope x:=by first | exact au rfl | exact bu (au rfl) | exact bu (bu rfl))(hd:(x==("__debug__":Str))=false:=by decide)
  (bV:(x==("__classdict__":Str))=false:=by decide):PE X (.Name x pos) (lB (m4 i)):=cR (mL hN hv hd bV) λσ H Q ⟨B,F,δ,ts,Qd,c,q,k⟩=>by
 obtain⟨d,e,q⟩:=Xx q
 obtain⟨v,e1,s⟩:=c.look e
 exact⟨v,e1,k d δ v F H q (aa.refl _) (aa.refl _) c s⟩
theorem em(i:Nat){x:Str}(hN:X.N[i]?=some x:=by rfl)(hv:i8 X.env.scope x:=by first | exact au rfl | exact bu (au rfl) | exact bu (bu rfl))(hd:(x==("__debug__":Str))=false:=by decide)
  (bV:(x==("__classdict__":Str))=false:=by decide):PE X (.Name x pos) (lE (m5 i)):=cR (mL hN hv hd bV) λσ H Q ⟨B,F,δ,ts,Qd,c,q,k⟩=>by
 obtain⟨d,e,q⟩:=Xy q
 obtain⟨v,e1,c'⟩:=c.move e
 exact⟨v,e1,k d _ v F H q (aa.refl _) (aa.refl _) c'⟩
theorem zr{B:Bs}{F H:Hp}{σ:L2.St}{δ:Dl}{ts:List (D × V)}{Qd:D->Dl->Prop}{Q:VK}{d:D}{v:V}(c:ai B F H σ δ ts)(q:Qd d δ)(s:S F H [d] [v])(p:d.pl=true)
  (k:∀d ah v F' H',Qd d ah->aa F F'->aa H H'->ai B F' H' σ ah ((d,v)::ts)->Q v H'):Q v H:=k d δ v F H q (aa.refl _) (aa.refl _) (c.pushS s p)
theorem ax{i j}:PE X (.Constant (.int i) j pos) (lE (dC (.int i))):=cR qP λσ H Q ⟨B,F,δ,ts,Qd,c,q,k⟩=>zr c q (.int .nil) rfl k
theorem gO{i j}:PE X (.Constant (.bool i) j pos) (lE (dC (.bl i))):=cR Ts λσ H Q ⟨B,F,δ,ts,Qd,c,q,k⟩=>zr c q (.bl .nil) rfl k
theorem MP{j}:PE X (.Constant .none j pos) (lE (dC .ak)):=cR Tt λσ H Q ⟨B,F,δ,ts,Qd,c,q,k⟩=>zr c q (.ak .nil) rfl k
theorem MQ{x j}:PE X (.Constant (.str x) j pos) (lE (dC (.str x))):=cR Tu λσ H Q ⟨B,F,δ,ts,Qd,c,q,k⟩=>zr c q (.str .nil) rfl k
noncomputable abbrev cm:=D->D->(D->Prop)->Prop
noncomputable def zt(r:R2)(rd:cm):Prop:=∀{B:Bs} {F H:Hp} {σ:L2.St} {δ:Dl} {ts:List (D × V)} {x y:D} {v w:V} {Q:VK} {Qd:D->Prop},ai B F H σ δ ts->S F H [x] [v]->S F H [y] [w]->rd x y Qd ->
 (∀d z H',Qd d->aa H H'->ai B F H' σ δ ((d,z)::ts)->Q z H')->r v w H Q
noncomputable def bF(X:Cx)(f:Value->Value->Sem Value)(rd:cm):Prop:=∃r,cg X f r/\zt r rd
theorem bF.or{f:Value->Value->Sem Value}{r1 r2:cm}(h1:bF X f r1)(h2:bF X f r2):bF X f λx y Q=>r1 x y Q\/r2 x y Q:=by
 obtain⟨q1,a1,b1⟩:=h1
 obtain⟨q2,a2,b2⟩:=h2
 refine⟨_,a1.or a2,λ{B F H σ δ ts x y v w Q Qd} c sx sy h k=>?_⟩
 rcases h with h | h
 ·exact .inl (b1 c sx sy h k)
 ·exact .inr (b2 c sx sy h k)
theorem bF.imp{f:Value->Value->Sem Value}{r1 r2:cm}(h1:bF X f r1)(h:∀x y Q,r2 x y Q->r1 x y Q):bF X f r2:=by
 obtain⟨q1,a1,b1⟩:=h1
 exact⟨q1,a1,λ{B F H σ δ ts x y v w Q Qd} c sx sy h2 k=>b1 c sx sy (h _ _ _ h2) k⟩
noncomputable def kR(rd:cm)(ta tb:aF):aF:=λδ Q=>ta δ λx ao=>tb ao λy aJ=>rd x y λd=>Q d aJ
theorem DI{r:R2}{rd:cm}(hl:zt r rd):∀σ H Q,lE (kR rd ta tb) σ H Q->vx r (lB ta) (lB tb) σ H Q:=λσ H Q ⟨B,F,δ,ts,Qd,c,q,k⟩ =>
 ⟨B,F,δ,ts,_,c,q,λx ao v F1 H1 q1 f1 h1 c1 s1=>⟨B,F1,ao,ts,_,c1,q1,λy aJ w F2 H2 q2 f2 h2 c2 s2 =>
  hl c2 (s1.mono f2 h2) s2 q2 λd z H' hd hs c3=>k d aJ z F2 H' hd (f1.trans f2) ((h1.trans h2).trans hs) c3⟩⟩
theorem aE{op:Operator}{rd:cm}(ho:bF X (binaryOp op) rd)(ha:PE X a (lB ta))(hb:PE X b (lB tb)):PE X (.BinOp a op b pos) (lE (kR rd ta tb)):=by
 obtain⟨r,h1,h2⟩:=ho
 exact cR (vy h1 ha hb) (DI h2)
theorem vS{op:CmpOp}{rd:cm}(ho:bF X (compareOp op) rd)(ha:PE X a (lB ta))(hb:PE X b (lB tb))(hm:behindInMarks op b=false):PE X (.Compare a [op] [b] pos) (lE (kR rd ta tb)):=by
 obtain⟨r,h1,h2⟩:=ho
 exact cR (UD h1 ha hb hm) (DI h2)
noncomputable def dT(t:aF):e7:=λδ Q=>t δ λd ah=>∃k,d=.bl k/\Q k ah
theorem Xz{te:TE}(h:∀σ H Q,lE t σ H Q->te σ H Q):∀σ H Q,lT (dT t) σ H Q->Lr te σ H Q:=λσ H Q zz=>by
 obtain⟨B,F,δ,ts,Qd,c,q,k⟩:=zz
 refine h σ H _ ⟨B,F,δ,ts,_,c,q,λd ah v F' H' hd sf sh c'=>?_⟩
 obtain⟨b,rfl,qb⟩:=hd
 have s:=c'.top
 cases s with
 | bl _=>exact⟨b,rfl,k b ah F' H' qb sf sh c'.pop⟩
theorem cB{op:CmpOp}{rd:cm}(ho:bF X (compareOp op) rd)(ha:PE X a (lB ta))(hb:PE X b (lB tb))(hm:behindInMarks op b=false):PT X (.Compare a [op] [b] pos) (lT (dT (kR rd ta tb))):=by
 obtain⟨r,h1,h2⟩:=ho
 exact DG (UE h1 ha hb hm) (Xz (DI h2))
noncomputable def oU(r r':cm)(ta tb tc:aF):aF:=λδ Q=>ta δ λx ao=>tb ao λy aJ=>r x y λd=>∃k,d=.bl k/\if k=true then tc aJ λz gq=>r' y z λd'=>Q d' gq else Q (.bl false) aJ
theorem jV(h:PE X e (lB t))(he:∀whole,isTrue e X.env whole=(do let v<-whole;standAt e.pos;holding [v] (truthy v)):=by intro _;rfl):PT X e (lT (dT t)) :=
 DG (CC h he) λσ H Q ⟨B,F,δ,ts,Qd,c,q,k⟩=>⟨B,F,δ,ts,_,c,q,λd ah v F' H' hd sf sh c' s=>by
  obtain⟨b,rfl,qb⟩:=hd
  cases s with
  | bl _=>exact⟨b,rfl,k b ah F' H' qb sf sh c'⟩⟩
variable{tA tB:e7}{eH:List Expr}
noncomputable def rm(t u:e7):e7:=λδ Q=>t δ λc ao=>if c=true then Q true ao else u ao Q
noncomputable def rn(t:e7):e7:=λδ Q=>t δ λc ao=>Q (!c) ao
theorem m6(ha:PT X a (lT tA))(hb:PW X (.BoolOp .Or (b::eH) pos) (lT tB)):PW X (.BoolOp .Or (a::b::eH) pos) (lT (rm tA tB)) :=
 Xw (Tz ha hb) λσ H Q ⟨B,F,δ,ts,Qd,c,q,k⟩=>⟨B,F,δ,ts,_,c,q,λb ao F1 H1 q1 f1 h1 c1=>by
  cases b with
  | true=>exact oJ (k true ao F1 H1 (by simpa using q1) f1 h1 c1)
  | false=>exact kI ⟨B,F1,ao,ts,Qd,c1,by simpa using q1,λb ah F' H' hd sf sh c'=>k b ah F' H' hd (f1.trans sf) (h1.trans sh) c'⟩⟩
theorem oV(ha:PT X a (lT tA)):PT X (.UnaryOp .Not a pos) (lT (rn tA)) :=
 DG (CD ha) λσ H Q ⟨B,F,δ,ts,Qd,c,q,k⟩=>⟨B,F,δ,ts,_,c,q,λb ao F1 H1 q1 f1 h1 c1=>k _ ao F1 H1 q1 f1 h1 c1⟩
noncomputable def rq(ta tb:aF):aF:=λδ Q=>ta δ λx ao=>∃c,x=.bl c/\if c=true then tb ao Q else Q (.bl false) ao
noncomputable def rz(ta:aF):aF:=λδ Q=>ta δ λx ao=>∃c,x=.bl c/\Q (.bl (!c)) ao
theorem rA(ha:PE X a (lB ta))(hb:PE X (.BoolOp .And (b::eH) pos) (lE tb)):PE X (.BoolOp .And (a::b::eH) pos) (lE (rq ta tb)) :=
 cR (TF ha hb) λσ H Q ⟨B,F,δ,ts,Qd,c,q,k⟩=>⟨B,F,δ,ts,_,c,q,λd ao v F1 H1 q1 f1 h1 c1 s1=>by
  obtain⟨b,rfl,qb⟩:=q1
  cases s1 with
  | bl _ =>
   refine⟨b,rfl,?_⟩
   cases b with
   | true=>exact oJ ⟨B,F1,ao,ts,Qd,c1,by simpa using qb,λd ah v F' H' hd sf sh c'=>k d ah v F' H' hd (f1.trans sf) (h1.trans sh) c'⟩
   | false=>exact kI (k _ ao _ F1 H1 (by simpa using qb) f1 h1 (c1.pushS (.bl .nil) rfl))⟩
theorem XA(ha:PE X a (lB ta)):PE X (.UnaryOp .Not a pos) (lE (rz ta)) :=
 cR (TH ha) λσ H Q ⟨B,F,δ,ts,Qd,c,q,k⟩=>⟨B,F,δ,ts,_,c,q,λd ao v F1 H1 q1 f1 h1 c1 s1=>by
  obtain⟨b,rfl,qb⟩:=q1
  cases s1 with
  | bl _=>exact⟨b,rfl,k _ ao _ F1 H1 qb f1 h1 (c1.pushS (.bl .nil) rfl)⟩⟩
noncomputable def rB(t:e7)(ta tb:aF):aF:=λδ Q=>t δ λc ao=>if c=true then ta ao Q else tb ao Q
theorem XB(hc:PT X c (lT tA))(ha:PE X a (lE ta))(hb:PE X b (lE tb)):PE X (.IfExp c a b pos) (lE (rB tA ta tb)) :=
 cR (TK hc ha hb) λσ H Q ⟨B,F,δ,ts,Qd,c,q,k⟩=>⟨B,F,δ,ts,_,c,q,λb ao F1 H1 q1 f1 h1 c1=>by
  cases b with
  | true=>exact oJ ⟨B,F1,ao,ts,Qd,c1,by simpa using q1,λd ah v F' H' hd sf sh c'=>k d ah v F' H' hd (f1.trans sf) (h1.trans sh) c'⟩
  | false=>exact kI ⟨B,F1,ao,ts,Qd,c1,by simpa using q1,λd ah v F' H' hd sf sh c'=>k d ah v F' H' hd (f1.trans sf) (h1.trans sh) c'⟩⟩
noncomputable def oW:cj:=λδ Q=>Q [] δ
noncomputable def oX(t:aF)(r:cj):cj:=λδ Q=>t δ λd ao=>r ao λds aJ=>Q (d::ds) aJ
theorem aB:PA X [] (lA oW):=vR ij λσ H Q ⟨B,F,δ,ts,Qd,c,q,k⟩=>k [] δ [] F H q (aa.refl _) (aa.refl _) c .nil
variable{tr:cj}
theorem aj(ha:PE X e (lB t))(hr:PA X es (lA tr))(hs:starEach (e::es) X.env=(false,eval e X.env)::starEach es X.env:=by rfl):PA X (e::es) (lA (oX t tr)) :=
 vR (eJ ha hr hs) λσ H Q ⟨B,F,δ,ts,Qd,c,q,k⟩=>⟨B,F,δ,ts,_,c,q,λd ao v F1 H1 q1 f1 h1 c1 s1=>⟨B,F1,ao,ts,_,c1,q1,λds aJ vs F2 H2 q2 f2 h2 c2 s2 =>
  k (d::ds) aJ (v::vs) F2 H2 q2 (f1.trans f2) (h1.trans h2) c2 ((s1.mono f2 h2).cons s2)⟩⟩
theorem fv:PA X [] (lO oW):=vR ij λσ H Q ⟨B,F,δ,ts,Qd,c,q,k⟩=>k [] δ F H q (aa.refl _) (aa.refl _) c
theorem gP(ha:PE X e (lE t))(hr:PA X es (lO tr))(hs:starEach (e::es) X.env=(false,eval e X.env)::starEach es X.env:=by rfl):PA X (e::es) (lO (oX t tr)) :=
 vR (eJ ha hr hs) λσ H Q ⟨B,F,δ,ts,Qd,c,q,k⟩=>⟨B,F,δ,ts,_,c,q,λd ao v F1 H1 q1 f1 h1 c1=>⟨B,F1,ao,(d,v)::ts,_,c1,q1,λps aJ F2 H2 q2 f2 h2 c2 =>
  k ((d,v)::ps) aJ F2 H2 q2 (f1.trans f2) (h1.trans h2) (c2.perm (List.perm_middle))⟩⟩
noncomputable def rC(t:cj):aF:=λδ Q=>t δ λds ah=>ds.length<=sizeLine/\Q (.lst true ds) ah
noncomputable def rD(t:cj):aF:=λδ Q=>t δ λds ah=>ds.length<=sizeLine/\Q (.tup ds) ah
theorem gQ(h:PA X es (lO tr)):PE X (.List es pos) (lE (rC tr)) :=
 cR (Va h) λσ H Q ⟨B,F,δ,ts,Qd,c,q,k⟩=>⟨B,F,δ,ts,_,c,q,λps ao F1 H1 q1 f1 h1 c1=>⟨by simpa using q1.1,λp hp=>k _ ao _ F1 _ q1.2 f1 (h1.trans (aa.upd hp)) (c1.Xn hp)⟩⟩
theorem DJ{x1}(h:PA X es (lO tr)):PE X (.Tuple es x1 pos) (lE (rD tr)) :=
 cR (U9 h) λσ H Q ⟨B,F,δ,ts,Qd,c,q,k⟩=>⟨B,F,δ,ts,_,c,q,λps ao F1 H1 q1 f1 h1 c1=>⟨by simpa using q1.1,λp hp=>k _ ao _ F1 _ q1.2 f1 (h1.trans (aa.upd hp)) (c1.Xo hp)⟩⟩
end
end L3
namespace L3
open PySem L2 PySem.Spec PyProof.Rows
noncomputable abbrev bD:=List D->(D->Prop)->Prop
noncomputable def bG(sp:bD):Sp:=λvs H Q _=>∃F ds Qd,aa F H/\R F H ds vs []/\sp ds Qd/\∀d v F' H' A,Qd d->aa H H'->aa F F'->aa F' H'->(∀a ws,F' a=some (.lst ws)->F a=some (.lst ws)\/H a=none)->R F' H' [d] [v] A->A.Nodup->(∀a∈A,H a=none)->Q v H'
noncomputable def oY(sp:bD)(t:cj):aF:=λδ Q=>t δ λds ah=>sp (ds.map D.sh) λd=>(ds.all D.pl||d.fr)=true/\Q d ah
theorem zu{B:Bs}{F H:Hp}{σ:L2.St}{δ:Dl}{ts:List (D × V)}{Qd:D->Prop}{Q:VK}{E:XK}{ds:List D}{vs:List V}{sp:bD}(c:ai B F H σ δ ts)(s:S F H ds vs)(q:sp (ds.map D.sh) λd=>(ds.all D.pl||d.fr)=true/\Qd d)
  (k:∀d v F' H',Qd d->aa F F'->aa H H'->ai B F' H' σ δ ((d,v)::ts)->Q v H'):bG sp vs H Q E:=by
 by_cases hp:ds.all D.pl=true
 ·rw[mY hp]at q
  exact⟨F,ds,_,c.ext,s.r hp,q,λd v F' H' A hd hs hf he h3 r nd fr=>k d v F' H' hd.2 hf hs (c.call hs hf he h3 r nd fr)⟩
 ·refine⟨H,ds.map D.sh,_,aa.refl _,s.frozen c.ext,q,λd v F' H' A hd hs hf he h3 r nd fr=>?_⟩
  have dq:d.fr=true:=by
   have:=hd.1
   rw[Bool.or_eq_true]at this
   exact this.resolve_left hp
  exact k d v F H' hd.2 (aa.refl _) hs (c.DD hs (r.DC (by simp[dq]) (c.ext.trans hf)) nd fr)
section
variable{X:Cx}{CX:dA}{n:Nat}{f:Addr}{fd:FuncData}{ps:List Str}{sp:bD}{E:XK}{x:Str}{p pos:Pos}{e:Expr}{es:List Expr}{t:cj}
theorem bA(F:aO X.prog X.w X.K X.mg X.base CX n f fd ps (bG sp))(hr:bK n X.A)(hg:Gl X x)(hm:X.mg x=some (.ref f))(hk:PySem.W.keepIn X.K (.ref f)=true)(hb:Binds X.K fd ps [])(hx:jQ CX X E)
  (ha:PA X (e::es) (lA t)) (dB:(x==("__debug__":Str))=false:=by decide) (he:starEach (e::es) X.env=(false,eval e X.env)::starEach es X.env:=by rfl) (bE:(backTo pos (starEach es X.env)).any (·.1)=false:=by rfl) :
  PE X (.Call (.Name x p) (e::es) [] pos) (lE (oY sp t)) :=
 cR (oF F hr hg hm hk hb .nil hx ha dB he bE) λσ H Q ⟨B,F,δ,ts,Qd,c,q,k⟩=>⟨B,F,δ,ts,_,c,q,λds ao vs F1 H1 q1 f1 h1 c1 s1=>by
  show bG sp (vs++[]) H1 Q E
  rw[jJ]
  exact zu c1 s1 q1 λd v F' H' hd hf hs c'=>k d ao v F' H' hd (f1.trans hf) (h1.trans hs) c'⟩
end
noncomputable def jo(N:List Str)(ds:List D):Dl:=ds.map some++bh (N.length-ds.length) none
section
variable{P:Program}{w:World}{K:PySem.W.Frag}{mg:Str->Option Value}{base:Heap}
theorem cw{x qual:Str}{st:Stmt}{f:Addr}{fd:FuncData}{N ps:List Str}{k:Nat}{sp:bD}(F:bw K x qual st f fd)(S:bB N ps (az st))(len:∀ds Q,sp ds Q->ds.length=ps.length)
  (gh:∀(aG:Value) (A:Around) (outer:List Env) (s:Shared) (H:Hp) (E:XK),bK k (A.deeper (envOfC qual (az st) s.heap.objs.size f aG)) ->
   ∃t:ck,PSs (gG aY P w K mg base N qual (az st) f aG A outer s H E).eR (br st) (lS (gG aY P w K mg base N qual (az st) f aG A outer s H E).eR t)/\∀ds Q,sp ds Q->t { nx:=λ_=>Q .ak,rt:=Q } (jo N ds)):aO P w K mg base aY (k+1) f fd ps (bG sp):=by
 refine F.ok S (λvs H Q E ⟨F,ds,Qd,e,r,h,_⟩=>by rw[<-r.length];exact len ds Qd h) λaG A outer s H vs Q E hr zz=>?_
 obtain⟨F,ds,Qd,e,r,h,k⟩:=zz
 obtain⟨t,ht,hq⟩:=gh aG A outer s H E hr
 have fin:∀d v ah av F' H',Qd d->ai ⟨H,F⟩ F' H' av ah [(d,v)]->Q v H':=λd v ah av F' H' hd c=>by
  obtain⟨A,C,r',s',nd,fr⟩:=c.own
  exact k d v F' H' A hd c.b1 c.b2 c.ext c.b3 r' (dY.mp nd).1 λa ha=>fr a (eU _ ha)
 have e1:L2.start N vs=vs.map some++bh (N.length-ds.length) none:=by unfold L2.start;rw[r.length]
 refine⟨_,ht,⟨H,F⟩,F,jo N ds,_,?_,hq ds Qd h,λah av F' H' hd c=>fin .ak .ak ah av F' H' hd (c.pushS (.ak .nil) rfl),fin,λ_ _ _ _ z=>z.elim,λ_ _ _ _ z=>z.elim,XL.none (λ_ _ z=>z) λ_ _ z=>z⟩
 rw[e1]
 exact ai.start e r _
end
section
variable{X:Cx}{e a b c:Expr}{es:List Expr}{pos:Pos}{st:Stmt}{vQ eH:List Stmt}{t u:ck}{te:aF}{tt:e7}
noncomputable def rE:ck:=λD δ=>D.nx δ
noncomputable def MR(t u:ck):ck:=λD δ=>t { D with nx:=u D } δ
theorem aC{t u:ck}{En:rl}{δ:Dl}(h:∀U:Dl->Prop,(∀ah,u En ah->U ah)->t { En with nx:=U } δ):MR t u En δ:=h (u En) λ_ z=>z
theorem cL:PSs X [] (lS X rE):=DH CF λD σ H ⟨B,F,δ,Dd,c,q,k1,_⟩=>k1 δ σ F H q c
theorem aD(h1:PS X st (lS X t))(h2:PSs X eH (lS X u)):PSs X (st::eH) (lS X (MR t u)) :=
 DH (je h1 h2) λD σ H ⟨B,F,δ,Dd,c,q,k1,k2,k3,k4⟩=>⟨B,F,δ,{ Dd with nx:=u Dd },c,q,λah av F' H' hq c'=>⟨B,F',ah,Dd,c',hq,k1,k2,k3,k4⟩,k2,k3,k4⟩
theorem aL(h1:PS X st (lS X t)):PSs X [st] (lS X t):=qR h1
noncomputable def kS(i:Nat)(t:ck):ck:=λD δ=>∃d,δ[i]?=some (some d)/\t D (δ.set i (some d.sh))
theorem DK(i:Nat)(h:PSs X vQ (lS X t)):PSs X vQ (lS X (kS i t)):=DH h λD σ H zz=>by
 obtain⟨B,F,δ,Dd,c,⟨d,e,q⟩,k⟩:=zz
 obtain⟨F',s,c'⟩:=c.freeze e
 exact⟨B,F',_,Dd,c',q,k⟩
noncomputable def oZ(i:Nat)(t:aF):ck:=λD δ=>t δ λd ah=>D.nx (ah.set i (some d))
theorem bb{i:Nat}{x:Str}{pos':Pos}(hN:X.N.Nodup)(hi:X.N[i]?=some x)(hx:Loc X.env.scope x)(he:PE X e (lE te))(hs:swapsWith e (some (.Name x pos')) pos.line X.env=pure false:=by rfl)
  (hf:X.fn x=true\/X.env.scope.names.lookup x=some .local:=by first | exact .inl rfl | exact .inr rfl | assumption):PS X (.Assign [.Name x pos'] e pos) (lS X (oZ i te)) :=
 jn (Ll hN hi hx he hs hf) λD σ H ⟨B,F,δ,Dd,c,q,k1,k2,k3,k4⟩=>⟨B,F,δ,[],_,c,q,λd ah v F' H' hd sf sh c'=>k1 _ _ F' H' hd (c'.store i)⟩
noncomputable def rF(t:aF):ck:=λD δ=>t δ λd _=>D.rt d
theorem bc(he:PE X e (lE te)):PS X (.Return (some e) pos) (lS X (rF te)) :=
 jn (TU he) λD σ H ⟨B,F,δ,Dd,c,q,k1,k2,k3,k4⟩=>⟨B,F,δ,[],_,c,q,λd ah v F' H' hd sf sh c'=>k2 d v ah σ F' H' hd c'⟩
noncomputable def rG(tc:e7)(t u:ck):ck:=λD δ=>tc δ λb ah=>if b=true then t D ah else u D ah
theorem cM{l r:List Stmt}(hc:PT X c (lT tt))(ha:PSs X l (lS X t))(hb:PSs X r (lS X u)):PS X (.If c l r pos) (lS X (rG tt t u)) :=
 jn (CG hc ha hb) λD σ H ⟨B,F,δ,Dd,c,q,k⟩=>⟨B,F,δ,[],_,c,q,λb ah F' H' hq sf sh c'=>by
  cases b with
  | true=>exact oJ ⟨B,F',ah,Dd,c',by simpa using hq,k⟩
  | false=>exact kI ⟨B,F',ah,Dd,c',by simpa using hq,k⟩⟩
noncomputable def rH(i:Nat)(rd:cm)(t:aF):ck:=λD δ=>∃x,δ[i]?=some (some x)/\t δ λy ao=>rd x y λz=>D.nx (ao.set i (some z))
theorem zw{i:Nat}{x:Str}{op:Operator}{rd:cm}{pos':Pos}(hN:X.N.Nodup)(hi:X.N[i]?=some x)(hx:Loc X.env.scope x)(he:PE X e (lB te))(ho:bF X (inplaceOp op) rd)
  (hf:X.fn x=true\/X.env.scope.names.lookup x=some .local:=by first | exact .inl rfl | exact .inr rfl | assumption):PS X (.AugAssign (.Name x pos') op e pos) (lS X (rH i rd te)):=by
 obtain⟨r,h1,h2⟩:=ho
 refine jn (T7 hN hi hx he (ti:=r) h1 hf) λD σ H zz=>?_
 obtain⟨B,F,δ,Dd,c,⟨d0,e0,q⟩,k1,k2,k3,k4⟩:=zz
 obtain⟨v0,e1,s0⟩:=c.look e0
 exact⟨v0,e1,B,F,δ,[],_,c,q,λd ah v F' H' hd sf sh c' s=>h2 c' (s0.mono sf sh) s hd λz w H2 hz h3 c3=>k1 _ _ F' H2 hz (c3.store i)⟩
noncomputable def rJ(tc:e7)(tb:ck):ck:=λD δ=>∃W:Nat->Dl->Prop,(∃m,W m δ)/\∀m δ,W m δ->tc δ λb ah=>if b=true then tb { D with nx:=λah=>∃m',m'<m/\W m' ah,ct:=λah=>∃m',m'<m/\W m' ah,bk:=D.nx } ah else D.nx ah
theorem zx{body:List Stmt}(hp:PassesOwn (model X.prog X.w) X.A X.env X.xe)(hc:PT X c (lT tt))(hb:PSs X body (lS X t)):PS X (.While c body [] pos) (lS X (rJ tt t)) :=
 jn (Ub hp hc hb) λD σ H zz=>by
  obtain⟨B,F,δ,Dd,c,⟨W,⟨m0,w0⟩,hw⟩,k1,k2,k3,k4⟩:=zz
  refine⟨λm σ H=>∃F δ,ai B F H σ δ []/\W m δ,⟨m0,F,δ,c,w0⟩,λm σ H ⟨F,δ,c,w⟩=>⟨B,F,δ,[],_,c,hw m δ w,λb ah F' H' hq sf sh c'=>?_⟩⟩
  cases b with
  | true =>
   refine oJ ⟨λav H'=>∃m',m'<m/\∃F δ,ai B F H' av δ []/\W m' δ,λav H' z=>z,B,F',ah,{ Dd with nx:=λah=>∃m',m'<m/\W m' ah,ct:=λah=>∃m',m'<m/\W m' ah,bk:=Dd.nx },c',by simpa using hq,λaJ jO F2 H2 ⟨m',hm,w2⟩ c2=>⟨m',hm,F2,aJ,c2,w2⟩,k2,λaJ jO F2 H2 z c2=>k1 aJ jO F2 H2 z c2,λaJ jO F2 H2 ⟨m',hm,w2⟩ c2=>⟨m',hm,F2,aJ,c2,w2⟩,k4.2⟩
  | false=>exact kI (k1 ah σ F' H' (by simpa using hq) c')
end
structure JD(J:It)(F:Hp)(xs:List D):Prop where
 go:∀i H,aa F H->i<xs.length->J.go i H
 iP:∀i H x H',aa F H->i<xs.length->J.iP i H x H'->∃d,xs[i]?=some d/\aa H H'/\R F H' [d] [x] []
 stop:∀i H,aa F H->xs.length<=i->J.stop i H
noncomputable abbrev iS:=Dl->(Bool->List D->Dl->Prop)->Prop
noncomputable def lI(t:iS):TI:=λσ H Rr=>∃B F δ ts Qd,ai B F H σ δ ts/\t δ Qd/\∀g xs ah J F' H',Qd g xs ah->aa F F'->aa H H'->ai B F' H' σ ah ts->JD J H' (xs.map D.sh)->(g=true->xs.all D.pl=true/\JD J F' xs)->Rr J H'
noncomputable abbrev fL:=D->Dl->(Dl->Prop)->Prop
noncomputable def lG(m:Nat)(t:fL):TG:=λv σ H Q=>∃B F δ ts d Qd,ai B F H σ δ ((d,v)::ts)/\t d δ Qd/\∀ah av,Qd ah->av.length=σ.length->(∀j,j<m->av[j]?=σ[j]?)->ai B F H av ah ts->Q av H
noncomputable def jq:D->Option (List D)
 | .lst _ xs=>some xs
 | .fz xs=>some xs
 | _=>none
section
variable{B:Bs}{F H F1:Hp}{σ:L2.St}{δ:Dl}{ts:List (D × V)}
end
section
variable{X:Cx}{e a b c tg l iter:Expr}{es:List Expr}{pos:Pos}{t u:ck}{te:aF}{tt:e7}{ta:cj}{m:Nat}
theorem vT{w w':TI}(h:PI X tg iter w)(m:∀σ H Q,w' σ H Q->w σ H Q):PI X tg iter w':=λpins s σ H Q I q=>h pins s σ H Q I (m σ H Q q)
theorem MS{w w':TG}(h:PG X tg w)(m:∀v σ H Q,w' v σ H Q->w v σ H Q):PG X tg w':=λpins s σ H v u Q I r q=>h pins s σ H v u Q I r (m v σ H Q q)
noncomputable def gN(i:Nat):fL:=λd δ Q=>Q (δ.set i (some d))
theorem dM{i:Nat}{x:Str}(hN:X.N.Nodup)(hi:X.N[i]?=some x)(hx:Loc X.env.scope x)(hm:m<=i:=by decide)(hf:X.fn x=true\/X.env.scope.names.lookup x=some .local:=by first | exact .inl rfl | exact .inr rfl | assumption):PG X (.Name x pos) (lG m (gN i)) :=
 MS (yZ hN hi hx hf) λv σ H Q ⟨B,F,δ,ts,d,Qd,c,q,k⟩=>k _ _ q (by simp) (λj hj=>by rw[qo (by omega)]) (c.store i)
theorem vU{K:PySem.W.Frag}{F H:Hp}{p:Addr}{xs:List D}{ws:List V}(hp:Rd F p (.lst ws))(r:R F H xs ws [])(hF:Full F H):JD (CL K p) F xs where
 go:=λi H' hs hi=>by
  have l:=r.length
  have dW:i<ws.length:=by omega
  exact⟨ws,ws[i],.inl (gj hp hs),aP dW⟩
 iP:=λi H' x H2 hs hi zz=>by
  obtain⟨e,y⟩:=zz
  subst e
  have hx:=y ws (.inl (gj hp hs))
  obtain⟨v,A1,e2,r1,sub⟩:=(r.full hF hs rfl).get (aP hi)
  rw[hx]at e2;cases e2
  have:A1=[]:=SF.mpr λa ha=>by simpa using sub ha
  subst this
  exact⟨_,aP hi,aa.refl _,r1⟩
 stop:=λi H' hs hi=>⟨ws,.inl (gj hp hs),by have:=r.length;omega⟩
theorem zy{F:Hp}(lo:Int)(n:Nat):JD (vq lo n) F ((aR n).map λ(k:Nat)=>D.int (lo+(k:Int))) where
 go:=λi H' hs hi=>by
  have dW:i<n:=by simpa using hi
  exact dW
 iP:=λi H' x H2 hs hi zz=>by
  obtain⟨e,y⟩:=zz
  subst e y
  have dW:i<n:=by simpa using hi
  exact⟨.int (lo+i),by simp[mF dW],aa.refl _,.int .nil⟩
 stop:=λi H' hs hi=>by
  have dW:n<=i:=by simpa using hi
  exact dW
noncomputable def rK(t:aF):iS:=λδ Q=>t δ λd ah=>∃xs,jq d=some xs/\Q d.pl xs ah
theorem kT(h:PE X l (lB te)):PI X tg l (lI (rK te)) :=
 vT (Ug h) λσ H Q ⟨B,F,δ,ts,Qd,c,q,k⟩=>⟨B,F,δ,ts,_,c,q,λd ao v F1 H1 hd f1 h1 c1 s=>by
  obtain⟨xs,e,hq⟩:=hd
  have c3:=c1.snap
  have e2:=c1.ext
  have sn:=rj e2
  cases s with
  | @shr p ws ys _ _ hp r _ =>
   obtain rfl:=cW e
   refine⟨p,rfl,⟨ws,bq.of (e2 _ _ hp)⟩,k _ _ ao _ _ H1 hq (f1.trans sn) h1 c3 ?_ λ_=>⟨r.pl,vU (.inl (sn _ _ hp)) (r.shared sn (aa.refl _)) zo⟩⟩
   rw[mY r.pl]
   exact vU (.inl (e2 _ _ hp)) (r.shared e2 (aa.refl _)) (Full.refl _)
  | @own p ws ys _ _ hp r _ =>
   obtain rfl:=cW e
   refine⟨p,rfl,⟨ws,bq.of hp⟩,k _ _ ao _ _ H1 hq (f1.trans sn) h1 c3 (vU (.inl hp) (r.frozen e2) (Full.refl _)) λz=>by simp[gM]at z⟩
  | @fz p o ws ys _ _ hp r _ =>
   obtain rfl:=cW e
   refine⟨p,rfl,⟨ws,.inl (.inr ⟨o,e2 _ _ hp⟩)⟩,k _ _ ao _ _ H1 hq (f1.trans sn) h1 c3 ?_ λ_=>⟨r.pl,vU (.inr ⟨o,sn _ _ hp⟩) (r.shared sn (aa.refl _)) zo⟩⟩
   rw[mY r.pl]
   exact vU (.inr ⟨o,e2 _ _ hp⟩) (r.shared e2 (aa.refl _)) (Full.refl _)
  | ak _=>cases e
  | bl _=>cases e
  | int _=>cases e
  | str _=>cases e
  | tup _ _ _=>cases e
  | obj _ _ _ _=>cases e
  | aV _ _=>cases e⟩
theorem vV(f:Nat->Int)(l:List Nat):(l.map λk=>D.int (f k)).map D.sh=l.map λk=>D.int (f k):=by simp[D.sh]
theorem MT(f:Nat->Int)(l:List Nat):(l.map λk=>D.int (f k)).all D.pl=true:=by simp[D.pl]
noncomputable def rL(t:cj):iS:=λδ Q=>t δ λds ah=>∃j:Int,ds=[.int j]/\(-(2 ^ 62)<=j/\j<2 ^ 62)/\Q true ((aR j.toNat).map λ(k:Nat)=>D.int (0+(k:Int))) ah
theorem kU{p:Pos}(hg:Gl X "range")(hm:X.mg "range"=none)(ha:PA X [a] (lA ta))(hs:starEach [a] X.env=[(false,eval a X.env)]:=by rfl):PI X tg (.Call (.Name "range" p) [a] [] pos) (lI (rL ta)) :=
 vT (Uj hg hm ha hs) λσ H Q ⟨B,F,δ,ts,Qd,c,q,k⟩=>⟨B,F,δ,ts,_,c,q,λds ao vs F1 H1 hd f1 h1 c1 s=>by
  obtain⟨j,rfl,⟨b1,b2⟩,hq⟩:=hd
  cases s with
  | int s =>
   cases s
   refine⟨j,rfl,b1,b2,k true _ ao _ _ H1 hq f1 h1 c1 ?_ λ_=>⟨MT _ _,zy 0 _⟩⟩
   rw[vV]
   exact zy 0 _⟩
noncomputable def rM(t:cj):iS:=λδ Q=>t δ λds ah=>∃i j:Int,ds=[.int i,.int j]/\(-(2 ^ 62)<=i/\i<2 ^ 62/\-(2 ^ 62)<=j/\j<2 ^ 62)/\Q true ((aR (j-i).toNat).map λ(k:Nat)=>D.int (i+(k:Int))) ah
theorem zA{p:Pos}(hg:Gl X "range")(hm:X.mg "range"=none)(ha:PA X [a,b] (lA ta))(hs:starEach [a,b] X.env=[(false,eval a X.env),(false,eval b X.env)]:=by rfl)(gF:starEach [b] X.env=[(false,eval b X.env)]:=by rfl) :
  PI X tg (.Call (.Name "range" p) [a,b] [] pos) (lI (rM ta)) :=
 vT (Uk hg hm ha hs gF) λσ H Q ⟨B,F,δ,ts,Qd,c,q,k⟩=>⟨B,F,δ,ts,_,c,q,λds ao vs F1 H1 hd f1 h1 c1 s=>by
  obtain⟨i,j,rfl,bd,hq⟩:=hd
  cases s with
  | int s =>
   cases s with
   | int s =>
    cases s
    refine⟨i,j,rfl,bd,k true _ ao _ _ H1 hq f1 h1 c1 ?_ λ_=>⟨MT _ _,zy i _⟩⟩
    rw[vV]
    exact zy i _⟩
noncomputable def jr(xs:List D)(g:fL)(tb:ck):ck:=λEn ao=>∃Iv:Nat->Dl->Prop,Iv 0 ao /\
 (∀i d ah,xs[i]?=some d->Iv i ah->g d ah λaJ=>tb { En with nx:=Iv (i+1),ct:=Iv (i+1),bk:=En.nx } aJ)/\∀ah,Iv xs.length ah->En.nx ah
theorem jr.mk{xs:List D}{g:fL}{tb:ck}{En:rl}{δ:Dl}(Iv:Nat->Dl->Prop)(h0:Iv 0 δ)(ht:∀i d ah,xs[i]?=some d->Iv i ah->g d ah λaJ=>tb { En with nx:=Iv (i+1),ct:=Iv (i+1),bk:=En.nx } aJ)
  (hf:∀ah,Iv xs.length ah->En.nx ah):jr xs g tb En δ:=⟨Iv,h0,ht,hf⟩
noncomputable def rN(ti:iS)(g:fL)(tb:ck):ck:=λEn δ=>ti δ λsh xs ao=>sh=true/\jr xs g tb En ao
theorem jW{ti:iS}{g:fL}{body:List Stmt}(hp:PassesOwn (model X.prog X.w) X.A X.env X.xe)(hc:X.calm=true)(hi:PI X tg iter (lI ti))(hg:PG X tg (lG 0 g))(hb:PSs X body (lS X t))
  (hs:∀x,foldedSetIterable iter X.env x=pure x:=by intro _;rfl):PS X (.For tg iter body [] pos) (lS X (rN ti g t)) :=
 jn (Uo hp hc hi hg hb hs) λEn σ H ⟨B,F,δ,Dd,c,q,k1,k2,k3,k4⟩=>⟨B,F,δ,[],_,c,q,λsh xs ao J F1 H1 hq f1 h1 c1 _ jd=>by
  obtain⟨mS,Iv,i0,turn,fin⟩:=hq
  obtain⟨bE,jd⟩:=jd mS
  have un:∀{F' H':Hp} {av:L2.St} {ah:Dl} {ts:List (D × V)},ai ⟨B.H0,F1⟩ F' H' av ah ts->ai B F' H' av ah ts:=λc'=>c'.Xq c1.b2 c1.b3
  refine⟨λi m σ H=>m=xs.length-i/\i<=xs.length/\∃F δ,ai ⟨B.H0,F1⟩ F H σ δ []/\Iv i δ,⟨_,rfl,iZ _,F1,ao,c1.rebase,i0⟩,?_⟩
  rintro i m jO H2 ⟨rfl,hi,F2,aJ,c2,iv⟩
  have s2:aa F1 H2:=c2.b2.trans c2.ext
  by_cases dJ:i<xs.length
  ·refine .inr ⟨jd.go i H2 s2 dJ,λav H'=>∃F δ,ai ⟨B.H0,F1⟩ F H' av δ []/\Iv (i+1) δ,λav H' z=>⟨xs.length-(i+1),by omega,rfl,dJ,z⟩,λx H3 y=>?_⟩
   obtain⟨d,e,s3,r⟩:=jd.iP i H2 x H3 s2 dJ y
   have c3:=(c2.grow s3).pushS (d:=d) (v:=x) ((r.s).mono c2.b2 (aa.refl _)) (by have:=r.pl;simpa using this)
   refine⟨⟨B.H0,F1⟩,F2,aJ,[],d,_,c3,turn i d aJ e iv,λah av hq _ _ c4=>?_⟩
   exact⟨⟨B.H0,F1⟩,F2,ah,_,c4,hq,λir kW F5 H5 h5 c5=>⟨F5,ir,c5,h5⟩,λd5 v5 ir kW F5 H5 h5 c5=>k2 d5 v5 ir kW F5 H5 h5 (un c5),λir kW F5 H5 h5 c5=>k1 ir kW F5 H5 h5 (un c5),λir kW F5 H5 h5 c5=>⟨F5,ir,c5,h5⟩,⟨λC ir pins kW F5 H5 s5 a T h5 c5=>k4.2.1 C ir pins kW F5 H5 s5 a T h5 (un c5),λC ir pins kW F5 H5 s5 h' e vs h5 c5=>k4.2.2 C ir pins kW F5 H5 s5 h' e vs h5 (un c5)⟩⟩
  ·have e:i=xs.length:=by omega
   subst e
   exact .inl ⟨jd.stop _ H2 s2 (aX _),k1 aJ jO F2 H2 (fin aJ iv) (un c2)⟩⟩
end
end L3
namespace L3
open PySem L2 PySem.Spec PyProof.Rows
noncomputable def iu(δ:Dl)(q:Str × Nat):Option D:=(δ[q.2]?).getD none
noncomputable def gR(δ:Dl)(q:Str × Nat):Bool:=match iu δ q with
 | some d=>d.pl
 | none=>true
noncomputable def eS(aq:List (Str × Nat))(n:Nat)(δ:Dl):Dl:=(aq.map λq=>(iu δ q).map D.sh)++bh n none
noncomputable def o6(sh:Bool)(xs:List D)(aq:List (Str × Nat))(n:Nat)(g:fL)(tt:e7)(te:aF)(ao:Dl)(Q:D->Dl->Prop):Prop:=∃(p:D->Bool) (f:D->D),
 (∀x∈xs.map D.sh,g x (eS aq n ao) λaJ=>tt aJ λb gq=>b=p x/\(p x=true->te gq λd _=>d=f x)) /\
 ((sh&&aq.all (gR ao))=true\/∀x∈xs.map D.sh,p x=true->(f x).fr=true)/\xs.length<=sizeLine/\Q (.lst true (((xs.map D.sh).filter p).map f)) ao
noncomputable def o7(ti:iS)(aq:List (Str × Nat))(n:Nat)(g:fL)(tt:e7)(te:aF):aF:=λδ Q=>ti δ λsh xs ao=>o6 sh xs aq n g tt te ao Q
noncomputable def js:e7:=λδ Q=>Q true δ
theorem XC{sh:Bool}{xs:List D}{aq:List (Str × Nat)}{n m:Nat}{te:aF}{ao:Dl}{Q:D->Dl->Prop}(f:D->D)(hx:∀x∈xs.map D.sh,te ((eS aq n ao).set m (some x)) λd _=>d=f x)
  (dq:(sh&&aq.all (gR ao))=true\/∀x∈xs.map D.sh,(f x).fr=true) (hl:xs.length<=sizeLine) (hq:Q (.lst true ((xs.map D.sh).map f)) ao):o6 sh xs aq n (gN m) js te ao Q :=
 ⟨λ_=>true,f,λx h=>⟨rfl,λ_=>hx x h⟩,dq.imp id λh x hx _=>h x hx,hl,by rw[SG.mpr (λ_ _=>rfl)];exact hq⟩
section
variable{B:Bs}{F H:Hp}{σ:L2.St}{δ:Dl}{ts:List (D × V)}
theorem MU(c:ai B F H σ δ ts)(n:Nat):∀(aq:List (Str × Nat)),aq.all (gR δ)=true->RS F H (eS aq n δ) (fJ aq n σ) []
 | [],_=>by
  have z:∀n,RS F H (bh n none) (bh n none) []:=λn=>by
   induction n with
   | zero=>exact .nil
   | succ n ih=>exact .ak ih
  exact z n
 | q::r,h=>by
  rw[dG,da]at h
  have ih:=MU c n r h.2
  show RS F H ((iu δ q).map D.sh::eS r n δ) ((σ[q.2]?).getD none::fJ r n σ) []
  cases e:iu δ q with
  | none=>exact .ak ih
  | some d =>
   have e2:δ[q.2]?=some (some d):=by
    unfold iu at e
    cases z:δ[q.2]? with
    | none=>rw[z]at e;cases e
    | some o=>rw[z]at e;exact congrArg some e
   have hp:d.pl=true:=by have:=h.1;unfold gR at this;rw[e]at this;exact this
   obtain⟨v,e3,s⟩:=c.look e2
   rw[e3]
   show RS F H (some d.sh::_) (some v::_) []
   rw[D.zj hp]
   exact .eZ (A:=[]) (s.r (by simp[hp])) ih
theorem MV(c:ai B F H σ δ ts)(n:Nat):∀(aq:List (Str × Nat)),RS H H (eS aq n δ) (fJ aq n σ) []
 | []=>by
  have z:∀n,RS H H (bh n none) (bh n none) []:=λn=>by
   induction n with
   | zero=>exact .nil
   | succ n ih=>exact .ak ih
  exact z n
 | q::r=>by
  have ih:=MV c n r
  show RS H H ((iu δ q).map D.sh::eS r n δ) ((σ[q.2]?).getD none::fJ r n σ) []
  cases e:iu δ q with
  | none=>exact .ak ih
  | some d =>
   have e2:δ[q.2]?=some (some d):=by
    unfold iu at e
    cases z:δ[q.2]? with
    | none=>rw[z]at e;cases e
    | some o=>rw[z]at e;exact congrArg some e
   obtain⟨v,e3,s⟩:=c.look e2
   rw[e3]
   exact .eZ (A:=[]) (s.frozen c.ext) ih
theorem MW{α:Type}(xs:List α)(p:α->Bool)(i:Nat)(x:α)(h:xs[i]?=some x):(xs.take (i+1)).filter p=(xs.take i).filter p++(if p x=true then [x]else []):=by
 rw[List.take_add_one,h,List.filter_append]
 simp only[Option.toList_some]
 by_cases hp:p x=true<;>simp[hp]
end
section
variable{X:Cx}{elt iter tg:Expr}{pos:Pos}{ifs:List Expr}{scope:Scope}{cl:List (Str × Addr)}{ti:iS}{tt:e7}{te:aF}{g:fL}
theorem MX{B:Bs}{F1 H1:Hp}{σ:L2.St}{ao:Dl}{ts:List (D × V)}{J:It}{Qd:D->Dl->Prop}{Q:VK}{xs:List D}{sh:Bool}{aq:List (Str × Nat)}{n:Nat}(c1:ai B F1 H1 σ ao ts)
  (o8:JD J H1 (xs.map D.sh)) (vW:sh=true->xs.all D.pl=true/\JD J F1 xs) (p:D->Bool) (f:D->D)
  (hx:∀x∈xs.map D.sh,g x (eS aq n ao) λaJ=>tt aJ λb gq=>b=p x/\(p x=true->te gq λd _=>d=f x))
  (dq:(sh&&aq.all (gR ao))=true\/∀x∈xs.map D.sh,p x=true->(f x).fr=true) (hlen:xs.length<=sizeLine) (hq:Qd (.lst true (((xs.map D.sh).filter p).map f)) ao)
  (k:∀d ah v F' H',Qd d ah->aa F1 F'->aa H1 H'->ai B F' H' σ ah ((d,v)::ts)->Q v H'):Mx J aq n (lG aq.length g) (lT tt) (lE te) σ H1 Q:=by
 intro Dp hD
 have cD:ai B F1 (upd H1 Dp (.lst [])) σ ao ((.lst true [],.ref Dp)::ts):=c1.kQ hD .nil rfl
 refine⟨λi m acc H2=>m=xs.length-i/\i<=xs.length/\H2 Dp=some (.lst acc)/\aa H1 H2/\acc.length<=i/\∃F2,aa F1 F2 /\
  ai B F2 H2 σ ao ((.lst true ((((xs.map D.sh).take i).filter p).map f),.ref Dp)::ts),⟨xs.length,rfl,iZ _,bO,aa.upd hD,aX _,F1,aa.refl _,by simpa using cD⟩,?_⟩
 rintro i m acc H2 ⟨rfl,hi,o9,vX,XD,F2,jX,c2⟩
 refine⟨o9,?_⟩
 by_cases dJ:i<xs.length
 case neg =>
  have e:i=xs.length:=by omega
  subst e
  refine .inl ⟨o8.stop _ H2 vX (by simp),k _ ao _ F2 H2 ?_ jX vX c2⟩
  have:(xs.map D.sh).take xs.length=xs.map D.sh:=by rw[KG (by simp)]
  rw[this]
  exact hq
 case pos =>
  refine .inr ⟨o8.go i H2 vX (by simpa using dJ),λx H3 y=>?_⟩
  obtain⟨d0,e0,DL,r0⟩:=o8.iP i H2 x H3 vX (by simpa using dJ) y
  have kX:d0∈xs.map D.sh:=qu e0
  have MY:H3 Dp=some (.lst acc):=DL _ _ o9
  have c3:=c2.grow DL
  have DM:=vX.trans DL
  refine⟨MY,?_⟩
  have DN:=hx d0 kX
  have turn:∀Fi,aa Fi H3->RS Fi H3 (eS aq n ao) (fJ aq n σ) []->S Fi H3 [d0] [x]->d0.pl=true ->
    (∀d v F' H' A,d=f d0->p d0=true->aa H3 H'->aa Fi F'->aa F' H'->(∀a ws,F' a=some (.lst ws)->Fi a=some (.lst ws)\/H3 a=none)->R F' H' [d] [v] A->A.Nodup->(∀a∈A,H3 a=none) ->
     ∃F4,aa F2 F4/\ai B F4 H' σ ao ((d,v)::(.lst true ((((xs.map D.sh).take i).filter p).map f),.ref Dp)::ts)) ->
    lG aq.length g x (fJ aq n σ) H3 λfm H4 =>
     (fm.length=(fJ aq n σ).length/\∀j,j<aq.length->fm[j]?=(fJ aq n σ)[j]?)/\lT tt fm H4 λb H5=>H5 Dp=some (.lst acc) /\
     if b=true then lE te fm H5 λy H6=>H6 Dp=some (.lst acc)/\acc.length<sizeLine/\∃m',m'<xs.length-i /\
      (m'=xs.length-(i+1)/\i+1<=xs.length/\upd H6 Dp (.lst (acc++[y])) Dp=some (.lst (acc++[y]))/\aa H1 (upd H6 Dp (.lst (acc++[y])))/\(acc++[y]).length<=i+1/\∃F2,aa F1 F2 /\
       ai B F2 (upd H6 Dp (.lst (acc++[y]))) σ ao ((.lst true ((((xs.map D.sh).take (i+1)).filter p).map f),.ref Dp)::ts))
     else ∃m',m'<xs.length-i/\(m'=xs.length-(i+1)/\i+1<=xs.length/\H5 Dp=some (.lst acc)/\aa H1 H5/\acc.length<=i+1/\∃F2,aa F1 F2 /\
       ai B F2 H5 σ ao ((.lst true ((((xs.map D.sh).take (i+1)).filter p).map f),.ref Dp)::ts)):=by
   intro Fi XE XF hS bE back
   have ci:ai ⟨H3,Fi⟩ Fi H3 (fJ aq n σ) (eS aq n ao) []:=⟨XE,aa.refl _,aa.refl _,λ_ _ q=>.inl q,[],[],.nil,XF,by simp,by simp⟩
   refine⟨⟨H3,Fi⟩,Fi,eS aq n ao,[],d0,_,ci.pushS hS bE,DN,λah fm XG l1 k1 c4=>⟨⟨l1,k1⟩,⟨H3,Fi⟩,Fi,ah,[],_,c4,XG,λb ir F5 H5 hb f5 h5 c5=>?_⟩⟩
   obtain⟨hb,ht⟩:=hb
   have zB:H5 Dp=some (.lst acc):=h5 _ _ MY
   refine⟨zB,?_⟩
   by_cases hp:p d0=true
   ·rw[hb,hp]
    refine oJ ⟨⟨H3,Fi⟩,F5,ir,[],_,c5,ht hp,λd δ6 v F6 H6 hd f6 h6 c6=>?_⟩
    have MZ:H6 Dp=some (.lst acc):=h6 _ _ zB
    obtain⟨A,C,r,s,nd,fr⟩:=c6.own
    obtain⟨F4,rO,c7⟩:=back d v F6 H6 A hd hp c6.b1 c6.b2 c6.ext c6.b3 r (dY.mp nd).1 λa ha=>fr a (eU _ ha)
    have c8:=c7.Xu MZ
    refine⟨MZ,by omega,xs.length-(i+1),by omega,rfl,dJ,bO,?_,by simpa using XD,F4,jX.trans rO,?_⟩
    ·have M0:=DM.trans c6.b1
     exact⟨λa o q n=>by rw[aM (dH q hD)];exact M0.get a o q n,λa ps q=>by rw[aM (dH q hD)];exact M0.tb a ps q⟩
    ·have e9:(((xs.map D.sh).take (i+1)).filter p).map f=(((xs.map D.sh).take i).filter p).map f++[d]:=by
      rw[MW _ p i d0 e0,hp,hd];simp
     rw[e9]
     exact c8
   ·have M1:p d0=false:=by simpa using hp
    rw[hb,M1]
    refine kI ⟨xs.length-(i+1),by omega,rfl,dJ,zB,DM.trans h5,by omega,F2,jX,?_⟩
    have e9:(((xs.map D.sh).take (i+1)).filter p).map f=(((xs.map D.sh).take i).filter p).map f:=by
     rw[MW _ p i d0 e0,M1];simp
    rw[e9]
    exact c3.grow h5
  by_cases hA:(sh&&aq.all (gR ao))=true
  ·rw[da]at hA
   obtain⟨bE,jd⟩:=vW hA.1
   have mS:=mY bE
   rw[mS]at e0
   obtain⟨d1,e1,_,r1⟩:=jd.iP i H2 x H3 (jX.trans c2.ext) dJ y
   rw[e0]at e1;cases e1
   have XH:d0.pl=true:=by have:=r1.pl;simpa using this
   refine turn F2 c3.ext (MU c3 n aq hA.2) ((r1.s).mono jX (aa.refl _)) XH λd v F' H' A hd hp hs hf he h3 r nd fr=>⟨F',hf,c3.call hs hf he h3 r nd fr⟩
  ·have XI:=dq.resolve_left hA
   refine turn H3 (aa.refl _) (MV c3 n aq) ((r0.shared DM (aa.refl _)).s) (by have:=r0.pl;simpa using this) λd v F' H' A hd hp hs hf he h3 r nd fr=>⟨F2,aa.refl _,?_⟩
   exact c3.DD hs (r.DC (by rw[hd];simp[XI d0 kX hp]) (c3.ext.trans hf)) nd fr
theorem e8{Y:Cx}:kL Y [] (lT js):=λ_ _ _ H _ I ⟨B,F,δ,ts,Qd,c,q,k⟩=>WD _ _ _ H _ I (k true δ F H q (aa.refl _) (aa.refl _) c)
theorem XJ{Y:Cx}{c:Expr}(h:PT Y c (lT tt)):kL Y [c] (lT tt):=WE h
end
end L3
namespace L3
open PySem L2 PySem.Spec PyProof.Rows
section
variable{X:Cx}{F H:Hp}{v w:V}
noncomputable def l2(rd:cm):R2:=λv w H Q=>∃B F σ δ ts x y Qd,ai B F H σ δ ts/\S F H [x] [v]/\S F H [y] [w]/\rd x y Qd/\∀d z H',Qd d->aa H H'->ai B F H' σ δ ((d,z)::ts)->Q z H'
theorem bF.of{f:Value->Value->Sem Value}{rd:cm}(h:cg X f (l2 rd)):bF X f rd:=⟨_,h,λ{B F H σ δ ts x y v w Q Qd} c sx sy q k=>⟨B,F,σ,δ,ts,x,y,Qd,c,sx,sy,q,k⟩⟩
theorem vY{f:Value->Value->Sem Value}{C:Int->Int->Prop}{g:Int->Int->V}{gd:Int->Int->D}(ho:cg X f (rI C g))(hg:∀i j F H,S F H [gd i j] [g i j])(hp:∀i j,(gd i j).pl=true):bF X f λx y Q=>∃i j,x=.int i/\y=.int j/\C i j/\Q (gd i j) :=
 ⟨_,ho,λ{B F H σ δ ts x y v w Q Qd} c sx sy h k=>by
  obtain⟨i,j,rfl,rfl,hc,q⟩:=h
  cases sx;cases sy
  exact⟨i,j,rfl,rfl,hc,k _ _ _ q (aa.refl _) (c.pushS (hg i j F H) (hp i j))⟩⟩
theorem jY{f:Value->Value->Sem Value}{g:Int->Int->V}{gd:Int->Int->D}(ho:cg X f (ig g))(hg:∀i j F H,S F H [gd i j] [g i j])(hp:∀i j,(gd i j).pl=true):bF X f λx y Q=>∃i j,x=.int i/\y=.int j/\Q (gd i j) :=
 ⟨_,ho,λ{B F H σ δ ts x y v w Q Qd} c sx sy h k=>by
  obtain⟨i,j,rfl,rfl,q⟩:=h
  cases sx;cases sy
  exact⟨i,j,rfl,rfl,k _ _ _ q (aa.refl _) (c.pushS (hg i j F H) (hp i j))⟩⟩
theorem fM{o:Bool}{xs:List D}(s:S F H [.lst o xs] [v])(e:aa F H):∃p ws,v=.ref p/\H p=some (.lst ws)/\S F H xs ws:=by
 cases s with
 | shr h r _=>exact⟨_,_,rfl,e _ _ h,r.s⟩
 | own h r _=>exact⟨_,_,rfl,h,r⟩
theorem iy{xs:List D}(s:S F H [.tup xs] [v]):∃p ws,v=.ref p/\H p=some (.tup ws)/\S F H xs ws:=by
 cases s with
 | tup h r _=>exact⟨_,_,rfl,h,r⟩
theorem kY{d:D}{xs:List D}(s:S F H [d] [v])(e:aa F H)(h:jq d=some xs):∃p ws,v=.ref p/\Rd H p (.lst ws)/\S F H xs ws:=by
 cases s with
 | shr h' r _=>cases h;exact⟨_,_,rfl,.inl (e _ _ h'),r.s⟩
 | own h' r _=>cases h;exact⟨_,_,rfl,.inl h',r⟩
 | fz h' r _=>cases h;exact⟨_,_,rfl,.inr ⟨_,e _ _ h'⟩,r.s⟩
 | ak _=>cases h
 | bl _=>cases h
 | int _=>cases h
 | str _=>cases h
 | tup _ _ _=>cases h
 | obj _ _ _ _=>cases h
 | aV _ _=>cases h
theorem S.rep{xs:List D}{ws:List V}(s:S F H xs ws):∀k:Nat,S F H (bh k xs).flatten (bh k ws).flatten
 | 0=>by simpa using S.nil
 | k+1=>by
  rw[nX,nX,qA,qA]
  exact s.append (S.rep s k)
noncomputable def pd:cm:=λx y Q=>match x,y with
 | .int i,.int j=>Q (.int (i+j))
 | .str a,.str b=>a.length+b.length<=sizeLine/\Q (.str (a++b))
 | .lst _ xs,.lst _ ys=>(xs.length+ys.length<=sizeLine/\xs.all D.pl=true/\ys.all D.pl=true)/\Q (.lst true (xs++ys))
 | _,_=>False
theorem XM:bF X (binaryOp .Add) λx y Q=>∃o xs o' ys,x=.lst o xs/\y=.lst o' ys/\(xs.length+ys.length<=sizeLine/\xs.all D.pl=true/\ys.all D.pl=true)/\Q (.lst true (xs++ys)) :=
 ⟨_,LY,λ{B F H σ δ ts x y v w Q Qd} c sx sy h k=>by
  obtain⟨o,xs,o',ys,rfl,rfl,⟨hz,h1,h2⟩,q⟩:=h
  obtain⟨p,ws,rfl,e1,s1⟩:=fM sx c.ext
  obtain⟨p',df,rfl,e2,s2⟩:=fM sy c.ext
  refine⟨p,p',ws,df,rfl,rfl,e1,e2,by rw[<-s1.length,<- s2.length];exact hz,λr hr=>?_⟩
  exact k _ _ _ q (aa.upd hr) (c.kQ hr (s1.append s2) (by simp[h1,h2]))⟩
theorem XN:bF X (binaryOp .Add) λx y Q=>∃i j,x=.str i/\y=.str j/\i.length+j.length<=sizeLine/\Q (.str (i++j)) :=
 ⟨_,UH,λ{B F H σ δ ts x y v w Q Qd} c sx sy h k=>by
  obtain⟨i,j,rfl,rfl,hz,q⟩:=h
  cases sx;cases sy
  exact⟨i,j,rfl,rfl,hz,k _ _ _ q (aa.refl _) (c.pushS (.str .nil) rfl)⟩⟩
theorem dD:bF X (binaryOp .Add) pd:=((jY (gd:=λi j=>.int (i+j)) Uq (λ_ _ _ _=>.int .nil) λ_ _=>rfl).or (XN.or XM)).imp λx y Q h=>by
 unfold pd at h
 split at h
 ·exact .inl ⟨_,_,rfl,rfl,h⟩
 ·exact .inr (.inl ⟨_,_,rfl,rfl,h.1,h.2⟩)
 ·exact .inr (.inr ⟨_,_,_,_,rfl,rfl,h.1,h.2⟩)
 ·exact h.elim
noncomputable def iI(C:Int->Int->Prop)(g:Int->Int->D):cm:=λx y Q=>match x,y with
 | .int i,.int j=>C i j/\Q (g i j)
 | _,_=>False
noncomputable def fN(g:Int->Int->D):cm:=λx y Q=>match x,y with
 | .int i,.int j=>Q (g i j)
 | _,_=>False
theorem zC{f:Value->Value->Sem Value}{C:Int->Int->Prop}{g:Int->Int->D}(h:bF X f λx y Q=>∃i j,x=.int i/\y=.int j/\C i j/\Q (g i j)):bF X f (iI C g):=h.imp λx y Q h=>by
 unfold iI at h
 split at h
 ·exact⟨_,_,rfl,rfl,h.1,h.2⟩
 ·exact h.elim
theorem kZ{f:Value->Value->Sem Value}{g:Int->Int->D}(h:bF X f λx y Q=>∃i j,x=.int i/\y=.int j/\Q (g i j)):bF X f (fN g):=h.imp λx y Q h=>by
 unfold fN at h
 split at h
 ·exact⟨_,_,rfl,rfl,h⟩
 ·exact h.elim
noncomputable def rP:cm:=fN λi j=>.int (i-j)
theorem jt:bF X (binaryOp .Sub) rP:=kZ (jY CS (λ_ _ _ _=>.int .nil) λ_ _=>rfl)
noncomputable def DO(_ j:Int):Prop:=0<j/\j.natAbs.log2<9000
theorem m8{i j:Int}(h1:0<j)(h2:j<1073741824):DO i j:=⟨h1,by
 have h:j.natAbs<2 ^ 30:=by omega
 have:=(Nat.log2_lt (show j.natAbs≠0 by omega)).mpr h
 omega⟩
theorem XO:cg X (binaryOp .FloorDiv) (rI DO λi j=>.int (i/j)):=vz λi j _ _ _ _ _ hc q =>
 floordiv_int (show j≠0 by have:=hc.1;omega) (by rw[Ss i (by have:=hc.1;omega)];exact q) (.inl (PyProof.noPylong_of_log2 hc.2))
noncomputable def rQ:cm:=iI DO λi j=>.int (i/j)
theorem m9:bF X (binaryOp .FloorDiv) rQ:=zC (vY XO (λ_ _ _ _=>.int .nil) λ_ _=>rfl)
noncomputable def rR:cm:=iI (λ_ j=>0<j) λi j=>.int (i%j)
theorem dh:bF X (binaryOp .Mod) rR:=zC (vY Ur (λ_ _ _ _=>.int .nil) λ_ _=>rfl)
noncomputable def rS:cm:=iI Mv λi j=>.int (i*2 ^ j.toNat)
theorem rU:bF X (binaryOp .LShift) rS:=zC (vY Mw (λ_ _ _ _=>.int .nil) λ_ _=>rfl)
noncomputable def rV:cm:=iI (λ_ j=>0<=j) λi j=>.int (i/2 ^ j.toNat)
theorem M3:bF X (binaryOp .RShift) rV:=zC (vY Us (λ_ _ _ _=>.int .nil) λ_ _=>rfl)
noncomputable def rW:cm:=fN λi j=>.int (mq i j)
theorem M4:bF X (binaryOp .BitAnd) rW:=kZ (jY Ut (λ_ _ _ _=>.int .nil) λ_ _=>rfl)
noncomputable def rX:cm:=fN λi j=>.int (mr i j)
theorem zD:bF X (binaryOp .BitXor) rX:=kZ (jY Uu (λ_ _ _ _=>.int .nil) λ_ _=>rfl)
theorem XQ:cg X (binaryOp .Mult) (rI IntMulOk λi j=>.int (i*j)):=vz λ_ _ _ _ _ _ _ hc q=>mul_int q hc
noncomputable def pf:cm:=λx y Q=>match x,y with
 | .int i,.int j=>IntMulOk i j/\Q (.int (i*j))
 | .lst _ xs,.int k=>(-(2 ^ 63)<=k/\k<2 ^ 63/\xs.length*k.toNat<=sizeLine/\xs.all D.pl=true)/\Q (.lst true (bh k.toNat xs).flatten)
 | _,_=>False
theorem XR:bF X (binaryOp .Mult) λx y Q=>∃o xs k,x=.lst o xs/\y=.int k/\(-(2 ^ 63)<=k/\k<2 ^ 63/\xs.length*k.toNat<=sizeLine/\xs.all D.pl=true)/\Q (.lst true (bh k.toNat xs).flatten) :=
 ⟨_,VT,λ{B F H σ δ ts x y v w Q Qd} c sx sy h k=>by
  obtain⟨o,xs,n,rfl,rfl,⟨b1,b2,hz,h1⟩,q⟩:=h
  obtain⟨p,ws,rfl,e1,s1⟩:=fM sx c.ext
  cases sy
  refine⟨p,n,ws,rfl,rfl,e1,b1,b2,by rw[<-s1.length];exact hz,λr hr=>?_⟩
  refine k _ _ _ q (aa.upd hr) (c.kQ hr (s1.rep _) ?_)
  rw[dg]
  intro x hx
  obtain⟨l,hl,ju⟩:=List.mem_flatten.mp hx
  rw[(KH.mp hl).2]at ju
  exact dg.mp h1 x ju⟩
theorem jv:bF X (binaryOp .Mult) pf:=((vY (gd:=λi j=>.int (i*j)) XQ (λ_ _ _ _=>.int .nil) λ_ _=>rfl).or XR).imp λx y Q h=>by
 unfold pf at h
 split at h
 ·exact .inl ⟨_,_,rfl,rfl,h.1,h.2⟩
 ·exact .inr ⟨_,_,_,rfl,rfl,h.1,h.2⟩
 ·exact h.elim
theorem XS:bF X (inplaceOp .Add) (fN λi j=>.int (i+j)):=kZ (jY Uv (λ_ _ _ _=>.int .nil) λ_ _=>rfl)
theorem DP:bF X (inplaceOp .BitXor) (fN λi j=>.int (mr i j)):=kZ (jY Uw (λ_ _ _ _=>.int .nil) λ_ _=>rfl)
noncomputable def rY:cm:=fN λi j=>.bl (decide (i<j))
noncomputable def rZ:cm:=fN λi j=>.bl (decide (i<=j))
noncomputable def r6:cm:=fN λi j=>.bl (decide (j<i))
noncomputable def r9:cm:=fN λi j=>.bl (decide (j<=i))
theorem se:bF X (compareOp .Lt) rY:=kZ (jY Uy (λ_ _ _ _=>.bl .nil) λ_ _=>rfl)
theorem vZ:bF X (compareOp .LtE) rZ:=kZ (jY Uz (λ_ _ _ _=>.bl .nil) λ_ _=>rfl)
theorem XT:bF X (compareOp .Gt) r6:=kZ (jY UA (λ_ _ _ _=>.bl .nil) λ_ _=>rfl)
theorem XU:bF X (compareOp .GtE) r9:=kZ (jY UB (λ_ _ _ _=>.bl .nil) λ_ _=>rfl)
noncomputable def nh:D->Bool
 | .ak=>true
 | _=>false
noncomputable def ph:cm:=λx y Q=>match y with
 | .ak=>Q (.bl (!nh x))
 | _=>False
theorem XW{d:D}(s:S F H [d] [v]):decide (v=.ak)=nh d:=by cases s<;>simp[nh]
theorem XX:bF X (compareOp .IsNot) ph:=⟨_,UC,λ{B F H σ δ ts x y v w Q Qd} c sx sy h k=>by
 unfold ph at h
 split at h
 ·cases sy
  refine⟨rfl,?_⟩
  rw[XW sx]
  exact k _ _ _ h (aa.refl _) (c.pushS (.bl .nil) rfl)
 ·exact h.elim⟩
noncomputable def bx:D->D->Bool
 | .ak,.ak=>true
 | .bl a,.bl b=>a==b
 | .bl a,.int b=>(if a then 1 else 0)==b
 | .int a,.bl b=>a==(if b then 1 else 0)
 | .int a,.int b=>a==b
 | .str a,.str b=>a==b
 | .lst _ xs,.lst _ ys=>eM xs ys
 | .tup xs,.tup ys=>eM xs ys
 | _,_=>false
where eM:List D->List D->Bool
 | [],[]=>true
 | x::xs,y::ys=>bx x y&&eM xs ys
 | _,_=>false
noncomputable def aI:Nat->D->Bool
 | _,.ak=>true
 | _,.bl _=>true
 | _,.int _=>true
 | _,.str _=>true
 | n+1,.lst _ xs=>xs.all (aI n)
 | n+1,.tup xs=>xs.all (aI n)
 | _,_=>false
theorem DQ:∀(xs ys:List D),xs.length=ys.length->bx.eM xs ys=(aR xs.length).all λj=>bx (xs.getD j .ak) (ys.getD j .ak)
 | [],[],_=>rfl
 | x::xs,y::ys,h=>by
  rw[iY,SH,dG,n9]
  show(bx x y&&bx.eM xs ys)=_
  rw[DQ xs ys (by simpa using h)]
  rfl
theorem DR:∀(xs ys:List D),xs.length≠ys.length->bx.eM xs ys=false
 | [],[],h=>absurd rfl h
 | [],_::_,_=>rfl
 | _::_,[],_=>rfl
 | x::xs,y::ys,h=>by
  show(bx x y&&bx.eM xs ys)=false
  rw[DR xs ys (by simpa using h),Bool.and_false]
noncomputable def XY:V->D
 | .bl b=>.bl b
 | .int i=>.int i
 | .str z=>.str z
 | _=>.ak
theorem M5{x:D}{v:V}(h:aI 0 x=true)(s:S F H [x] [v]):x=XY v:=by
 cases s with
 | ak _=>rfl
 | bl _=>rfl
 | int _=>rfl
 | str _=>rfl
 | _=>cases h
theorem XZ{x:D}(h:aI 0 x=true):bx x x=true:=by
 cases x with
 | ak=>rfl
 | bl b=>exact beq_self_eq_true b
 | int i=>exact beq_self_eq_true i
 | str z=>exact beq_self_eq_true z
 | _=>cases h
theorem M6:∀(n:Nat) {xs ys:List D} {vs:List V},xs.all (aI n)=true->ys.all (aI n)=true->S F H xs vs->S F H ys vs->aa F H->bx.eM xs ys=true:=by
 intro n
 induction n with
 | zero =>
  intro xs
  induction xs with
  | nil=>intro ys vs _ _ s1 s2 _;cases s1;cases s2;rfl
  | cons x xs ih =>
   intro ys vs h1 h2 s1 s2 e
   obtain⟨v,bX,rfl,q1,r1⟩:=s1.cA
   cases ys with
   | nil=>cases s2
   | cons y ys =>
    obtain⟨v',MM,ee,q2,r2⟩:=s2.cA
    cases ee
    rw[dG,da]at h1 h2
    show(bx x y&&bx.eM xs ys)=true
    rw[ih h1.2 h2.2 r1 r2 e,mG]
    have e1:=M5 h1.1 q1
    have e2:=M5 h2.1 q2
    rw[e2,<- e1]
    exact XZ h1.1
 | succ n M7 =>
  intro xs
  induction xs with
  | nil=>intro ys vs _ _ s1 s2 _;cases s1;cases s2;rfl
  | cons x xs ih =>
   intro ys vs h1 h2 s1 s2 e
   obtain⟨v,bX,rfl,q1,r1⟩:=s1.cA
   cases ys with
   | nil=>cases s2
   | cons y ys =>
    obtain⟨v',MM,ee,q2,r2⟩:=s2.cA
    cases ee
    rw[dG,da]at h1 h2
    show(bx x y&&bx.eM xs ys)=true
    rw[ih h1.2 h2.2 r1 r2 e,mG]
    cases x with
    | lst o1 a1 =>
     obtain⟨p,ws,rfl,e1,t1⟩:=fM q1 e
     cases y with
     | lst o2 a2 =>
      obtain⟨p2,DS,ev,e2,t2⟩:=fM q2 e
      cases ev
      rw[e1]at e2;cases e2
      exact M7 h1.1 h2.1 t1 t2 e
     | tup a2=>obtain⟨p2,DS,ev,e2,t2⟩:=iy q2;cases ev;rw[e1]at e2;cases e2
     | _=>first | (cases q2;done) | (exact absurd h2.1 (by simp[aI]))
    | tup a1 =>
     obtain⟨p,ws,rfl,e1,t1⟩:=iy q1
     cases y with
     | tup a2 =>
      obtain⟨p2,DS,ev,e2,t2⟩:=iy q2
      cases ev
      rw[e1]at e2;cases e2
      exact M7 h1.1 h2.1 t1 t2 e
     | lst o2 a2=>obtain⟨p2,DS,ev,e2,t2⟩:=fM q2 e;cases ev;rw[e1]at e2;cases e2
     | _=>first | (cases q2;done) | (exact absurd h2.1 (by simp[aI]))
    | ak=>cases q1;cases q2;simp[bx]
    | bl _=>cases q1;cases q2;simp[bx]
    | int _=>cases q1;cases q2;simp[bx]
    | str _=>cases q1;cases q2;simp[bx]
    | obj _ _ _=>exact absurd h1.1 (by simp[aI])
    | fz _=>exact absurd h1.1 (by simp[aI])
    | aV _=>exact absurd h1.1 (by simp[aI])
end
end L3
namespace L3
open PySem L2 PySem.Spec PyProof.Rows
structure X0(A:Around)(s:Shared)(u w:Value)(b:Bool):Prop where
 rc:SeqAt.RcAt A s u w b
 ne:SeqAt.RcNeAt A s u w (!b)
 eq:BV A s u w b
section
variable{X:Cx}{F H:Hp}{v w:V}
theorem M8{xs:List V}{us:List Value}(r:Vals xs us){j:Nat}(h:j<us.toArray.size):∃x,xs[j]?=some x/\RelV x us.toArray[j]:=by
 have l:=r.length
 have hj:j<xs.length:=by rw[l];simpa using h
 obtain⟨u,e,q⟩:=r.get (aP hj)
 obtain⟨_,z⟩:=g9.mp e
 refine⟨_,aP hj,?_⟩
 have:us.toArray[j]=u:=by simpa using z
 rw[this];exact q
theorem M9{xs:List D}{j:Nat}{d:D}(h:xs[j]?=some d):xs.getD j .ak=d:=by rw[aQ,h];rfl
theorem Na{pins:List (Addr × Obj)}{σ:L2.St}{s:Shared}(I:Inv X pins σ H s)(e:aa F H):∀(n:Nat) (x y:D) (v w:V) (u u':Value) (A:Around),aI n x=true->aI n y=true->S F H [x] [v]->S F H [y] [w]->RelV v u->RelV w u' ->
  A.units+n<cLine->X0 A s u u' (bx x y):=by
 intro n
 induction n with
 | zero =>
  intro x y v w u u' A hx hy sx sy rv aT hu
  cases sx with
  | ak _ =>
   cases rv
   cases sy with
   | ak _=>cases aT;exact⟨.none_none,.none_none,.same _⟩
   | bl _=>cases aT;exact⟨.none_bool _,.none_bool _,.none_bool _⟩
   | int _=>obtain⟨t,rfl⟩:=aT;exact⟨.none_int _ _,.none_int _ _,.none_int _ _⟩
   | str _=>obtain⟨t,rfl⟩:=aT;exact⟨.none_str _ _,.none_str _ _,.none_str _ _⟩
   | _=>simp[aI]at hy
  | bl _ =>
   cases rv
   cases sy with
   | ak _=>cases aT;exact⟨.bool_none _,.bool_none _,.bool_none _⟩
   | bl _=>cases aT;exact⟨.bool_bool _ _,.bool_bool _ _,.bool_bool _ _⟩
   | int _=>obtain⟨t,rfl⟩:=aT;exact⟨.bool_int _ _ _,.bool_int _ _ _,.bool_int _ _ _⟩
   | str _=>obtain⟨t,rfl⟩:=aT;exact⟨.bool_str _ _ _,.bool_str _ _ _,.bool_str _ _ _⟩
   | _=>simp[aI]at hy
  | int _ =>
   obtain⟨t0,rfl⟩:=rv
   cases sy with
   | ak _=>cases aT;exact⟨.int_none _ _,.int_none _ _,.int_none _ _⟩
   | bl _=>cases aT;exact⟨.int_bool _ _ _,.int_bool _ _ _,.int_bool _ _ _⟩
   | int _=>obtain⟨t,rfl⟩:=aT;exact⟨.int_int _ _ _ _,.int_int _ _ _ _,.int_int _ _ _ _⟩
   | str _=>obtain⟨t,rfl⟩:=aT;exact⟨.int_str _ _ _ _,.int_str _ _ _ _,.int_str _ _ _ _⟩
   | _=>simp[aI]at hy
  | str _ =>
   obtain⟨t0,rfl⟩:=rv
   cases sy with
   | ak _=>cases aT;exact⟨.str_none _ _,.str_none _ _,.str_none _ _⟩
   | bl _=>cases aT;exact⟨.str_bool _ _ _,.str_bool _ _ _,.str_bool _ _ _⟩
   | int _=>obtain⟨t,rfl⟩:=aT;exact⟨.str_int _ _ _ _,.str_int _ _ _ _,.str_int _ _ _ _⟩
   | str _=>obtain⟨t,rfl⟩:=aT;exact⟨.str_str _ _ _ _,.str_str _ _ _ _,.str_str _ _ _ _⟩
   | _=>simp[aI]at hy
  | _=>simp[aI]at hx
 | succ n ih =>
  intro x y v w u u' A hx hy sx sy rv aT hu
  have aU:A.units<cLine:=by omega
  have X5:A.in1.units+n<cLine:=by show A.units+1+n<cLine;omega
  have items:∀{xs ys:List D} {vs ws:List V} {us fO:List Value},xs.all (aI n)=true->ys.all (aI n)=true->S F H xs vs->S F H ys ws->Vals vs us->Vals ws fO ->
    ∀j (h1:j<us.toArray.size) (h2:j<fO.toArray.size),BV A.in1 s us.toArray[j] fO.toArray[j] (bx (xs.getD j .ak) (ys.getD j .ak)):=by
   intro xs ys vs ws us fO hx hy sx sy r1 r2 j h1 h2
   obtain⟨a,e1,q1⟩:=M8 r1 h1
   obtain⟨b,e2,q2⟩:=M8 r2 h2
   obtain⟨d1,g1,t1⟩:=sx.get' e1
   obtain⟨d2,g2,t2⟩:=sy.get' e2
   rw[M9 g1,M9 g2]
   exact(ih d1 d2 a b _ _ A.in1 (dg.mp hx d1 (qu g1)) (dg.mp hy d2 (qu g2)) t1 t2 q1 q2 X5).eq
  have low:∀x:D,(aI 0 x=true)\/(∃o xs,x=.lst o xs)\/(∃xs,x=.tup xs)\/aI (n+1) x=false:=by
   intro x;cases x<;>simp[aI]
  cases x with
  | lst o xs =>
   obtain⟨p,ws,rfl,e1,t1⟩:=fM sx e
   cases rv
   obtain⟨its,r1,p1,z1⟩:=I.list (bq.of (K:=X.K) e1)
   have l1:=r1.length
   cases y with
   | lst o' ys =>
    obtain⟨p',df,rfl,e2,t2⟩:=fM sy e
    cases aT
    obtain⟨fw,r2,p2,z2⟩:=I.list (bq.of (K:=X.K) e2)
    have l2:=r2.length
    have k1:=t1.length
    have k2:=t2.length
    by_cases hl:xs.length=ys.length
    ·have jP:its.toArray.size=fw.toArray.size:=by simp;omega
     have ev:(aR its.toArray.size).all (λj=>bx (xs.getD j .ak) (ys.getD j .ak))=bx (.lst o xs) (.lst o' ys):=by
      show _=bx.eM xs ys
      rw[DQ xs ys hl,cZ,<- l1,<- k1]
     have a:=SeqAt.RcAt.lists (e:=λj=>bx (xs.getD j .ak) (ys.getD j .ak)) p1.isList p2.isList jP aU (items hx hy t1 t2 r1 r2)
     have b:=SeqAt.RcNeAt.lists (e:=λj=>bx (xs.getD j .ak) (ys.getD j .ak)) p1.isList p2.isList jP aU (items hx hy t1 t2 r1 r2)
     rw[ev]at a b
     refine⟨a,b,?_⟩
     by_cases pj:p=p'
     ·subst pj
      rw[e1]at e2;cases e2
      have:bx (.lst o xs) (.lst o' ys)=true:=M6 n hx hy t1 t2 e
      rw[this]
      exact .same _
     ·exact .of_refs pj a
    ·have jP:(its.toArray.size != fw.toArray.size)=true:=by simp;omega
     have ev:bx (.lst o xs) (.lst o' ys)=false:=DR xs ys hl
     rw[ev]
     have a:=SeqAt.RcAt.lists_lengths p1.isList p2.isList jP aU
     refine⟨a,SeqAt.RcNeAt.lists_lengths p1.isList p2.isList jP aU,.of_refs (λpj=>?_) a⟩
     subst pj
     rw[e1]at e2;cases e2
     omega
   | tup ys =>
    obtain⟨p',df,rfl,e2,t2⟩:=iy sy
    cases aT
    obtain⟨fw,r2,p2,z2⟩:=I.tuple (eQ.of (K:=X.K) e2)
    exact⟨.list_tuple p1.isList p2 aU,.list_tuple p1.isList p2 aU,.list_tuple p1.isList p2 aU⟩
   | ak=>cases sy;cases aT;exact⟨.list_none p1.isList aU,.list_none p1.isList aU,.list_none p1.isList aU⟩
   | bl _=>cases sy;cases aT;exact⟨.list_bool _ p1.isList aU,.list_bool _ p1.isList aU,.list_bool _ p1.isList aU⟩
   | int _=>cases sy;obtain⟨t,rfl⟩:=aT;exact⟨.list_int _ _ p1.isList aU,.list_int _ _ p1.isList aU,.list_int _ _ p1.isList aU⟩
   | str _=>cases sy;obtain⟨t,rfl⟩:=aT;exact⟨.list_str _ _ p1.isList aU,.list_str _ _ p1.isList aU,.list_str _ _ p1.isList aU⟩
   | obj _ _ _=>simp[aI]at hy
   | fz _=>simp[aI]at hy
   | aV _=>simp[aI]at hy
  | tup xs =>
   obtain⟨p,ws,rfl,e1,t1⟩:=iy sx
   cases rv
   obtain⟨its,r1,p1,z1⟩:=I.tuple (eQ.of (K:=X.K) e1)
   have l1:=r1.length
   cases y with
   | tup ys =>
    obtain⟨p',df,rfl,e2,t2⟩:=iy sy
    cases aT
    obtain⟨fw,r2,p2,z2⟩:=I.tuple (eQ.of (K:=X.K) e2)
    have l2:=r2.length
    have k1:=t1.length
    have k2:=t2.length
    have ev:((aR (min its.toArray.size fw.toArray.size)).all (λj=>bx (xs.getD j .ak) (ys.getD j .ak))&&its.toArray.size==fw.toArray.size)=bx (.tup xs) (.tup ys):=by
     show _=bx.eM xs ys
     by_cases hl:xs.length=ys.length
     ·have e3:its.length=fw.length:=by omega
      rw[DQ xs ys hl,cZ,cZ,<- e3,B9,<- l1,<- k1];simp
     ·have e3:(its.length==fw.length)=false:=by simp;omega
      rw[DR xs ys hl,cZ,cZ,e3,Bool.and_false]
    have a:=SeqAt.RcAt.tuples (e:=λj=>bx (xs.getD j .ak) (ys.getD j .ak)) p1 p2 aU (items hx hy t1 t2 r1 r2)
    have b:=SeqAt.RcNeAt.tuples (e:=λj=>bx (xs.getD j .ak) (ys.getD j .ak)) p1 p2 aU (items hx hy t1 t2 r1 r2)
    rw[ev]at a b
    refine⟨a,b,?_⟩
    by_cases pj:p=p'
    ·subst pj
     rw[e1]at e2;cases e2
     have:bx (.tup xs) (.tup ys)=true:=M6 n hx hy t1 t2 e
     rw[this]
     exact .same _
    ·exact .of_refs pj a
   | lst o' ys =>
    obtain⟨p',df,rfl,e2,t2⟩:=fM sy e
    cases aT
    obtain⟨fw,r2,p2,z2⟩:=I.list (bq.of (K:=X.K) e2)
    exact⟨.tuple_list p1 p2.isList aU,.tuple_list p1 p2.isList aU,.tuple_list p1 p2.isList aU⟩
   | ak=>cases sy;cases aT;exact⟨.tuple_none p1 aU,.tuple_none p1 aU,.tuple_none p1 aU⟩
   | bl _=>cases sy;cases aT;exact⟨.tuple_bool _ p1 aU,.tuple_bool _ p1 aU,.tuple_bool _ p1 aU⟩
   | int _=>cases sy;obtain⟨t,rfl⟩:=aT;exact⟨.tuple_int _ _ p1 aU,.tuple_int _ _ p1 aU,.tuple_int _ _ p1 aU⟩
   | str _=>cases sy;obtain⟨t,rfl⟩:=aT;exact⟨.tuple_str _ _ p1 aU,.tuple_str _ _ p1 aU,.tuple_str _ _ p1 aU⟩
   | obj _ _ _=>simp[aI]at hy
   | fz _=>simp[aI]at hy
   | aV _=>simp[aI]at hy
  | ak =>
   cases sx;cases rv
   cases y with
   | lst o' ys =>
    obtain⟨p',df,rfl,e2,t2⟩:=fM sy e;cases aT
    obtain⟨fw,r2,p2,z2⟩:=I.list (bq.of (K:=X.K) e2)
    exact⟨.none_list p2.isList aU,.none_list p2.isList aU,.none_list p2.isList aU⟩
   | tup ys =>
    obtain⟨p',df,rfl,e2,t2⟩:=iy sy;cases aT
    obtain⟨fw,r2,p2,z2⟩:=I.tuple (eQ.of (K:=X.K) e2)
    exact⟨.none_tuple p2 aU,.none_tuple p2 aU,.none_tuple p2 aU⟩
   | ak=>exact ih _ _ _ _ _ _ A (by simp[aI]) (by simp[aI]) (.ak .nil) sy rfl aT (by omega)
   | bl _=>exact ih _ _ _ _ _ _ A (by simp[aI]) (by simp[aI]) (.ak .nil) sy rfl aT (by omega)
   | int _=>exact ih _ _ _ _ _ _ A (by simp[aI]) (by simp[aI]) (.ak .nil) sy rfl aT (by omega)
   | str _=>exact ih _ _ _ _ _ _ A (by simp[aI]) (by simp[aI]) (.ak .nil) sy rfl aT (by omega)
   | obj _ _ _=>simp[aI]at hy
   | fz _=>simp[aI]at hy
   | aV _=>simp[aI]at hy
  | bl b =>
   cases sx;cases rv
   cases y with
   | lst o' ys =>
    obtain⟨p',df,rfl,e2,t2⟩:=fM sy e;cases aT
    obtain⟨fw,r2,p2,z2⟩:=I.list (bq.of (K:=X.K) e2)
    exact⟨.bool_list _ p2.isList aU,.bool_list _ p2.isList aU,.bool_list _ p2.isList aU⟩
   | tup ys =>
    obtain⟨p',df,rfl,e2,t2⟩:=iy sy;cases aT
    obtain⟨fw,r2,p2,z2⟩:=I.tuple (eQ.of (K:=X.K) e2)
    exact⟨.bool_tuple _ p2 aU,.bool_tuple _ p2 aU,.bool_tuple _ p2 aU⟩
   | ak=>exact ih _ _ _ _ _ _ A (by simp[aI]) (by simp[aI]) (.bl .nil) sy rfl aT (by omega)
   | bl _=>exact ih _ _ _ _ _ _ A (by simp[aI]) (by simp[aI]) (.bl .nil) sy rfl aT (by omega)
   | int _=>exact ih _ _ _ _ _ _ A (by simp[aI]) (by simp[aI]) (.bl .nil) sy rfl aT (by omega)
   | str _=>exact ih _ _ _ _ _ _ A (by simp[aI]) (by simp[aI]) (.bl .nil) sy rfl aT (by omega)
   | obj _ _ _=>simp[aI]at hy
   | fz _=>simp[aI]at hy
   | aV _=>simp[aI]at hy
  | int b =>
   cases sx
   cases y with
   | lst o' ys =>
    obtain⟨t0,rfl⟩:=rv
    obtain⟨p',df,rfl,e2,t2⟩:=fM sy e;cases aT
    obtain⟨fw,r2,p2,z2⟩:=I.list (bq.of (K:=X.K) e2)
    exact⟨.int_list _ _ p2.isList aU,.int_list _ _ p2.isList aU,.int_list _ _ p2.isList aU⟩
   | tup ys =>
    obtain⟨t0,rfl⟩:=rv
    obtain⟨p',df,rfl,e2,t2⟩:=iy sy;cases aT
    obtain⟨fw,r2,p2,z2⟩:=I.tuple (eQ.of (K:=X.K) e2)
    exact⟨.int_tuple _ _ p2 aU,.int_tuple _ _ p2 aU,.int_tuple _ _ p2 aU⟩
   | ak=>exact ih _ _ _ _ _ _ A (by simp[aI]) (by simp[aI]) (.int .nil) sy rv aT (by omega)
   | bl _=>exact ih _ _ _ _ _ _ A (by simp[aI]) (by simp[aI]) (.int .nil) sy rv aT (by omega)
   | int _=>exact ih _ _ _ _ _ _ A (by simp[aI]) (by simp[aI]) (.int .nil) sy rv aT (by omega)
   | str _=>exact ih _ _ _ _ _ _ A (by simp[aI]) (by simp[aI]) (.int .nil) sy rv aT (by omega)
   | obj _ _ _=>simp[aI]at hy
   | fz _=>simp[aI]at hy
   | aV _=>simp[aI]at hy
  | str b =>
   cases sx
   cases y with
   | lst o' ys =>
    obtain⟨t0,rfl⟩:=rv
    obtain⟨p',df,rfl,e2,t2⟩:=fM sy e;cases aT
    obtain⟨fw,r2,p2,z2⟩:=I.list (bq.of (K:=X.K) e2)
    exact⟨.str_list _ _ p2.isList aU,.str_list _ _ p2.isList aU,.str_list _ _ p2.isList aU⟩
   | tup ys =>
    obtain⟨t0,rfl⟩:=rv
    obtain⟨p',df,rfl,e2,t2⟩:=iy sy;cases aT
    obtain⟨fw,r2,p2,z2⟩:=I.tuple (eQ.of (K:=X.K) e2)
    exact⟨.str_tuple _ _ p2 aU,.str_tuple _ _ p2 aU,.str_tuple _ _ p2 aU⟩
   | ak=>exact ih _ _ _ _ _ _ A (by simp[aI]) (by simp[aI]) (.str .nil) sy rv aT (by omega)
   | bl _=>exact ih _ _ _ _ _ _ A (by simp[aI]) (by simp[aI]) (.str .nil) sy rv aT (by omega)
   | int _=>exact ih _ _ _ _ _ _ A (by simp[aI]) (by simp[aI]) (.str .nil) sy rv aT (by omega)
   | str _=>exact ih _ _ _ _ _ _ A (by simp[aI]) (by simp[aI]) (.str .nil) sy rv aT (by omega)
   | obj _ _ _=>simp[aI]at hy
   | fz _=>simp[aI]at hy
   | aV _=>simp[aI]at hy
  | obj _ _ _=>simp[aI]at hx
  | fz _=>simp[aI]at hx
  | aV _=>simp[aI]at hx
noncomputable def sg:cm:=λx y Q=>(aI 6 x=true/\aI 6 y=true)/\Q (.bl (bx x y))
noncomputable def si:cm:=λx y Q=>(aI 6 x=true/\aI 6 y=true)/\Q (.bl (!bx x y))
theorem gr(hu:X.A.units+6<cLine):bF X (compareOp .Eq) sg:=bF.of λpins s σ H v w u u' Q I rv aT zz=>by
 obtain⟨B,F,av,δ,ts,x,y,Qd,c,sx,sy,⟨⟨hx,hy⟩,q⟩,k⟩:=zz
 exact(Na I c.ext 6 x y v w u u' X.A hx hy sx sy rv aT hu).rc _ _ _ _ ⟨.bl _,H,I,rfl,k _ _ _ q (aa.refl _) (c.pushS (.bl .nil) rfl)⟩
theorem gU(hu:X.A.units+6<cLine):bF X (compareOp .NotEq) si:=bF.of λpins s σ H v w u u' Q I rv aT zz=>by
 obtain⟨B,F,av,δ,ts,x,y,Qd,c,sx,sy,⟨⟨hx,hy⟩,q⟩,k⟩:=zz
 exact(Na I c.ext 6 x y v w u u' X.A hx hy sx sy rv aT hu).ne _ _ _ _ ⟨.bl _,H,I,rfl,k _ _ _ q (aa.refl _) (c.pushS (.bl .nil) rfl)⟩
end
end L3
namespace L3
open PySem L2 PySem.Spec PyProof.Rows
section
variable{X:Cx}{F H:Hp}{v w:V}{e a b c o:Expr}{es:List Expr}{pos p p2 apos bM:Pos}{t ta tb tc te:aF}{tr:cj}{x:Str}
theorem X6{r r':R2}{rd v7:cm}(hl:zt r rd)(qO:zt r' v7):∀σ H Q,lE (oU rd v7 ta tb tc) σ H Q->Ls r r' (lB ta) (lB tb) (lB tc) σ H Q:=λσ H Q ⟨B,F,δ,ts,Qd,c,q,k⟩ =>
 ⟨B,F,δ,ts,_,c,q,λx ao v F1 H1 q1 f1 h1 c1 s1=>⟨B,F1,ao,ts,_,c1,q1,λy aJ w F2 H2 q2 f2 h2 c2 s2=>by
  refine hl c2 (s1.mono f2 h2) s2 q2 λd z H' hd hs c3=>?_
  obtain⟨b,rfl,qb⟩:=hd
  have st:=c3.top
  cases st with
  | bl _ =>
   refine⟨b,rfl,?_⟩
   cases b with
   | true =>
    refine oJ ⟨B,F2,aJ,ts,_,c3.pop,by simpa using qb,λz gq w3 F3 H3 q3 f3 h3 c4 s3=>?_⟩
    exact qO c4 (s2.mono f3 (hs.trans h3)) s3 q3 λd z H' hd X7 c5=>k d gq z F3 H' hd ((f1.trans f2).trans f3) ((((h1.trans h2).trans hs).trans h3).trans X7) c5
   | false=>exact kI (k _ aJ _ F2 H' (by simpa using qb) (f1.trans f2) ((h1.trans h2).trans hs) (c3.pop.pushS (.bl .nil) rfl))⟩⟩
theorem DT{op oB:CmpOp}{rd v7:cm}(ho:bF X (compareOp op) rd)(i9:bF X (compareOp oB) v7)(ha:PE X a (lB ta))(hb:PE X b (lB tb))(hc:PE X c (lB tc))
  (hm:lastMarks [op,oB] [b,c]=false:=by with_unfolding_all rfl):PE X (.Compare a [op,oB] [b,c] pos) (lE (oU rd v7 ta tb tc)):=by
 obtain⟨r,h1,h2⟩:=ho
 obtain⟨r',iQ,ik⟩:=i9
 exact cR (UG h1 iQ ha hb hc hm) (X6 h2 ik)
noncomputable abbrev iz:=List D->(D->Prop)->Prop
noncomputable def lc(rd:iz):List V->Hp->VK->Prop:=λvs H Q=>∃B F σ δ ts ds Qd,ai B F H σ δ ts/\S F H ds vs/\rd ds Qd/\∀d z H',Qd d->aa H H'->ai B F H' σ δ ((d,z)::ts)->Q z H'
noncomputable def gu(X:Cx)(f:Value)(rd:iz):Prop:=eY X f (lc rd)
theorem gu.of{f:Value}{r:List V->Hp->VK->Prop}{rd:iz}(h:eY X f r)(m:∀vs H Q,lc rd vs H Q->r vs H Q):gu X f rd:=λpins s σ H xs us Q I r q=>h pins s σ H xs us Q I r (m xs H Q q)
noncomputable def lh(rd:iz)(t:cj):aF:=λδ Q=>t δ λds ah=>rd ds λd=>Q d ah
theorem Nb{rd:iz}:∀σ H Q,lE (lh rd tr) σ H Q->CY (lc rd) (lA tr) σ H Q:=λσ H Q ⟨B,F,δ,ts,Qd,c,q,k⟩=>⟨B,F,δ,ts,_,c,q,λds ao vs F1 H1 q1 f1 h1 c1 s1 =>
 ⟨B,F1,σ,ao,ts,ds,_,c1,s1,q1,λd z H' hd hs c'=>k d ao z F1 H' hd f1 (h1.trans hs) c'⟩⟩
theorem dZ{id:String}{rd:iz}(hc:gu X (.builtin id) rd)(hg:Gl X x)(hm:X.mg x=none)(hv:bootBuiltins x=some (.builtin id))(ha:PA X (e::es) (lA tr))(hn:x≠"__name__":=by decide)(dB:(x==("__debug__":Str))=false:=by decide)
  (he:starEach (e::es) X.env=(false,eval e X.env)::starEach es X.env:=by rfl) (bE:(backTo pos (starEach es X.env)).any (·.1)=false:=by rfl):PE X (.Call (.Name x p) (e::es) [] pos) (lE (lh rd tr)) :=
 cR (CZ hc hg hm hv ha hn dB he bE) Nb
theorem Nc{T:String}{rd:iz}(hc:gu X (.type T) rd)(hg:Gl X x)(hm:X.mg x=none)(hv:bootBuiltins x=some (.type T))(ha:PA X (e::es) (lA tr))(hn:x≠"__name__":=by decide)(dB:(x==("__debug__":Str))=false:=by decide)
  (he:starEach (e::es) X.env=(false,eval e X.env)::starEach es X.env:=by rfl) (bE:(backTo pos (starEach es X.env)).any (·.1)=false:=by rfl):PE X (.Call (.Name x p) (e::es) [] pos) (lE (lh rd tr)) :=
 cR (LD hc hg hm hv ha hn dB he bE) Nb
theorem iT{d:D}{vs:List V}(s:S F H [d] vs):∃v,vs=[v]/\S F H [d] [v]:=by
 obtain⟨v,bX,rfl,h1,h2⟩:=s.cA
 cases h2
 exact⟨v,rfl,h1⟩
theorem X8{d d':D}{vs:List V}(s:S F H [d,d'] vs):∃v v',vs=[v,v']/\S F H [d] [v]/\S F H [d'] [v']:=by
 obtain⟨v,bX,rfl,h1,h2⟩:=s.cA
 obtain⟨v',rfl,h3⟩:=iT h2
 exact⟨v,v',rfl,h1,h3⟩
theorem jZ{K:PySem.W.Frag}{p:Addr}{ws:List V}(h:Rd H p (.lst ws)):bq K H p ws:=.inl h
noncomputable def pk:iz:=λds Q=>match ds with
 | [.lst _ xs]=>Q (.int xs.length)
 | [.fz xs]=>Q (.int xs.length)
 | [.tup xs]=>Q (.int xs.length)
 | [.str z]=>z.length<=sizeLine/\Q (.int z.length)
 | _=>False
theorem fP:gu X (.builtin "len") pk:=gu.of (VF.or VG) λvs H Q zz=>by
 obtain⟨B,F,σ,δ,ts,ds,Qd,c,s,q,k⟩:=zz
 unfold pk at q
 split at q
 ·obtain⟨v,rfl,s1⟩:=iT s
  obtain⟨p,ws,rfl,h,t⟩:=kY s1 c.ext rfl
  refine .inl ⟨p,ws,rfl,.inl (jZ h),?_⟩
  rw[<-t.length]
  exact k _ _ _ q (aa.refl _) (c.pushS (.int .nil) rfl)
 ·obtain⟨v,rfl,s1⟩:=iT s
  obtain⟨p,ws,rfl,h,t⟩:=kY s1 c.ext rfl
  refine .inl ⟨p,ws,rfl,.inl (jZ h),?_⟩
  rw[<-t.length]
  exact k _ _ _ q (aa.refl _) (c.pushS (.int .nil) rfl)
 ·obtain⟨v,rfl,s1⟩:=iT s
  obtain⟨p,ws,rfl,h,t⟩:=iy s1
  refine .inl ⟨p,ws,rfl,.inr (eQ.of h),?_⟩
  rw[<-t.length]
  exact k _ _ _ q (aa.refl _) (c.pushS (.int .nil) rfl)
 ·obtain⟨v,rfl,s1⟩:=iT s
  cases s1
  exact .inr ⟨_,rfl,q.1,k _ _ _ q.2 (aa.refl _) (c.pushS (.int .nil) rfl)⟩
 ·exact q.elim
noncomputable def pq:iz:=λds Q=>match ds with
 | [.lst _ xs]=>xs.all D.pl=true/\Q (.lst true xs)
 | [.fz xs]=>Q (.lst true xs)
 | [.tup xs]=>xs.all D.pl=true/\Q (.lst true xs)
 | _=>False
theorem X9:gu X (.type "list") pq:=gu.of VH λvs H Q zz=>by
 obtain⟨B,F,σ,δ,ts,ds,Qd,c,s,q,k⟩:=zz
 unfold pq at q
 split at q
 ·obtain⟨v,rfl,s1⟩:=iT s
  obtain⟨p,ws,rfl,h,t⟩:=kY s1 c.ext rfl
  exact⟨p,ws,rfl,.inl (jZ h),λl hl=>k _ _ _ q.2 (aa.upd hl) (c.kQ hl t q.1)⟩
 ·obtain⟨v,rfl,s1⟩:=iT s
  cases s1 with
  | fz h r _=>exact⟨_,_,rfl,.inl (jZ (.inr ⟨_,c.ext _ _ h⟩)),λl hl=>k _ _ _ q (aa.upd hl) (c.kQ hl r.s r.pl)⟩
 ·obtain⟨v,rfl,s1⟩:=iT s
  obtain⟨p,ws,rfl,h,t⟩:=iy s1
  exact⟨p,ws,rfl,.inr (eQ.of h),λl hl=>k _ _ _ q.2 (aa.upd hl) (c.kQ hl t q.1)⟩
 ·exact q.elim
noncomputable def ii(g:Int->Int->Int):iz:=λds Q=>match ds with
 | [.int i,.int j]=>Q (.int (g i j))
 | _=>False
theorem Ya{f:Value}{g:Int->Int->Int}(h:eY X f (λxs H Q=>∃i j,xs=[.int i,.int j]/\Q (.int (g i j)) H)):gu X f (ii g):=gu.of h λvs H Q zz=>by
 obtain⟨B,F,σ,δ,ts,ds,Qd,c,s,q,k⟩:=zz
 unfold ii at q
 split at q
 ·obtain⟨v,v',rfl,s1,s2⟩:=X8 s
  cases s1;cases s2
  exact⟨_,_,rfl,k _ _ _ q (aa.refl _) (c.pushS (.int .nil) rfl)⟩
 ·exact q.elim
theorem Yb(hc:X.calm=true):gu X (.builtin "max") (ii λi j=>if j>i then j else i):=Ya (UJ hc)
noncomputable def sj(bs:List Bool):List D:=bs.map D.bl
theorem Nd:∀{bs:List Bool} {ws:List V},S F H (sj bs) ws->ws=bs.map V.bl
 | [],_,s=>by cases s;rfl
 | b::bs,_,s=>by
  cases s with
  | bl s=>rw[Nd s];rfl
noncomputable def pz:iz:=λds Q=>match ds with
 | [.lst _ xs]=>∃bs,xs=sj bs/\Q (.bl (bs.all id))
 | _=>False
theorem zE(hc:X.calm=true):gu X (.builtin "all") pz:=gu.of (WK hc) λvs H Q zz=>by
 obtain⟨B,F,σ,δ,ts,ds,Qd,c,s,q,k⟩:=zz
 unfold pz at q
 split at q
 ·obtain⟨v,rfl,s1⟩:=iT s
  obtain⟨bs,rfl,q⟩:=q
  obtain⟨p,ws,rfl,h,t⟩:=kY s1 c.ext rfl
  rw[Nd t]at h
  exact⟨p,bs,rfl,jZ h,k _ _ _ q (aa.refl _) (c.pushS (.bl .nil) rfl)⟩
 ·exact q.elim
noncomputable def DU:D->Option String
 | .int _=>some "int"
 | .bl _=>some "bool"
 | .ak=>some "NoneType"
 | .str _=>some "str"
 | .lst _ _=>some "list"
 | .fz _=>some "list"
 | .tup _=>some "tuple"
 | _=>none
noncomputable def DV(k n:String):Option Bool:=([("int","int",true),("int","bool",false),("int","list",false),("int","tuple",false),("int","str",false),("bool","int",true),("bool","bool",true),("bool","list",false),("bool","tuple",false),("bool","str",false),
 ("NoneType","int",false),("NoneType","bool",false),("NoneType","list",false),("NoneType","tuple",false),("NoneType","str",false),("str","int",false),("str","bool",false),("str","list",false),("str","tuple",false),("str","str",true),
 ("list","int",false),("list","bool",false),("list","list",true),("list","tuple",false),("list","str",false),("tuple","int",false),("tuple","bool",false),("tuple","list",false),("tuple","tuple",true),("tuple","str",false)].find? λz=>z.1==k&&z.2.1==n).map (·.2.2)
noncomputable def j5(n:String)(d:D):Option Bool:=(DU d).bind λk=>DV k n
theorem Yc{K:PySem.W.Frag}{k n:String}{r:Bool}(h:DV k n=some r):PySem.W.kitOne K (.type k) (.type n)=some r:=by
 unfold DV at h
 obtain⟨z,hz,rfl⟩:=KI.mp h
 have hm:=SI hz
 have hp:=List.find?_some hz
 rw[da,beq_iff_eq,beq_iff_eq]at hp
 obtain⟨rfl,rfl⟩:=hp
 simp only[bJ,hW,or_false]at hm
 repeat' (rcases hm with hm | hm)
 all_goals rfl
theorem Yd{K:PySem.W.Frag}{d:D}(s:S F H [d] [v])(e:aa F H){k:String}(h:DU d=some k):gg K H v (.type k):=by
 cases s with
 | int _=>cases h;exact .int _
 | bl _=>cases h;exact .bl _
 | ak _=>cases h;exact .ak
 | str _=>cases h;exact .str _
 | shr h' _ _=>cases h;exact .lst (e _ _ h')
 | own h' _ _=>cases h;exact .lst h'
 | fz h' _ _=>cases h;exact .bL (e _ _ h')
 | tup h' _ _=>cases h;exact .tup h'
 | obj _ _ _ _=>cases h
 | aV _ _=>cases h
theorem Ye{K:PySem.W.Frag}{d:D}(s:S F H [d] [v])(e:aa F H){n:String}{r:Bool}(h:j5 n d=some r):∃t,gg K H v t/\PySem.W.kitOne K t (.type n)=some r:=by
 unfold j5 at h
 cases hk:DU d with
 | none=>rw[hk]at h;cases h
 | some k=>rw[hk]at h;exact⟨_,Yd s e hk,Yc h⟩
noncomputable def sq(n:String)(t:aF):aF:=λδ Q=>t δ λd ah=>∃r,j5 n d=some r/\Q (.bl r) ah
theorem v9{n:String}{y:Str}{q:Pos}(hg:Gl X "isinstance")(hm:X.mg "isinstance"=none)(DW:Gl X y)(zF:X.mg y=none)(DX:bootBuiltins y=some (.type n))(ha:PE X a (lB ta))
  (hn:y≠"__name__":=by decide) (hd:(y==("__debug__":Str))=false:=by decide)
  (hs:starEach [a,.Name y q] X.env=(false,eval a X.env)::starEach [.Name y q] X.env:=by rfl) (gF:starEach [.Name y q] X.env=(false,eval (.Name y q) X.env)::starEach [] X.env:=by rfl) (bE:(backTo pos (starEach [.Name y q] X.env)).any (·.1)=false:=by rfl) :
  PE X (.Call (.Name "isinstance" p) [a,.Name y q] [] pos) (lE (sq n ta)) :=
 cR (CZ Wy hg hm Ws (eJ ha (eJ (Ww DW zF DX hn hd) ij gF) hs) (by decide) (by decide) hs bE) λσ H Q ⟨B,F,δ,ts,Qd,c,q,k⟩=>⟨B,F,δ,ts,_,c,q,λd ao v F1 H1 q1 f1 h1 c1 s1=>by
  obtain⟨r,e,qr⟩:=q1
  obtain⟨t,h2,h3⟩:=Ye (K:=X.K) s1 c1.ext e
  exact⟨v,n,t,r,rfl,h2,h3,k _ ao _ F1 H1 qr f1 h1 (c1.pushS (.bl .nil) rfl)⟩⟩
theorem DY{xs:List D}{ws:List V}{i:Int}{d:D}(s:S F H xs ws)(h:dm xs i=some d):∃v,dm ws i=some v/\S F H [d] [v]:=by
 unfold dm at h ⊢
 rw[<-s.length]
 cases e:fG xs.length i with
 | none=>rw[e]at h;cases h
 | some j =>
  rw[e]at h
  exact s.get h
noncomputable def pB(x y:D)(Q:D->Prop):Prop:=match x,y with
 | .lst _ xs,.int i=>∃d,dm xs i=some d/\Q d
 | .fz xs,.int i=>∃d,dm xs i=some d/\Q d
 | .tup xs,.int i=>∃d,dm xs i=some d/\Q d
 | .str z,.int i=>z.length<=sizeLine/\∃ch,dm z.cps.toList i=some ch/\Q (.str ⟨#[ch]⟩)
 | _,_=>False
noncomputable def sr(ta tb:aF):aF:=λδ Q=>ta δ λx ao=>tb ao λy aJ=>pB x y λd=>Q d aJ
theorem bR(ha:PE X a (lB ta))(hb:PE X b (lB tb))(hs:LG b):PE X (.Subscript a b pos) (lB (sr ta tb)) :=
 cR (LH Vv ha hb hs) λσ H Q ⟨B,F,δ,ts,Qd,c,q,k⟩=>⟨B,F,δ,ts,_,c,q,λx ao v F1 H1 q1 f1 h1 c1 s1=>⟨B,F1,ao,ts,_,c1,q1,λy aJ w F2 H2 q2 f2 h2 c2 s2=>by
  have lj:=s1.mono f2 h2
  have fin:∀d z,Qd d aJ->S F2 H2 [d] [z]->Q z H2:=λd z hd s=>k d aJ z F2 H2 hd (f1.trans f2) (h1.trans h2) c2 s
  unfold pB at q2
  split at q2
  ·obtain⟨d,ed,qd⟩:=q2
   cases s2
   obtain⟨p,ws,rfl,h,t⟩:=kY lj c2.ext rfl
   obtain⟨z,ez,sz⟩:=DY t ed
   exact .inl ⟨p,ws,_,z,rfl,rfl,jZ h,ez,fin d z qd sz⟩
  ·obtain⟨d,ed,qd⟩:=q2
   cases s2
   obtain⟨p,ws,rfl,h,t⟩:=kY lj c2.ext rfl
   obtain⟨z,ez,sz⟩:=DY t ed
   exact .inl ⟨p,ws,_,z,rfl,rfl,jZ h,ez,fin d z qd sz⟩
  ·obtain⟨d,ed,qd⟩:=q2
   cases s2
   obtain⟨p,ws,rfl,h,t⟩:=iy lj
   obtain⟨z,ez,sz⟩:=DY t ed
   exact .inr (.inl ⟨p,ws,_,z,rfl,rfl,eQ.of h,ez,fin d z qd sz⟩)
  ·obtain⟨hz,ch,ec,qc⟩:=q2
   cases lj
   cases s2
   exact .inr (.inr ⟨_,_,ch,rfl,rfl,hz,ec,fin _ _ qc (.str .nil)⟩)
  ·exact q2.elim⟩⟩
noncomputable abbrev su:=Dl->(Option Int->Dl->Prop)->Prop
noncomputable def lP(t:su):TO:=λσ H Q=>∃B F δ ts Qd,ai B F H σ δ ts/\t δ Qd/\∀o ah F' H',Qd o ah->aa F F'->aa H H'->ai B F' H' σ ah ts->Q o H'
theorem Nf{oe:Option Expr}{u u':TO}(h:PO X oe u)(m:∀σ H Q,u' σ H Q->u σ H Q):PO X oe u':=λpins s σ H Q I q=>h pins s σ H Q I (m σ H Q q)
noncomputable def sA:su:=λδ Q=>Q none δ
noncomputable def sC(t:aF):su:=λδ Q=>t δ λd ah=>match d with
 | .int i=>Q (some i) ah
 | _=>False
theorem wc:PO X none (lP sA):=Nf Vn λσ H Q ⟨B,F,δ,ts,Qd,c,q,k⟩=>k none δ F H q (aa.refl _) (aa.refl _) c
theorem we(h:PE X e (lB t)):PO X (some e) (lP (sC t)):=Nf (Vo h) λσ H Q ⟨B,F,δ,ts,Qd,c,q,k⟩=>⟨B,F,δ,ts,_,c,q,λd ao v F1 H1 q1 f1 h1 c1 s1=>by
 cases s1 with
 | int _=>exact⟨_,rfl,k _ ao F1 H1 q1 f1 h1 c1⟩
 | _=>exact q1.elim⟩
noncomputable def et{α:Type}(xs:List α)(lo hi:Option Int):List α:=(xs.drop (HT.cy xs.length 0 lo)).take (HT.cy xs.length xs.length hi-HT.cy xs.length 0 lo)
theorem S.cut{xs:List D}{ws:List V}(s:S F H xs ws)(lo hi:Option Int):S F H (et xs lo hi) (qV ws lo hi):=by
 unfold et qV
 rw[<-s.length]
 exact(s.drop _).take _
theorem Ng{xs:List D}{p:D->Bool}(h:xs.all p=true)(lo hi:Option Int):(et xs lo hi).all p=true:=by
 rw[dg]at h ⊢
 intro x hx
 exact h x (Ca (yw hx))
noncomputable def sD(t:aF):aF:=λδ Q=>t δ λd ah=>match d with
 | .int i=>Q (.int (Mf.bl i.natAbs:Nat)) ah
 | _=>False
theorem lu(ho:PE X o (lB t))(jk:attributeBase o "bit_length" X.env (eval o X.env)=eval o X.env:=by rfl)(jl:(apos.endLine==bM.line)=true:=by rfl):PE X (.Call (.Attribute o "bit_length" apos) [] [] bM) (lE (sD t)) :=
 cR (Dn ho jk jl) λσ H Q ⟨B,F,δ,ts,Qd,c,q,k⟩=>⟨B,F,δ,ts,_,c,q,λd ao v F1 H1 q1 f1 h1 c1 s1=>by
  cases s1 with
  | int _=>exact⟨rfl,_,rfl,rfl,k _ ao _ F1 H1 q1 f1 h1 (c1.pushS (.int .nil) rfl)⟩
  | _=>exact q1.elim⟩
end
end L3
namespace L3
open PySem L2 PySem.Spec PyProof.Rows
section
variable{X:Cx}{F H:Hp}{v w:V}{e a b c o tg:Expr}{es:List Expr}{pos p p2 apos bM pos':Pos}{t ta tb tc te ti:aF}{tr:cj}{x:Str}{i:Nat}
noncomputable def sE(i:Nat)(t:aF):ck:=λD δ=>(∃xs,δ[i]?=some (some (.lst true xs)))/\t δ λd ah=>∃xs,ah[i]?=some (some (.lst true xs))/\xs.length<sizeLine/\D.nx (ah.set i (some (.lst true (xs++[d]))))
theorem pF(hN:X.N[i]?=some x)(hv:i8 X.env.scope x)(he:PE X e (lE t))(hd:(x==("__debug__":Str))=false:=by decide)(bV:(x==("__classdict__":Str))=false:=by decide)
  (jk:attributeBase (.Name x p) "append" X.env (eval (.Name x p) X.env)=eval (.Name x p) X.env:=by rfl)
  (C8:((backTo bM (starEach [e] X.env)).all (λx=>!x.1)&&(backToKw bM (keywordEach [] X.env)).all (λx=>x.1.isSome)
   && decide ([e].length+([]:List Keyword).length+(if([]:List Keyword).isEmpty then 0 else 1)<30))=true:=by rfl)
  (jl:(apos.endLine==bM.line)=true:=by rfl) (hs:starEach [e] X.env=(false,eval e X.env)::starEach [] X.env:=by rfl) (C9:(backTo bM (starEach [] X.env)).any (·.1)=false:=by rfl)
  (pG:swapsWith (.Call (.Attribute (.Name x p) "append" apos) [e] [] bM) none pos.line X.env=pure false:=by rfl) :
  PS X (.Expr (.Call (.Attribute (.Name x p) "append" apos) [e] [] bM) pos) (lS X (sE i t)) :=
 jn (yW (VJ PySem.F.plainAttrs_list PySem.F.slot_list_append PySem.F.type_list_append LX (mL hN hv hd bV) (eJ he ij hs) jk C8 jl hs C9) pG) λEn σ H zz=>by
  obtain⟨B,F,δ,Dd,c,⟨⟨ys,ey⟩,q⟩,k1,k2,k3,k4⟩:=zz
  obtain⟨p0,rk,g1,g2,g3⟩:=c.ownAt ey
  refine⟨.ref p0,g1,.inl ⟨rfl,_,bq.of g2⟩,B,F,δ,[],_,c,q,λd ah v F' H' hd sf sh c'=>?_⟩
  obtain⟨xs,ex,hl,hn⟩:=hd
  obtain⟨p1,ws,r1,r2,r3⟩:=c'.ownAt ex
  rw[g1]at r1;cases r1
  exact⟨p0,ws,v,rfl,rfl,r2,by omega,k1 _ _ F' _ hn (c'.app ex g1 r2)⟩
noncomputable def sF(i:Nat)(te ti:aF):ck:=λD δ=>te δ λd ao=>∃ys,ao[i]?=some (some (.lst true ys))/\mZ ti ao λk aJ=>match k with
 | .int n=>∃xs j,aJ[i]?=some (some (.lst true xs))/\fG xs.length n=some j/\D.nx (aJ.set i (some (.lst true (xs.set j d))))
 | _=>False
theorem Yf(hN:X.N[i]?=some x)(hv:i8 X.env.scope x)(he:PE X e (lE te))(hi:PE X b (lB ti))(hd:(x==("__debug__":Str))=false:=by decide)(bV:(x==("__classdict__":Str))=false:=by decide)
  (ha:∀v,assign (.Subscript (.Name x p) b pos') X.env v=(do
   let ov<-holding [v] (eval (.Name x p) X.env)
   let iv<-holding [v,ov] (eval b X.env)
   standAt pos'
   holding [v,ov,iv] (setItem ov iv v)
   release [v,ov,iv] []):=by intro _;rfl)
  (hs:swapsWithSole [.Subscript (.Name x p) b pos'] e pos.line X.env=pure false:=by rfl) (hw:swappedStores [.Subscript (.Name x p) b pos'] e X.env=pure none:=by rfl)
  (h1:(assignEach [.Subscript (.Name x p) b pos'] X.env).map (·.2)=[assign (.Subscript (.Name x p) b pos') X.env]:=by rfl) :
  PS X (.Assign [.Subscript (.Name x p) b pos'] e pos) (lS X (sF i te ti)) :=
 jn (Lk he (Lj (mL hN hv hd bV) (eK hi) LN ha) hs hw h1) λEn σ H ⟨B,F,δ,Dd,c,q,k1,k2,k3,k4⟩=>⟨B,F,δ,[],_,c,q,λd ao v F1 H1 hq f1 h1 c1=>by
  obtain⟨ys,ey,hq⟩:=hq
  obtain⟨p0,rk,g1,g2,g3⟩:=c1.ownAt ey
  refine⟨.ref p0,g1,B,F1,ao,[(d,v)],_,c1,hq,λkd aJ kv F2 H2 hk f2 h2 c2=>?_⟩
  have st:=c2.top
  split at hk
  ·obtain⟨xs,j,ex,ej,hn⟩:=hk
   cases st
   have c3:=c2.pop
   obtain⟨p1,ws,r1,r2,r3⟩:=c3.ownAt ex
   rw[g1]at r1;cases r1
   exact⟨p0,ws,_,j,rfl,rfl,r2,by rw[<-r3];exact ej,k1 _ _ F2 _ hn (c3.Xv ex g1 r2 j)⟩
  ·exact hk.elim⟩
end
end L3
namespace L3
open PySem L2 PySem.Spec PyProof.Rows
theorem cN{A:Around}{k:Nat}(hr:bK k A):A.units+6<cLine:=by have:=hr.un;omega
noncomputable def nums(ns:List Int):List D:=ns.map D.int
noncomputable def DZ(o:Obj):Bool:=match o.cls with
 | .type n=>n != "list"
 | _=>true
noncomputable def Nh:bD:=λds Q=>∃ns:List Int,ds=[.fz (nums ns)]/\ns.length<=63/\Q (.bl true)
theorem jw{F H:Hp}:∀ns:List Int,R F H (nums ns) (ns.map V.int) []
 | []=>.nil
 | n::ns=>.int (jw ns)
theorem Yg{K:PySem.W.Frag}{a:Addr}{o:Obj}(h:K.lookup a=some o):(a,o)∈K:=by
 induction K with
 | nil=>cases h
 | cons p K ih =>
  obtain⟨b,u⟩:=p
  rw[eV]at h
  split at h
  ·rename_i z
   have:a=b:=by simpa using z
   cases h;subst this;simp
  ·exact fF _ (ih h)
end L3
namespace L3
open PySem L2 PySem.Spec PyProof.Rows
section
variable{B:Bs}{F H:Hp}{σ:L2.St}{δ:Dl}{ts ps:List (D × V)}{i k:Nat}{p q:Addr}{l1 l2 ys oQ:List D}{ws fO:List V}
theorem ai.Yh(c:ai B F H σ δ (ps++ts))(e:δ[i]?=some (some (.lst true (l1++.lst true ys::l2))))(e2:σ[i]?=some (some (.ref p)))(hp:H p=some (.lst ws))(hq:ws[l1.length]?=some (.ref q))
  (kk:∀us A1 A2,H q=some (.lst us)->R F H ys us A1->R F H (ps.map (·.1)) (ps.map (·.2)) A2->(A1++A2).Nodup->∃A',R F H oQ fO A'/\A'.Nodup/\∀a∈A',a∈A1++A2) :
  ai B F (upd H q (.lst fO)) σ (δ.set i (some (.lst true (l1++.lst true oQ::l2)))) ts:=by
 have hi:i<δ.length:=(g9.mp e).1
 obtain⟨v,e3,c1⟩:=c.move e
 rw[e2]at e3;cases e3
 obtain⟨A,C,r,s,nd,fr⟩:=c1.own
 have r':R F H ([.lst true (l1++.lst true ys::l2)]++(ps.map (·.1)++ts.map (·.1))) ([.ref p]++(ps.map (·.2)++ts.map (·.2))) A:=by simpa using r
 obtain⟨v1,v2,A1,A2,e4,rfl,h1,h2⟩:=R.split r'
 have Yi:v1.length=1:=by rw[<-h1.length];rfl
 obtain⟨rfl,rfl⟩:=u4 e4 (by simp[Yi])
 obtain⟨v3,v4,B1,B2,e5,rfl,h3,h4⟩:=R.split h2
 have l3:(ps.map (·.2)).length=v3.length:=by rw[<-h3.length];simp
 obtain⟨rfl,rfl⟩:=u4 e5 l3
 cases h1 with
 | @own _ rk _ Ax _ _ Bx hH hF hx hr =>
  cases hr
  rw[hp]at hH;cases hH
  obtain⟨w1,w2,X1,X2,e6,rfl,g1,g2⟩:=R.split hx
  obtain⟨wq,w3,X3,X4,rfl,rfl,g3,g4⟩:=R.cA g2
  have lw:w1.length=l1.length:=g1.length.symm
  have Yj:wq=.ref q:=by
   rw[e6,<- lw,qt (aX _),u5]at hq
   simpa using hq
  subst Yj
  cases g3 with
  | @own _ us _ Y1 _ _ Y2 Ni D0 hy jx =>
   cases jx
   simp only[jJ]at *
   have gn:(p::(X1++(q::Y1++X4))++(B1++B2)++C).Nodup:=by simpa[cS]using nd
   have ni:∀a∈p::(X1++(q::Y1++X4))++(B1++B2)++C,B.H0 a=none:=λa ha=>fr a (by simpa[cS]using ha)
   have Nj:=gn
   simp only[mH,cS,fZ,dY,bP,bJ,not_or]at Nj
   have Yk:(Y1++B1).Nodup:=dY.mpr ⟨by grind,by grind,by grind⟩
   obtain⟨A',ra,DE,sub⟩:=kk us Y1 B1 Ni hy h3 Yk
   have zG:∀a∈A',a∈Y1\/a∈B1:=λa ha=>bP.mp (sub a ha)
   have but:fu [q] H (upd H q (.lst fO)):=⟨λa o z w _=>by rw[aM (by simpa using w)];exact z⟩
   have hl:gk [q] H:=λa ha=>by rw[eF.mp ha];exact⟨_,Ni⟩
   have kp:∀{ds:List D} {vs:List V} {A:List Addr},R F H ds vs A->q ∉ A->R F (upd H q (.lst fO)) ds vs A:=λr n=>r.keep (aa.refl F) but hl (λa ha=>(r.lists a ha).2) λa ha z=>n (by rw[<-eF.mp z];exact ha)
   have fq:B.H0 q=none:=ni q (by simp)
   have Yl:p≠q:=by grind
   have b1:aa B.H0 (upd H q (.lst fO)):=⟨λa o z n=>by
    rw[aM (λw=>by rw[w,fq]at z;cases z)]
    exact c1.b1.get a o z n,λa ps z=>by
    rw[aM (λw=>by rw[w,fq]at z;cases z)]
    exact c1.b1.tb a ps z⟩
   have ext:aa F (upd H q (.lst fO)):=⟨λa o z n=>by
    rw[aM (λw=>by rw[w,D0]at z;cases z)]
    exact c1.ext.get a o z n,λa ps z=>by
    rw[aM (λw=>by rw[w,D0]at z;cases z)]
    exact c1.ext.tb a ps z⟩
   have big:R F (upd H q (.lst fO)) [.lst true (l1++.lst true oQ::l2)] [.ref p] (p::(X1++(q::(A'++X4)))):=by
    have D1:R F (upd H q (.lst fO)) (l1++.lst true oQ::l2) (w1++.ref q::w3) (X1++(q::(A'++X4))) :=
     R.append (kp g1 (by grind)) (R.own bO D0 (kp ra (by grind)) (kp g4 (by grind)))
    have:=R.own (F:=F) (H:=upd H q (.lst fO)) (p:=p) (by rw[aM Yl,hp,e6]) hF D1 .nil
    simpa using this
   have c2:ai B F (upd H q (.lst fO)) σ (δ.set i none) ((.lst true (l1++.lst true oQ::l2),.ref p)::ts):=by
    refine⟨ext,b1,c1.b2,c1.b3,(p::(X1++(q::(A'++X4))))++B2,C,R.cons big (kp h4 (by grind)),s.keep (aa.refl F) but hl (λa ha=>(s.lists a ha).2) (λa ha z=>?_),?_,?_⟩
    ·have:a=q:=by simpa using z
     subst this
     grind
    ·obtain⟨⟨p1,p2,p3,p4,p5,p6,p7⟩,x1,⟨⟨q1,q2,q3,q4,q5⟩,y1,⟨x4,⟨b1',⟨Ym,cc,Yn⟩,Nk⟩,Nl⟩,Yo⟩,Yp⟩:=Nj
     simp only[mH,cS,fZ,dY,bP,bJ,not_or]
     refine⟨⟨p1,p2,λz=>(zG _ z).elim p3 p5,p4,p6,p7⟩,x1,⟨⟨λz=>(zG _ z).elim q1 q3,q2,q4,q5⟩,DE,⟨x4,⟨Ym,cc,Yn⟩,λa ha=>?_⟩,λa ha=>?_⟩,λa ha=>?_⟩
     ·obtain⟨z1,z2,z3⟩:=Nl a ha;exact⟨z2,z3⟩
     ·rcases zG a ha with z | z
      ·obtain⟨z1,z2,z3,z4⟩:=Yo a z;exact⟨z1,z3,z4⟩
      ·refine⟨λw=>(Nl a w).1 z,(Nk a z).1,(Nk a z).2⟩
     ·obtain⟨z1,z2,z3,z4,z5,z6⟩:=Yp a ha
      exact⟨z1,λw=>(zG a w).elim z2 z4,z3,z5,z6⟩
    ·intro a ha
     simp only[mH,cS,bJ,bP]at ha ni
     apply ni
     grind
   have c3:=c2.fill (i:=i) (by simp[hi]) e2
   rwa [B8]at c3
end
section
variable{X:Cx}{F H:Hp}{e b:Expr}{pos p pr apos bM zH:Pos}{t ti te:aF}{x y:Str}{i j:Nat}
end
end L3
namespace L3
open PySem L2 PySem.Spec PyProof.Rows
theorem wg(i:Int):(D.int i).pl=true:=rfl
theorem wj(i:Bool):(D.bl i).pl=true:=rfl
theorem wk(i:Str):(D.str i).pl=true:=rfl
theorem wm:D.ak.pl=true:=rfl
theorem wo(xs:List D):(D.fz xs).pl=true:=rfl
theorem wt(C:Addr)(ns:List Str)(xs:List D):(D.obj C ns xs).pl=true:=rfl
theorem sG(i:Int):(D.int i).fr=true:=rfl
theorem wu(i:Bool):(D.bl i).fr=true:=rfl
theorem wz(i:Str):(D.str i).fr=true:=rfl
theorem wA:D.ak.fr=true:=rfl
theorem pH(i:Int):(D.int i).sh=.int i:=rfl
theorem wB(i:Bool):(D.bl i).sh=.bl i:=rfl
theorem wC(i:Str):(D.str i).sh=.str i:=rfl
theorem wD:D.ak.sh=.ak:=rfl
theorem wF(xs:List D):(D.fz xs).sh=.fz xs:=rfl
theorem wG(C:Addr)(ns:List Str)(xs:List D):(D.obj C ns xs).sh=.obj C ns xs:=rfl
theorem wH{α:Type}(n:Nat)(x:α):(bh n [x]).flatten=bh n x:=by
 induction n with
 | zero=>rfl
 | succ n ih=>rw[nX,qA,ih];rfl
theorem ly(ns:List Int):(nums ns).length=ns.length:=by simp[nums]
theorem nj(ns:List Int):(nums ns).all D.pl=true:=by simp[nums,D.pl]
theorem pI(ns:List Int):(nums ns).all D.fr=true:=by simp[nums,D.fr]
theorem iU(ns:List Int):(nums ns).map D.sh=nums ns:=by simp[nums,D.sh]
theorem pJ(a b:List Int):nums a++nums b=nums (a++b):=by simp[nums]
theorem wI(n:Nat)(i:Int):bh n (D.int i)=nums (bh n i):=by simp[nums]
theorem sH(n:Nat)(i:Int):aI n (.int i)=true:=by cases n<;>rfl
theorem wJ(n:Nat)(i:Str):aI n (.str i)=true:=by cases n<;>rfl
theorem nk(i j:Int):bx (.int i) (.int j)=decide (i=j):=by
 show(i==j)=_
 rw[Bool.beq_eq_decide_eq]
theorem Nm:∀(a b:List Int),bx.eM (nums a) (nums b)=decide (a=b)
 | [],[]=>rfl
 | [],_::_=>by simp[nums,bx.eM]
 | _::_,[]=>by simp[nums,bx.eM]
 | x::xs,y::ys=>by
  show(bx (.int x) (.int y)&&bx.eM (nums xs) (nums ys))=_
  rw[Nm xs ys,nk,yv];simp
theorem sI(o o':Bool)(a b:List Int):bx (.lst o (nums a)) (.lst o' (nums b))=decide (a=b):=Nm a b
theorem Yq{ns:List Int}{k:Nat}(h:k<ns.length):(nums ns)[k]?=some (.int ns[k]):=by simp[nums,h]
theorem j6{ns:List Int}{k:Int}(h0:0<=k)(h:k<ns.length):dm (nums ns) k=some (.int (ns.getD k.toNat 0)):=by
 unfold dm fG
 rw[if_pos h0,ly,if_pos h]
 show(nums ns)[k.toNat]?=_
 have hk:k.toNat<ns.length:=by omega
 rw[Yq hk,aQ,aP hk];rfl
theorem sJ(ns:List Int)(lo hi:Option Int):et (nums ns) lo hi=nums (et ns lo hi):=by simp[et,nums,KJ,KL]
theorem wK(i:Int):j5 "int" (.int i)=some true:=by rfl
theorem wL(i:Int):j5 "bool" (.int i)=some false:=by rfl
theorem wM(i:Int):j5 "list" (.int i)=some false:=by rfl
theorem wN(o:Bool)(xs:List D):j5 "list" (.lst o xs)=some true:=by rfl
theorem wO:j5 "int" .ak=some false:=by rfl
theorem wQ(x:Str):j5 "str" (.str x)=some true:=by rfl
theorem wR(xs:List D):j5 "tuple" (.tup xs)=some true:=by rfl
theorem sL:sizeLine=16777216:=rfl
theorem wU{p:Prop}[Decidable p]:(decide p=true)=p:=by simp
theorem Yr{α:Type}(xs:List α)(a b:Nat):et xs (some (a:Int)) (some (b:Int))=(xs.drop a).take (b-a):=by
 unfold et
 rw[HT.C2,HT.C2]
 by_cases h:a<=xs.length
 ·rw[Nat.min_eq_left h]
  apply Cb
  intro i
  rw[SJ,SJ,List.getElem?_drop]
  by_cases hi:i<b-a
  ·rw[if_pos hi]
   by_cases hb:a+i<xs.length
   ·rw[if_pos (by omega)]
   ·rw[i4 (by omega)];simp
  ·rw[if_neg hi,if_neg (by omega)]
 ·rw[Nat.min_eq_right (show xs.length<=a by omega),KN (aX _),KN (show xs.length<=a by omega)];simp
end L3
namespace L2
open PySem PySem.Spec PyProof.Rows
section
variable{X:Cx}{e:Expr}{te:TE}{lo hi:Option Expr}{st:Expr}{tl th ts:TO}{pos p2:Pos}
noncomputable def D2{α:Type}(xs:List α)(lo hi st:Option Int):List α:=(sliceRange (sliceBounds lo hi st xs.length).1 (sliceBounds lo hi st xs.length).2.1 (sliceBounds lo hi st xs.length).2.2).filterMap (xs[·]?)
end
end L2
namespace L3
open PySem L2 PySem.Spec PyProof.Rows
section
variable{X:Cx}{F H:Hp}{e:Expr}{t:aF}{lo hi:Option Expr}{st:Expr}{tl th td:su}{pos p2:Pos}
theorem Nn:∀{a:List Int} {ws:List V},S F H (nums a) ws->ws=a.map V.int
 | [],_,s=>by cases s;rfl
 | b::bs,_,s=>by
  cases s with
  | int s=>rw[Nn s];rfl
theorem S.D3{xs:List D}{ws:List V}(s:S F H xs ws):∀ix:List Nat,S F H (ix.filterMap (xs[·]?)) (ix.filterMap (ws[·]?))
 | []=>.nil
 | i::ix=>by
  rw[qm,qm]
  cases e:xs[i]? with
  | none =>
   have:ws[i]?=none:=by
    have:=s.length
    rw[Kt]at e ⊢
    omega
   rw[this];exact S.D3 s ix
  | some x =>
   obtain⟨u,e2,q⟩:=s.get e
   rw[e2]
   exact q.cons (S.D3 s ix)
theorem S.pick{xs:List D}{ws:List V}(s:S F H xs ws)(l u d:Option Int):S F H (D2 xs l u d) (D2 ws l u d):=by
 unfold D2;rw[<-s.length];exact s.D3 _
noncomputable def D4:Expr->Option Int
 | .Constant (.int i) _ _=>some i
 | _=>none
noncomputable def zI:List Expr->Option (List Int)
 | []=>some []
 | e::es=>(D4 e).bind λi=>(zI es).map (i :: ·)
theorem Ys{e:Expr}{i:Int}(h:D4 e=some i):∃a b,e=.Constant (.int i) a b:=by
 cases e with
 | Constant c a b =>
  cases c with
  | int j=>cases h;exact⟨_,_,rfl⟩
  | _=>cases h
 | _=>cases h
noncomputable def Yt(ns:List Int):cj:=λδ Q=>Q (nums ns) δ
theorem Np:∀(es:List Expr) (ns:List Int),zI es=some ns->PA X es (lO (Yt ns))
 | [],ns,h=>by cases h;exact fv
 | e::es,ns,h=>by
  obtain⟨i,hi,h2⟩:=Option.bind_eq_some_iff.mp (show(D4 e).bind (λi=>(zI es).map (i :: ·))=some ns from h)
  obtain⟨ms,hm,rfl⟩:=KI.mp h2
  obtain⟨a,b,rfl⟩:=Ys hi
  exact vR (gP (ax (i:=i)) (Np es ms hm)) λ_ _ _ q=>q
noncomputable def sM(ns:List Int):aF:=λδ Q=>ns.length<=sizeLine/\Q (.lst true (nums ns)) δ
theorem Nq{es:List Expr}{ns:List Int}(h:zI es=some ns):PE X (.List es pos) (lE (sM ns)) :=
 cR (gQ (Np es ns h)) λ_ _ _ ⟨B,F,δ,ts,Qd,c,q,k⟩=>⟨B,F,δ,ts,Qd,c,by
  show(nums ns).length<=sizeLine/\_
  rw[ly];exact q,k⟩
noncomputable def tab(f:Nat->Int)(n:Nat):List Int:=(aR n).map f
theorem zJ{n:Nat}{g:fL}{tb:ck}{En:rl}{δ:Dl}(Iv:Nat->Dl->Prop)(h0:Iv 0 δ)(ht:∀k ah,k<n->Iv k ah->g (.int k) ah λaJ=>tb { En with nx:=Iv (k+1),ct:=Iv (k+1),bk:=En.nx } aJ)
  (hf:∀ah,Iv n ah->En.nx ah):jr (Cc (λ(k:Nat)=>D.int (0+(k:Int))) (aR (n:Int).toNat)) g tb En δ:=by
 rw[eE]
 refine jr.mk Iv h0 (λi d ah hd iv=>?_) λah iv=>hf ah (by simpa using iv)
 rw[cY]at hd
 obtain⟨k,hk,rfl⟩:=KI.mp hd
 have hi:i<n:=by have:=(g9.mp hk).1;simpa using this
 rw[mF hi]at hk
 cases hk
 rw[KO]
 exact ht i ah hi iv
theorem mQ{xs:List D}{k:Int}{d:D}(h0:0<=k)(h:xs[k.toNat]?=some d):dm xs k=some d:=by
 unfold dm fG
 have hk:k.toNat<xs.length:=(g9.mp h).1
 rw[if_pos h0,if_pos (by omega)]
 exact h
end
end L3
namespace L3
open PySem L2 PySem.Spec PyProof.Rows
noncomputable abbrev nq:=List D->(D->Prop)->(Addr->Prop)->Prop
noncomputable def wV(sp:nq):Sp:=λvs H Q E=>∃F ds Qd Ed,aa F H/\R F H ds vs []/\sp ds Qd Ed/\(∀d v F' H' A,Qd d->aa H H'->aa F F'->aa F' H'->(∀a ws,F' a=some (.lst ws)->F a=some (.lst ws)\/H a=none)->R F' H' [d] [v] A->A.Nodup->(∀a∈A,H a=none)->Q v H') /\
 ∀C H',Ed C->aa H H'->E (.ref C) none H'
section
variable{P:Program}{w:World}{K:PySem.W.Frag}{mg:Str->Option Value}{base:Heap}
theorem Nr{x qual:Str}{st:Stmt}{f:Addr}{fd:FuncData}{N ps:List Str}{k:Nat}{sp:nq}(F:bw K x qual st f fd)(S:bB N ps (az st))(len:∀ds Q E,sp ds Q E->ds.length=ps.length)
  (gh:∀(aG:Value) (A:Around) (outer:List Env) (s:Shared) (H:Hp) (E:XK),bK k (A.deeper (envOfC qual (az st) s.heap.objs.size f aG)) ->
   ∃t:ck,PSs (gG (kO P w) P w K mg base N qual (az st) f aG A outer s H E) (br st) (lS (gG (kO P w) P w K mg base N qual (az st) f aG A outer s H E) t) /\
    ∀ds Q Ex,sp ds Q Ex->t { nx:=λ_=>Q .ak,rt:=Q,xc:=λC _=>Ex C,xr:=λC _=>Ex C } (jo N ds)):aO P w K mg base (kO P w) (k+1) f fd ps (wV sp):=by
 obtain⟨oc,od,kV,doc,pm,an,aG,ct,jR,rfl,lk,bV⟩:=F.ex
 refine CW lk bV S (λvs H Q E ⟨F,ds,Qd,Ed,e,r,h,_⟩=>by rw[<-r.length];exact len ds Qd Ed h) λA outer s H vs Q E hr zz=>?_
 obtain⟨F,ds,Qd,Ed,e,r,h,k,kx⟩:=zz
 obtain⟨t,ht,hq⟩:=gh aG A outer s H E hr
 have fin:∀d v ah av F' H',Qd d->ai ⟨H,F⟩ F' H' av ah [(d,v)]->Q v H':=λd v ah av F' H' hd c=>by
  obtain⟨A,C,r',s',nd,fr⟩:=c.own
  exact k d v F' H' A hd c.b1 c.b2 c.ext c.b3 r' (dY.mp nd).1 λa ha=>fr a (eU _ ha)
 have e1:L2.start N vs=vs.map some++bh (N.length-ds.length) none:=by unfold L2.start;rw[r.length]
 refine⟨_,ht,⟨H,F⟩,F,jo N ds,_,?_,hq ds Qd Ed h,λah av F' H' hd c=>fin .ak .ak ah av F' H' hd (c.pushS (.ak .nil) rfl),fin,λ_ _ _ _ z=>z.elim,λ_ _ _ _ z=>z.elim,λC ah pins av F' H' s' a T hx c I tr pa pT=>?_,λC ah pins av F' H' s' h' e vs hx c I hm=>?_⟩
 ·rw[e1]
  exact ai.start e r _
 ·exact WW I rfl rfl rfl tr pa pT λh' T' g=>⟨a,T',.ref C,H',rfl,I.os,I.bare,g.un,g.ay,g.vL,g.a0,g.a1,g.t0,g.t1,kx C H' hx c.b1⟩
 ·exact WX I rfl rfl rfl hm λh' T' g=>⟨e,T',.ref C,H',rfl,I.os,I.bare,g.un,g.ay,g.vL,g.a0,g.a1,g.t0,g.t1,kx C H' hx c.b1⟩
end
noncomputable abbrev Yu:=Dl->(D->Dl->Prop)->(Addr->Dl->Prop)->Prop
section
variable{X:Cx}{n:Nat}{f:Addr}{fd:FuncData}{ps:List Str}{sp:nq}{x:Str}{p pos:Pos}{e:Expr}{es:List Expr}{t:cj}{tx:Yu}
noncomputable def sN(t:ck):ck:=λD δ=>t { D with xc:=λ_ _=>False,xr:=λ_ _=>False } δ
theorem Yv{st:Stmt}{u:ck}(h:PS X.eR st (lS X.eR u)):PS X st (lS X (sN u)):=by
 intro pins s σ H D I zz
 obtain⟨B,F,δ,Dd,c,q,k1,k2,k3,k4,xl⟩:=zz
 exact wpAny_mono (h pins s σ H D (I.ie _) ⟨B,F,δ,_,c,q,k1,k2,k3,k4,XL.none (λ_ _ z=>z) λ_ _ z=>z⟩) (λ_ _ q=>q.jc) λ_ _ z=>dQ z
noncomputable def sO(C:Addr)(t:cj):ck:=λD δ=>t δ λds ah=>ds.length<=9/\D.xr C ah
structure D6(K:PySem.W.Frag)(mg:Str->Option Value)(x:Str)(C:Addr):Prop where
 own:∀h:Heap,K.In h->h.Ns mainGlobals mg->∃newId Bn j7 Nt B Nu Nv zK,OwnCls x C zK newId mg h/\ExcBaseFacts Bn newId j7 Nt/\zK.contains (.type Bn)=true/\ExcBaseFacts B Nu Nv zK
theorem Nw{C:Addr}{np bM:Pos}(hm:D6 X.K X.mg x C)(hc:X.calm=true)(hg:Gl X x)(ha:PA X (e::es) (lA t))(dB:(x==("__debug__":Str))=false:=by decide)
  (he:starEach (e::es) X.env=(false,eval e X.env)::starEach es X.env:=by rfl) (bE:(backTo bM (starEach es X.env)).any (·.1)=false:=by rfl) :
  PS X (.Raise (some (.Call (.Name x np) (e::es) [] bM)) none pos) (lS X (sO C t)):=by
 intro pins s σ H D I zz
 obtain⟨B,F,δ,Dd,c,q,k1,k2,k3,k4,xl⟩:=zz
 obtain⟨newId,Bn,j7,Nt,B',Nu,Nv,zK,O,Fn,Yw,FB⟩:=hm.own X.base I.ok.mod.kA I.ok.mod.glob
 obtain⟨tl,N,nm,qn,bs,hdct,sn,sub,ab,col,dd,k0,Yx,Yy,Yz,k5,mN,hC,hN,nr,T⟩:=O.obj
 refine wpAny_Raise_call_subU (k5:=k5) (k3:=Yz) (k2:=Yy) (k1:=Yx) (k0:=k0) (dd:=dd) (col:=col) (ab:=ab) (sub:=sub) (sn:=sn) (hdct:=hdct) (bs:=bs) (N:=N) (q:=qn) (nm:=nm) (C:=C) Fn Yw FB (mN:=mN) (T.hasType FB.hasBase) (I.ok.hd hc) (by rw[he];show(false||(backTo bM (starEach es X.env)).any (·.1))=false;rw[bE];rfl) nr (yU I hg O.bound ⟨rfl,?_⟩ dB)
 have D7:=ha bM pins s σ H (λvs H1=>vs.length<=9/\∃ah F',Dd.xr C ah/\ai B F' H1 σ ah []) I ⟨B,F,δ,[],_,c,q,λds ao vs F1 H1 q1 f1 h1 c1 s1=>⟨by rw[<-s1.length];exact q1.1,ao,F1,q1.2,c1⟩⟩
 rw[he]at D7 ⊢
 refine Calls.evalArgs_plain (wpAny_mono D7 (λus s2 h2=>?_) λ_ _ y=>y)
 obtain⟨vs,H1,I1,r,hl,ah,F',hx,c'⟩:=h2
 exact⟨rfl,by rw[<-r.length];exact dP hl (by decide),I1.bk _ _ hC,hN.keeps I1.bk,T.keeps I1.bk,λh' e' YA=>xl.2 C ah pins σ F' H1 s2 h' e' _ hx c' I1 YA⟩
end
end L3
namespace L3
open PySem L2 PySem.Spec PyProof.Rows
section
variable{X:Cx}{pins CA:List (Addr × Obj)}{σ:L2.St}{H:Hp}{s:Shared}{a:Addr}
noncomputable abbrev tr(X:Cx)(xe:Value->Shared->Prop)(pn:List (Addr × Obj)):Cx:={ X with xe:=xe,pn:=pn }
end
noncomputable abbrev exc(C:Addr):D:=.aV (.ext λa=>W0 a C)
section
variable{X:Cx}{tb th:ck}{body YB:List Stmt}{YC:Stmt}{K n:Str}{Kc:Addr}{i:Nat}{kp YD pos:Pos}
end
end L3
namespace L3
open PySem L2 PySem.Spec PyProof.Rows
section
variable{X:Cx}{F H:Hp}{v:V}{a:Expr}{ta:aF}{p pos:Pos}
end
section
variable{K:PySem.W.Frag}{mg:Str->Option Value}{x:Str}{C:Addr}
theorem YE(hm:mg x=some (.ref C))(q:PySem.W.excIn K C [.type "ValueError",.type "Exception",.type "BaseException",.type "object"] "ValueError.__new__"=true):D6 K mg x C:=by
 refine⟨λh X G=>⟨"ValueError.__new__","ValueError",_,_,"ValueError",_,_,[.type "ValueError",.type "Exception",.type "BaseException",.type "object"],?_,PySem.F.excBase_ValueError,rfl,PySem.F.excBase_ValueError⟩⟩
 refine⟨hm,?_⟩
 unfold PySem.W.excIn at q
 split at q
 ·rename_i dd cd sl ho
  split at q
  ·rename_i C' bm k0 k1 k2 k3 n k5 hm hs
   simp only[da,beq_iff_eq,Bool.not_eq_true']at q
   obtain⟨⟨⟨⟨⟨rfl,rfl⟩,Nx⟩,ht⟩,ay⟩,nr⟩:=q
   obtain⟨nm,bs,mro,ns,qn,hd,sn,sub,ab,col,del⟩:=cd
   dsimp only at hm Nx ay nr
   subst hm Nx
   have YF:sl=#[k0,k1,k2,k3,some (.builtin "ValueError.__new__"),k5]:=by
    obtain⟨l⟩:=sl
    simp only at hs
    rw[hs]
   subst YF
   exact⟨bm,ns,nm,qn,bs,hd,sn,sub,ab,col,dd,k0,k1,k2,k3,k5,_,X _ _ ho,.of_isNs (PySem.W.isNs_of_in X ay),PySem.W.nsMap_none_of_in X ay nr,PySem.W.tail_of_in X ht⟩
  ·cases q
 ·cases q
end
theorem D8{P:Program}{w:World}{X:Cx}:jQ (kO P w) X E0:=by
 rintro _ _ _ _ _ _ _ ⟨_,_,_,_,_,_,_,_,_,_,_,_,_,_,z⟩
 exact z.elim
theorem D9{P:Program}{w:World}{K:PySem.W.Frag}{mg:Str->Option Value}{base:Heap}{k:Nat}{f:Addr}{fd:FuncData}{ps:List Str}{sp:nq}(h:aO P w K mg base (kO P w) k f fd ps (wV sp)) :
  aO P w K mg base (kO P w) k f fd ps (bG λds Q=>sp ds Q λ_=>False) :=
 h.imp λvs H Q E ⟨F,ds,Qd,e,r,q,k⟩=>⟨F,ds,Qd,_,e,r,q,k,λ_ _ z=>z.elim⟩
end L3
namespace L3
open PySem L2 PySem.Spec PyProof.Rows
theorem wW{CX:dA}{P:Program}{w:World}{K:PySem.W.Frag}{mg:Str->Option Value}{base:Heap}{N:List Str}{q:Str}{sc:Scope}{f:Addr}{aG:Value}{A:Around}{outer:List Env}{s:Shared}{H:Hp}{E:XK}:(gG CX P w K mg base N q sc f aG A outer s H E).K=K:=rfl
theorem wX(φ:rh):(D.aV φ).pl=true:=rfl
theorem wY(φ:rh):(D.aV φ).sh=.aV φ:=rfl
end L3
namespace L3
open PySem L2 PySem.Spec PyProof.Rows
theorem wZ{X:Cx}:X.eR.K=X.K:=rfl
end L3
namespace L3
open PySem L2 PySem.Spec PyProof.Rows
noncomputable def fc(xs ys:List D):List D:=fj (λx y=>D.tup [x,y]) xs ys
noncomputable def eN(xs:List D):List D:=xs.mapIdx λi x=>D.tup [.int i,x]
theorem Ny(xs ys:List D):(fc xs ys).map D.sh=fc (xs.map D.sh) (ys.map D.sh):=by
 unfold fc
 rw[Cd,KP]
 congr 1
theorem YG{xs ys:List D}(h1:xs.all D.pl=true)(h2:ys.all D.pl=true):(fc xs ys).all D.pl=true:=by
 unfold fc
 rw[dg]at h1 h2 ⊢
 intro d hd
 obtain⟨i,hi,e⟩:=hV hd
 rw[List.getElem_zipWith]at e
 subst e
 rw[jT]
 simp only[dG,qC,mG,da]
 exact⟨h1 _ (fi _),h2 _ (fi _)⟩
theorem YH(xs:List D):(eN xs).map D.sh=eN (xs.map D.sh):=by
 unfold eN
 apply Cb
 intro i
 simp only[cY,yx,Option.map_map]
 cases xs[i]? with
 | none=>rfl
 | some x =>
  show some (D.sh (.tup [.int i,x]))=some (D.tup [.int i,x.sh])
  rw[kP];rfl
theorem YI{xs:List D}(h1:xs.all D.pl=true):(eN xs).all D.pl=true:=by
 unfold eN
 rw[dg]at h1 ⊢
 intro d hd
 obtain⟨i,hi,e⟩:=hV hd
 rw[List.getElem_mapIdx]at e
 subst e
 rw[jT]
 simp only[dG,qC,mG,da]
 exact⟨rfl,h1 _ (fi _)⟩
theorem pK(xs:List D):(eN xs).length=xs.length:=by simp[eN]
theorem Ea(xs ys:List D):(fc xs ys).length=min xs.length ys.length:=by simp[fc]
section
variable{F H:Hp}{d:D}{v:V}{xs ys:List D}{ws us:List V}{p q:Addr}{K:PySem.W.Frag}
theorem Eb(s:S F H [d] [v])(e2:aa F H)(e:jq d=some xs):∃p ws,v=.ref p/\Rd H p (.lst ws)/\R H H (xs.map D.sh) ws []/\(d.pl=true->xs.all D.pl=true/\Rd F p (.lst ws)/\R F H xs ws []):=by
 cases s with
 | @shr p ws ys _ _ hp r _ =>
  obtain rfl:=cW e
  refine⟨p,ws,rfl,.inl (e2 _ _ hp),?_,λ_=>⟨r.pl,.inl hp,r⟩⟩
  rw[mY r.pl]
  exact r.shared e2 (aa.refl _)
 | @own p ws ys _ _ hp r _ =>
  obtain rfl:=cW e
  exact⟨p,ws,rfl,.inl hp,r.frozen e2,λz=>by simp[gM]at z⟩
 | @fz p o ws ys _ _ hp r _ =>
  obtain rfl:=cW e
  refine⟨p,ws,rfl,.inr ⟨o,e2 _ _ hp⟩,?_,λ_=>⟨r.pl,.inr ⟨o,hp⟩,r⟩⟩
  rw[mY r.pl]
  exact r.shared e2 (aa.refl _)
 | ak _=>cases e
 | bl _=>cases e
 | int _=>cases e
 | str _=>cases e
 | tup _ _ _=>cases e
 | obj _ _ _ _=>cases e
 | aV _ _=>cases e
theorem Ec(r:R F H xs ws []){i:Nat}(hi:i<xs.length){x:V}(hx:ws[i]?=some x):R F H [xs[i]] [x] []:=by
 obtain⟨v,A1,e2,r1,sub⟩:=r.get (aP hi)
 rw[hx]at e2;cases e2
 have:A1=[]:=SF.mpr λa ha=>by simpa using sub ha
 subst this
 exact r1
theorem Nz(hp:Rd F p (.lst ws))(r:R F H xs ws [])(hq:Rd F q (.lst us))(t:R F H ys us [])(hF:Full F H):JD (Dt K p q) F (fc xs ys) where
 go:=λi H' hs hi=>by
  rw[Ea]at hi
  have l1:=r.length
  have l2:=t.length
  exact⟨ws,us,_,_,.inl (gj hp hs),.inl (gj hq hs),aP (show i<ws.length by omega),aP (show i<us.length by omega)⟩
 iP:=λi H' v H2 hs hi zz=>by
  obtain⟨T,x,y,e1,e2,e3,hx,hy⟩:=zz
  subst e1 e3
  have sP:=hi
  rw[Ea]at sP
  have h1:=Ec (r.full hF hs rfl) (show i<xs.length by omega) (hx ws (.inl (gj hp hs)))
  have h2:=Ec (t.full hF hs rfl) (show i<ys.length by omega) (hy us (.inl (gj hq hs)))
  have sm:=aa.upd (o:=.tup [x,y]) e2
  refine⟨_,aP hi,sm,?_⟩
  have eg:(fc xs ys)[i]=.tup [xs[i]'(by omega),ys[i]'(by omega)]:=by simp[fc]
  rw[eg]
  exact R.tup (A:=[]) (B:=[]) bO ((h1.shared (aa.refl _) sm).cons (h2.shared (aa.refl _) sm)) .nil
 stop:=λi H' hs hi=>by
  rw[Ea]at hi
  have l1:=r.length
  have l2:=t.length
  exact⟨ws,us,.inl (gj hp hs),.inl (gj hq hs),by omega⟩
theorem NA(hp:Rd F p (.lst ws))(r:R F H xs ws [])(hF:Full F H):JD (Dy K p) F (eN xs) where
 go:=λi H' hs hi=>by
  rw[pK]at hi
  have l1:=r.length
  exact⟨ws,_,.inl (gj hp hs),aP (show i<ws.length by omega)⟩
 iP:=λi H' v H2 hs hi zz=>by
  obtain⟨T,x,e1,e2,e3,hx⟩:=zz
  subst e1 e3
  have sP:=hi
  rw[pK]at sP
  have h1:=Ec (r.full hF hs rfl) sP (hx ws (.inl (gj hp hs)))
  have sm:=aa.upd (o:=.tup [.int i,x]) e2
  refine⟨_,aP hi,sm,?_⟩
  have eg:(eN xs)[i]=.tup [.int i,xs[i]]:=by simp[eN]
  rw[eg]
  exact R.tup (A:=[]) (B:=[]) bO (.int (h1.shared (aa.refl _) sm)) .nil
 stop:=λi H' hs hi=>by
  rw[pK]at hi
  have l1:=r.length
  exact⟨ws,.inl (gj hp hs),by omega⟩
end
section
variable{X:Cx}{a b:Expr}{ta:cj}{p pos kB:Pos}{elts:List Expr}{x1:Nat}
noncomputable def sQ(t:cj):iS:=λδ Q=>t δ λds ah=>match ds with
 | [d1,d2]=>∃xs ys,jq d1=some xs/\jq d2=some ys/\Q (d1.pl&&d2.pl) (fc xs ys) ah
 | _=>False
theorem Ee(hg:Gl X "zip")(hm:X.mg "zip"=none)(ha:PA X [a,b] (lA ta))(hs:starEach [a,b] X.env=[(false,eval a X.env),(false,eval b X.env)]:=by rfl)(gF:starEach [b] X.env=[(false,eval b X.env)]:=by rfl) :
  PI X (.Tuple elts x1 kB) (.Call (.Name "zip" p) [a,b] [] pos) (lI (sQ ta)) :=
 vT (Xc hg hm ha hs gF) λσ H Q ⟨B,F,δ,ts,Qd,c,q,k⟩=>⟨B,F,δ,ts,_,c,q,λds ao vs F1 H1 hd f1 h1 c1 s=>by
  match ds,hd,s with
  | [d1,d2],⟨xs,ys,i1,i2,hq⟩,s =>
   obtain⟨v1,bX,rfl,s1,s2⟩:=s.cA
   obtain⟨v2,dC2,rfl,s2,s3⟩:=s2.cA
   cases s3
   have e2:=c1.ext
   have sn:=rj e2
   obtain⟨p1,w1,rfl,r1,t1,u1⟩:=Eb s1 e2 i1
   obtain⟨p2,w2,rfl,r2,t2,u2⟩:=Eb s2 e2 i2
   refine⟨p1,p2,rfl,⟨w1,.inl r1⟩,⟨w2,.inl r2⟩,k _ _ ao _ _ H1 hq (f1.trans sn) h1 c1.snap ?_ λz=>?_⟩
   ·rw[Ny]
    exact Nz r1 t1 r2 t2 (Full.refl _)
   ·rw[da]at z
    obtain⟨a1,a2,a3⟩:=u1 z.1
    obtain⟨b1,b2,b3⟩:=u2 z.2
    exact⟨YG a1 b1,Nz (gj a2 sn) (a3.shared sn (aa.refl _)) (gj b2 sn) (b3.shared sn (aa.refl _)) zo⟩⟩
noncomputable def sR(t:cj):iS:=λδ Q=>t δ λds ah=>match ds with
 | [d1]=>∃xs,jq d1=some xs/\Q d1.pl (eN xs) ah
 | _=>False
theorem zL(hg:Gl X "enumerate")(hm:X.mg "enumerate"=none)(ha:PA X [a] (lA ta))(hs:starEach [a] X.env=[(false,eval a X.env)]:=by rfl) :
  PI X (.Tuple elts x1 kB) (.Call (.Name "enumerate" p) [a] [] pos) (lI (sR ta)) :=
 vT (Xf hg hm ha hs) λσ H Q ⟨B,F,δ,ts,Qd,c,q,k⟩=>⟨B,F,δ,ts,_,c,q,λds ao vs F1 H1 hd f1 h1 c1 s=>by
  match ds,hd,s with
  | [d1],⟨xs,i1,hq⟩,s =>
   obtain⟨v1,bX,rfl,s1,s2⟩:=s.cA
   cases s2
   have e2:=c1.ext
   have sn:=rj e2
   obtain⟨p1,w1,rfl,r1,t1,u1⟩:=Eb s1 e2 i1
   refine⟨p1,rfl,⟨w1,.inl r1⟩,k _ _ ao _ _ H1 hq (f1.trans sn) h1 c1.snap ?_ λz=>?_⟩
   ·rw[YH]
    exact NA r1 t1 (Full.refl _)
   ·obtain⟨a1,a2,a3⟩:=u1 z
    exact⟨YI a1,NA (gj a2 sn) (a3.shared sn (aa.refl _)) zo⟩⟩
end
end L3
namespace L3
open PySem L2 PySem.Spec PyProof.Rows
section
variable{X:Cx}{F H:Hp}{e b:Expr}{pos p p2 p3 pr apos bM zH:Pos}{t ti te:aF}{x y:Str}{i j:Nat}
theorem zb{α:Type}{xs:List α}{k:Nat}{v:α}(h:xs[k]?=some v):dm xs (k:Int)=some v:=by
 unfold dm fG
 have hk:k<xs.length:=(g9.mp h).1
 rw[if_pos (by omega),if_pos (by omega)]
 exact h
theorem D1{B:Bs}{σ:L2.St}{δ:Dl}{ts:List (D × V)}{l1 l2 ys:List D}{p0:Addr}{ws:List V}(c:ai B F H σ δ ts)(e1:δ[i]?=some (some (.lst true (l1++.lst true ys::l2))))(g1:σ[i]?=some (some (.ref p0)))(g2:H p0=some (.lst ws)) :
  ∃q us,ws[l1.length]?=some (.ref q)/\H q=some (.lst us)/\ys.length=us.length/\S F H [.lst true ys] [.ref q]:=by
 obtain⟨v,ev,sv⟩:=c.look e1
 rw[g1]at ev;cases ev
 cases sv with
 | own hh sx _ =>
  rw[g2]at hh;cases hh
  obtain⟨v2,e2,s3⟩:=sx.get (i:=l1.length) (d:=D.lst true ys) (by rw[qt (aX _),u5];rfl)
  have s4:=s3
  cases s3 with
  | own h3 s5 _=>exact⟨_,_,e2,h3,s5.length,s4⟩
end
section
variable{X:Cx}{CX:dA}{k:Nat}{f:Addr}{fd:FuncData}{ps:List Str}{sp:bD}{E:XK}{fn x1 x2 y1 y2:Str}{i1 i2 j1 j2:Nat}{tk:Nat}
 {tp t1 t2 zp dC3 q1 q2 fp dC4 a1 a2 dC5 dC6 dC7 cp zH pr apos bM dC8 pos:Pos}
end
end L3
namespace L3
open PySem L2 PySem.Spec PyProof.Rows
theorem ai.YJ{B:Bs}{F H:Hp}{σ:L2.St}{δ:Dl}{ts:List (D × V)}{a b:D}{v:V}(c:ai B F H σ δ ((.tup [a,b],v)::ts)):∃p u w,v=.ref p/\H p=some (.tup [u,w])/\ai B F H σ δ ((a,u)::(b,w)::ts):=by
 obtain⟨A,C,r,s,nd,fr⟩:=c.own
 cases r with
 | @tup p ws xs A1 _ _ B1 hp r1 r2 =>
  obtain⟨u,df,A2,A3,rfl,rfl,h1,h2⟩:=r1.cA
  obtain⟨w,dC9,A4,A5,rfl,rfl,h3,h4⟩:=h2.cA
  cases h4
  refine⟨p,u,w,rfl,hp,c.ext,c.b1,c.b2,c.b3,A2++(A4++B1),C,h1.cons (h3.cons r2),s,?_,?_⟩
  ·simpa using nd
  ·intro a ha;exact fr a (by simpa using ha)
section
variable{X:Cx}{y1 y2:Str}{i1 i2 tk m:Nat}{t1 t2 tp:Pos}
noncomputable def iA(i1 i2:Nat):fL:=λd δ Q=>match d with
 | .tup [a,b]=>Q ((δ.set i1 (some a)).set i2 (some b))
 | _=>False
theorem pM(hc:X.calm=true)(NB:X.N.Nodup)(m1:X.N[i1]?=some y1)(l1:Loc X.env.scope y1)(m2:X.N[i2]?=some y2)(l2:Loc X.env.scope y2)(hm1:m<=i1:=by decide)(zF:m<=i2:=by decide)
  (f1:X.fn y1=true\/X.env.scope.names.lookup y1=some .local:=by first | exact .inl rfl | exact .inr rfl | assumption) (f2:X.fn y2=true\/X.env.scope.names.lookup y2=some .local:=by first | exact .inl rfl | exact .inr rfl | assumption)
  (YK:(assignEach [.Name y1 t1,.Name y2 t2] X.env).map (·.2)=assign (.Name y1 t1) X.env::(assignEach [.Name y2 t2] X.env).map (·.2):=by rfl) (YL:(assignEach [.Name y2 t2] X.env).map (·.2)=assign (.Name y2 t2) X.env::(assignEach [] X.env).map (·.2):=by rfl)
  (hn:(assignEach [.Name y1 t1,.Name y2 t2] X.env).length=2:=by rfl) (cx:(assignEach [.Name y1 t1,.Name y2 t2] X.env).findIdx? (·.1)=none:=by rfl) :
  PG X (.Tuple [.Name y1 t1,.Name y2 t2] tk tp) (lG m (iA i1 i2)) :=
 MS (T4 hc (Li (yZ NB m1 l1 f1) (Li (yZ NB m2 l2 f2) T2 YL) YK) hn cx) λv σ H Q zz=>by
  obtain⟨B,F,δ,ts,d,Qd,c,q,k⟩:=zz
  obtain⟨a,b,rfl,q⟩:∃a b,d=D.tup [a,b]/\Qd ((δ.set i1 (some a)).set i2 (some b)):=by
   unfold iA at q
   split at q
   ·exact⟨_,_,rfl,q⟩
   ·exact q.elim
  obtain⟨p,u,w,rfl,hp,c2⟩:=c.YJ
  refine⟨p,[u,w],rfl,eQ.of hp,rfl,u,[w],rfl,w,[],rfl,rfl,k _ _ q (by simp) (λj hj=>?_) ((c2.store i1).store i2)⟩
  rw[qo (by omega),qo (by omega)]
end
open Classical in
theorem gx{α:Type}{sh:Bool}{xs:List D}{aq:List (Str × Nat)}{n m:Nat}{te:aF}{ao:Dl}{Q:D->Dl->Prop}(l:List α)(e g:α->D)(gW:xs.map D.sh=l.map e)(inj:∀a b,e a=e b->a=b)
  (hx:∀a∈l,te ((eS aq n ao).set m (some (e a))) λd _=>d=g a) (dq:(sh&&aq.all (gR ao))=true\/∀a∈l,(g a).fr=true) (hl:l.length<=sizeLine) (hq:Q (.lst true (l.map g)) ao):o6 sh xs aq n (gN m) js te ao Q:=by
 let f:D->D:=λx=>if h:∃a∈l,e a=x then g h.choose else .ak
 have hf:∀a∈l,f (e a)=g a:=λa ha=>by
  have h:∃b∈l,e b=e a:=⟨a,ha,rfl⟩
  show(if h:∃b∈l,e b=e a then g h.choose else .ak)=g a
  rw[dif_pos h]
  exact congrArg g (inj _ _ h.choose_spec.2)
 refine XC f (λx h=>?_) (dq.imp id λh x hx=>?_) ?_ ?_
 ·rw[gW]at h
  obtain⟨a,ha,rfl⟩:=cn.mp h
  rw[hf a ha];exact hx a ha
 ·rw[gW]at hx
  obtain⟨a,ha,rfl⟩:=cn.mp hx
  rw[hf a ha];exact h a ha
 ·have:=congrArg BU gW
  simp at this
  omega
 ·rw[gW,dk,show l.map (f ∘ e)=l.map g from qD λa ha=>hf a ha]
  exact hq
end L3
namespace L3
open PySem L2 PySem.Spec PyProof.Rows
end L3
namespace L2
open PySem PySem.Spec PyProof.Rows
section
variable{X:Cx}
end
end L2
namespace L3
open PySem L2 PySem.Spec PyProof.Rows
noncomputable abbrev tx(l:List Nat):D:=.str ⟨l.toArray⟩
section
variable{X:Cx}{F H:Hp}{e:Expr}{es:List Expr}{t:aF}{pos p p2 apos bM:Pos}
noncomputable def pO(x:D)(lo hi:Option Int)(Q:D->Prop):Prop:=match x with
 | .lst _ xs=>xs.all D.pl=true/\Q (.lst true (et xs lo hi))
 | .fz xs=>Q (.lst true (et xs lo hi))
 | .str z=>z.length<=sizeLine/\Q (tx (et z.cps.toList lo hi))
 | _=>False
noncomputable def sS(t:aF)(tl th:su):aF:=λδ Q=>t δ λx ao=>tl ao λl aJ=>th aJ λu gq=>pO x l u λd=>Q d gq
theorem w4{lo hi:Option Expr}{tl th:su}(he:PE X e (lB t))(hl:PO X lo (lP tl))(hu:PO X hi (lP th)):PE X (.Subscript e (.Slice lo hi none p2) pos) (lE (sS t tl th)) :=
 cR (Vq (VB.or Xi) he hl hu) λσ H Q ⟨B,F,δ,ts,Qd,c,q,k⟩=>⟨B,F,δ,ts,_,c,q,λx ao v F1 H1 q1 f1 h1 c1 s1=>⟨B,F1,ao,ts,_,c1,q1,λl aJ F2 H2 q2 f2 h2 c2=>⟨B,F2,aJ,ts,_,c2,q2,λu gq F3 H3 q3 f3 h3 c3=>by
  have lj:=s1.mono (f2.trans f3) (h2.trans h3)
  unfold pO at q3
  split at q3
  ·obtain⟨p,ws,rfl,h,t⟩:=kY lj c3.ext rfl
   exact .inl ⟨p,ws,rfl,jZ h,λr hr=>k _ gq _ F3 _ q3.2 ((f1.trans f2).trans f3) (((h1.trans h2).trans h3).trans (aa.upd hr)) (c3.kQ hr (t.cut _ _) (Ng q3.1 _ _))⟩
  ·obtain⟨p,ws,rfl,h,t⟩:=kY lj c3.ext rfl
   cases lj with
   | fz h' r _=>exact .inl ⟨_,_,rfl,jZ (.inr ⟨_,c3.ext _ _ h'⟩),λr' hr=>k _ gq _ F3 _ q3 ((f1.trans f2).trans f3) (((h1.trans h2).trans h3).trans (aa.upd hr)) (c3.kQ hr (r.s.cut _ _) (Ng r.pl _ _))⟩
  ·cases lj with
   | str _=>exact .inr ⟨_,rfl,q3.1,k _ gq _ F3 H3 q3.2 ((f1.trans f2).trans f3) ((h1.trans h2).trans h3) (c3.pushS (.str .nil) rfl)⟩
  ·exact q3.elim⟩⟩⟩
noncomputable def MN:cm:=λx y Q=>match x,y with
 | .str z,.str w=>∃ch,z=⟨#[ch]⟩/\Q (.bl (decide (ch∈w.cps.toList)))
 | _,_=>False
end
end L3
namespace L3
open PySem L2 PySem.Spec PyProof.Rows
noncomputable def aA(l:List Nat):List D:=nums (l.map λ(n:Nat)=>(n:Int))
theorem iB(l:List Nat):(aA l).length=l.length:=by unfold aA;rw[ly,bU]
theorem fQ(l:List Nat):aA l=l.map λ(n:Nat)=>D.int (n:Int):=by unfold aA nums;rw[dk];rfl
theorem zM(l:List Nat):(aA l).map D.sh=l.map λ(n:Nat)=>D.int (n:Int):=by unfold aA;rw[iU];exact fQ l
theorem nt(a b:Nat)(h:D.int (a:Int)=D.int (b:Int)):a=b:=by injection h with h;omega
theorem nu(l:List Nat):(aA l).all D.pl=true:=nj _
theorem sT(l:List Nat):(aA l).map D.sh=aA l:=iU _
theorem nv(a b:List Nat):aA a++aA b=aA (a++b):=by unfold aA;rw[pJ,mE]
theorem w5(l:List Nat)(lo hi:Option Int):et (aA l) lo hi=aA (et l lo hi):=by
 unfold aA
 rw[sJ]
 congr 1
 unfold et
 rw[bU,KL,KJ]
theorem Ef{α:Type}(xs:List α)(b:Nat):et xs none (some (b:Int))=xs.take b:=by
 have:=Yr xs 0 b
 unfold et at this ⊢
 simpa[HT.cy]using this
theorem NC{α:Type}(xs:List α)(a:Nat):et xs (some (a:Int)) none=xs.drop a:=by
 unfold et
 rw[HT.C2]
 show(xs.drop (min a xs.length)).take (xs.length-min a xs.length)=_
 by_cases h:a<=xs.length
 ·rw[Nat.min_eq_left h,KG (by rw[my];exact aX _)]
 ·rw[Nat.min_eq_right (by omega),List.drop_length,KN (by omega)];simp
noncomputable def vl(c:List Nat):Nat:=c.foldl (λa c=>2*a+(c-48)) 0
end L3
namespace L2
open PySem PySem.Spec PyProof.Rows
section
variable{X:Cx}{tg l o e:Expr}{tl to te:TE}{apos bM:Pos}
end
end L2
namespace L3
open PySem L2 PySem.Spec PyProof.Rows
section
variable{X:Cx}{F H:Hp}{tg l e:Expr}{te t tb:aF}{apos bM pos:Pos}
variable{o:Expr}
noncomputable def j7:cm:=λx y Q=>match x,y with
 | .int i,.lst _ xs=>∃ns:List Int,xs=nums ns/\Q (.bl (decide (i∈ns)))
 | _,_=>False
theorem Eg:∀{ns:List Int} {ws:List V},S F H (nums ns) ws->ws=ns.map V.int
 | [],_,s=>by cases s;rfl
 | n::ns,_,s=>by
  cases s with
  | int s=>rw[Eg s];rfl
theorem YM:bF X (compareOp .In) j7 :=
 ⟨_,VE,λ{B F H σ δ ts x y v w Q Qd} c sx sy h k=>by
  unfold j7 at h
  split at h
  ·rename_i i o xs
   obtain⟨ns,rfl,q⟩:=h
   obtain⟨p,ws,rfl,e1,s1⟩:=fM sy c.ext
   have e:=Eg s1
   subst e
   cases sx
   refine⟨p,_,rfl,.inl (bq.of e1),rfl,by simp[kE],?_⟩
   have ei:vD (.int i) (ns.map V.int)=decide (i∈ns):=by
    unfold vD
    rw[List.any_map,yv,KQ,decide_eq_true_iff]
    constructor
    ·rintro⟨x,hx,he⟩
     have:x=i:=by simpa[jS]using he
     rw[<-this];exact hx
    ·intro hx
     exact⟨i,hx,by simp[jS]⟩
   show Q (.bl (if false then _ else vD (.int i) (ns.map V.int))) H
   rw[if_neg (by decide),ei]
   exact k _ _ _ q (aa.refl _) (c.pushS (.bl .nil) rfl)
  ·exact h.elim⟩
end
end L3
namespace L3
open PySem L2 PySem.Spec PyProof.Rows
end L3
namespace L2
open PySem PySem.Spec PyProof.Rows
noncomputable def Tb(ts:List Addr)(H:Hp):Prop:=∀P∈ts,∃ps,H P=some (.cH ps)
structure sU(ts:List Addr)(H:Hp):Prop where
 any:∀b,H b=none\/(∃o xs,H b=some (.bL o (.lst xs)))\/(b∈ts/\H b=some (.cH #[]))
 tab:∀P∈ts,H P=some (.cH #[])
theorem sU.tb{ts:List Addr}{H:Hp}(h:sU ts H):Tb ts H:=λP hP=>⟨#[],h.tab P hP⟩
noncomputable def Bm(mg:Str->Option Value)(base:Heap):Prop:=∃bm o,mg "__builtins__"=some (.ref bm)/\bm≠builtinsNs/\bm≠mainGlobals/\base.get? bm=some o/\o.cls=.type "module"/\o.dict=some builtinsNs/\o.data=.plain
theorem YN{P:Program}{w:World}{K:PySem.W.Frag}{mg mb:Str->Option Value}{CX:dA}{k:Nat}{fa a:Addr}{fd:FuncData}{x:Str}{sp:Sp}{bj:Shared}{vs:List Value}{ns:List Int}{ts:List Addr}
  (KX:K.In bj.heap) (zN:bj.heap.Ns mainGlobals mg) (hb:bj.heap.Ns builtinsNs mb) (YO:∀x:Str,x≠"__name__"->mb x=bootBuiltins x) (YQ:bj.heap.NoLimit) (hg:bj.gens=#[])
  (ht:∀P∈ts,bj.heap.get? P=some (PySem.W.tabObj #[])) (Eh:∀P∈ts,isCodeTable bj.heap P) (YR:∀P∈ts,K.lookup P=none)
  (ha:bj.heap.get? a=some { cls:=.type "list",data:=.seq vs.toArray }) (hi:IntsAre vs ns) (hl:ns.length<=sizeLine) (hr:bK k callerA)
  (w6:Bm mg bj.heap) (F:∀base:Heap,K.In base->base.Ns mainGlobals mg->Bm mg base->aO P w K mg base CX k fa fd [x] sp) (YS:∀(s:Shared) (u:Value),BindsTo s fd ⟨[u],[]⟩ [(x,u)])
  (gH:∀H:Hp,sU ts H->bq K H a (ns.map V.int)->sp [.ref a] H (λv _=>v=.bl true) λ_ _ _=>False)
  (Ei:∀H e s',CX [] H bj (λ_ _ _=>False) e s'->False) :
  codeAny (model P w) callerA (.call (.ref fa) ⟨[.ref a],[]⟩) (λr s'=>r=.ok (.ret (.bool true))/\OldK bj.heap s'.heap/\s'.os=bj.os/\AllBare s'.gens) bj:=by
 have rv:=L0 hi
 have YT:=hi.length
 have nat:a ∉ ts:=λz=>by
  have:=ht a z
  rw[ha]at this
  cases this
 have core:∀H:Hp,sU ts H->bq K H a (ns.map V.int)->bZ P w H bj.heap->(∀b,H b≠none->b=a\/b∈ts)->(H a≠none->K.lookup a=none) ->
   codeAny (model P w) callerA (.call (.ref fa) ⟨[.ref a],[]⟩) (λr s'=>r=.ok (.ret (.bool true))/\OldK bj.heap s'.heap/\s'.os=bj.os/\AllBare s'.gens) bj:=by
  intro H hO hS ay hA hK
  have Ej:∀{b:Addr} {o:Obj},bj.heap.get? b=some o->H b=none->(jM bj.heap H).get? b=some o:=λe n=>Tf e n
  have vC:∀{b:Addr} {o:Obj} {es:Array DictEntry} {ep:Nat},bj.heap.get? b=some o->o.data=.dict es ep->H b=none:=λ{b o es ep} e d=>by
   cases q:H b with
   | none=>rfl
   | some u =>
    rcases hA b (by rw[q];simp)with e' | e'
    ·subst e'
     rw[ha]at e;cases e
     have d':Data.seq vs.toArray _=Data.dict es ep:=d
     cases d'
    ·rw[ht b e']at e;cases e
     have d':Data.fields #[]=Data.dict es ep:=d
     cases d'
  have zO:∀{b:Addr} {m:Str->Option Value},bj.heap.Ns b m->(jM bj.heap H).Ns b m:=λ{b m} ⟨o,es,ep,e,d,r⟩=>⟨o,es,ep,Ej e (vC e d),d,r⟩
  have ND:K.In (jM bj.heap H):=λb o e=>Ej (KX b o e) (by
   cases q:H b with
   | none=>rfl
   | some u =>
    rcases hA b (by rw[q];simp)with e' | e'
    ·subst e'
     rw[hK (by rw[q];simp)]at e;cases e
    ·rw[YR b e']at e;cases e)
  have YU:Bm mg (jM bj.heap H):=by
   obtain⟨bm,o,b1,b2,b3,b4,b5,b6,b7⟩:=w6
   refine⟨bm,o,b1,b2,b3,Ej b4 ?_,b5,b6,b7⟩
   cases q:H bm with
   | none=>rfl
   | some u =>
    rcases hA bm (by rw[q];simp)with e' | e'
    ·rw[e',ha]at b4;cases b4
     have d':Data.seq vs.toArray _=Data.plain:=b7
     cases d'
    ·rw[ht bm e']at b4;cases b4
     have d':Data.fields #[]=Data.plain:=b7
     cases d'
  have hM:Mod K mg (jM bj.heap H):=⟨ND,zO zN,⟨mb,zO hb,YO⟩,let⟨mc,h1,h2⟩:=YQ;⟨mc,zO h1,h2⟩⟩
  have e0:fo P w K mg (jM bj.heap H) callerA [] bj H:=⟨rfl,hM,λb o e=>Tg e,yj (Te _ _),trivial,λb hb=>absurd (show b∈([]:List Addr) from hb) (by simp),ay,.of_eq hg⟩
  refine codeAny_mono ((F _ ND (zO zN) YU).run callerA [] bj H ⟨[.ref a],[]⟩ [.ref a] [.ref a] _ _ hr e0 (YS bj (.ref a)) (.cons rfl .nil) (gH H hO hS)) λr s' h=>?_
  cases r with
  | error e=>exact(Ei H e s' h).elim
  | ok fl =>
   cases fl with
   | next=>exact dQ h
   | brk=>exact dQ h
   | cont=>exact dQ h
   | ret u =>
    obtain⟨v,H',os,bare,un,NF,r',q⟩:=h
    have q':v=.bl true:=q
    subst q'
    obtain rfl:u=BR true:=r'
    have each:∀b o,bj.heap.get? b=some o->asItWas bj.heap s'.heap b o/\∃o',s'.heap.get? b=some o':=λb o e=>by
     cases q:H b with
     | none =>
      have z:=un.keep b o e q (by intro z;exact absurd (show b∈([]:List Addr) from z) (by simp)) (by simp)
      exact⟨.inl z,o,z⟩
     | some u =>
      rcases hO.any b with z | ⟨ob,xs,z⟩ | ⟨iC,z⟩
      ·rw[q]at z;cases z
      ·have z2:=un.eW b ob _ z
       obtain⟨e1,_⟩:=ay b _ z
       obtain⟨e2,_⟩:=NF b _ z2
       rw[e]at e1;cases e1
       exact⟨.inl e2,_,e2⟩
      ·obtain⟨more,z2⟩:=un.eG b _ z
       have e2:=(NF b _ z2).1
       rw[ht b iC]at e;cases e
       exact⟨.inr (.inl ⟨Eh b iC,rfl,#[],more,rfl,e2⟩),_,e2⟩
    exact⟨rfl,⟨λb o e=>(each b o e).1,λb o e=>(each b o e).2⟩,os,bare⟩
 have tok:∀(H:Hp) (b:Addr),b∈ts->cP P w H bj.heap b (.cH #[]):=λH b hb=>⟨ht b hb,trivial,λpos cv q=>by cases q⟩
 cases hk:K.lookup a with
 | some o =>
  have e:=KX a o hk
  rw[ha]at e
  cases e
  refine core (λb=>if b∈ts then some (.cH #[])else none) ⟨λb=>?_,λb hb=>if_pos hb⟩ (.inr ⟨_,vs.toArray,_,hk,rfl,rfl,rfl,by rw[cZ,YT];exact hl,by simpa using rv⟩) (λb u z=>?_) (λb z=>?_) λz=>absurd (if_neg nat) z
  ·by_cases hb:b∈ts
   ·exact .inr (.inr ⟨hb,if_pos hb⟩)
   ·exact .inl (if_neg hb)
  ·by_cases hb:b∈ts
   ·have z':=(if_pos hb).symm.trans z
    cases z'
    exact tok _ b hb
   ·have z':=(if_neg hb).symm.trans z
    cases z'
  ·by_cases hb:b∈ts
   ·exact .inr hb
   ·exact absurd (if_neg hb) z
 | none =>
  refine core (λb=>if b=a then some (.bL { cls:=.type "list",data:=.seq vs.toArray } (.lst (ns.map V.int)))else if b∈ts then some (.cH #[])else none) ⟨λb=>?_,λb hb=>?_⟩ (.inl (.inr ⟨{ cls:=.type "list",data:=.seq vs.toArray },if_pos rfl⟩)) (λb u z=>?_) (λb z=>?_) λ_=>hk
  ·by_cases hb:b=a
   ·exact .inr (.inl ⟨_,_,if_pos hb⟩)
   ·by_cases iC:b∈ts
    ·exact .inr (.inr ⟨iC,(if_neg hb).trans (if_pos iC)⟩)
    ·exact .inl ((if_neg hb).trans (if_neg iC))
  ·have oR:b≠a:=λz=>nat (z ▸ hb)
   exact(if_neg oR).trans (if_pos hb)
  ·by_cases hb:b=a
   ·have z':=(if_pos hb).symm.trans z
    cases z'
    subst hb
    exact⟨ha,by rw[bU];exact hl,vs,_,rv,ha⟩
   ·by_cases iC:b∈ts
    ·have z':=((if_neg hb).trans (if_pos iC)).symm.trans z
     cases z'
     exact tok _ b iC
    ·have z':=((if_neg hb).trans (if_neg iC)).symm.trans z
     cases z'
  ·by_cases hb:b=a
   ·exact .inl hb
   ·by_cases iC:b∈ts
    ·exact .inr iC
    ·exact absurd ((if_neg hb).trans (if_neg iC)) z
theorem YV{l:PySem.W.OpenLaw}{n k:Nat}{q:Program}{loose:List Str}{XP:(Str->Option Value)->Heap->Prop}{YP:World->Heap->Prop}{d:DefRec}{K:Params->PySem.W.Frag}{CX:World->dA}{sp:World->Sp}{x:Str}{ts:List Addr}
  (hn:l.most=some n) (qU:n<=sizeLine) (vF:d.params.defaults=[]) (hr:bK k callerA)
  (hY:∀(w:World) (h:Heap),YP w h->(K w.params).In h/\∀P∈ts,h.get? P=some (PySem.W.tabObj #[]))
  (hC:∀(w:World) (h:Heap),(K w.params).In h->∀P∈ts,(K w.params).lookup P=none/\∃c,PySem.W.CodeHd h c P)
  (F:∀(w:World) (mg:Str->Option Value) (fa:Addr) (h:Heap),(K w.params).In h->h.Ns mainGlobals mg->mg d.name=some (.ref fa) ->
   ∃fd:FuncData,(∀(s:Shared) (u:Value),BindsTo s fd ⟨[u],[]⟩ [(x,u)]) /\
    ∀base:Heap,(K w.params).In base->base.Ns mainGlobals mg->Bm mg base->aO l.prog w (K w.params) mg base (CX w) k fa fd [x] (sp w))
  (gH:∀(w:World) (H:Hp) (a:Addr) (ns:List Int),ns.length<=n->sU ts H->bq (K w.params) H a (ns.map V.int)->sp w [.ref a] H (λv _=>v=.bl true) λ_ _ _=>False)
  (Ei:∀(w:World) (H:Hp) (s:Shared) (e:Value) (s':Shared),CX w [] H s (λ_ _ _=>False) e s'->False) :
  PySem.W.WalkO q loose XP YP l.row.toRowW d [] (λf vs=>PySem.call f vs):=by
 refine Att.V2 hn vF λw bQ bj mg mb fa o pm cd doc a vs ns G Y ho hd bV vG De hints hlen hg=>?_
 obtain⟨KX,hT⟩:=hY w _ Y
 obtain⟨fd,hb,hF⟩:=F w mg fa _ KX G.T.g vG
 have Eh:∀P∈ts,isCodeTable bj.heap P:=λP hP=>by
  obtain⟨_,c,C⟩:=hC w _ KX P hP
  exact(C.tab (hT P hP)).isCodeTable
 have w6:Bm mg bj.heap:=by
  obtain⟨bm,ob,b1,b2,b3,b4,b5,b6⟩:=G.T.bmain
  refine⟨bm,ob,b1,b2,λq=>?_,b3,b4,b5,b6⟩
  obtain⟨o,es,ep,e,hd,_⟩:=G.T.g
  rw[q,e]at b3;cases b3;rw[hd]at b6;cases b6
 exact YN KX G.T.g G.T.b G.T.builtins G.T.nolimit hg hT Eh (λP hP=>(hC w _ KX P hP).1) De hints (dP hlen qU) hr w6 hF hb (λH hO hS=>gH w H a ns hlen hO hS) λH e s'=>Ei w H bj e s'
end L2
namespace L3
open PySem L2 PySem.Spec PyProof.Rows
noncomputable def w9(ts:List Addr)(sp:Sp):Sp:=λvs H Q E=>Tb ts H/\sp vs H Q E
theorem NG{X:Cx}{pins:List (Addr × Obj)}{σ:L2.St}{H:Hp}{s:Shared}{ts:List Addr}(I:Inv X pins σ H s)(h:Tb ts X.i7):Tb ts H:=λP hP=>by
 obtain⟨ps,e⟩:=h P hP
 obtain⟨m,e2⟩:=I.base.eG P ps e
 exact⟨_,e2⟩
noncomputable def zP(ts:List Addr)(K:PySem.W.Frag):Sp:=λvs H Q _=>∃(a:Addr) (ns:List Int),vs=[.ref a]/\sU ts H/\bq K H a (ns.map V.int)/\ns.length<=63/\∀H',Q (.bl true) H'
theorem YW{ts:List Addr}{K:PySem.W.Frag}(nl:K.all (λp=>DZ p.2)=true){vs:List V}{H:Hp}{Q:VK}{E:XK}(h:zP ts K vs H Q E):w9 ts (bG Nh) vs H Q E:=by
 obtain⟨a,ns,rfl,hO,hS,hl,q⟩:=h
 have hz:∃o,H a=some (.bL o (.lst (ns.map V.int))):=by
  rcases hS with (hS | hS) | ⟨o,its,n,hk,hc,_⟩
  ·rcases hO.any a with z | ⟨o,xs,z⟩ | ⟨_,z⟩
   ·rw[hS]at z;cases z
   ·rw[hS]at z;cases z
   ·rw[hS]at z;cases z
  ·exact hS
  ·have hm:=Yg hk
   have:=dg.mp nl _ hm
   simp[DZ,hc]at this
 obtain⟨o,ho⟩:=hz
 refine⟨hO.tb,H,[.fz (nums ns)],λd=>d=.bl true,aa.refl _,.fz ho (jw ns) .nil,⟨ns,rfl,hl,rfl⟩,λd v F' H' A hd hs hf he h3 r nd fr=>?_⟩
 subst hd
 cases r
 exact q H'
end L3
namespace L2
open PySem PySem.Spec PyProof.Rows
noncomputable def rem(H:Hp)(f c:Addr):Hp:=λb=>if b=f\/b=c then none else H b
noncomputable def lC(H H':Hp)(f c:Addr):Hp:=λb=>if b=f\/b=c then H b else H' b
section
variable{P:Program}{w:World}{H H':Hp}{h:Heap}{a b f c:Addr}{o:HO}{of oc:Obj}
theorem NH:rem H f c f=none:=if_pos (.inl rfl)
theorem zQ:rem H f c c=none:=if_pos (.inr rfl)
theorem fR(h1:b≠f)(h2:b≠c):rem H f c b=H b:=if_neg (by simp[h1,h2])
theorem sV(e:H b=none):rem H f c b=none:=by unfold rem;split;rfl;exact e
theorem NI(e:rem H f c b=some o):b≠f/\b≠c/\H b=some o:=by
 unfold rem at e
 split at e
 ·cases e
 ·rename_i n
  exact⟨λz=>n (.inl z),λz=>n (.inr z),e⟩
theorem ny(h1:b≠f)(h2:b≠c):lC H H' f c b=H' b:=if_neg (by simp[h1,h2])
theorem NJ:lC H H' f c f=H f:=if_pos (.inl rfl)
theorem Ek:lC H H' f c c=H c:=if_pos (.inr rfl)
theorem cP.rem{φ:Heap->Prop}(x:cP P w H h a o)(ha:a≠f)(hf:H f=some (.ext φ))(hc:H c=some (.own f)\/H c=none)(El:¬ ∀h',φ h'->∃q,h'.CodeRec (.ref f) q):cP P w (rem H f c) h a o:=by
 have own:∀b,H b=some (.own a)->L2.rem H f c b=some (.own a):=λb e=>by
  rw[fR (λz=>by subst z;rw[hf]at e;cases e) (λz=>by subst z;rcases hc with hc | hc<;>(rw[hc]at e;cases e);exact ha rfl)];exact e
 have tup:∀b xs,H b=some (.tup xs)->L2.rem H f c b=some (.tup xs):=λb xs e=>by
  rw[fR (λz=>by subst z;rw[hf]at e;cases e) (λz=>by subst z;rcases hc with hc | hc<;>(rw[hc]at e;cases e))];exact e
 induction o with
 | lst xs=>exact x
 | tup xs=>exact x
 | dK cJ=>exact x
 | dT cJ =>
  obtain⟨z,y,xs,r,ob⟩:=x
  exact⟨z,y,xs,Paired.Cv r λp q z=>⟨z.1,tup _ _ z.2.1,z.2.2⟩,ob⟩
 | set S n=>exact x
 | ins C dx fs =>
  obtain⟨d,r⟩:=x
  exact⟨own _ d,r⟩
 | own y=>exact x
 | xd fs=>exact x
 | vf lo hi=>exact x
 | bL ob u ih=>obtain⟨e,q⟩:=x;exact⟨e,ih q⟩
 | cH ps =>
  obtain⟨e,t,cc⟩:=x
  refine⟨e,t,λpos cv q=>?_⟩
  obtain⟨d,φ,e1,e2,e3⟩:=cc pos cv q
  refine⟨d,φ,e1,?_,e3⟩
  rw[fR (λz=>?_) (λz=>by subst z;rcases hc with hc | hc<;>(rw[hc]at e2;cases e2))]
  ·exact e2
  ·subst z
   rw[hf]at e2;cases e2
   exact El e3
 | met f y=>exact x
 | ext φ=>obtain⟨p,r,st⟩:=x;exact⟨p,r,λh1 h2 p1 kk=>st h1 h2 p1 λb o hb q=>kk b o (hb.imp id (own b)) q⟩
theorem NK{φ:Heap->Prop}{fd:FuncData}(p:φ h)(g:∀h',φ h'->h'.get? f=some of)(hd:of.data=.func fd):¬ ∀h',φ h'->∃q,h'.CodeRec (.ref f) q:=λz=>by
 obtain⟨q,k,ok,vs,t,q1,q2,q3,_⟩:=z h p
 cases q1
 rw[g h p]at q2;cases q2
 rw[hd]at q3;cases q3
theorem bZ.lam(ok:bZ P w H h)(hf:H f=some (.ext (L3.iq of oc c f))):L3.iq of oc c f h:=(ok f _ hf).1
theorem bZ.rem{fd:FuncData}(ok:bZ P w H h)(hf:H f=some (.ext (L3.iq of oc c f)))(hc:H c=some (.own f))(hd:of.data=.func fd):bZ P w (rem H f c) h:=λb o e =>
 let⟨h1,_,h3⟩:=NI e;(ok b o h3).rem h1 hf (.inl hc) (NK (ok.lam hf) (λ_ p=>p.1) hd)
end
theorem fo.rem{P:Program}{w:World}{K:PySem.W.Frag}{mg:Str->Option Value}{base:Heap}{A:Around}{outer:List Env}{s:Shared}{H:Hp}{f c:Addr}{of oc:Obj}{fd:FuncData}(e:fo P w K mg base A outer s H)
  (hf:H f=some (.ext (L3.iq of oc c f))) (hc:H c=some (.own f)) (hd:of.data=.func fd):fo P w K mg base A outer s (rem H f c) :=
 ⟨e.frames,e.mod,λb o q=>⟨(e.bs b o q).1,sV (e.bs b o q).2⟩,e.gC,e.eX,λb hb=>sV (e.ib b hb),e.ay.rem hf hc hd,e.bare⟩
theorem CE.add{P:Program}{w:World}{K:PySem.W.Frag}{mg:Str->Option Value}{base:Heap}{A:Around}{outer:List Env}{s s':Shared}{H:Hp}{f c:Addr}{of oc:Obj}{Q Q':VK}{u:Value}(e0:fo P w K mg base A outer s H)
  (hf:H f=some (.ext (L3.iq of oc c f))) (hc:H c=some (.own f)) (h:CE outer P w (rem H f c) s Q u s') (hQ:∀v H',Q v H'->H' f=none->H' c=none->Q' v (lC H H' f c)):CE outer P w H s Q' u s':=by
 obtain⟨v,H',os,bare,un,ay,r,q⟩:=h
 obtain⟨gf,gc⟩:=e0.ay.lam hf
 have NL:∀{b o},H b=some o->b ∉ cK outer:=λ{b o} e z=>by rw[e0.ib b z]at e;cases e
 have nf:H' f=none:=un.free f _ gf NH (by simp)
 have nc:H' c=none:=un.free c _ gc zQ (by simp)
 have kf:=un.keep f _ gf NH (NL hf) (by simp)
 have kc:=un.keep c _ gc zQ (NL hc) (by simp)
 refine⟨v,lC H H' f c,os,bare,⟨λb o e n=>un.keep b o e (sV n),λb o e n=>un.slot b o e (sV n),λb o e n x=>?_,un.there,λb xs e=>?_,λb ob xs e=>?_,λb ps e=>?_⟩,λb o e=>?_,r,hQ v H' q nf nc⟩
 ·rw[ny (λz=>by subst z;rw[hf]at n;cases n) (λz=>by subst z;rw[hc]at n;cases n)]
  exact un.free b o e (sV n) x
 ·have n1:b≠f:=λz=>by subst z;rw[hf]at e;cases e
  have n2:b≠c:=λz=>by subst z;rw[hc]at e;cases e
  rw[ny n1 n2]
  exact un.fk b xs (by rw[fR n1 n2];exact e)
 ·have n1:b≠f:=λz=>by subst z;rw[hf]at e;cases e
  have n2:b≠c:=λz=>by subst z;rw[hc]at e;cases e
  rw[ny n1 n2]
  exact un.eW b ob xs (by rw[fR n1 n2];exact e)
 ·have n1:b≠f:=λz=>by subst z;rw[hf]at e;cases e
  have n2:b≠c:=λz=>by subst z;rw[hc]at e;cases e
  rw[ny n1 n2]
  exact un.eG b ps (by rw[fR n1 n2];exact e)
 ·by_cases z:b=f
  ·subst z
   rw[NJ,hf]at e;cases e
   refine⟨⟨kf,kc⟩,⟨_,kf⟩,λh1 h2 p kk=>⟨kk b _ (.inl rfl) p.1,kk c _ (.inr ?_) p.2⟩⟩
   rw[Ek];exact hc
  ·by_cases z2:b=c
   ·subst z2
    rw[Ek,hc]at e;cases e
    exact⟨_,kc⟩
   ·rw[ny z z2]at e
    have up:∀{b' o'},H' b'=some o'->lC H H' f c b'=some o':=λ{b' o'} q=>by
     rw[ny (λz=>by subst z;rw[nf]at q;cases q) (λz=>by subst z;rw[nc]at q;cases q)];exact q
    exact(ay b o e).iO (λ_ _ _ q=>q) (λ_ q=>up q) (λ_ _ q=>up q) λ_ _ q=>up q
theorem YX{prog:Program}{w:World}{A:Around}{R:Result->Shared->Prop}{s:Shared}{a:Addr}{args:Args}{o:Obj}{fd:FuncData}{body:Expr}{q:Str}(YY:A.depth<recursionLimit)
  (ho:s.heap.get? a=some o)
  (vj:o.data=.func fd) (YZ:fd.scope.isCoroutine=false) (Y0:fd.scope.isGenerator=false) (gh:fd.body=.expr body) (bV:s.heap.CodeRec fd.code q)
  (h:wpAny (model prog w) A.in1 (bindArgs fd args) (λbinds bj =>
   wpAny (model prog w) A.in1 (newFunctionEnv fd.scope fd.globals fd.closure binds (q++".<locals>.") (some a) fd.code none fd.builtins)
    (λenv jf=>jf.heap.NoLimit/\codeAny (model prog w) A (.expr body env) R jf) (λe s'=>R (.error e) s') bj) (λe s'=>R (.error e) s') s) :
  codeAny (model prog w) A (.call (.ref a) args) R s:=by
 refine codeAny_of_tree ?_
 show wpAny _ A.in1 (callAny (.ref a) args) _ _ s
 simp only[callAny]
 refine wpAny_bind (wpAny_load ho ?_)
 obtain⟨c,oc,vs,tq,hc,gD,Em,hq⟩:=bV
 simp only[vj,callFunction,YZ,Y0,gh,hc]
 rw[hc]at h
 refine wpAny_bind (m:=field (.ref c) 1) (wpAny_field gD Em hq (wpAny_bind (wpAny_pure ?_)))
 exact wpAny_bind (wpAny_mono h (λbinds bj zR=>wpAny_bind (wpAny_mono zR (λenv jf NM=>wpAny_bind (wpAny_enterFrame NM.1 YY
  (wpAny_pure (And.intro rfl NM.2)))) λ_ _ h'=>h')) λ_ _ h'=>h')
structure NN(p1 p2 x:Str)(sc:Scope):Prop where
 kind:sc.kind=.function
 co:sc.isCoroutine=false
 gen:sc.isGenerator=false
 nd:[p1,p2,x].Nodup
 l1:sc.names.lookup p1=some .local
 l2:sc.names.lookup p2=some .local
 NO:∀y∈sc.names,y.2≠.cell
 only:∀y∈sc.names,y.2=.free->y.1=x
 lx:sc.names.lookup x=some .free
noncomputable def pP(CX:dA)(P:Program)(w:World)(K:PySem.W.Frag)(mg:Str->Option Value)(base:Heap)(N:List Str)(qual:Str)(scope:Scope)(f:Addr)(cd:Value)(cl:List (Str × Addr))(A:Around)(outer:List Env)(s:Shared)(H:Hp)(E:XK):Cx where
 prog:=P
 w:=w
 K:=K
 mg:=mg
 base:=base
 A:=A.deeper (PySem.W.envX qual scope s.heap.objs.size f cd cl)
 N:=N
 bQ:=s
 i7:=H
 env:=PySem.W.envX qual scope s.heap.objs.size f cd cl
 outer:=outer
 stack:=PySem.W.envX qual scope s.heap.objs.size f cd cl::outer
 ex:=[]
 calm:=true
 fn:=λ_=>false
 pn:=[]
 xe:=λe s'=>wpAny (model P w) (A.deeper (PySem.W.envX qual scope s.heap.objs.size f cd cl)) (leaving (PySem.W.envX qual scope s.heap.objs.size f cd cl) e) (λ_ oG=>CX outer H s E e oG) (λe' oG=>CX outer H s E e' oG) s'
theorem Y3{CX:dA}{P:Program}{w:World}{K:PySem.W.Frag}{mg:Str->Option Value}{base:Heap}{p1 p2 x qn q:Str}{params:Arguments}{body:Expr}{scope:Scope}{pm gX:Value}{f c c':Addr}{k:Nat}{A:Around}{outer:List Env}{s:Shared}{H:Hp}{E:XK}
  {u1 u2 uc:Value} {v1 v2 vc:V} {Q:VK} {t:TE} {args:Args} (S:NN p1 p2 x scope) (e0:fo P w K mg base A outer s H) (hr:bK (k+1) A)
  (hf:s.heap.get? f=some (PySem.W.kla_obj "<lambda>" qn params body scope [(x,c)] pm c' gX)) (hc:s.heap.IsCell c (some uc)) (rc:RelV vc uc) (hH:H c=none) (bV:s.heap.CodeRec (.ref c') q)
  (hb:bindArgs (PySem.W.kla_fn "<lambda>" qn params body scope [(x,c)] pm (.ref c') gX) args=pure [(p1,u1),(p2,u2)]) (r1:RelV v1 u1) (r2:RelV v2 u2)
  (ht:PE (pP CX P w K mg base [p1,p2,x] q scope f (.ref c') [(x,c)] A outer s H E) body t) (h:t [some v1,some v2,some vc] H Q) :
  codeAny (model P w) A (.call (.ref f) args) (CR CX outer P w H s Q E) s:=by
 have lim:s.heap.NoLimit:=e0.mod.nolimit.keeps λb o e=>(e0.bs b o e).1
 refine YX hr.depth hf rfl S.co S.gen rfl bV ?_
 rw[hb]
 have Y4:∀y∈[(p1,u1),(p2,u2)],scope.names.lookup y.1=some .local:=λy hy=>by
  simp at hy
  rcases hy with rfl | rfl
  ·exact S.l1
  ·exact S.l2
 refine wpAny_pure (wpAny_newFunctionEnv S.NO Y4 (λzR zN NP=>⟨lim.fresh _ NP,?_⟩) S.kind)
 show codeAny _ _ (.expr body (PySem.W.envX q scope s.heap.objs.size f (.ref c') [(x,c)])) _ _
 have hk:∀b o,s.heap.get? b=some o->zR.get? b=some o:=λb o e=>NP.extBut b o (cI (bf e)) (bY _ e)
 have eA:p1≠p2/\p1≠x/\p2≠x:=by have:=S.nd;simp at this;exact⟨this.1.1,this.1.2,this.2⟩
 have look:∀y d,([(x,c)]:List (Str × Addr)).lookup y=some d->y=x/\d=c:=λy d e=>by
  rw[eV]at e
  split at e
  ·rename_i z;exact⟨beq_iff_eq.mp z,(cW e).symm⟩
  ·cases e
 have I:Inv (pP CX P w K mg base [p1,p2,x] q scope f (.ref c') [(x,c)] A outer s H E) [] [some v1,some v2,some vc] H { s with heap:=zR,toks:=s.toks+[(p1,u1),(p2,u2)].length }:=by
  refine⟨⟨e0.mod,S.kind,rfl,rfl,aX _,λy z d h1 h2=>?_,λy hy=>?_,λy d z _=>absurd z (by simp[pP]),λ_=>hr.hd,Around.frames_deeper e0.frames,.inr ⟨rfl,rfl⟩,λb z=>absurd z (by simp[pP]),e0.bs,e0.gC,λb _ _=>by simp[pP],λb z=>absurd z (by simp[pP]),e0.eX,e0.ib⟩,
   rfl,e0.bare,Un.kept hk,⟨_,zN,λi y v h1 h2 h3=>?_⟩,λy d h=>?_,e0.ay.fresh (aX _),λy d h=>?_,λp hp=>absurd (show p∈([]:List (Addr × Obj)) from hp) (by simp),e0.ay.kept hk,rfl⟩
  ·exact(look y d h1).1.trans (look z d h2).1.symm
  ·have hy:scope.names.lookup y=some .cell\/scope.names.lookup y=some .free:=hy
   rcases hy with hy | hy
   ·exact absurd rfl (S.NO _ (PySem.mem_of_lookup hy))
   ·obtain rfl:y=x:=S.only _ (PySem.mem_of_lookup hy) rfl
    exact⟨c,by show([(y,c)]:List (Str × Addr)).lookup y=_;rw[eV,beq_self_eq_true]⟩
  ·match i,h1,h2 with
   | 0,h1,h2 =>
    cases h1;cases h2
    exact⟨u1,r1,.inl ⟨S.l1,by
     show([(p1,u1),(p2,u2)]:List (Str × Value)).reverse.lookup p1=_
     simp[eV,beq_eq_false_iff_ne.mpr eA.1]⟩⟩
   | 1,h1,h2 =>
    cases h1;cases h2
    exact⟨u2,r2,.inl ⟨S.l2,by
     show([(p1,u1),(p2,u2)]:List (Str × Value)).reverse.lookup p2=_
     simp[eV]⟩⟩
   | 2,h1,h2 =>
    cases h1;cases h2
    exact⟨uc,rc,.inr ⟨.inr S.lx,c,by show([(x,c)]:List (Str × Addr)).lookup x=_;rw[eV,beq_self_eq_true],hc.keeps hk⟩⟩
   | n+3,h1,h2=>cases h2
  ·obtain⟨rfl,rfl⟩:=look y d h
   exact⟨_,hc.keeps hk⟩
  ·obtain⟨rfl,rfl⟩:=look y d h
   exact hH
 refine PySem.W.kla_codeExpr (wpAny_mono (ht [] _ _ H _ I h) (λu s' hs=>?_) λe s' hs=>hs)
 obtain⟨v,H',J,rv,q⟩:=hs
 exact⟨v,H',J.os,J.bare,J.base,J.ay,rv,q⟩
end L2
namespace L3
open PySem L2 PySem.Spec PyProof.Rows
theorem aa.lC{H H':Hp}{f c:Addr}{o1 o2:HO}(h:aa (rem H f c) H')(h1:H f=some o1)(n1:gL o1=true)(h2:H c=some o2)(n2:gL o2=true):aa H (lC H H' f c) where
 get b o e n:=by
  by_cases z:b=f
  ·rw[z,NJ,<- z];exact e
  ·by_cases z2:b=c
   ·rw[z2,Ek,<- z2];exact e
   ·rw[ny z z2];exact h.get b o (by rw[fR z z2];exact e) n
 tb b ps e:=by
  have z:b≠f:=λz=>by subst z;rw[h1]at e;cases e;cases n1
  have z2:b≠c:=λz=>by subst z;rw[h2]at e;cases e;cases n2
  rw[ny z z2]
  exact h.tb b ps (by rw[fR z z2];exact e)
noncomputable abbrev sW:=Int->Int->(Int->Prop)->Prop
structure xa(P:Program)(w:World)(K:PySem.W.Frag)(mg:Str->Option Value)(base:Heap)(n:Nat)(of oc:Obj)(c k:Addr)(sp:sW):Prop where
 fn:∃o1 od fd sl,of=⟨o1,od,.func fd,sl⟩
 run:∀(A:Around) (outer:List Env) (s:Shared) (H:Hp) (f:Addr) (t u:Tok) (i j:Int) (Qd:Int->Prop),bK n A->fo P w K mg base A outer s H->s.heap.get? f=some of->s.heap.get? c=some oc->H c=none->(∃q,s.heap.CodeRec (.ref k) q)->sp i j Qd ->
  codeAny (model P w) A (.call (.ref f) ⟨[.int i t,.int j u],[]⟩) (CR aY outer P w H s (λv H'=>∃r,v=.int r/\Qd r/\aa H H') (λ_ _ _=>False)) s
noncomputable def sX(L:Obj->Obj->Addr->Addr->sW->Prop)(i:Nat)(ta:cj):aF:=λδ Q=>∃of oc c k sp,δ[i]?=some (some (.aV (.lam of oc c k)))/\L of oc c k sp/\ta δ λds ah=>∃a b,ds=[.int a,.int b]/\sp a b λr=>Q (.int r) ah
theorem NQ{X:Cx}{n i:Nat}{x:Str}{p pos:Pos}{e1 e2:Expr}{ta:cj}(hN:X.N[i]?=some x)(hv:i8 X.env.scope x)(hr:bK n X.A)(ha:PA X [e1,e2] (lA ta))
  (hd:(x==("__debug__":Str))=false:=by decide) (bV:(x==("__classdict__":Str))=false:=by decide) (he:starEach [e1,e2] X.env=(false,eval e1 X.env)::starEach [e2] X.env:=by rfl) (bE:(backTo pos (starEach [e2] X.env)).any (·.1)=false:=by rfl) :
  PE X (.Call (.Name x p) [e1,e2] [] pos) (lE (sX (xa X.prog X.w X.K X.mg X.base n) i ta)):=by
 intro pins s σ H Q I zz
 obtain⟨B,F,δ,ts,Qd,c,⟨of,oc,cc,k,sp,ed,L,q⟩,kk⟩:=zz
 obtain⟨v,ev,sv⟩:=c.look ed
 obtain⟨f,rfl,lam⟩:∃f,v=.ref f/\gi H f of oc cc k:=by
  cases sv with
  | aV h _=>exact⟨_,rfl,h⟩
 refine wpAny_Call_Name_kw (aH (mL hN hv hd bV pins s σ H (λv' H'=>v'=.ref f/\H'=H) I ⟨_,ev,rfl,rfl⟩) λu s1 zz=>?_)
 obtain⟨v',H',I1,r1,e1,e2⟩:=zz
 subst e1 e2
 obtain rfl:u=.ref f:=r1
 have fnAt:∀{H1:Hp} {s2:Shared},Inv X pins σ H1 s2->gi H1 f of oc cc k->PySem.W.FnAt f s2.heap:=λ{H1 s2} J l=>by
  obtain⟨o1,od,fd,sl,e⟩:=L.fn
  exact⟨o1,od,fd,sl,by rw[<-e];exact(J.ay.lam l.fn).1⟩
 refine PySem.W.callWith_F (fnAt I1 lam) (aH (ha pos pins s1 σ H' (λvs H2=>∃a b ah F',vs=[.int a,.int b]/\(sp a b λr=>Qd (.int r) ah)/\aa F F'/\aa H' H2/\ai B F' H2 σ ah ts) I1
  ⟨B,F,δ,ts,_,c,q,λds ah vs F' H2 ⟨a,b,Y5,q2⟩ f1 h1 c1 s1=>?_⟩) λus s2 ⟨vs,H2,I2,r2,a,b,ah,F',Y6,q2,f1,h1,c1⟩=>⟨fnAt I2 ((show mX H' f (.lam of oc cc k) from lam).mono λa o e _ t=>h1.get a o e t),?_⟩) he bE
 ·subst Y5
  refine⟨a,b,ah,F',?_,q2,f1,h1,c1⟩
  cases s1 with
  | int s1=>cases s1 with
   | int s1=>cases s1;rfl
 ·subst Y6
  have nB:gi H2 f of oc cc k:=(show mX H' f (.lam of oc cc k) from lam).mono λa o e _ t=>h1.get a o e t
  obtain⟨o1,od,fd,sl,eof⟩:=L.fn
  have Y7:of.data=.func fd:=by rw[eof]
  obtain⟨gf,gc⟩:=I2.ay.lam nB.fn
  obtain⟨ψ,Y8,xb⟩:=nB.DB
  obtain⟨u1,u2,t1,t2,rfl⟩:∃(u1 u2:Unit) (t1 t2:Tok),us=[.int a t1,.int b t2]:=by
   cases r2 with
   | cons ra r2=>cases r2 with
    | cons rb r2 =>
     cases r2
     obtain⟨t1,rfl⟩:=ra
     obtain⟨t2,rfl⟩:=rb
     exact⟨(),(),t1,t2,rfl⟩
  refine wpAny_call (codeAny_mono (L.run X.A X.stack s2 (rem H2 f cc) f t1 t2 a b _ hr (I2.vB.rem nB.fn nB.cell Y7) gf gc zQ (xb _ (I2.ay k _ Y8).1) q2) λr s' hq=>?_)
  cases r with
  | error e=>exact hq.elim
  | ok fl =>
   cases fl with
   | ret u =>
    refine I2.after (CE.add I2.vB nB.fn nB.cell hq (Q':=Q) ?_)
    rintro v H3 ⟨r,rfl,Y9,hs⟩ nf nc
    have sm:=hs.lC nB.fn rfl nB.cell rfl
    exact kk _ ah _ F' _ Y9 f1 (h1.trans sm) ((c1.grow sm).pushS (.int .nil) rfl)
   | next=>exact dQ hq
   | brk=>exact dQ hq
   | cont=>exact dQ hq
end L3
namespace L2
open PySem PySem.Spec PyProof.Rows
theorem Za{p:Pos}{c:Value}(l:List Value)(h:TriplesOk l):TriplesOk (l++[rawInt p.line,rawInt p.col,c]):=by
 fun_induction TriplesOk l with
 | case1=>simp[TriplesOk,rawInt]
 | case2 a b d e f eH ih=>exact ih h
 | case3=>exact h.elim
theorem Zb{p q:Pos}{c cv:Value}(l:List Value)(h:TriplesOk l)(e:codeAmong q (l++[rawInt p.line,rawInt p.col,c])=some cv):codeAmong q l=some cv\/cv=c:=by
 fun_induction TriplesOk l with
 | case1 =>
  simp only[nY,rawInt,codeAmong]at e
  split at e
  ·exact .inr (cW e).symm
  ·cases e
 | case2 a b d e' f eH ih =>
  simp only[mH,codeAmong]at e ⊢
  split at e
  ·rename_i z;rw[if_pos z];exact .inl e
  ·rename_i z;rw[if_neg z];exact ih h e
 | case3=>exact h.elim
noncomputable def lD(f:Addr)(o:Obj):Heap->Prop:=λh=>h.get? f=some o
noncomputable def Zc(P c:Addr)(x:Str)(params:Arguments)(body:Expr)(scope:Scope):TE:=λ_ H Q=>(∃ps,H P=some (.cH ps)) /\
 ∀f k qn pm gX H',H f=none->H' f=some (.ext (lD f (PySem.W.kla_obj "<lambda>" qn params body scope [(x,c)] pm k gX)))->L3.DA H' k->k≠f->L3.aa H H'->(∀a ws,H' a=some (.lst ws)->H a=some (.lst ws))->Q (.ref f) H'
theorem NR{X:Cx}{P c cc:Addr}{x:Str}{params:Arguments}{body:Expr}{scope:Scope}{pos:Pos}(fA:closureFor scope X.env=pure [(x,c)])(zS:X.env.code=.ref cc)(hK:PySem.W.codeHdIn X.K cc P=true)(w6:Bm X.mg X.base)
  (Zd:defaultsOf params X.env=([],[]):=by rfl):PE X (.Lambda params body scope pos) (Zc P c x params body scope):=by
 intro pins s σ H Q I zz
 obtain⟨⟨ps,hP⟩,q⟩:=zz
 obtain⟨bm,ob,b1,b2,b3,b4,b5,b6,b7⟩:=w6
 have C:=PySem.W.codeHd_of_K I.cE hK
 obtain⟨oP,zT,codes⟩:=I.ay P _ hP
 have hg:=I.mod.glob.keeps I.bk
 have NS:∀{b o},X.base.get? b=some o->b≠P:=λ{b o} e z=>by
  have:=(I.bs b o e).2
  rw[z,hP]at this;cases this
 have Ze:mainGlobals≠P:=by
  obtain⟨o,es,ep,e,_⟩:=I.mod.glob
  exact NS e
 have NT:s.heap.BuiltinsAt X.mg P:=⟨bm,ob,b1,b2,b3,NS b4,I.bk _ _ b4,b5,b6,b7⟩
 refine PySem.W.kla_eval Zd ?_
 have fresh:∀{b:Addr},s.heap.objs.size<=b->H b=none:=λ{b} h=>I.ay.fresh h
 cases sY:codeAmong pos ps.toList with
 | none =>
  refine PySem.W.kla_makeFunction (mg:=X.mg) fA I.ok.glob hg zS C oP zT sY Ze NT λk gX h' tk hx xf dJ Zf NU=>?_
  have Eo:P<s.heap.objs.size:=bf oP
  have Zg:k≠P:=λz=>by rw[z]at xf;exact absurd Eo (ku.mpr xf)
  have pQ:s.heap.objs.size<=h'.objs.size:=dP xf (nV dJ)
  have Zh:h'.objs.size≠P:=λz=>by rw[<-z]at Eo;exact absurd Eo (ku.mpr pQ)
  have NV:k≠h'.objs.size:=cI dJ
  generalize NW:PySem.W.kla_obj "<lambda>" (X.env.qual++"<lambda>") params body scope [(x,c)] ((X.mg "__name__").getD .none) k gX=obj
  have dq:obj.isFreed=false:=by rw[<-NW];rfl
  have xg:∀b,b≠P->b≠k->b≠h'.objs.size->upd (upd (upd H P (.cH (ps++#[rawInt pos.line,rawInt pos.col,.ref k]))) k (.ext λh=>∃q,h.CodeRec (.ref k) q)) h'.objs.size (.ext (lD h'.objs.size obj)) b=H b:=λb n1 n2 n3=>by
   rw[aM n3,aM n2,aM n1]
  have zU:upd (upd (upd H P (.cH (ps++#[rawInt pos.line,rawInt pos.col,.ref k]))) k (.ext λh=>∃q,h.CodeRec (.ref k) q)) h'.objs.size (.ext (lD h'.objs.size obj)) h'.objs.size=some (.ext (lD h'.objs.size obj)):=bO
  have atK:upd (upd (upd H P (.cH (ps++#[rawInt pos.line,rawInt pos.col,.ref k]))) k (.ext λh=>∃q,h.CodeRec (.ref k) q)) h'.objs.size (.ext (lD h'.objs.size obj)) k=some (.ext λh=>∃q,h.CodeRec (.ref k) q):=by rw[aM NV,bO]
  have zV:upd (upd (upd H P (.cH (ps++#[rawInt pos.line,rawInt pos.col,.ref k]))) k (.ext λh=>∃q,h.CodeRec (.ref k) q)) h'.objs.size (.ext (lD h'.objs.size obj)) P=some (.cH (ps++#[rawInt pos.line,rawInt pos.col,.ref k])):=by rw[aM Zh.symm,aM Zg.symm,bO]
  generalize hHn:upd (upd (upd H P (.cH (ps++#[rawInt pos.line,rawInt pos.col,.ref k]))) k (.ext λh=>∃q,h.CodeRec (.ref k) q)) h'.objs.size (.ext (lD h'.objs.size obj))=Hn at xg zU atK zV
  have old:∀{b o},H b=some o->b≠P->Hn b=some o:=λ{b o} e n=>by
   have hb:b<s.heap.objs.size:=I.ay.lt e
   rw[xg b n (λz=>absurd hb (ku.mpr (z ▸ xf))) (λz=>absurd hb (ku.mpr (z ▸ pQ)))];exact e
  have kept:∀b o,b≠P->s.heap.get? b=some o->(h'.push obj).get? b=some o:=λb o n e=>bY _ (hx b o n e)
  have un:Un X.fs [] H Hn s.heap (h'.push obj):=by
   refine⟨λb o e n _ _=>kept b o (λz=>by rw[z,hP]at n;cases n) e,λb o e n _ _=>⟨o.slots,kept b o (λz=>by rw[z,hP]at n;cases n) e⟩,λb o e n _=>?_,λb o e _=>?_,λb xs e=>old e (λz=>by rw[z,hP]at e;cases e),λb ob xs e=>old e (λz=>by rw[z,hP]at e;cases e),λb NX e=>?_⟩
   ·have hb:=bf e
    rw[xg b (λz=>by rw[z,hP]at n;cases n) (λz=>absurd hb (ku.mpr (z ▸ xf))) (λz=>absurd hb (ku.mpr (z ▸ pQ)))];exact n
   ·by_cases z:b=P
    ·rw[z];exact⟨_,bY _ NU⟩
    ·exact⟨o,kept b o z e⟩
   ·by_cases z:b=P
    ·subst z
     rw[hP]at e;cases e
     exact⟨_,zV⟩
    ·exact⟨#[],by rw[old e z];simp⟩
  have ay:bZ X.prog X.w Hn (h'.push obj):=λb o e=>by
   by_cases z1:b=h'.objs.size
   ·subst z1
    rw[zU]at e;cases e
    exact⟨cX _ dq,⟨_,cX _ dq⟩,λh1 h2 p kk=>kk _ _ (.inl rfl) p⟩
   ·by_cases z2:b=k
    ·subst z2
     rw[atK]at e;cases e
     have hr:=Zf.push obj
     refine⟨⟨_,hr⟩,?_,λh1 h2 ⟨q,c1,o1,vs,t,e1,e2,r⟩ kk=>?_⟩
     ·obtain⟨c1,o1,vs,t,e1,e2,_⟩:=hr
      cases e1
      exact⟨o1,e2⟩
     ·cases e1
      exact⟨q,_,o1,vs,t,rfl,kk _ _ (.inl rfl) e2,r⟩
    ·by_cases z3:b=P
     ·subst z3
      rw[zV]at e;cases e
      refine⟨bY _ NU,by rw[SK];exact Za _ zT,λp' cv e'=>?_⟩
      rw[SK]at e'
      rcases Zb _ zT e' with e' | e'
      ·obtain⟨d,φ,e1,e2,e3⟩:=codes p' cv e'
       exact⟨d,φ,e1,old e2 (λz=>by rw[z,hP]at e2;cases e2),e3⟩
      ·exact⟨k,_,e',atK,λh' p=>p⟩
     ·rw[xg b z3 z2 z1]at e
      have nP:∀{b' o'},H b'=some o'->(∀ps,o'≠.cH ps)->b'≠P:=λ{b' o'} e n z=>by rw[z,hP]at e;cases e;exact n _ rfl
      refine(I.ay b o e).iO (λb' u zW e'=>kept b' u ?_ e') (λb' e'=>old e' (nP e' (λps z=>by cases z))) (λb' xs e'=>old e' (nP e' (λps z=>by cases z))) λb' φ e'=>old e' (nP e' (λps z=>by cases z))
      rcases zW with rfl | zW
      ·exact z3
      ·exact nP zW (λps z=>by cases z)
  refine⟨.ref h'.objs.size,Hn,I.un un ay,rfl,q _ k _ _ _ _ (fresh pQ) (by rw[NW];exact zU) ⟨_,atK,λh p=>p⟩ NV ⟨λb o e n=>old e (λz=>by rw[z,hP]at e;cases e;cases n),λb NX e=>?_⟩ λa ws e=>?_⟩
  ·exact un.eG b NX e
  ·by_cases z1:a=h'.objs.size
   ·subst z1;rw[zU]at e;cases e
   ·by_cases z2:a=k
    ·subst z2;rw[atK]at e;cases e
    ·by_cases z3:a=P
     ·subst z3;rw[zV]at e;cases e
     ·rw[xg a z3 z2 z1]at e;exact e
 | some cv =>
  obtain⟨k,φ,rfl,hk,El⟩:=codes pos cv sY
  refine PySem.W.kla_makeFunctionHit (mg:=X.mg) fA I.ok.glob hg zS C oP zT sY NT λgX h' tk hx pQ=>?_
  have hf:=fresh pQ
  refine⟨.ref h'.objs.size,upd H h'.objs.size (.ext (lD h'.objs.size (PySem.W.kla_obj "<lambda>" (X.env.qual++"<lambda>") params body scope [(x,c)] ((X.mg "__name__").getD .none) k gX))),I.laid (λb u e=>bY _ (hx b u e)) pQ ?_,rfl,q _ k (X.env.qual++"<lambda>") ((X.mg "__name__").getD .none) gX _ hf bO ⟨φ,?_,El⟩ (dH hk hf) (L3.aa.of λb o e=>?_) λa ws e=>?_⟩
  ·exact⟨cX _ rfl,⟨_,cX _ rfl⟩,λh1 h2 p kk=>kk _ _ (.inl rfl) p⟩
  ·rw[aM (dH hk hf)];exact hk
  ·rw[aM (dH e hf)];exact e
  ·by_cases z:a=h'.objs.size
   ·subst z;rw[bO]at e;cases e
   ·rw[aM z]at e;exact e
end L2
namespace L2
open PySem PySem.Spec PyProof.Rows
structure zX(K:PySem.W.Frag)(C:Addr)(m:Str)(f:Addr):Prop where
 ga:PySem.W.specialIn K (.ref C) "__getattribute__"=some (some (.builtin "type.__getattribute__"))
 rd:PySem.W.readsIn K C (.type "type")=true
 at_:PySem.W.findCls K (.ref C) (.type "type") m=some (.val (.ref f))
 kp:PySem.W.keepIn K (.ref f)=true
section
variable{X:Cx}{CX:dA}{k:Nat}{f C:Addr}{fd:FuncData}{ps:List Str}{sp:Sp}{E:XK}{x m:Str}{p pos apos:Pos}{e o:Expr}{es:List Expr}{ta:TE}{t:TA}
theorem Zi{pins:List (Addr × Obj)}{σ:St}{H:Hp}{s:Shared}{pl:Sem Bool}{A:Around}{E':Value->Shared->Prop}{Q:Value × List Value->Shared->Prop}(I:Inv X pins σ H s)(M:zX X.K C m f)(h:∀s',Inv X pins σ H s'->Q (.ref f,[]) s') :
  wpAny (model X.prog X.w) A (getMethod (.ref C) m pl) Q E' s :=
 PySem.W.method_cls I.cE M.ga (PySem.W.cls_value (mc:=.type "type") I.cE M.rd M.at_ rfl (h _ (I.tok _)))
theorem Zj{pins:List (Addr × Obj)}{σ:St}{H:Hp}{s:Shared}{pl:Sem Bool}{Q:Value->Shared->Prop}{QA:List V->Hp->Prop}(I:Inv X pins σ H s)(M:zX X.K C m f)(hg:Gl X x)(hm:X.mg x=some (.ref C))(ha:PA X (e::es) t)(h:t σ H QA)
  (hq:∀us s1 vs H1,Inv X pins σ H1 s1->Vals vs us->QA vs H1->wpAny (model X.prog X.w) X.A (call (.ref f) us) Q X.xe s1)
  (dB:(x==("__debug__":Str))=false:=by decide) (cx:starEach (e::es) X.env=(false,eval e X.env)::starEach es X.env:=by rfl) (bE:(backTo pos (starEach es X.env)).any (·.1)=false:=by rfl)
  (ht:eval (.Call (.Attribute (.Name x p) m apos) (e::es) [] pos) X.env=(do
   let ov<-eval (.Name x p) X.env
   standAt apos.atName
   let (f,first)<-holding [ov] (getMethod ov m pl)
   callWith pos f first (backTo pos (starEach (e::es) X.env)) (backToKw pos (keywordEach [] X.env))):=by rfl) :
  wpAny (model X.prog X.w) X.A (eval (.Call (.Attribute (.Name x p) m apos) (e::es) [] pos) X.env) Q X.xe s:=by
 refine PySem.W.methodCall_KW (pl:=pl) (yU I hg hm ?_ dB) ht
 refine Zi I M λs1 I1=>?_
 refine PySem.W.callWith_K (first:=[]) (h₀:=X.base) I.ok.mod.kA M.kp (aH (ha pos pins s1 σ H _ I1 h) λus s2 ⟨vs,H2,I2,r,q2⟩=>⟨I2.cE,?_⟩) cx bE
 exact hq us s2 vs H2 I2 r q2
noncomputable def Zk(sp:Sp)(E:XK)(c:Addr)(i:Nat)(t:TA):TE:=λσ H Q=>t σ H λvs H1=>∃f of fd v,H1 f=some (.ext (lD f of))/\of.data=.func fd/\σ[i]?=some (some v) /\
 ∀oc u,oc.data=.cell (some u)->RelV v u->H1 c=none->c≠f->sp vs (upd (upd H1 f (.ext (L3.iq of oc c f))) c (.own f)) (λr H2=>H2 f=some (.ext (L3.iq of oc c f))/\H2 c=some (.own f)/\Q r (rem H2 f c)) E
theorem NY{pl:Sem Bool}{y:Str}{c:Addr}{i:Nat}(M:zX X.K C m f)(F:aO X.prog X.w X.K X.mg X.base aY k f fd ps sp)(hr:bK k X.A)(hb:Binds X.K fd ps [])(hg:Gl X x)(hm:X.mg x=some (.ref C))
  (hN:X.N[i]?=some y) (hy:X.env.scope.names.lookup y=some .cell) (fA:X.env.cells.lookup y=some c) (vo:X.fn y=true) (ha:PA X (e::es) t)
  (dB:(x==("__debug__":Str))=false:=by decide) (cx:starEach (e::es) X.env=(false,eval e X.env)::starEach es X.env:=by rfl) (bE:(backTo pos (starEach es X.env)).any (·.1)=false:=by rfl)
  (ht:eval (.Call (.Attribute (.Name x p) m apos) (e::es) [] pos) X.env=(do
   let ov<-eval (.Name x p) X.env
   standAt apos.atName
   let (f,first)<-holding [ov] (getMethod ov m pl)
   callWith pos f first (backTo pos (starEach (e::es) X.env)) (backToKw pos (keywordEach [] X.env))):=by rfl) :
  PE X (.Call (.Attribute (.Name x p) m apos) (e::es) [] pos) (Zk sp E c i t):=by
 intro pins s σ H Q I h
 refine Zj (pl:=pl) I M hg hm ha h (λus s1 vs H1 I1 r ⟨fa,of,fdd,v,hf,hd,hv,hq⟩=>?_) dB cx bE ht
 obtain⟨ml,_,hl⟩:=I1.loc
 obtain⟨u,rv,lk⟩:=hl i y v hN hv (.inr (.inl hy))
 obtain⟨oc,gc,gD⟩:∃oc,s1.heap.get? c=some oc/\oc.data=.cell (some u):=by
  rcases lk with⟨hk,_⟩ | ⟨_,c',vp,ic⟩
  ·rw[show X.env.kindOf y=some .cell from hy]at hk;cases hk
  ·rw[fA]at vp;cases vp;exact ic
 have nc:H1 c=none:=I1.gb y c fA
 have nC:c≠fa:=λz=>by rw[z,hf]at nc;cases nc
 have gf:s1.heap.get? fa=some of:=(I1.ay fa _ hf).1
 have kC:=hq oc u gD rv nc nC
 have NZ:=I1.ok.oq y c vo fA
 generalize hH:upd (upd H1 fa (.ext (L3.iq of oc c fa))) c (.own fa)=Hp at kC
 have N0:Hp c=some (.own fa):=by rw[<-hH,bO]
 have Zl:Hp fa=some (.ext (L3.iq of oc c fa)):=by rw[<-hH,aM nC.symm,bO]
 have j8:∀b,b≠fa->b≠c->Hp b=H1 b:=λb n1 n2=>by rw[<-hH,aM n2,aM n1]
 have Zm:c ∉ X.fs:=λhb=>by
  obtain⟨_,o,ho,_⟩:=I1.ok.eX.mem hb
  exact absurd (cq (bf ho) NZ) (fE _)
 have Zn:∀b∈cK X.stack,b≠c:=λb hb z=>by
  rcases bJ.mp (I1.vk b hb)with e | hb
  ·exact I1.mJ y c fA (z ▸ e)
  ·exact Zm (z ▸ hb)
 have Zo:bZ X.prog X.w Hp s1.heap:=λb ob q=>by
  by_cases z1:b=c
  ·subst z1;rw[N0]at q;cases q;exact⟨_,gc⟩
  ·by_cases z2:b=fa
   ·subst z2;rw[Zl]at q;cases q
    exact⟨⟨gf,gc⟩,⟨_,gf⟩,λh1 h2 p kk=>⟨kk _ _ (.inl rfl) p.1,kk _ _ (.inr N0) p.2⟩⟩
   ·rw[j8 b z2 z1]at q
    have x1:=(I1.ay b ob q).rem (f:=fa) (c:=c) z2 hf (.inr nc) (NK gf (λ_ p=>p) hd)
    have up:∀{b' o'},rem H1 fa c b'=some o'->Hp b'=some o':=λ{b' o'} q=>by
     obtain⟨n1,n2,q'⟩:=NI q
     rw[j8 b' n1 n2];exact q'
    exact x1.iO (λ_ _ _ q=>q) (λ_ q=>up q) (λ_ _ q=>up q) λ_ _ q=>up q
 have e0:fo X.prog X.w X.K X.mg X.base X.A X.stack s1 Hp:=by
  have e1:=I1.vB
  refine⟨e1.frames,e1.mod,λb ob q=>⟨(e1.bs b ob q).1,?_⟩,e1.gC,e1.eX,λb hb=>?_,Zo,e1.bare⟩
  ·have Zp:=(I1.ok.bs b ob q).1
   rw[j8 b (λz=>by have:=(e1.bs b ob q).2;rw[z,hf]at this;cases this) (λz=>absurd (cq (bf Zp) (z ▸ NZ)) (fE _))]
   exact(e1.bs b ob q).2
  ·have nb:=e1.ib b hb
   rw[j8 b (λz=>by rw[z,hf]at nb;cases nb) (Zn b hb)];exact nb
 have hlen:us.length=ps.length:=by rw[<-r.length];exact F.len _ _ _ _ kC
 refine wpAny_call (codeAny_mono (F.run X.A X.stack s1 Hp ⟨us,[]⟩ us vs _ E hr e0 (by have:=hb s1 us I1.cE (by rw[jJ];exact hlen);rwa [jJ]at this) r kC) λrr s' hz=>?_)
 cases rr with
 | error e=>exact hz.elim
 | ok fl =>
  cases fl with
  | next=>exact dQ hz
  | brk=>exact dQ hz
  | cont=>exact dQ hz
  | ret u' =>
   obtain⟨v',H2,os,bare,un,N1,Zq,q1,q2,q3⟩:=hz
   obtain⟨_,N2⟩:=N1.lam q1
   refine I1.after ⟨v',rem H2 fa c,os,bare,⟨λb ob g n hb hx=>?_,λb ob g n hb hx=>?_,λb ob g n hx=>?_,un.there,λb xs g=>?_,λb ob xs g=>?_,λb ps g=>?_⟩,N1.rem q1 q2 hd,Zq,q3⟩
   ·by_cases z:b=c
    ·rw[z,gc]at g;cases g;rw[z];exact N2
    ·exact un.keep b ob g (by rw[j8 b (λz=>by rw[z,hf]at n;cases n) z];exact n) hb hx
   ·by_cases z:b=c
    ·rw[z,gc]at g;cases g;rw[z];exact⟨_,N2⟩
    ·exact un.slot b ob g (by rw[j8 b (λz=>by rw[z,hf]at n;cases n) z];exact n) hb hx
   ·by_cases z:b=c
    ·rw[z];exact zQ
    ·exact sV (un.free b ob g (by rw[j8 b (λz=>by rw[z,hf]at n;cases n) z];exact n) hx)
   ·have n1:b≠fa:=λz=>by rw[z,hf]at g;cases g
    have n2:b≠c:=λz=>by rw[z,nc]at g;cases g
    rw[fR n1 n2]
    exact un.fk b xs (by rw[j8 b n1 n2];exact g)
   ·have n1:b≠fa:=λz=>by rw[z,hf]at g;cases g
    have n2:b≠c:=λz=>by rw[z,nc]at g;cases g
    rw[fR n1 n2]
    exact un.eW b ob xs (by rw[j8 b n1 n2];exact g)
   ·have n1:b≠fa:=λz=>by rw[z,hf]at g;cases g
    have n2:b≠c:=λz=>by rw[z,nc]at g;cases g
    rw[fR n1 n2]
    exact un.eG b ps (by rw[j8 b n1 n2];exact g)
end
end L2
namespace L3
open PySem L2 PySem.Spec PyProof.Rows
theorem Ep{ts:List Addr}{H H':Hp}(h:Tb ts H)(s:aa H H'):Tb ts H':=λP hP=>by
 obtain⟨ps,e⟩:=h P hP
 obtain⟨m,e2⟩:=s.tb P ps e
 exact⟨_,e2⟩
theorem N3{P:Program}{w:World}{K:PySem.W.Frag}{mg:Str->Option Value}{base:Heap}{n:Nat}{p1 p2 x qn:Str}{params:Arguments}{body:Expr}{scope:Scope}{pm gX:Value}{oc:Obj}{c k:Addr}{m:Int}{tm:Tok}{sp:sW}(S:NN p1 p2 x scope)
  (gD:oc.data=.cell (some (.int m tm))) (hb:∀u1 u2:Value,bindArgs (PySem.W.kla_fn "<lambda>" qn params body scope [(x,c)] pm (.ref k) gX) ⟨[u1,u2],[]⟩=pure [(p1,u1),(p2,u2)])
  (gh:∀(q:Str) (f:Addr) (A:Around) (outer:List Env) (s:Shared) (H:Hp) (E:XK),bK n (A.deeper (PySem.W.envX q scope s.heap.objs.size f (.ref k) [(x,c)])) ->
   ∃t:aF,PE (pP aY P w K mg base [p1,p2,x] q scope f (.ref k) [(x,c)] A outer s H E).eR body (lE t)/\∀i j Qd,sp i j Qd->t [some (.int i),some (.int j),some (.int m)] λd _=>∃r,d=.int r/\Qd r) :
  xa P w K mg base (n+1) (PySem.W.kla_obj "<lambda>" qn params body scope [(x,c)] pm k gX) oc c k sp where
 fn:=⟨_,_,_,_,rfl⟩
 run A outer s H f t u i j Qd hr e0 gf gc hH bV h:=by
  obtain⟨q,bV⟩:=bV
  obtain⟨tt,ht,hq⟩:=gh q f A outer s H (λ_ _ _=>False) (hr.deeper _)
  refine Y3 (v1:=.int i) (v2:=.int j) (vc:=.int m) (E:=λ_ _ _=>False) S e0 hr gf ⟨oc,gc,gD⟩ ⟨tm,rfl⟩ hH bV (hb _ _) ⟨t,rfl⟩ ⟨u,rfl⟩ ht.eR ?_
  refine⟨⟨H,H⟩,H,_,[],_,?_,hq i j Qd h,λd ah v F' H' hd f1 h1 c1=>?_⟩
  ·exact ai.start (ds:=[.int i,.int j,.int m]) (vs:=[.int i,.int j,.int m]) (aa.refl H) (.int (.int (.int .nil))) 0
  ·obtain⟨r,rfl,hd⟩:=hd
   have s1:=c1.top
   cases s1
   exact⟨r,rfl,hd,h1⟩
section
variable{X:Cx}{CX:dA}{n:Nat}{f:Addr}{fd:FuncData}{ps:List Str}{sp:bD}{E:XK}{x:Str}{p pos:Pos}{e:Expr}{es:List Expr}{t:cj}{tl:List Addr}
theorem Zr(hT:Tb tl X.i7)(F:aO X.prog X.w X.K X.mg X.base CX n f fd ps (w9 tl (bG sp)))(hr:bK n X.A)(hg:Gl X x)(hm:X.mg x=some (.ref f))(hk:PySem.W.keepIn X.K (.ref f)=true)(hb:Binds X.K fd ps [])(hx:jQ CX X E)
  (ha:PA X (e::es) (lA t)) (dB:(x==("__debug__":Str))=false:=by decide) (he:starEach (e::es) X.env=(false,eval e X.env)::starEach es X.env:=by rfl) (bE:(backTo pos (starEach es X.env)).any (·.1)=false:=by rfl) :
  PE X (.Call (.Name x p) (e::es) [] pos) (lE (oY sp t)):=by
 intro pins s σ H Q I zz
 obtain⟨B,F',δ,ts,Qd,c,q,k⟩:=zz
 have tb:=NG I hT
 refine oF F hr hg hm hk hb .nil hx ha dB he bE pins s σ H Q I ⟨B,F',δ,ts,_,c,q,λds ao vs F1 H1 q1 f1 h1 c1 s1=>?_⟩
 refine⟨Ep tb h1,?_⟩
 rw[jJ]
 exact zu c1 s1 q1 λd v F' H' hd hf hs c'=>k d ao v F' H' hd (f1.trans hf) (h1.trans hs) c'
end
section
variable{P:Program}{w:World}{K:PySem.W.Frag}{mg:Str->Option Value}{base:Heap}
theorem N4{x qual:Str}{st:Stmt}{f:Addr}{fd:FuncData}{N ps:List Str}{k:Nat}{sp:bD}{tl:List Addr}(F:bw K x qual st f fd)(S:bB N ps (az st))(len:∀ds Q,sp ds Q->ds.length=ps.length)
  (gh:∀(aG:Value) (A:Around) (outer:List Env) (s:Shared) (H:Hp) (E:XK),Tb tl H->bK k (A.deeper (envOfC qual (az st) s.heap.objs.size f aG)) ->
   ∃t:ck,PSs (gG aY P w K mg base N qual (az st) f aG A outer s H E).eR (br st) (lS (gG aY P w K mg base N qual (az st) f aG A outer s H E).eR t)/\∀ds Q,sp ds Q->t { nx:=λ_=>Q .ak,rt:=Q } (jo N ds)):aO P w K mg base aY (k+1) f fd ps (w9 tl (bG sp)):=by
 refine F.ok S (λvs H Q E ⟨_,F,ds,Qd,e,r,h,_⟩=>by rw[<-r.length];exact len ds Qd h) λaG A outer s H vs Q E hr zz=>?_
 obtain⟨tb,F,ds,Qd,e,r,h,k⟩:=zz
 obtain⟨t,ht,hq⟩:=gh aG A outer s H E tb hr
 have fin:∀d v ah av F' H',Qd d->ai ⟨H,F⟩ F' H' av ah [(d,v)]->Q v H':=λd v ah av F' H' hd c=>by
  obtain⟨A,C,r',s',nd,fr⟩:=c.own
  exact k d v F' H' A hd c.b1 c.b2 c.ext c.b3 r' (dY.mp nd).1 λa ha=>fr a (eU _ ha)
 have e1:L2.start N vs=vs.map some++bh (N.length-ds.length) none:=by unfold L2.start;rw[r.length]
 refine⟨_,ht,⟨H,F⟩,F,jo N ds,_,?_,hq ds Qd h,λah av F' H' hd c=>fin .ak .ak ah av F' H' hd (c.pushS (.ak .nil) rfl),fin,λ_ _ _ _ z=>z.elim,λ_ _ _ _ z=>z.elim,XL.none (λ_ _ z=>z) λ_ _ z=>z⟩
 rw[e1]
 exact ai.start e r _
theorem N5{x qual:Str}{st:Stmt}{f cc:Addr}{fd:FuncData}{N ps:List Str}{k:Nat}{sp:Sp}(F:bw K x qual st f fd)(zS:fd.code=.ref cc)(S:bB N ps (az st))(len:∀vs H Q E,sp vs H Q E->vs.length=ps.length)
  (gh:∀(A:Around) (outer:List Env) (s:Shared) (H:Hp) (vs:List V) (Q:VK) (E:XK),bK k (A.deeper (envOfC qual (az st) s.heap.objs.size f (.ref cc)))->sp vs H Q E ->
   ∃t,PSs (gG aY P w K mg base N qual (az st) f (.ref cc) A outer s H E).eR (br st) t/\t { nx:=λ_ H'=>Q .ak H',rt:=Q } (L2.start N vs) H):aO P w K mg base aY (k+1) f fd ps sp:=by
 obtain⟨oc,od,kV,doc,pm,an,aG,ct,jR,rfl,lk,bV⟩:=F.ex
 obtain rfl:aG=.ref cc:=zS
 refine CW lk bV S len λA outer s H vs Q E hr gH=>?_
 obtain⟨t,h,q⟩:=gh A outer s H vs Q E hr gH
 exact⟨t,h.eR,q⟩
end
end L3
namespace L3
open PySem L2 PySem.Spec PyProof.Rows
theorem Zs{ns:List Str}{xs:List D}{ws:List V}{F H:Hp}{f:Str}{d:D}(r:R F H xs ws [])(h:(ns.zip xs).lookup f=some d):∃w,(ns.zip ws).lookup f=some w/\R F H [d] [w] []:=by
 generalize e:([]:List Addr)=A at r
 induction ns generalizing xs ws A with
 | nil=>simp at h
 | cons n ns ih =>
  cases xs with
  | nil=>simp at h
  | cons x xs =>
   obtain⟨v,bX,A1,A2,rfl,rfl,h1,h2⟩:=R.cA r
   obtain⟨rfl,rfl⟩:=B7.mp e.symm
   rw[SM]at h ⊢
   by_cases z:f=n
   ·subst z
    rw[eV,beq_self_eq_true]at h
    cases h
    refine⟨v,?_,h1⟩
    rw[eV,beq_self_eq_true]
   ·have z':(f==n)=false:=beq_eq_false_iff_ne.mpr z
    rw[eV,z']at h
    obtain⟨w,e1,e2⟩:=ih h [] rfl h2
    refine⟨w,?_,e2⟩
    rw[eV,z']
    exact e1
theorem N6{ns:List Str}{ws:List V}{f:Str}(h:f ∉ ns):(ns.zip ws).lookup f=none:=by
 induction ns generalizing ws with
 | nil=>simp
 | cons n ns ih =>
  cases ws with
  | nil=>simp
  | cons w ws =>
   rw[SM,eV]
   have hn:(f==n)=false:=beq_eq_false_iff_ne.mpr λz=>h (by rw[z];simp)
   simp only[hn]
   exact ih λz=>h (by simp[z])
theorem Er{F H:Hp}{C:Addr}{ns:List Str}{xs:List D}{v:V}(s:S F H [.obj C ns xs] [v]):∃p dx ws,v=.ref p/\H p=some (.ins C dx (ns.zip ws))/\ns.length=ws.length/\R F H xs ws []:=by
 cases s with
 | obj h l r _=>exact⟨_,_,_,rfl,h,l,r⟩
section
variable{X:Cx}{e o:Expr}{es:List Expr}{f m x:Str}{pos p apos:Pos}{t to:aF}{ta:cj}{n:Nat}
noncomputable def pS(K:PySem.W.Frag)(t:aF)(f:Str):aF:=λδ Q=>t δ λd ah=>∃C ns xs v,d=.obj C ns xs/\dS K C/\cu K C f/\(ns.zip xs).lookup f=some v/\Q v ah
theorem Zt(he:PE X e (lB t))(hb:attributeBase e f X.env (eval e X.env)=eval e X.env:=by rfl):PE X (.Attribute e f pos) (lB (pS X.K t f)) :=
 cR (y9 he hb) λσ H Q ⟨B,F,δ,ts,Qd,c,q,k⟩=>⟨B,F,δ,ts,_,c,q,λd ah v F' H' ⟨C,ns,xs,w,ed,hc,hn,hl,hq⟩ f1 h1 c1 s1=>by
  subst ed
  obtain⟨p,dx,ws,rfl,hp,_,r⟩:=Er s1
  obtain⟨u,hu,ru⟩:=Zs r hl
  exact⟨p,C,dx,_,u,rfl,hp,hc,hn,hu,k w ah u F' H' hq f1 h1 c1 ru.s⟩⟩
structure xh(P:Program)(w:World)(K:PySem.W.Frag)(mg:Str->Option Value)(base:Heap)(n:Nat)(m:Str)(C:Addr)(sp:bD):Prop where
 cls:dS K C
 ex:∃f fd ps,Meth K C m f/\aO P w K mg base aY n f fd ps (bG sp)/\Binds K fd ps []
noncomputable def pU(MO:Addr->bD->Prop)(m:Str)(to:aF)(ta:cj):aF:=λδ Q=>to δ λd ao=>∃C ns xs sp,d=.obj C ns xs/\MO C sp/\m ∉ ns/\ta ao λds aJ=>sp ((D.obj C ns xs::ds).map D.sh) λr=>((D.obj C ns xs::ds).all D.pl||r.fr)=true/\Q r aJ
theorem Zu{pl:Sem Bool}(ho:PE X o (lB to))(hr:bK n X.A)(ha:PA X (e::es) (lA ta))
  (cx:starEach (e::es) X.env=(false,eval e X.env)::starEach es X.env:=by rfl) (bE:(backTo pos (starEach es X.env)).any (·.1)=false:=by rfl)
  (ht:eval (.Call (.Attribute o m apos) (e::es) [] pos) X.env=(do
   let ov<-eval o X.env
   standAt apos.atName
   let (f,first)<-holding [ov] (getMethod ov m pl)
   callWith pos f first (backTo pos (starEach (e::es) X.env)) (backToKw pos (keywordEach [] X.env))):=by rfl) :
  PE X (.Call (.Attribute o m apos) (e::es) [] pos) (lE (pU (xh X.prog X.w X.K X.mg X.base n m) m to ta)):=by
 intro pins s σ H Q I zz
 obtain⟨B,F,δ,ts,Qd,c,q,k⟩:=zz
 refine PySem.W.methodCall_KW (pl:=pl) (aH (ho pins s σ H (λx H1=>∃d ao F1,S F1 H1 [d] [x]/\ai B F1 H1 σ ao ts/\aa F F1/\aa H H1/\∃C ns xs sp,d=.obj C ns xs/\xh X.prog X.w X.K X.mg X.base n m C sp/\m ∉ ns/\ta ao λds aJ=>sp ((D.obj C ns xs::ds).map D.sh) λr=>((D.obj C ns xs::ds).all D.pl||r.fr)=true/\Qd r aJ) I
  ⟨B,F,δ,ts,_,c,q,λd ao v F1 H1 hq f1 h1 c1 s1=>⟨d,ao,F1,s1,c1,f1,h1,hq⟩⟩) λu s1 ⟨x,H1,I1,rx,d,ao,F1,sd,c1,f1,h1,C,ns,xs,sp,ed,M,hm,hq⟩=>?_) ht
 subst ed
 obtain⟨a,dx,ws,rfl,ea,hl,r0⟩:=Er sd
 obtain rfl:u=dN a:=rx
 obtain⟨f,fd,ps,xi,FO,hb⟩:=M.ex
 refine CU I1 ea M.cls xi (N6 hm) ?_
 refine PySem.W.callWith_K (first:=[.ref a]) (h₀:=X.base) I.ok.mod.kA xi.kp (aH (ha pos pins s1 σ H1 (λvs H2=>∃ds aJ F2,S F2 H2 ds vs/\ai B F2 H2 σ aJ ts/\aa F1 F2/\aa H1 H2/\sp ((D.obj C ns xs::ds).map D.sh) λr=>((D.obj C ns xs::ds).all D.pl||r.fr)=true/\Qd r aJ) I1
  ⟨B,F1,ao,ts,_,c1,hq,λds aJ vs F2 H2 hq f2 h2 c2 s2=>⟨ds,aJ,F2,s2,c2,f2,h2,hq⟩⟩) λus s2 ⟨vs,H2,I2,r,ds,aJ,F2,Es,c2,f2,h2,gH⟩=>⟨I2.cE,?_⟩) cx bE
 refine za (us:=.ref a::us) (vs:=.ref a::vs) (dU:=[]) FO hr hb .nil aZ I2 (.cons rfl r) ?_
 rw[jJ]
 exact zu c2 (.obj (h2 _ _ ea) hl (r0.shared f2 h2) Es) gH λd v F' H' hd hf hs c'=>k d aJ v F' H' hd (f1.trans (f2.trans hf)) (h1.trans (h2.trans hs)) c'
end
structure cT(x:Addr)(H H':Hp):Prop where
 get:∀b o,b≠x->H b=some o->gL o=true->H' b=some o
 tb:∀b ps,H b=some (.cH ps)->∃more,H' b=some (.cH (ps++more))
theorem cT.trans{x:Addr}{H H1 H2:Hp}(a:cT x H H1)(b:cT x H1 H2):cT x H H2 :=
 ⟨λc o n h t=>b.get c o n (a.get c o n h t) t,λc ps h=>by
  obtain⟨m1,e1⟩:=a.tb c ps h
  obtain⟨m2,e2⟩:=b.tb c _ e1
  exact⟨m1++m2,by rw[e2,uV]⟩⟩
theorem aa.x{x:Addr}{H H':Hp}(h:aa H H'):cT x H H':=⟨λb o _ e n=>h.get b o e n,h.tb⟩
theorem cT.upd{x C dx:Addr}{H:Hp}{o o':HO}(h:H x=some o)(n:gL o=true):cT x H (upd H x o') :=
 ⟨λb o z e _=>by rw[aM z];exact e,λb ps e=>⟨#[],by rw[aM (λz=>by rw[z,h]at e;cases e;cases n),e];simp⟩⟩
noncomputable def Et(tl:List Addr)(C:Addr)(sZ:List D->List Str->List D->Prop):Sp:=λvs H Q _=>∃x dx bX ds ns xs,vs=.ref x::bX/\Tb tl H/\H x=some (.ins C dx [])/\R H H ds bX []/\sZ ds ns xs /\
 ∀H' ws A,cT x H H'->H' x=some (.ins C dx (ns.zip ws))->ns.length=ws.length->R (λ_=>none) H' xs ws A->A.Nodup->(∀a∈A,H a=none)->Q .ak H'
noncomputable def s8(C:Addr)(sZ:List D->List Str->List D->Prop)(ta:cj):aF:=λδ Q=>ta δ λds ah=>∃ns xs,sZ (ds.map D.sh) ns xs/\Q (.obj C ns (xs.map D.sh)) ah
theorem ai.made{B:Bs}{F H H':Hp}{σ:L2.St}{δ:Dl}{ts:List (D × V)}{C dx x:Addr}{ns:List Str}{xs:List D}{ws:List V}{A:List Addr}(c:ai B F H σ δ ts)(hs:aa H H')(hx:H' x=some (.ins C dx (ns.zip ws)))(hl:ns.length=ws.length)
  (r:R (λ_=>none) H' xs ws A) (fr:∀a∈A,H a=none):aa F (L3.bL F H' A)/\ai B (L3.bL F H' A) H' σ δ ((.obj C ns (xs.map D.sh),.ref x)::ts):=by
 have c1:=c.grow hs
 have hF:∀a∈A,F a=none:=λa ha=>c.ext.free (fr a ha)
 have r1:R F H' xs ws A:=r.keep (aa.of λb o e=>by cases e) (fu.same (aa.refl _)) gk.nil hF (by simp)
 have r2:=r1.bL c1.ext A (λ_ h=>h)
 have fs:aa F (L3.bL F H' A):=jU c1.ext
 obtain⟨A',C',r',s',nd,ni⟩:=c.own
 have out:∀a,(∃ws,H a=some (.lst ws))/\F a=none->L3.bL F H' A a=none:=λa zz=>by
  obtain⟨⟨ws,h⟩,hf⟩:=zz
  rw[zk (λz=>by rw[fr a z]at h;cases h)];exact hf
 have g1:=r'.grow fs hs λa ha=>out a (r'.lists a ha)
 have g2:=s'.keep fs (fu.same hs) gk.nil (λa ha=>out a (s'.lists a ha)) (by simp)
 refine⟨fs,ML c1.ext,c1.b1,c1.b2.trans fs,λa ws h=>?_,A',C',?_,g2,nd,ni⟩
 ·by_cases z:a∈A
  ·exact .inr (c.b1.free (fr a z))
  ·rw[zk z]at h;exact c.b3 a ws h
 ·exact R.obj hx hl r2 g1
section
variable{X:Cx}{CX:dA}{n:Nat}{f C:Addr}{fd:FuncData}{ps:List Str}{sZ:List D->List Str->List D->Prop}{E:XK}{x:Str}{p pos:Pos}{e:Expr}{es:List Expr}{t:cj}{tl:List Addr}
theorem N7(hT:Tb tl X.i7)(M:Mk X.K C f)(F:aO X.prog X.w X.K X.mg X.base CX n f fd ps (Et tl C sZ))(hr:bK (n+1) X.A)(hg:Gl X x)(hm:X.mg x=some (.ref C))(hb:Binds X.K fd ps [])(hx:jQ CX X E)
  (ha:PA X (e::es) (lA t)) (dB:(x==("__debug__":Str))=false:=by decide) (he:starEach (e::es) X.env=(false,eval e X.env)::starEach es X.env:=by rfl) (bE:(backTo pos (starEach es X.env)).any (·.1)=false:=by rfl) :
  PE X (.Call (.Name x p) (e::es) [] pos) (lE (s8 C sZ t)):=by
 intro pins s σ H Q I zz
 obtain⟨B,F',δ,ts,Qd,c,q,k⟩:=zz
 have tb:=NG I hT
 refine Vh M F hr hg hm hb .nil hx ha dB he bE pins s σ H Q I ⟨B,F',δ,ts,_,c,q,λds ao vs F1 H1 q1 f1 h1 c1 s1=>?_⟩
 intro x dx eA gy oR
 obtain⟨ns,xs,hI,hq⟩:=q1
 have sm:aa H1 (upd (upd H1 dx (.own x)) x (.ins C dx [])):=.of λb o e=>by rw[aM (dH e eA),aM (dH e gy)];exact e
 refine⟨x,dx,vs,ds.map D.sh,ns,xs,by rw[jJ],Ep (Ep tb h1) sm,bO,(s1.frozen c1.ext).shared sm sm,hI,λH' ws A N8 cQ hl r nd fr=>⟨rfl,?_⟩⟩
 have s2:aa H1 H':=⟨λb o e n=>N8.get b o (dH e eA) (sm.get b o e n) n,λb ps e=>by
  obtain⟨m1,e1⟩:=sm.tb b ps e
  obtain⟨m2,e2⟩:=N8.tb b _ e1
  exact⟨m1++m2,by rw[e2,uV]⟩⟩
 obtain⟨fs,c2⟩:=c1.made s2 cQ hl r λa ha=>sm.free (fr a ha)
 exact k _ ao _ _ H' hq (f1.trans fs) (h1.trans s2) c2
end
end L3
namespace Mf
open PySem L2 L3
noncomputable def gm(m:Bool × Nat)(a b:Nat):Nat:=if m.1 then md (cl a b) m.2 else a*b%m.2
noncomputable def ag(m:Bool × Nat):Nat:=if m.1 then 2 ^ (bl m.2-1)else m.2
noncomputable def zY(g:Nat->Nat->Nat)(a:Nat):Nat->Nat->List Int->Option (List Int)
 | 0,_,_=>none
 | f+1,p,acc=>if p=1 then some acc else if p<64 then zY g a f (g p a) (acc++[(p:Int)])else none
noncomputable def Eu(g:Nat->Nat->Nat)(a:Nat):Option (List Int):=zY g a 64 (g 1 a) [1]
noncomputable def zZ(g:Nat->Nat->Nat)(many:Nat):Nat->Nat->List Int->Option (List Int)
 | 0,_,_=>none
 | f+1,st,l=>if l.length+1<many then(match Eu g (st+1)with | some l'=>zZ g many f (st+1) l' | none=>none)else some l
noncomputable def xj(g:Nat->Nat->Nat)(many:Nat):Option (List Int):=match Eu g 1 with | some l=>zZ g many 62 1 l | none=>none
noncomputable def xk(g:Nat->Nat->Nat):sW:=λi j Q=>∃a b:Nat,i=a/\j=b/\a<64/\b<64/\Q (g a b:Nat)
noncomputable def fS:List Nat:=[7,11,13,19,25,31,37,41,47,55,59,61,67,73,87,91,97,103,109,115,117]
noncomputable def lF:List Nat:=[2,3,5,7,11,13,17,19,23,29,31,37,41,43,47,53,59,61]
noncomputable def aK:List (Bool × Nat):=fS.map (λn=>(true,n))++lF.map λn=>(false,n)
noncomputable def lH(l:List Int):Nat->List Int
 | 0=>bh (l.length+1) 0
 | i+1=>(lH l i).set (l.getD i 0).toNat (i:Int)
noncomputable def di(l:List Int):List Int:=lH l l.length
theorem xm(l:List Int):∀i,(lH l i).length=l.length+1
 | 0=>by simp[lH]
 | i+1=>by simp[lH,xm l i]
noncomputable def nD(l g:List Int)(a:Nat):List Int:=if a=0 then bh (l.length+1) 0 else 0::(aR l.length).map λ(b:Nat)=>l.getD ((g.getD a 0+g.getD (b+1) 0)%(l.length:Int)).toNat 0
noncomputable def s9(l g:List Int)(n:Nat):List D:=(aR n).map λa=>D.lst true (nums (nD l g a))
noncomputable def nE(l g:List Int):List D:=s9 l g (l.length+1)
end Mf
namespace L3
open PySem L2 Mf
noncomputable def LI(H:Hp)(p:Addr)(ns:List Int):Prop:=H p=some (.lst (ns.map V.int))
theorem LI.same{H H':Hp}{p:Addr}{ns:List Int}(h:LI H p ns)(s:aa H H'):LI H' p ns:=s.get _ _ h
theorem LI.upd{H:Hp}{p x:Addr}{ns:List Int}{o o':HO}(h:LI H p ns)(hx:H x=some o)(n:∀ws,o≠.lst ws):LI (upd H x o') p ns:=by
 unfold LI
 rw[aM (λz=>by rw[z]at h;unfold LI at h;rw[hx]at h;cases h;exact n _ rfl)];exact h
theorem N9{F' H' H:Hp}{v:V}{A:List Addr}{ns:List Int}(r:R F' H' [.lst true (nums ns)] [v] A)(fr:∀a∈A,H a=none):∃p,v=.ref p/\LI H' p ns/\H p=none:=by
 cases r with
 | @own p ws xs A1 _ _ B1 hp hf r1 r2 =>
  have:=Nn r1.s
  subst this
  exact⟨p,rfl,hp,fr p (by simp)⟩
structure Zv(K:PySem.W.Frag)(C f:Addr):Prop where
 cls:dS K C
 many:cu K C "many"
 wide:cu K C "wide"
 Ew:cu K C "powers"
 Zw:cu K C "logs"
 step:cu K C "step"
 sp:Meth K C "step_power" f
structure Oa(g:Nat->Nat->Nat)(many:Nat)(l:List Int)(st:Int):Prop where
 lo:2<=many
 hi:many<=64
 step:xj g many=some l
 len:l.length+1=many
 ins:∀x∈l,0<=x/\x.toNat<=l.length
 st:l[((1:Int)%((many:Int)-1)).toNat]?=some st
noncomputable def fU(b:Str):List Str:=[b,"many","wide","powers","logs","step"]
noncomputable def z0(n0:Int)(many:Nat)(p1 p2:Addr)(st:Int):List V:=[.int n0,.int many,.int ((bl many:Nat)-1),.ref p1,.ref p2,.int st]
theorem tf{f:Str}{v:V}:∀{fs:List (Str × V)},(∀p∈fs,p.1≠f)->eI f v fs=fs++[(f,v)]
 | [],_=>rfl
 | (g,x)::r,h=>by
  unfold eI
  rw[if_neg (h (g,x) (by simp)),tf λp hp=>h p (by simp[hp])];rfl
theorem gi.xn{H:Hp}{x C dx f c k:Addr}{fs:List (Str × V)}{o':HO}{of oc:Obj}(h:gi H f of oc c k)(hx:H x=some (.ins C dx fs)):gi (L2.upd H x o') f of oc c k:=by
 obtain⟨ψ,e,xb⟩:=h.DB
 exact⟨by rw[aM (λz=>by rw[<-z,h.fn]at hx;cases hx)];exact h.fn,by rw[aM (λz=>by rw[<-z,h.cell]at hx;cases hx)];exact h.cell,ψ,by rw[aM (λz=>by rw[<-z,e]at hx;cases hx)];exact e,xb⟩
theorem gi.same{H H':Hp}{f c k:Addr}{of oc:Obj}(h:gi H f of oc c k)(s:aa H H'):gi H' f of oc c k:=mX.mono (z:=.lam of oc c k) h λa o e _ t=>s.get a o e t
theorem xo{H:Hp}{x p:Addr}{o o':HO}(hx:H x=some o)(h:L2.upd H x o' p=none):H p=none:=by
 by_cases z:p=x
 ·subst z;rw[bO]at h;cases h
 ·rw[aM z]at h;exact h
theorem z7{α:Type}{b f:Str}{v:α}{r:List (Str × α)}(h:b≠f):((b,v)::r).lookup f=r.lookup f:=by
 rw[eV,beq_eq_false_iff_ne.mpr (dy h)]
section
variable{H2 H3 H':Hp}{x f c p:Addr}{o1 o2:HO}
theorem xp{b:Addr}{o:HO}(e:H3 b=some o)(nb:b≠f)(nc:H3 c=none):L2.upd (L2.upd H3 f o1) c o2 b=some o:=by
 rw[aM (dH e nc),aM nb];exact e
theorem Ob(hs:aa H2 H3)(nf:H2 f=none)(nc:H3 c=none)(s:cT x (L2.upd (L2.upd H3 f o1) c o2) H'):cT x H2 (rem H' f c) where
 get b o n e t:=by
  have z1:=dH e nf
  have e3:=hs.get b o e t
  rw[fR z1 (dH e3 nc)]
  exact s.get b o n (xp e3 z1 nc) t
 tb b ps e:=by
  have z1:=dH e nf
  obtain⟨m,e3⟩:=hs.tb b ps e
  obtain⟨m2,e4⟩:=s.tb b _ (xp e3 z1 nc)
  exact⟨m++m2,by rw[fR z1 (dH e3 nc),e4,uV]⟩
theorem z8(hs:aa H2 H3)(h:L2.upd (L2.upd H3 f o1) c o2 p=none):H2 p=none:=by
 refine hs.free ?_
 by_cases z:p=c
 ·subst z;rw[bO]at h;cases h
 ·rw[aM z]at h
  by_cases z2:p=f
  ·subst z2;rw[bO]at h;cases h
  ·rw[aM z2]at h;exact h
theorem LI.rem{l:List Int}{φ:Heap->Prop}{y:Addr}(h:LI H' p l)(hf:H' f=some (.ext φ))(hc:H' c=some (.own y)):LI (rem H' f c) p l:=by
 unfold LI at h ⊢
 rw[fR (λz=>by rw[z,hf]at h;cases h) (λz=>by rw[z,hc]at h;cases h)];exact h
theorem Oc{of oc:Obj}{k:Addr}(oR:c≠f)(nc:H3 c=none)(hk:DA H3 k)(kf:k≠f):gi (L2.upd (L2.upd H3 f (.ext (iq of oc c f))) c (.own f)) f of oc c k:=by
 obtain⟨ψ,e,xb⟩:=hk
 exact⟨by rw[aM oR.symm,bO],bO,ψ,xp e kf nc,xb⟩
end
noncomputable def fl(m:Bool × Nat):List Int:=(xj (gm m) (ag m)).getD []
noncomputable def fst(m:Bool × Nat):Int:=(fl m).getD ((1:Int)%((ag m:Int)-1)).toNat 0
noncomputable def Od(m:Bool × Nat):Bool:=decide (2<=ag m)&&decide (ag m<=64)&&(xj (gm m) (ag m)).isSome&&decide ((fl m).length+1=ag m)&&(fl m).all (λx=>decide (0<=x)&&decide (x.toNat<=(fl m).length))&&decide (((1:Int)%((ag m:Int)-1)).toNat<(fl m).length)
theorem Zx:aK.all Od=true:=by decide +kernel
theorem dE{m:Bool × Nat}(h:m∈aK):Oa (gm m) (ag m) (fl m) (fst m):=by
 have h:=dg.mp Zx m h
 simp only[Od,da,decide_eq_true_eq,dg]at h
 obtain⟨⟨⟨⟨⟨h1,h2⟩,h3⟩,h4⟩,h5⟩,h6⟩:=h
 obtain⟨l,e⟩:=Su.mp h3
 have el:fl m=l:=by unfold fl;rw[e];rfl
 refine⟨h1,h2,by rw[e,el],h4,λx hx=>h5 x hx,?_⟩
 unfold fst
 rw[aQ,aP h6];rfl
theorem Zy:∀p∈lF,(decide (2<=(p:Int))&&decide ((p:Int)<=61)&&(aR ((p:Int).toNat-2)).all λi=>(p:Int)%(2+(i:Int)) != 0)=true:=by decide +kernel
theorem Zz:∀p∈fS,(decide (4<=(p:Int))&&decide ((p:Int)<=127)&&al (p:Int).toNat)=true:=by decide +kernel
theorem R.xn{F H:Hp}{x C dx:Addr}{fs:List (Str × V)}{o':HO}{ds:List D}{vs:List V}{A:List Addr}(r:R F H ds vs A)(hx:H x=some (.ins C dx fs))(hd:ds.all D.fr=true):R F (L2.upd H x o') ds vs A:=by
 have up:∀{a o},H a=some o->(∀C dx fs,o≠.ins C dx fs)->L2.upd H x o' a=some o:=λ{a o} e n=>by
  rw[aM (λz=>by rw[z,hx]at e;cases e;exact n _ _ _ rfl)];exact e
 induction r with
 | nil=>exact .nil
 | ak _ ih=>exact .ak (ih (by simpa[D.fr]using hd))
 | bl _ ih=>exact .bl (ih (by simpa[D.fr]using hd))
 | int _ ih=>exact .int (ih (by simpa[D.fr]using hd))
 | str _ ih=>exact .str (ih (by simpa[D.fr]using hd))
 | shr h x _ i1 ih=>simp[fK]at hd
 | own h f _ _ i1 i2 =>
  rw[dG,fK,da,n6]at hd
  exact .own (up h λ_ _ _ z=>by cases z) f (i1 hd.1) (i2 hd.2)
 | tup h _ _ i1 i2 =>
  rw[dG,oS,da]at hd
  exact .tup (up h λ_ _ _ z=>by cases z) (i1 hd.1) (i2 hd.2)
 | obj h l x _ i1 ih=>simp[D.fr]at hd
 | fz h x _ i1 ih=>simp[D.fr]at hd
 | @aV p z _ _ _ h r ih =>
  refine .aV ?_ (ih (by simpa[D.fr]using hd))
  cases z with
  | ext φ=>exact up h λ_ _ _ z=>by cases z
  | lam of oc c k=>exact gi.xn h hx
theorem Oe(l g:List Int):(nE l g).all D.fr=true:=by
 unfold nE s9
 rw[n9,dg]
 intro a _
 show(D.lst true (nums _)).fr=true
 rw[fK,pI];rfl
theorem cT.free{x a:Addr}{H H':Hp}(s:cT x H H')(hx:H' x≠none)(h:H' a=none):H a=none:=by
 cases q:H a with
 | none=>rfl
 | some o =>
  by_cases z:a=x
  ·subst z;exact absurd h hx
  ·cases n:gL o with
   | true=>rw[s.get a o z q n]at h;cases h
   | false =>
    obtain⟨ps,rfl⟩:=Dz n
    obtain⟨m,e⟩:=s.tb a ps q
    rw[e]at h;cases h
theorem Of(l:List Int):∀i,∀x∈lH l i,0<=x
 | 0=>λx hx=>by rw[(KH.mp hx).2];exact Int.le_refl _
 | i+1=>λx hx=>by
  unfold lH at hx
  rcases KR hx with h | h
  ·exact Of l i x h
  ·rw[h];exact Ku _
theorem Og:∀p∈fS,bl p<=7:=by decide +kernel
theorem Oh:∀p∈fS,1<=bl p:=by decide +kernel
theorem ZA(a b:Nat):bl (cl a b)<=bl a+bl b:=by
 by_cases ha:a=0
 ·subst ha;rw[mV];exact iZ _
 ·by_cases hb:b=0
  ·subst hb
   have:cl a 0=0:=rfl
   rw[this];exact iZ _
  ·rw[Mj ha hb];omega
noncomputable def tu(l g:List Int):List D:=(aR (l.length+1)).map λa=>D.lst false (nums (nD l g a))
theorem ZC(l g:List Int):(D.lst true (nE l g)).sh=.lst false (tu l g):=by
 rw[dX]
 unfold nE s9 tu
 rw[dk]
 congr 1
 apply qD
 intro a _
 show D.sh (.lst true (nums _))=_
 rw[dX,iU]
noncomputable abbrev pD(m:Bool × Nat):List D:=[.int m.2,.int (ag m),.int ((bl (ag m):Nat)-1),.lst false (nums (fl m)),.lst false (nums (di (fl m))),.int (fst m)]
noncomputable def z9(C:Addr)(p:Nat):D:=.obj C (fU "prime") (pD (false,p))
noncomputable def Aa(C:Addr)(p:Nat):D:=.obj C (fU "bits"++[("products":Str)]) (pD (true,p)++[.lst false (tu (fl (true,p)) (di (fl (true,p))))])
noncomputable def fD(cb cp:Addr)(m:Bool × Nat):D:=if m.1 then Aa cb m.2 else z9 cp m.2
end L3
namespace L3
open PySem L2 Mf
theorem xq{u p:Nat}(h:bl u<bl p):md u p=u:=vK (q:=0) (by rw[mV,mC]) h
theorem ZD{u v n:Nat}(hu:bl u<n)(hv:bl v<n):bl (u ^^^ v)<n:=by
 have h1:u<2 ^ (n-1):=dn.mp (by omega)
 have h2:v<2 ^ (n-1):=dn.mp (by omega)
 have:=dn.mpr (qY h1 h2)
 omega
theorem Ab{p:Nat}(hp:p≠0)(u v:Nat):md (u ^^^ v) p=md u p ^^^ md v p:=by
 obtain⟨⟨q1,e1⟩,l1⟩:=vJ hp u
 obtain⟨⟨q2,e2⟩,l2⟩:=vJ hp v
 refine vK (q:=q1 ^^^ q2) ?_ (ZD l1 l2)
 rw[mU,<- L8,<- e1,<- e2]
theorem Oi{p:Nat}(hp:p≠0)(w:Nat):md (cl p w) p=0:=by rw[vI];exact Wk w hp
theorem dj:∀m∈aK,0<m.2:=by decide +kernel
theorem jy(m:Bool × Nat)(a b:Nat):gm m a b=gm m b a:=by
 unfold gm
 split
 ·rw[vI]
 ·rw[kn]
theorem Oj{n:Nat}(hn:n≠0)(u c:Nat):md (cl (md u n) c) n=md (cl u c) n:=by
 obtain⟨⟨q,e⟩,_⟩:=vJ hn u
 have h:cl u c=cl n (cl q c) ^^^ cl (md u n) c:=by
  conv=>lhs;rw[e]
  rw[mU,vI n q,Mp]
 rw[h,Ab hn,Oi hn,mC]
theorem j9{m:Bool × Nat}(h:0<m.2)(a b c:Nat):gm m (gm m a b) c=gm m a (gm m b c):=by
 unfold gm
 split
 ·rw[Oj (by omega),vI (md (cl b c) m.2) a,Oj (by omega),Mp a b c,vI (cl b c) a]
 ·rw[u6,KS,<- u6,u6 a (b*c%m.2),KS,<- u6,qB]
theorem Ol{m:Bool × Nat}(h:m.1=true){a:Nat}:a<ag m↔bl a<=bl m.2-1:=by
 unfold ag
 rw[if_pos h];exact dn.symm
theorem lJ{m:Bool × Nat}{a:Nat}(ha:a<ag m):gm m 1 a=a:=by
 obtain⟨k,n⟩:=m
 cases k with
 | true =>
  show md (cl 1 a) n=a
  rw[Dh]
  have h1:=(Ol (m:=(true,n)) rfl).mp ha
  have h1:bl a<=bl n-1:=h1
  by_cases z:bl n=0
  ·have a0:a=0:=by
    have:=dn (n:=a) (m:=0)
    have:=this.mp (by omega)
    omega
   subst a0
   have n0:n=0:=by
    have:=(dn (n:=n) (m:=0)).mp (by omega)
    omega
   subst n0
   decide
  ·exact xq (by omega)
 | false=>show 1*a%n=a;rw[Nat.one_mul];exact yy ha
theorem tw{m:Bool × Nat}{a:Nat}(ha:a<ag m):gm m a 1=a:=by rw[jy];exact lJ ha
noncomputable def lg(m:Bool × Nat)(a:Nat):Int:=(di (fl m)).getD a 0
noncomputable def pw(m:Bool × Nat)(k:Nat):Int:=(fl m).getD k 0
noncomputable def Ey(m:Bool × Nat):Bool:=((aR (ag m-1)).all λk=>decide (1<=pw m k)&&decide (pw m k<ag m)&&decide (lg m (pw m k).toNat=k))&&((aR (ag m-1)).all λa=>decide (0<=lg m (a+1))&&decide (lg m (a+1)<(ag m:Int)-1)&&decide (pw m (lg m (a+1)).toNat=((a+1:Nat):Int)))
theorem Om:aK.all Ey=true:=by decide +kernel
theorem Ez{m:Bool × Nat}(hm:m∈aK){k:Nat}(hk:k<ag m-1):1<=pw m k/\pw m k<ag m/\lg m (pw m k).toNat=k:=by
 have h:=dg.mp Om m hm
 simp only[Ey,da,dg,decide_eq_true_eq,dO]at h
 have:=h.1 k hk
 exact⟨this.1.1,this.1.2,this.2⟩
theorem EA{m:Bool × Nat}(hm:m∈aK){a:Nat}(h1:1<=a)(h2:a<ag m):0<=lg m a/\lg m a<(ag m:Int)-1/\pw m (lg m a).toNat=a:=by
 have h:=dg.mp Om m hm
 simp only[Ey,da,dg,decide_eq_true_eq,dO]at h
 have:=h.2 (a-1) (by omega)
 rw[show a-1+1=a by omega]at this
 exact⟨this.1.1,this.1.2,this.2⟩
theorem iV(m:Bool × Nat)(b:Nat)(h:0<m.2):gm m 0 b=0:=by
 unfold gm
 split
 ·rw[mV];exact xq (by rw[kJ];exact fH (by omega))
 ·rw[Nat.zero_mul,Nat.zero_mod]
theorem tD(m:Bool × Nat)(b:Nat)(h:0<m.2):gm m b 0=0:=by rw[jy];exact iV m b h
noncomputable def stC(m:Bool × Nat):Bool:=decide (pw m 0=1)&&(aR (ag m-1)).all λk=>decide (gm m (pw m k).toNat (pw m (1%(ag m-1))).toNat=(pw m ((k+1)%(ag m-1))).toNat)
theorem Oo:aK.all stC=true:=by decide +kernel
theorem ZE(m:Bool × Nat)(hm:m∈aK):pw m 0=1:=by
 have h:=dg.mp Oo m hm
 simp only[stC,da,decide_eq_true_eq]at h
 exact h.1
noncomputable def pN(m:Bool × Nat)(k:Nat):Nat:=(pw m (k%(ag m-1))).toNat
theorem ZF{m:Bool × Nat}(hm:m∈aK)(k:Nat):pN m k<ag m:=by
 have kG:=(dE hm).lo
 have:=Ez hm (oa k (show 0<ag m-1 by omega))
 unfold pN
 omega
theorem Oq{m:Bool × Nat}(hm:m∈aK)(k:Nat):gm m (pN m k) (pN m 1)=pN m (k+1):=by
 have kG:=(dE hm).lo
 have h:=dg.mp Oo m hm
 simp only[stC,da,decide_eq_true_eq,dg,dO]at h
 have h2:=h.2 (k%(ag m-1)) (oa k (by omega))
 rw[Ce]at h2
 exact h2
theorem Ot{m:Bool × Nat}(hm:m∈aK)(i:Nat):∀j,gm m (pN m i) (pN m j)=pN m (i+j)
 | 0=>by
  have e:pN m 0=1:=by unfold pN;rw[Nat.zero_mod,ZE m hm];rfl
  rw[e,tw (ZF hm i)];rfl
 | j+1=>by rw[<-Oq hm j,<- j9 (dj m hm),Ot hm i j,Oq hm];rfl
theorem Ou{m:Bool × Nat}(hm:m∈aK){a b:Nat}(a1:1<=a)(a2:a<ag m)(b1:1<=b)(b2:b<ag m):((gm m a b:Nat):Int)=pw m ((lg m a+lg m b)%((ag m:Int)-1)).toNat:=by
 have kG:=(dE hm).lo
 obtain⟨g0,g1,g2⟩:=EA hm a1 a2
 obtain⟨f0,f1,f2⟩:=EA hm b1 b2
 have ea:pN m (lg m a).toNat=a:=by unfold pN;rw[yy (by omega),g2];rfl
 have eb:pN m (lg m b).toNat=b:=by unfold pN;rw[yy (by omega),f2];rfl
 have e:=Ot hm (lg m a).toNat (lg m b).toNat
 rw[ea,eb]at e
 rw[e]
 have ei:((lg m a+lg m b)%((ag m:Int)-1)).toNat=((lg m a).toNat+(lg m b).toNat)%(ag m-1):=by
  have:(((lg m a).toNat+(lg m b).toNat)%(ag m-1):Nat)=((lg m a+lg m b)%((ag m:Int)-1)):=by
   rw[qE,Cf,yz g0,yz f0,Int.natCast_sub (by omega)];rfl
  omega
 rw[ei]
 have:=Ez hm (oa ((lg m a).toNat+(lg m b).toNat) (show 0<ag m-1 by omega))
 unfold pN
 omega
theorem ZG{p a:Nat}(hp:p∈fS)(ha:a<ag (true,p)):nD (fl (true,p)) (di (fl (true,p))) a=(aR (ag (true,p))).map λb=>((gm (true,p) a b:Nat):Int):=by
 have hm:(true,p)∈aK:=eU _ (Cg hp)
 have h0:=dj _ hm
 have hF:=dE hm
 have hlen:=hF.len
 unfold nD
 split
 ·rename_i h
  subst h
  rw[hlen]
  refine qF (by simp) λi h1 h2=>?_
  simp[iV _ _ h0]
 ·rename_i h
  rw[<-hlen,SH,dF,dk,tD _ _ h0]
  congr 1
  apply qD
  intro b hb
  have hb:=dO.mp hb
  show(fl (true,p)).getD (((di (fl (true,p))).getD a 0+(di (fl (true,p))).getD (b+1) 0)%((fl (true,p)).length:Int)).toNat 0=((gm (true,p) a (b+1):Nat):Int)
  rw[Ou hm (by omega) ha (by omega) (by omega),show(((fl (true,p)).length:Nat):Int)=(ag (true,p):Int)-1 by omega]
  rfl
theorem Ov{p a b:Nat}(hp:p∈fS)(ha:a<ag (true,p))(hb:b<ag (true,p)):dm (nums (nD (fl (true,p)) (di (fl (true,p))) a)) (b:Int)=some (.int (gm (true,p) a b:Nat)):=by
 refine mQ (by omega) ?_
 rw[ZG hp ha]
 unfold nums
 rw[eE,cY,cY,mF hb];rfl
theorem Ow{p a:Nat}(hp:p∈fS)(ha:a<ag (true,p)):dm (tu (fl (true,p)) (di (fl (true,p)))) (a:Int)=some (.lst false (nums (nD (fl (true,p)) (di (fl (true,p))) a))):=by
 have hF:=dE (m:=(true,p)) (eU _ (Cg hp))
 refine mQ (by omega) ?_
 unfold tu
 rw[eE,cY,mF (by rw[hF.len];exact ha)];rfl
end L3
namespace L3
open PySem L2 Mf
theorem ZH(C:Addr)(p:Nat):D.obj C (fU "bits"++[("products":Str)]) (Cc D.sh [.int p,.int (ag (true,p)),.int ((bl (ag (true,p)):Nat)-1),.lst true (nums (fl (true,p))),.lst true (nums (di (fl (true,p)))),.int (fst (true,p)),.lst true (nE (fl (true,p)) (di (fl (true,p))))])=Aa C p:=by
 simp only[dF,mx]
 rw[ZC]
 simp only[dX,pH,iU];rfl
theorem ZI(C:Addr)(p:Nat):D.obj C (fU "prime") (Cc D.sh [.int p,.int p,.int ((bl p:Nat)-1),.lst true (nums (fl (false,p))),.lst true (nums (di (fl (false,p)))),.int (fst (false,p))])=z9 C p:=by
 simp only[dF,mx,dX,pH,iU];rfl
theorem Ac{n:Nat}(h:(true,n)∈aK):n∈fS:=by
 rcases bP.mp h with h | h
 ·obtain⟨x,hx,e⟩:=cn.mp h
  cases e;exact hx
 ·obtain⟨x,hx,e⟩:=cn.mp h
  cases e
theorem ZJ{n:Nat}(h:(false,n)∈aK):n∈lF:=by
 rcases bP.mp h with h | h
 ·obtain⟨x,hx,e⟩:=cn.mp h
  cases e
 ·obtain⟨x,hx,e⟩:=cn.mp h
  cases e;exact hx
open Classical in
theorem ZK{α:Type}{sh:Bool}{xs:List D}{aq:List (Str × Nat)}{n:Nat}{g0:fL}{te:aF}{ao:Dl}{Q:D->Dl->Prop}(l:List α)(e g:α->D)(gW:xs.map D.sh=l.map e)(inj:∀a b,e a=e b->a=b)
  (hx:∀a∈l,g0 (e a) (eS aq n ao) λaJ=>te aJ λd _=>d=g a) (hg:∀d δ (P P':Dl->Prop),(∀ah,P ah->P' ah)->g0 d δ P->g0 d δ P') (dq:(sh&&aq.all (gR ao))=true\/∀a∈l,(g a).fr=true) (hl:l.length<=sizeLine) (hq:Q (.lst true (l.map g)) ao):o6 sh xs aq n g0 js te ao Q:=by
 let f:D->D:=λx=>if h:∃a∈l,e a=x then g h.choose else .ak
 have hf:∀a∈l,f (e a)=g a:=λa ha=>by
  have h:∃b∈l,e b=e a:=⟨a,ha,rfl⟩
  show(if h:∃b∈l,e b=e a then g h.choose else .ak)=g a
  rw[dif_pos h]
  exact congrArg g (inj _ _ h.choose_spec.2)
 refine⟨λ_=>true,f,λx h=>?_,dq.imp id λh x hx _=>?_,?_,?_⟩
 ·rw[gW]at h
  obtain⟨a,ha,rfl⟩:=cn.mp h
  rw[hf a ha]
  exact hg _ _ _ _ (λah h=>⟨rfl,λ_=>h⟩) (hx a ha)
 ·rw[gW]at hx
  obtain⟨a,ha,rfl⟩:=cn.mp hx
  rw[hf a ha];exact h a ha
 ·have:=congrArg BU gW
  simp at this
  omega
 ·rw[gW,SG.mpr (λ_ _=>rfl),dk,show l.map (f ∘ e)=l.map g from qD λa ha=>hf a ha]
  exact hq
theorem ZL{i1 i2:Nat}(d:D)(δ:Dl)(P P':Dl->Prop)(h:∀ah,P ah->P' ah)(q:iA i1 i2 d δ P):iA i1 i2 d δ P':=by
 unfold iA at q ⊢
 split at q
 ·exact h _ q
 ·exact q
theorem ZM(xs ys:List Int):(fc (nums xs) (nums ys)).map D.sh=(xs.zip ys).map λz=>D.tup [.int z.1,.int z.2]:=by
 rw[Ny,iU,iU]
 unfold fc nums
 rw[KP,List.zip,Cd]
theorem ZN{p x y:Nat}(hp:p≠0)(hx:bl x<bl p):md (cl x y) p=(if y%2=1 then x else 0) ^^^ md (cl (if bl (2*x)=bl p then 2*x ^^^ p else 2*x) (y/2)) p:=by
 have e0:md (if y%2=1 then x else 0) p=(if y%2=1 then x else 0):=by
  split
  ·exact xq hx
  ·exact xq (by rw[kJ];exact fH hp)
 rw[Mg,Ab hp,e0]
 congr 1
 split
 ·rw[mU,Ab hp,Oi hp,jK]
 ·rfl
theorem ZO{p x:Nat}(hp:p≠0)(hx:bl x<bl p):bl (if bl (2*x)=bl p then 2*x ^^^ p else 2*x)<bl p:=by
 have h2:=Wm x
 have h0:=fH hp
 split
 ·rename_i h
  have n0:2*x≠0:=λz=>by rw[z,kJ]at h;omega
  have a1:=gJ (2*x)
  have a2:=gJ p
  have b1:=qW n0
  have b2:=qW hp
  rw[h]at a1 b1
  obtain⟨k,hk⟩:∃k,bl p=k+1:=⟨bl p-1,by omega⟩
  rw[hk]at a1 a2 b1 b2 ⊢
  have:=dn.mpr (L6 a1 a2 b1 b2)
  omega
 ·omega
end L3
namespace L3
open PySem L2 PySem.Spec PyProof.Rows
structure Ad(P:Program)(w:World)(K:PySem.W.Frag)(mg:Str->Option Value)(base:Heap)(n:Nat)(m:Str)(C:Addr)(sp:nq):Prop where
 cls:dS K C
 ex:∃f fd ps,Meth K C m f/\aO P w K mg base (kO P w) n f fd ps (wV sp)/\Binds K fd ps []
section
variable{X:Cx}{e o:Expr}{es:List Expr}{f m x:Str}{pos p apos:Pos}{to:aF}{ta:cj}{n:Nat}
noncomputable def pV(MO:Addr->nq->Prop)(m:Str)(to:aF)(ta:cj):aF:=λδ Q=>to δ λd ao=>∃C ns xs sp,d=.obj C ns xs/\MO C sp/\m ∉ ns/\ta ao λds aJ=>sp ((D.obj C ns xs::ds).map D.sh) (λr=>((D.obj C ns xs::ds).all D.pl||r.fr)=true/\Q r aJ) λ_=>False
theorem ZP{pl:Sem Bool}(ho:PE X o (lB to))(hr:bK n X.A)(ha:PA X (e::es) (lA ta))
  (cx:starEach (e::es) X.env=(false,eval e X.env)::starEach es X.env:=by rfl) (bE:(backTo pos (starEach es X.env)).any (·.1)=false:=by rfl)
  (ht:eval (.Call (.Attribute o m apos) (e::es) [] pos) X.env=(do
   let ov<-eval o X.env
   standAt apos.atName
   let (f,first)<-holding [ov] (getMethod ov m pl)
   callWith pos f first (backTo pos (starEach (e::es) X.env)) (backToKw pos (keywordEach [] X.env))):=by rfl) :
  PE X (.Call (.Attribute o m apos) (e::es) [] pos) (lE (pV (Ad X.prog X.w X.K X.mg X.base n m) m to ta)):=by
 intro pins s σ H Q I zz
 obtain⟨B,F,δ,ts,Qd,c,q,k⟩:=zz
 refine PySem.W.methodCall_KW (pl:=pl) (aH (ho pins s σ H (λx H1=>∃d ao F1,S F1 H1 [d] [x]/\ai B F1 H1 σ ao ts/\aa F F1/\aa H H1/\∃C ns xs sp,d=.obj C ns xs/\Ad X.prog X.w X.K X.mg X.base n m C sp/\m ∉ ns/\ta ao λds aJ=>sp ((D.obj C ns xs::ds).map D.sh) (λr=>((D.obj C ns xs::ds).all D.pl||r.fr)=true/\Qd r aJ) λ_=>False) I
  ⟨B,F,δ,ts,_,c,q,λd ao v F1 H1 hq f1 h1 c1 s1=>⟨d,ao,F1,s1,c1,f1,h1,hq⟩⟩) λu s1 ⟨x,H1,I1,rx,d,ao,F1,sd,c1,f1,h1,C,ns,xs,sp,ed,M,hm,hq⟩=>?_) ht
 subst ed
 obtain⟨a,dx,ws,rfl,ea,hl,r0⟩:=Er sd
 obtain rfl:u=dN a:=rx
 obtain⟨f,fd,ps,xi,FO,hb⟩:=M.ex
 refine CU I1 ea M.cls xi (N6 hm) ?_
 refine PySem.W.callWith_K (first:=[.ref a]) (h₀:=X.base) I.ok.mod.kA xi.kp (aH (ha pos pins s1 σ H1 (λvs H2=>∃ds aJ F2,S F2 H2 ds vs/\ai B F2 H2 σ aJ ts/\aa F1 F2/\aa H1 H2/\sp ((D.obj C ns xs::ds).map D.sh) (λr=>((D.obj C ns xs::ds).all D.pl||r.fr)=true/\Qd r aJ) λ_=>False) I1
  ⟨B,F1,ao,ts,_,c1,hq,λds aJ vs F2 H2 hq f2 h2 c2 s2=>⟨ds,aJ,F2,s2,c2,f2,h2,hq⟩⟩) λus s2 ⟨vs,H2,I2,r,ds,aJ,F2,Es,c2,f2,h2,gH⟩=>⟨I2.cE,?_⟩) cx bE
 refine za (us:=.ref a::us) (vs:=.ref a::vs) (dU:=[]) (D9 FO) hr hb .nil D8 I2 (.cons rfl r) ?_
 rw[jJ]
 exact zu (sp:=λds Q=>sp ds Q λ_=>False) c2 (.obj (h2 _ _ ea) hl (r0.shared f2 h2) Es) gH λd v F' H' hd hf hs c'=>k d aJ v F' H' hd (f1.trans (f2.trans hf)) (h1.trans (h2.trans hs)) c'
end
section
variable{X:Cx}{tb th:ck}{body YB:List Stmt}{YC:Stmt}{K:Str}{Kc:Addr}{kp YD pos:Pos}
end
structure Ox(K:PySem.W.Frag)(C:Addr):Prop where
 cls:dS K C
 ha:PySem.W.findIn K (.ref C) "__class__"=some (some (.builtin "object.__class__"))
 hn:PySem.W.specialIn K (.builtin "object.__class__") "__get__"=some (some (.builtin "getset_descriptor.__get__"))
 CV:PySem.W.takesIn K (.builtin "object.__class__")=some true
 hm:PySem.W.mroIn K C (.type "object")=some true
end L3
namespace L3
open PySem L2 Mf
theorem Oy{m:Bool × Nat}(hm:m∈aK){a b:Nat}(a1:1<=a)(a2:a<ag m)(b1:1<=b)(b2:b<ag m):∃r:Nat,pw m ((lg m a-lg m b)%((ag m:Int)-1)).toNat=r/\r<ag m/\gm m r b=a:=by
 have hF:=dE hm
 have kG:=hF.lo
 have n0:=iM (lg m a-lg m b) (show(ag m:Int)-1≠0 by omega)
 have n1:=iN (lg m a-lg m b) (show(0:Int)<(ag m:Int)-1 by omega)
 obtain⟨p1,p2,p3⟩:=Ez hm (k:=((lg m a-lg m b)%((ag m:Int)-1)).toNat) (by omega)
 obtain⟨g0,g1,g2⟩:=EA hm a1 a2
 refine⟨(pw m ((lg m a-lg m b)%((ag m:Int)-1)).toNat).toNat,by omega,by omega,?_⟩
 have e:=Ou hm (a:=(pw m ((lg m a-lg m b)%((ag m:Int)-1)).toNat).toNat) (by omega) (by omega) b1 b2
 rw[p3,yz n0,Int.emod_add_emod,Int.sub_add_cancel,Int.emod_eq_of_lt g0 g1,g2]at e
 omega
end L3
namespace L3
open PySem L2 PySem.Spec PyProof.Rows
section
variable{X:Cx}{e o a:Expr}{es:List Expr}{f m y:Str}{pos p apos q:Pos}{t to ta':aF}{ta:cj}{n:Nat}{P:Program}{w:World}{K:PySem.W.Frag}{mg:Str->Option Value}{base:Heap}
theorem nF(he:PE X e (lB t))(hK:K=X.K:=by rfl)(hb:attributeBase e f X.env (eval e X.env)=eval e X.env:=by rfl):PE X (.Attribute e f pos) (lB (pS K t f)):=by
 subst hK;exact Zt he hb
theorem EB{pl:Sem Bool}(ho:PE X o (lB to))(hr:bK n X.A)(ha:PA X (e::es) (lA ta))(hP:P=X.prog:=by rfl)(hw:w=X.w:=by rfl)(hK:K=X.K:=by rfl)(hm:mg=X.mg:=by rfl)(hb:base=X.base:=by rfl)
  (cx:starEach (e::es) X.env=(false,eval e X.env)::starEach es X.env:=by rfl) (bE:(backTo pos (starEach es X.env)).any (·.1)=false:=by rfl)
  (ht:eval (.Call (.Attribute o m apos) (e::es) [] pos) X.env=(do
   let ov<-eval o X.env
   standAt apos.atName
   let (f,first)<-holding [ov] (getMethod ov m pl)
   callWith pos f first (backTo pos (starEach (e::es) X.env)) (backToKw pos (keywordEach [] X.env))):=by rfl) :
  PE X (.Call (.Attribute o m apos) (e::es) [] pos) (lE (pU (xh P w K mg base n m) m to ta)):=by
 subst hP hw hK hm hb;exact Zu ho hr ha cx bE ht
theorem ZQ{pl:Sem Bool}(ho:PE X o (lB to))(hr:bK n X.A)(ha:PA X (e::es) (lA ta))(hP:P=X.prog:=by rfl)(hw:w=X.w:=by rfl)(hK:K=X.K:=by rfl)(hm:mg=X.mg:=by rfl)(hb:base=X.base:=by rfl)
  (cx:starEach (e::es) X.env=(false,eval e X.env)::starEach es X.env:=by rfl) (bE:(backTo pos (starEach es X.env)).any (·.1)=false:=by rfl)
  (ht:eval (.Call (.Attribute o m apos) (e::es) [] pos) X.env=(do
   let ov<-eval o X.env
   standAt apos.atName
   let (f,first)<-holding [ov] (getMethod ov m pl)
   callWith pos f first (backTo pos (starEach (e::es) X.env)) (backToKw pos (keywordEach [] X.env))):=by rfl) :
  PE X (.Call (.Attribute o m apos) (e::es) [] pos) (lE (pV (Ad P w K mg base n m) m to ta)):=by
 subst hP hw hK hm hb;exact ZP ho hr ha cx bE ht
end
theorem EC:∀m∈Mf.aK,1<=Mf.bl m.2/\Mf.bl m.2<=7:=by decide +kernel
end L3
namespace L3
open PySem L2 Mf
noncomputable def gp(m:Bool × Nat)(a b:Nat):Nat:=if m.1 then a ^^^ b else(a+b)%m.2
noncomputable def gl(m:Bool × Nat)(a b:Nat):Int:=if m.1 then(a ^^^ b:Nat)else((a:Int)-b)%m.2
noncomputable def gd(m:Bool × Nat)(xs ys:List Nat):Nat:=(fj (gm m) xs ys).foldl (gp m) 0
noncomputable def nG(c:Int):Bool × Nat:=if c%2=0 then(true,fS.getD (c/2%21).toNat 0)else(false,lF.getD (c/2%18).toNat 0)
theorem ZR(c:Int):nG c∈aK:=by
 unfold nG
 split
 ·refine eU _ (cn.mpr ⟨_,?_,rfl⟩)
  have h:(c/2%21).toNat<fS.length:=by
   have:=iN (c/2) (show(0:Int)<21 by decide)
   show _<21
   omega
  rw[aQ,aP h]
  exact fi _
 ·refine dz _ (cn.mpr ⟨_,?_,rfl⟩)
  have h:(c/2%18).toNat<lF.length:=by
   have:=iN (c/2) (show(0:Int)<18 by decide)
   show _<18
   omega
  rw[aQ,aP h]
  exact fi _
noncomputable def cF(m:Bool × Nat):D:=.tup [.bl m.1,.int m.2]
theorem Ae(cb cp:Addr)(m:Bool × Nat):fD cb cp m=.obj (if m.1 then cb else cp) (if m.1 then fU "bits"++[("products":Str)]else fU "prime") (if m.1 then pD (true,m.2)++[.lst false (tu (fl (true,m.2)) (di (fl (true,m.2))))]else pD (false,m.2)):=by
 obtain⟨k,n⟩:=m
 cases k<;>rfl
theorem ZS(m:Bool × Nat)(x:Str)(h:x ∉ (["bits","prime","many","wide","powers","logs","step","products"]:List Str)):x ∉ (if m.1 then fU "bits"++[("products":Str)]else fU "prime"):=by
 obtain⟨k,n⟩:=m
 intro z
 apply h
 cases k
 ·have z:x∈fU "prime":=z
  simp[fU]at z
  simp only[bJ]
  rcases z with z | z | z | z | z | z<;>simp[z]
 ·have z:x∈fU "bits"++[("products":Str)]:=z
  simp[fU]at z
  simp only[bJ]
  rcases z with z | z | z | z | z | z | z<;>simp[z]
theorem ZT(cb cp:Addr)(m:Bool × Nat):(fD cb cp m).sh=fD cb cp m:=by rw[Ae];rfl
theorem ZU(cb cp:Addr)(m:Bool × Nat):(fD cb cp m).pl=true:=by rw[Ae];rfl
theorem ZV(m:Bool × Nat):(cF m).sh=cF m:=rfl
theorem ZW(m:Bool × Nat):(cF m).pl=true:=rfl
theorem ED(m:Bool × Nat)(a b:Nat):gp m a b=gp m b a:=by
 unfold gp
 split
 ·rw[Kx]
 ·rw[Nat.add_comm]
theorem ZX(m:Bool × Nat)(a b c:Nat):gp m (gp m a b) c=gp m a (gp m b c):=by
 unfold gp
 split
 ·rw[n5]
 ·rw[Ce,Nat.add_mod_mod,Nat.add_assoc]
theorem ZY{m:Bool × Nat}(h:0<m.2)(a b c:Nat):gm m (gp m a b) c=gp m (gm m a c) (gm m b c):=by
 unfold gm gp
 split
 ·rw[mU,Ab (by omega)]
 ·rw[u6,KS,<- u6,Nat.add_mul,Ce,Nat.add_mod_mod]
theorem ZZ{m:Bool × Nat}(h:0<m.2)(a b c:Nat):gm m c (gp m a b)=gp m (gm m c a) (gm m c b):=by rw[jy,ZY h,jy m a,jy m b]
theorem Z0:∀m∈aK,m.1=true->2<=bl m.2:=by decide +kernel
theorem Z1{m:Bool × Nat}(hm:m∈aK){a b:Nat}(ha:a<ag m)(hb:b<ag m):gp m a b<ag m:=by
 have h0:=dj m hm
 obtain⟨k,n⟩:=m
 cases k with
 | true=>exact qY ha hb
 | false=>exact oa _ h0
theorem eT{m:Bool × Nat}(hm:m∈aK)(a b:Nat):gm m a b<ag m:=by
 have h0:=dj m hm
 obtain⟨k,n⟩:=m
 cases k with
 | true =>
  have h2:=Z0 (true,n) hm rfl
  have:=(vJ (show n≠0 by have:0<n:=h0;omega) (cl a b)).2
  refine(Ol rfl).mpr ?_
  show bl (md (cl a b) n)<=bl n-1
  omega
 | false=>exact oa _ h0
theorem Oz{m:Bool × Nat}{a:Nat}(ha:a<ag m):gp m 0 a=a:=by
 obtain⟨k,n⟩:=m
 cases k with
 | true=>exact mC a
 | false=>show(0+a)%n=a;rw[Nat.zero_add];exact yy ha
theorem Z2{m:Bool × Nat}{a:Nat}(ha:a<ag m):gp m a 0=a:=by rw[ED];exact Oz ha
theorem Z3{m:Bool × Nat}(hm:m∈aK){a b:Nat}(ha:a<ag m)(hb:b<ag m):∃r:Nat,gl m a b=r/\r<ag m/\gp m r b=a:=by
 have h0:=dj m hm
 obtain⟨k,n⟩:=m
 cases k with
 | true=>exact⟨a ^^^ b,rfl,qY ha hb,by show a ^^^ b ^^^ b=a;rw[n5,yu,jK]⟩
 | false =>
  have h0:0<n:=h0
  have ha:a<n:=ha
  have hb:b<n:=hb
  refine⟨(a+(n-b))%n,?_,oa _ h0,?_⟩
  ·show((a:Int)-b)%n=_
   rw[qE,Cf,Int.natCast_sub (by omega),show((a:Int)+((n:Int)-b))=((a:Int)-b)+n by omega,Int.add_emod_right]
  ·show((a+(n-b))%n+b)%n=a
   rw[Ce,show a+(n-b)+b=a+n by omega,Nat.add_mod_right,yy ha]
end L3
namespace L2
open PySem PySem.Spec PyProof.Rows
section
variable{X:Cx}{a:Expr}{ta:TA}{p pos:Pos}{tg:Expr}
end
end L2
namespace L3
open PySem L2 PySem.Spec PyProof.Rows
section
variable{F H:Hp}{K:PySem.W.Frag}{p:Addr}{ws:List V}{xs:List D}
end
section
variable{X:Cx}{a:Expr}{ta:cj}{p pos:Pos}{tg:Expr}
end
end L3
namespace L3
open PySem L2 Mf
noncomputable def px(m:Bool × Nat)(x:Nat):Nat->Nat
 | 0=>1
 | k+1=>gm m (px m x k) x
noncomputable def AllLt(n:Nat)(l:List Nat):Prop:=∀a∈l,a<n
theorem AllLt.getD{n:Nat}{l:List Nat}(h:AllLt n l)(h0:0<n)(k:Nat):l.getD k 0<n:=by
 rw[aQ]
 cases e:l[k]? with
 | none=>exact h0
 | some v=>exact h v (qu e)
end L3
namespace L3
open PySem L2 PySem.Spec PyProof.Rows
theorem Z4(n:Nat)(l:List Nat):(aA l).all (aI n)=true:=by
 rw[fQ,n9,dg]
 intro a _
 exact sH n _
theorem EE(n:Nat)(o:Bool)(l:List Nat):aI (n+1) (.lst o (aA l))=true:=Z4 n l
theorem xt(o o':Bool)(a b:List Nat):bx (.lst o (aA a)) (.lst o' (aA b))=decide (a=b):=by
 unfold aA
 rw[sI]
 congr 1
 apply propext
 constructor
 ·intro h
  have:=congrArg (Cc yA) h
  have e:(yA ∘ λ(n:Nat)=>(n:Int))=id:=by funext x;rfl
  rw[dk,dk,e,KU,KU]at this
  exact this
 ·intro h;rw[h]
theorem tE{l:List Nat}{k:Int}(h0:0<=k)(h:k.toNat<l.length):dm (aA l) k=some (.int ((l.getD k.toNat 0:Nat):Int)):=by
 refine mQ h0 ?_
 rw[fQ,cY,aP h,aQ,aP h];rfl
theorem Z5{n:Nat}{k:Int}(h0:0<=k)(h:k.toNat<n):fG n k=some k.toNat:=by
 unfold fG
 rw[if_pos h0,if_pos (by omega)]
theorem Af{n:Nat}(k:Int)(h:k=n):(((aR k.toNat).map λ(k:Nat)=>D.int (0+(k:Int))).map D.sh)=(aR n).map λ(i:Nat)=>D.int (i:Int):=by
 subst h
 rw[vV,eE]
 simp
theorem OA{n nn:Nat}{k:Int}(h:k=n)(hn:n<=1000000){δ:Dl}{Q:D->Dl->Prop}(q:Q (.lst true (aA (bh n 0))) δ):o6 true ((aR k.toNat).map λ(k:Nat)=>D.int (0+(k:Int))) [] nn (gN 0) js (dC (D.int 0)) δ Q:=by
 refine gx (aR n) (λ(i:Nat)=>D.int (i:Int)) (λ_=>D.int ((0:Nat):Int)) (Af _ h) nt (λk hk=>?_) (.inr λ_ _=>rfl) (by rw[dR,sL];omega) ?_
 ·exact rfl
 ·rw[show((aR n).map λ_=>D.int ((0:Nat):Int))=aA (bh n 0) by rw[fQ,List.map_replicate,List.map_const',dR]]
  exact q
theorem Z6(l:List Nat):(aA l).all D.fr=true:=pI _
theorem OB(o:Bool)(l:List Nat):(D.lst o (aA l)).sh=.lst false (aA l):=by rw[dX,sT]
theorem pW(l:List Nat):(D.lst true (aA l)).fr=true:=by rw[fK,Z6];rfl
theorem Z7{xs:List D}{i:Nat}{d:D}(h:(eN xs)[i]?=some d):∃hi:i<xs.length,d=.tup [.int i,xs[i]]:=by
 have hi:i<(eN xs).length:=(g9.mp h).1
 rw[pK]at hi
 refine⟨hi,?_⟩
 unfold eN at h
 rw[yx,aP hi]at h
 exact(cW h).symm
theorem Z8{l:List Nat}{i:Nat}{d:D}(h:(eN (aA l))[i]?=some d):∃hi:i<l.length,d=.tup [.int i,.int (l[i]:Nat)]:=by
 obtain⟨hi,e⟩:=Z7 h
 rw[iB]at hi
 refine⟨hi,?_⟩
 rw[e]
 simp only[fQ,qG]
section
variable{X:Cx}
noncomputable def pX:iz:=λds Q=>match ds with
 | [.int i]=>Q (.int i)
 | [.bl b]=>Q (.int (if b then 1 else 0))
 | _=>False
theorem Z9:gu X (.type "int") pX:=gu.of UK λvs H Q zz=>by
 obtain⟨B,F,σ,δ,ts,ds,Qd,c,s,q,k⟩:=zz
 unfold pX at q
 split at q
 ·obtain⟨v,rfl,s1⟩:=iT s
  cases s1
  exact .inl ⟨_,rfl,k _ _ _ q (aa.refl _) (c.pushS (.int .nil) rfl)⟩
 ·obtain⟨v,rfl,s1⟩:=iT s
  cases s1
  exact .inr ⟨_,rfl,k _ _ _ q (aa.refl _) (c.pushS (.int .nil) rfl)⟩
 ·exact q.elim
end
end L3
namespace L3
open PySem L2 Mf
noncomputable def cG(m:Bool × Nat)(a b:Nat):Nat:=(gl m a b).toNat
theorem tF{m:Bool × Nat}(hm:m∈aK){a b:Nat}(ha:a<ag m)(hb:b<ag m):gl m a b=(cG m a b:Nat)/\cG m a b<ag m/\gp m (cG m a b) b=a:=by
 obtain⟨r,e,h1,h2⟩:=Z3 hm ha hb
 have:cG m a b=r:=by unfold cG;rw[e];rfl
 rw[this]
 exact⟨e,h1,h2⟩
theorem OC{n:Nat}{f:Nat->Nat->Nat}:∀{a b:List Nat},(∀x∈a,∀y∈b,f x y<n)->AllLt n (fj f a b)
 | [],_,_=>by intro x hx;simp at hx
 | _::_,[],_=>by intro x hx;simp at hx
 | x::a,y::b,h=>by
  intro z hz
  rw[List.zipWith_cons_cons]at hz
  rcases bJ.mp hz with rfl | hz
  ·exact h x (by simp) y (by simp)
  ·exact OC (λx hx y hy=>h x (by simp[hx]) y (by simp[hy])) z hz
theorem γ(xs ys:List Nat):(fc (aA xs) (aA ys)).map D.sh=(xs.zip ys).map λz=>D.tup [.int (z.1:Int),.int (z.2:Int)]:=by
 unfold aA
 rw[ZM,List.zip_map,dk];rfl
theorem OD{sh:Bool}{aq:List (Str × Nat)}{n i1 i2:Nat}{te:aF}{ao:Dl}{Q:D->Dl->Prop}(f:Nat->Nat->Nat){A B:List Nat}(hx:∀x∈A,∀y∈B,iA i1 i2 (.tup [.int (x:Int),.int (y:Int)]) (eS aq n ao) λaJ=>te aJ λd _=>d=.int ((f x y:Nat):Int))
  (hl:A.length<=100000) (hq:Q (.lst true (aA (fj f A B))) ao):o6 sh (fc (aA A) (aA B)) aq n (iA i1 i2) js te ao Q:=by
 refine ZK (A.zip B) (λz=>D.tup [.int (z.1:Int),.int (z.2:Int)]) (λz=>D.int ((f z.1 z.2:Nat):Int)) (γ A B) (λa b h=>?_) (λz hz=>hx z.1 (yl hz).1 z.2 (yl hz).2) ZL (.inr λ_ _=>rfl) (by rw[List.length_zip,sL];omega) ?_
 ·injection h with h
  simp at h
  exact Prod.ext (by omega) (by omega)
 ·rw[show((A.zip B).map λz=>D.int ((f z.1 z.2:Nat):Int))=aA (fj f A B) by rw[fQ,List.zip,Cd,Cd]]
  exact hq
end L3
namespace L3
open PySem L2 PySem.Spec PyProof.Rows
theorem ai.ε{B:Bs}{F H:Hp}{σ:L2.St}{δ:Dl}{ps ts:List (D × V)}{p:Addr}{o:HO}{A1:List Addr}(c:ai B F H σ δ (ps++ts))(hp:H p=none)(r:R F (upd H p o) (ps.map (·.1)) (ps.map (·.2)) A1):p ∉ A1:=λh=>by
 obtain⟨A,C,r0,_,_,_⟩:=c.own
 rw[mE,mE]at r0
 obtain⟨v1,v2,B1,B2,e,rfl,h1,h2⟩:=R.split r0
 have l1:(ps.map (·.2)).length=v1.length:=by rw[<-h1.length];simp
 obtain⟨rfl,rfl⟩:=u4 e l1
 have g1:=h1.grow (aa.refl F) (aa.upd (o:=o) hp) λa ha=>(h1.lists a ha).2
 have:A1=B1:=R.inj r g1
 subst this
 obtain⟨ws,e⟩:=(h1.lists p h).1
 rw[hp]at e;cases e
theorem ai.join{B:Bs}{F H:Hp}{σ:L2.St}{δ:Dl}{ts:List (D × V)}{p p' r:Addr}{xs ys:List D}{ws df:List V}(c:ai B F H σ δ ((.lst true ys,.ref p')::(.lst true xs,.ref p)::ts))(e1:H p=some (.lst ws))(e2:H p'=some (.lst df))(hr:H r=none) :
  ai B F (upd H r (.lst (ws++df))) σ δ ((.lst true (xs++ys),.ref r)::ts):=by
 refine ai.pack (ps:=[(.lst true ys,.ref p'),(.lst true xs,.ref p)]) c (aa.upd hr) λA1 r1 nd=>?_
 have ζ:=ai.ε (ps:=[(.lst true ys,.ref p'),(.lst true xs,.ref p)]) (ts:=ts) c hr r1
 have n1:p≠r:=λz=>by rw[z,hr]at e1;cases e1
 have n2:p'≠r:=λz=>by rw[z,hr]at e2;cases e2
 have r1:R F (upd H r (.lst (ws++df))) [.lst true ys,.lst true xs] [.ref p',.ref p] A1:=r1
 cases r1 with
 | @own _ wy _ Ay _ _ By hy fy ry rb =>
  cases rb with
  | @own _ wx _ Ax _ _ Bx hx fx rx rc =>
   cases rc
   rw[aM n2,e2]at hy;cases hy
   rw[aM n1,e1]at hx;cases hx
   refine⟨r::(Ax++Ay),by simpa using R.own bO (c.ext.free hr) (rx.append ry) .nil,?_,λa ha=>?_⟩
   ·refine fZ.mpr ⟨λz=>ζ ?_,?_⟩
    ·rcases bP.mp z with z | z<;>simp[z]
    ·have sl:(Ay++Ax).Sublist (p'::Ay++(p::Ax++[])):=by
      rw[jJ]
      exact(((SN p Ax).append_left Ay).trans (SN p' _))
     exact mD.nodup_iff.mp (nd.sublist sl)
   ·simp only[bJ,bP]at ha ⊢
    rcases ha with rfl | ha | ha
    ·exact .inr hr
    ·simp[ha]
    ·simp[ha]
section
variable{X:Cx}{a b:Expr}{ta tb:aF}{pos:Pos}
noncomputable def tG(ta tb:aF):aF:=λδ Q=>ta δ λx ao=>tb ao λy aJ=>∃xs ys,x=.lst true xs/\y=.lst true ys/\xs.length+ys.length<=sizeLine/\Q (.lst true (xs++ys)) aJ
theorem η(ha:PE X a (lE ta))(hb:PE X b (lE tb)):PE X (.BinOp a .Add b pos) (lE (tG ta tb)) :=
 cR (vy LY ha hb) λσ H Q ⟨B,F,δ,ts,Qd,c,q,k⟩ =>
  ⟨B,F,δ,ts,_,c,q,λx ao v F1 H1 q1 f1 h1 c1=>⟨B,F1,ao,(x,v)::ts,_,c1,q1,λy aJ w F2 H2 q2 f2 h2 c2=>by
   obtain⟨xs,ys,rfl,rfl,hz,hq⟩:=q2
   obtain⟨p',df,rfl,e2,s2⟩:=fM c2.top c2.ext
   obtain⟨p,ws,rfl,e1,s1⟩:=fM c2.pop.top c2.ext
   refine⟨p,p',ws,df,rfl,rfl,e1,e2,by rw[<-s1.length,<- s2.length];exact hz,λr hr=>?_⟩
   exact k _ aJ _ F2 _ hq (f1.trans f2) ((h1.trans h2).trans (aa.upd hr)) (c2.join e1 e2 hr)⟩⟩
end
theorem θ{a b:List Nat}(h:aA a=aA b):a=b:=by
 have:=xt true true a b
 rw[h,show bx (D.lst true (aA b)) (D.lst true (aA b))=true from(xt _ _ _ _).trans (decide_eq_true rfl)]at this
 exact of_decide_eq_true this.symm
theorem xu{o:Bool}(a b:List Nat)(h:D.lst o (aA a)=D.lst o (aA b)):a=b:=θ (by injection h)
end L3
namespace L3
open PySem L2 Mf
end L3
namespace L2
open PySem PySem.Spec PyProof.Rows
end L2
namespace L3
open PySem L2 PySem.Spec PyProof.Rows Mf
theorem OE{l:List Nat}{x k:Nat}(h:k<l.length):(l++[x]).getD k 0=l.getD k 0:=by
 rw[aQ,uX h,aQ]
end L3
namespace L3
open PySem L2 Mf
noncomputable def cf(l:List Nat)(k:Nat):Nat:=l.getD k 0
theorem lK{l:List Nat}{k:Nat}(h:l.length<=k):cf l k=0:=by
 unfold cf;rw[aQ,i4 h];rfl
theorem fe{m:Bool × Nat}(hm:m∈aK){l:List Nat}(h:AllLt (ag m) l)(k:Nat):cf l k<ag m:=h.getD (by have:=(dE hm).lo;omega) k
theorem cm7(a:Nat)(l:List Nat)(k:Nat):cf (a::l) (k+1)=cf l k:=rfl
theorem OF(m:Bool × Nat)(x:Nat):cG m x x=0:=by
 obtain⟨k,n⟩:=m
 cases k with
 | true=>show(((x ^^^ x:Nat):Int)).toNat=0;rw[yu];rfl
 | false=>show(((x:Int)-(x:Int))%(n:Int)).toNat=0;rw[Int.sub_self,Int.zero_emod];rfl
end L3
namespace L3
open PySem L2 PySem.Spec PyProof.Rows
section
variable{B:Bs}{F H:Hp}{σ:L2.St}{δ:Dl}{ts ps:List (D × V)}{i k:Nat}{p q:Addr}{l1 l2 ys oQ:List D}{ws fO:List V}
end
section
variable{X:Cx}{F H:Hp}{e b:Expr}{pos p p2 p3 pr apos bM zH:Pos}{t ti te:aF}{x y:Str}{i j:Nat}
end
end L3
namespace L3
structure Rg(N:Nat)(p q:Nat->Nat->Nat):Prop where
 pc:∀a b,p a b=p b a
 pa:∀a b c,p (p a b) c=p a (p b c)
 mc:∀a b,q a b=q b a
 ma:∀{a b c},a<N->b<N->c<N->q (q a b) c=q a (q b c)
 dl:∀a b c,q a (p b c)=p (q a b) (q a c)
 z:∀{a},a<N->p 0 a=a
 qz:∀a,q a 0=0
 one:∀{a},a<N->q 1 a=a
 lp:∀{a b},a<N->b<N->p a b<N
 lq:∀a b,q a b<N
 ng:∀{a},a<N->∃b,b<N/\p a b=0
section
variable{N:Nat}{p q:Nat->Nat->Nat}
noncomputable def sm(p:Nat->Nat->Nat):Nat->(Nat->Nat)->Nat
 | 0,_=>0
 | n+1,f=>p (sm p n f) (f n)
theorem Rg.pos(r:Rg N p q):0<N:=kr (iZ _) (r.lq 0 0)
theorem Rg.z'(r:Rg N p q){a:Nat}(h:a<N):p a 0=a:=by rw[r.pc];exact r.z h
theorem Rg.ι(r:Rg N p q){a b c:Nat}(ha:a<N)(hb:b<N)(hc:c<N)(h:p a c=p b c):a=b:=by
 obtain⟨d,_,e⟩:=r.ng hc
 have:=congrArg (λx=>p x d) h
 simp only[r.pa,e]at this
 rw[r.z' ha,r.z' hb]at this
 exact this
theorem du{f g:Nat->Nat}:∀{n:Nat},(∀j,j<n->f j=g j)->sm p n f=sm p n g
 | 0,_=>rfl
 | n+1,h=>by rw[sm,sm,du λj hj=>h j (by omega),h n (by omega)]
theorem nH(r:Rg N p q){f:Nat->Nat}:∀{n:Nat},(∀j,j<n->f j<N)->sm p n f<N
 | 0,_=>r.pos
 | n+1,h=>r.lp (nH r λj hj=>h j (by omega)) (h n (by omega))
theorem iD(r:Rg N p q){f:Nat->Nat}:∀{n:Nat},(∀j,j<n->f j=0)->sm p n f=0
 | 0,_=>rfl
 | n+1,h=>by rw[sm,iD r λj hj=>h j (by omega),h n (by omega)];exact r.z r.pos
theorem Rg.four(r:Rg N p q)(a b c d:Nat):p (p a b) (p c d)=p (p a c) (p b d):=by
 rw[r.pa,r.pa,<- r.pa b,<- r.pa c,r.pc b c]
theorem nJ(r:Rg N p q)(f g:Nat->Nat):∀n,sm p n (λj=>p (f j) (g j))=p (sm p n f) (sm p n g)
 | 0=>(r.z r.pos).symm
 | n+1=>by rw[sm,nJ r f g n,sm,sm,r.four]
theorem nK(r:Rg N p q)(c:Nat)(f:Nat->Nat):∀n,sm p n (λj=>q c (f j))=q c (sm p n f)
 | 0=>(r.qz c).symm
 | n+1=>by rw[sm,nK r c f n,sm,r.dl]
theorem EF(r:Rg N p q)(F:Nat->Nat->Nat)(k:Nat):∀n,sm p n (λi=>sm p k λj=>F i j)=sm p k λj=>sm p n λi=>F i j
 | 0=>(iD r λ_ _=>rfl).symm
 | n+1=>by
  rw[sm,EF r F k n,<- nJ r];rfl
theorem Ag(r:Rg N p q){f:Nat->Nat}(n:Nat):∀k,(∀j,j<n+k->f j<N)->sm p (n+k) f=p (sm p n f) (sm p k λj=>f (n+j))
 | 0,h=>(r.z' (nH r λj hj=>h j (by omega))).symm
 | k+1,h=>by
  rw[<-Nat.add_assoc,sm,Ag r n k λj hj=>h j (by omega),sm,r.pa]
theorem OG(r:Rg N p q){f:Nat->Nat}{n n':Nat}(hn:n<=n')(h:∀j,j<n'->f j<N)(hz:∀j,n<=j->j<n'->f j=0):sm p n' f=sm p n f:=by
 obtain⟨k,rfl⟩:=SO hn
 rw[Ag r n k h,iD r (f:=λj=>f (n+j)) λj hj=>hz _ (by omega) (by omega),r.z' (nH r λj hj=>h j (by omega))]
noncomputable def ds(p q:Nat->Nat->Nat)(s c:Nat->Nat)(n:Nat):Nat:=sm p (n+1) λj=>q (c j) (s (n-j))
theorem μ(r:Rg N p q)(s c:Nat->Nat)(n:Nat):ds p q s c n<N:=nH r λj _=>r.lq _ _
noncomputable def fB(k:Nat)(b:Nat->Nat)(j:Nat):Nat:=if j<k then 0 else b (j-k)
theorem OH(r:Rg N p q)(s b:Nat->Nat){k n:Nat}(h:k<=n):ds p q s (fB k b) n=ds p q s b (n-k):=by
 unfold ds
 obtain⟨d,rfl⟩:=SO h
 rw[show k+d+1=k+(d+1) by omega,Ag r k (d+1) λj _=>r.lq _ _,iD r (n:=k),r.z (nH r λj _=>r.lq _ _)]
 ·rw[Ci]
  refine du λj _=>?_
  unfold fB
  rw[if_neg (by omega),Ci,show k+d-(k+j)=d-j by omega]
 ·intro j hj
  unfold fB
  rw[if_pos hj,r.mc,r.qz]
structure BI(N:Nat)(p q:Nat->Nat->Nat)(s:Nat->Nat)(n L:Nat)(c b:Nat->Nat)(o:Nat):Prop where
 c0:c 0=1
 cz:∀j,L<j->c j=0
 cl:∀j,c j<N
 ln:L<=n
 kp:∀i,L<=i->i<n->ds p q s c i=0
 mn:∀L1 c1,c1 0=1->(∀j,L1<j->c1 j=0)->(∀j,c1 j<N)->(∀i,L1<=i->i<n->ds p q s c1 i=0)->L<=L1
 b0:b 0=0
 bz:∀j,n+1-L<j->b j=0
 bl:∀j,b j<N
 bk:∀i,n+1-L<=i->i<n->ds p q s b i=0
 bo:n+1-L<=n->ds p q s b n=o
theorem OI(r:Rg N p q){b:Nat->Nat}(h:∀j,b j<N)(j:Nat):fB 1 b j<N:=by
 unfold fB
 split
 ·exact r.pos
 ·exact h _
theorem OJ{b:Nat->Nat}{n:Nat}(h:∀j,n<j->b j=0)(j:Nat)(hj:n+1<j):fB 1 b j=0:=by
 unfold fB
 rw[if_neg (by omega)]
 exact h _ (by omega)
theorem BI.same(r:Rg N p q){s c b:Nat->Nat}{n L o:Nat}(I:BI N p q s n L c b o)(h:ds p q s c n=0):BI N p q s (n+1) L c (fB 1 b) o where
 c0:=I.c0
 cz:=I.cz
 cl:=I.cl
 ln:=by have:=I.ln;omega
 kp:=λi h1 h2=>by
  by_cases e:i=n
  ·rw[e];exact h
  ·exact I.kp i h1 (by omega)
 mn:=λL1 c1 h1 h2 h3 h4=>I.mn L1 c1 h1 h2 h3 λi a b=>h4 i a (by omega)
 b0:=rfl
 bz:=λj hj=>OJ I.bz j (by have:=I.ln;omega)
 bl:=OI r I.bl
 bk:=λi h1 h2=>by
  have:=I.ln
  rw[OH r s b (show 1<=i by omega)]
  exact I.bk _ (by omega) (by omega)
 bo:=λh1=>by
  rw[OH r s b (by omega)]
  exact I.bo (by have:=I.ln;omega)
end
end L3
namespace L3
section
variable{N:Nat}{p q:Nat->Nat->Nat}
theorem OK{s:Nat->Nat}{j n:Nat}(h:n<j):fB j s n=0:=if_pos h
theorem xv(s:Nat->Nat){j n:Nat}(h:j<=n):fB j s n=s (n-j):=if_neg (by omega)
theorem Rg.zq(r:Rg N p q)(a:Nat):q 0 a=0:=by rw[r.mc];exact r.qz a
theorem Ah(r:Rg N p q)(s c:Nat->Nat){n M:Nat}(h:n<M):ds p q s c n=sm p M λj=>q (c j) (fB j s n):=by
 unfold ds
 rw[OG r (show n+1<=M by omega) (λj _=>r.lq _ _) λj h1 _=>by rw[OK (by omega),r.qz]]
 exact du λj hj=>by rw[xv s (by omega)]
theorem ν(r:Rg N p q)(s a b:Nat->Nat)(n:Nat):ds p q s (λj=>p (a j) (b j)) n=p (ds p q s a n) (ds p q s b n):=by
 unfold ds
 rw[<-nJ r]
 exact du λj _=>by rw[r.mc (p _ _),r.dl,r.mc (a j),r.mc (b j)]
theorem ξ(r:Rg N p q)(s t c:Nat->Nat)(n:Nat):ds p q (λj=>p (s j) (t j)) c n=p (ds p q s c n) (ds p q t c n):=by
 unfold ds
 rw[<-nJ r]
 exact du λj _=>r.dl _ _ _
theorem ο(r:Rg N p q){a b s:Nat->Nat}(ha:∀j,a j<N)(hb:∀j,b j<N)(hs:∀j,s j<N)(n:Nat):ds p q s (ds p q b a) n=ds p q (ds p q s b) a n:=by
 have mS:∀(s:Nat->Nat) (k j:Nat),(∀j,s j<N)->fB k s j<N:=λs k j h=>by
  unfold fB
  split
  ·exact r.pos
  ·exact h _
 rw[Ah r (ds p q s b) a (qq n),Ah r s (ds p q b a) (qq n)]
 have e1:sm p (n+1) (λk=>q (ds p q b a k) (fB k s n))=sm p (n+1) λk=>sm p (n+1) λi=>q (a i) (q (fB i b k) (fB k s n)):=du λk hk=>by
  rw[Ah r b a hk,r.mc,<- nK r]
  exact du λi _=>by rw[r.mc,r.ma (ha i) (mS b i k hb) (mS s k n hs)]
 rw[e1,EF r]
 refine du λi hi=>?_
 rw[nK r (a i)]
 congr 1
 rw[xv _ (by omega),Ah r s b (show n-i<n+1-i by omega),show n+1=i+(n+1-i) by omega,Ag r i _ λj _=>r.lq _ _,iD r (n:=i) λj hj=>by rw[OK hj,r.zq]]
 rw[r.z (nH r λj _=>r.lq _ _),Ci]
 refine du λj hj=>?_
 rw[xv b (by omega),Ci,xv s (by omega),xv s (by omega),show n-(i+j)=n-i-j by omega]
theorem π(r:Rg N p q){u s:Nat->Nat}{d e:Nat}(hu:∀j,d<=j->u j=0)(hs:∀j,e<=j->s j=0)(n:Nat)(h:d+e<=n):ds p q s u n=0:=iD r λj _=>by
 by_cases h1:d<=j
 ·rw[hu j h1,r.zq]
 ·rw[hs _ (by omega),r.qz]
noncomputable def Mk(N:Nat)(p q:Nat->Nat->Nat)(a r0 r1:Nat->Nat):Prop:=∃(u0 u1:Nat->Nat) (d:Nat),(∀j,u0 j<N)/\(∀j,u1 j<N)/\(∀j,d<=j->u0 j=0)/\(∀j,d<=j->u1 j=0)/\∀k,a k=p (ds p q r0 u0 k) (ds p q r1 u1 k)
theorem Mk.next(r:Rg N p q){a r0 r1 r2 t:Nat->Nat}{e:Nat}(h:Mk N p q a r0 r1)(l1:∀j,r1 j<N)(lt:∀j,t j<N)(ft:∀j,e<=j->t j=0)(h2:∀k,r0 k=p (ds p q r1 t k) (r2 k)):Mk N p q a r1 r2:=by
 obtain⟨u0,u1,d,a1,a2,a3,a4,a5⟩:=h
 refine⟨λj=>p (ds p q t u0 j) (u1 j),u0,d+e,λj=>r.lp (μ r _ _ _) (a2 j),a1,λj hj=>?_,λj hj=>a3 j (by omega),λk=>?_⟩
 ·show p (ds p q t u0 j) (u1 j)=0
  rw[π r a3 ft j hj,a4 j (by omega)];exact r.z r.pos
 ·rw[a5 k,ν r,ο r a1 lt l1,show r0=λk=>p (ds p q r1 t k) (r2 k) from funext h2,ξ r,r.pa,r.pa,r.pc (ds p q r2 u0 k)]
end
end L3
namespace L3
open PySem L2 Mf
theorem rg{m:Bool × Nat}(hm:m∈aK):Rg (ag m) (gp m) (gm m) where
 pc:=ED m
 pa:=ZX m
 mc:=jy m
 ma:=λ_ _ _=>j9 (dj m hm) _ _ _
 dl:=λa b c=>ZZ (dj m hm) b c a
 z:=Oz
 qz:=λa=>tD m a (dj m hm)
 one:=lJ
 lp:=Z1 hm
 lq:=eT hm
 ng:=λ{a} ha=>by
  have g:=tF hm (a:=0) (b:=a) (by omega) ha
  exact⟨_,g.2.1,(ED m _ _).trans g.2.2⟩
theorem ρ(p:Nat->Nat->Nat)(l:List Nat):l.foldl p 0=sm p l.length λj=>l.getD j 0:=by
 have key:∀n,n<=l.length->(l.take n).foldl p 0=sm p n λj=>l.getD j 0:=by
  intro n
  induction n with
  | zero=>intro _;rfl
  | succ n ih =>
   intro h
   rw[List.take_add_one,aP (by omega),KW,ih (by omega),sm,aQ,aP (show n<l.length by omega)]
   rfl
 have:=key l.length (aX _)
 rw[List.take_length]at this
 exact this
theorem τ{m:Bool × Nat}(hm:m∈aK)(f:Nat)(b:List Nat)(j:Nat):cf (b.map (gm m f)) j=gm m f (cf b j):=by
 unfold cf
 rw[aQ,cY,aQ]
 cases b[j]? with
 | none=>exact(tD m f (dj m hm)).symm
 | some x=>rfl
theorem OL{m:Bool × Nat}(hm:m∈aK){a b:Nat}(ha:a<ag m)(hb:b<ag m)(h0:b≠0):∃r,r<ag m/\gm m r b=a:=by
 by_cases a0:a=0
 ·exact⟨0,by have:=(dE hm).lo;omega,by rw[a0];exact iV m b (dj m hm)⟩
 ·obtain⟨r,_,h1,h2⟩:=Oy hm (show 1<=a by omega) ha (show 1<=b by omega) hb
  exact⟨r,h1,h2⟩
theorem EG{p q:Nat->Nat->Nat}{s s' c:Nat->Nat}{n:Nat}(h:∀j,j<n+1->s j=s' j):ds p q s c n=ds p q s' c n:=du λj hj=>by rw[h (n-j) (by omega)]
theorem BI.other{N:Nat}{p q:Nat->Nat->Nat}(r:Rg N p q){s s' c b:Nat->Nat}{n L o:Nat}(I:BI N p q s n L c b o)(h:∀j,j<n->s j=s' j):BI N p q s' n L c b o where
 c0:=I.c0
 cz:=I.cz
 cl:=I.cl
 ln:=I.ln
 kp:=λi h1 h2=>by rw[<-EG λj hj=>h j (by omega)];exact I.kp i h1 h2
 mn:=λL1 c1 h1 h2 h3 h4=>I.mn L1 c1 h1 h2 h3 λi a b=>by rw[EG λj hj=>h j (by omega)];exact h4 i a b
 b0:=I.b0
 bz:=I.bz
 bl:=I.bl
 bk:=λi h1 h2=>by rw[<-EG λj hj=>h j (by omega)];exact I.bk i h1 h2
 bo:=λh1=>by
  rw[<-I.bo h1]
  refine du λj hj=>?_
  by_cases e:j=0
  ·rw[e,I.b0,r.mc,r.qz,r.mc,r.qz]
  ·rw[h (n-j) (by omega)]
theorem BI.start{m:Bool × Nat}(hm:m∈aK)(s:Nat->Nat):BI (ag m) (gp m) (gm m) s 0 0 (cf [1]) (fB 1 (cf [1])) 1:=by
 have lo:=(dE hm).lo
 have cl:∀j,cf [1] j<ag m:=λj=>by
  cases j with
  | zero=>exact lo
  | succ j=>exact cq (show 0<2 by decide) lo
 have cz:∀j,0<j->cf [1] j=0:=λj hj=>lK (show([1]:List Nat).length<=j from hj)
 exact⟨rfl,cz,cl,aX _,λi _ h=>absurd h (yB i),λ_ _ _ _ _ _=>iZ _,rfl,λj hj=>OJ cz j hj,OI (rg hm) cl,λi _ h=>absurd h (yB i),λh=>absurd h (by omega)⟩
end L3
namespace L3
open PySem L2 PySem.Spec PyProof.Rows
section
variable{X:Cx}{i j:Nat}{x y:Str}{p pos pos' apos bM:Pos}
end
section
variable{X:Cx}{e:Expr}{t:aF}{p pos:Pos}
end
section
variable{X:Cx}
end
end L3
namespace L3
open PySem L2 Mf
noncomputable def aN(o:Bool)(T:List (List Nat)):List D:=T.map λr=>.lst o (aA r)
theorem lM(o:Bool)(T:List (List Nat)):(aN o T).length=T.length:=by unfold aN;rw[bU]
theorem fV(o:Bool)(T:List (List Nat)):(aN o T).map D.sh=aN false T:=by
 unfold aN
 rw[dk]
 exact qD λr _=>OB o r
theorem xw(T:List (List Nat)):(aN false T).all D.pl=true:=by
 unfold aN
 rw[n9,dg]
 intro r _
 show(D.lst false (aA r)).pl=true
 rw[gM,nu];rfl
theorem EH(T:List (List Nat)):(aN true T).all D.fr=true:=by
 unfold aN
 rw[n9,dg]
 intro r _
 exact pW r
theorem xx(o:Bool)(S T:List (List Nat)):aN o S++aN o T=aN o (S++T):=by unfold aN;rw[mE]
theorem xy(o:Bool)(T:List (List Nat))(lo hi:Option Int):et (aN o T) lo hi=aN o (et T lo hi):=by
 unfold aN et
 rw[bU,KL,KJ]
theorem Ai(o:Bool){T:List (List Nat)}{i:Nat}(h:i<T.length):dm (aN o T) (i:Int)=some (.lst o (aA T[i])):=by
 refine L3.zb ?_
 unfold aN
 rw[cY,aP h];rfl
theorem υ(n:Nat)(o:Bool)(T:List (List Nat)):(aN o T).all (aI (n+1))=true:=by
 unfold aN
 rw[n9,dg]
 intro r _
 exact EE _ _ _
theorem fC(n:Nat)(o o':Bool)(T:List (List Nat)):aI (n+2) (.lst o (aN o' T))=true:=υ n o' T
theorem OM(o o':Bool):∀(a b:List (List Nat)),bx.eM (aN o a) (aN o' b)=decide (a=b)
 | [],[]=>rfl
 | [],_::_=>by simp[aN,bx.eM]
 | _::_,[]=>by simp[aN,bx.eM]
 | x::xs,y::ys=>by
  show(bx (.lst o (aA x)) (.lst o' (aA y))&&bx.eM (aN o xs) (aN o' ys))=_
  rw[OM o o' xs ys,xt,yv];simp
theorem lN(o o' o1 o2:Bool)(a b:List (List Nat)):bx (.lst o (aN o1 a)) (.lst o' (aN o2 b))=decide (a=b):=OM o1 o2 a b
open Classical in
theorem χ{α:Type}{sh:Bool}{xs:List D}{aq:List (Str × Nat)}{n:Nat}{g0:fL}{tt:e7}{te:aF}{ao:Dl}{Q:D->Dl->Prop}(l:List α)(e g:α->D)(kp:α->Bool)(gW:xs.map D.sh=l.map e)(inj:∀a b,e a=e b->a=b)
  (hx:∀a∈l,g0 (e a) (eS aq n ao) λaJ=>tt aJ λb gq=>b=kp a/\(kp a=true->te gq λd _=>d=g a)) (dq:(sh&&aq.all (gR ao))=true\/∀a∈l,kp a=true->(g a).fr=true) (hl:l.length<=sizeLine) (hq:Q (.lst true ((l.filter kp).map g)) ao):o6 sh xs aq n g0 tt te ao Q:=by
 have pick:∀{β:Type} (h:α->β) (z:β),∃f:D->β,∀a∈l,f (e a)=h a:=λh z=>⟨λx=>if w:∃a∈l,e a=x then h w.choose else z,λa ha=>by
  have w:∃b∈l,e b=e a:=⟨a,ha,rfl⟩
  show(if w:∃b∈l,e b=e a then h w.choose else z)=h a
  rw[dif_pos w]
  exact congrArg h (inj _ _ w.choose_spec.2)⟩
 obtain⟨f,hf⟩:=pick g .ak
 obtain⟨p,hp⟩:=pick kp false
 refine⟨p,f,λx h=>?_,dq.imp id λh x cQ=>?_,?_,?_⟩
 ·rw[gW]at h
  obtain⟨a,ha,rfl⟩:=cn.mp h
  rw[hp a ha,hf a ha]
  exact hx a ha
 ·rw[gW]at cQ
  obtain⟨a,ha,rfl⟩:=cn.mp cQ
  rw[hp a ha,hf a ha];exact h a ha
 ·have:=congrArg BU gW
  simp at this
  omega
 ·rw[gW,List.filter_map,dk,show l.filter (p ∘ e)=l.filter kp from List.filter_congr λa ha=>hp a ha,show(l.filter kp).map (f ∘ e)=(l.filter kp).map g from qD λa ha=>hf a (yg.mp ha).1]
  exact hq
theorem ω{o:Bool}{G:List (List Nat)}{i:Nat}{d:D}(h:(eN (aN o G))[i]?=some d):∃hi:i<G.length,d=.tup [.int i,.lst o (aA G[i])]:=by
 unfold eN aN at h
 rw[yx,cY]at h
 by_cases hi:i<G.length
 ·rw[aP hi]at h
  exact⟨hi,(cW h).symm⟩
 ·rw[i4 (by omega)]at h;cases h
theorem Δ(r:List Nat):(eN (aA r)).map D.sh=(aR r.length).map λ(i:Nat)=>D.tup [.int (i:Int),.int ((r.getD i 0:Nat):Int)]:=by
 apply Cb
 intro i
 unfold eN
 rw[fQ,cY,yx,cY,cY]
 by_cases hi:i<r.length
 ·have e:r.getD i 0=r[i]:=by rw[aQ,aP hi];rfl
  rw[aP hi,mF hi]
  show _=some (D.tup [D.int (i:Int),D.int ((r.getD i 0:Nat):Int)])
  rw[e];rfl
 ·rw[i4 (show r.length<=i by omega),i4 (show(aR r.length).length<=i by simpa using hi)];rfl
theorem Θ{r:List Nat}(h:∃x∈r,x≠0):((aR r.length).filter λi=>r.getD i 0 != 0)[0]?=some (r.findIdx (· != 0)):=by
 obtain⟨x,hx,h0⟩:=h
 have hl:r.findIdx (· != 0)<r.length:=List.findIdx_lt_length_of_exists ⟨x,hx,by simpa using h0⟩
 rw[<-List.head?_eq_getElem?,List.head?_filter,List.find?_range_eq_some]
 refine⟨?_,dO.mpr hl,λj hj=>?_⟩
 ·rw[aQ,aP hl]
  exact List.findIdx_getElem (w:=hl)
 ·have:=List.not_of_lt_findIdx hj
  rw[aQ,aP (by omega)]
  simpa using this
noncomputable def dv(T:List (List Nat)):Nat:=(T.headD []).length
noncomputable def iF(T:List (List Nat))(j:Nat):Option Nat:=T.findIdx? λr=>r.getD j 0 != 0
noncomputable def ff(m:Bool × Nat)(T:List (List Nat))(l:List Nat)(j:Nat):List (List Nat):=T.map λr=>fj (λx y=>cG m x (gm m (r.getD j 0) y)) r l
noncomputable def xA(m:Bool × Nat)(b:Nat):Nat:=((aR (ag m)).find? λr=>gm m r b==1).getD 0
theorem ON{m:Bool × Nat}(hm:m∈aK){b r:Nat}(hr:r<ag m)(h:gm m r b=1):xA m b=r:=by
 have m0:=dj m hm
 unfold xA
 cases e:(aR (ag m)).find? λr=>gm m r b==1 with
 | none =>
  have:=List.find?_eq_none.mp e r (dO.mpr hr)
  simp[h]at this
 | some r' =>
  have h':gm m r' b=1:=by simpa using List.find?_some e
  have l':r'<ag m:=dO.mp (SI e)
  show r'=r
  rw[<-tw hr,<- h',<- j9 m0,jy m r r',j9 m0,h,tw l']
noncomputable def RT(N w:Nat)(T:List (List Nat)):Prop:=∀r∈T,r.length=w/\AllLt N r
theorem RT.app{N w:Nat}{S T:List (List Nat)}(a:RT N w S)(b:RT N w T):RT N w (S++T):=λr hr=>(bP.mp hr).elim (a r) (b r)
theorem OO{m:Bool × Nat}(hm:m∈aK){w j:Nat}{T:List (List Nat)}{l:List Nat}(h:RT (ag m) w T)(hl:l.length=w):RT (ag m) w (ff m T l j):=λr hr=>by
 obtain⟨r,h1,rfl⟩:=cn.mp hr
 obtain⟨a,b⟩:=h r h1
 exact⟨by rw[yC,a,hl,B9],OC λx hx y hy=>(tF hm (b x hx) (eT hm _ y)).2.1⟩
noncomputable def cU(m:Bool × Nat)(T:List (List Nat))(i p:Nat):List Nat:=(T.getD i []).map (gm m (xA m ((T.getD i []).getD p 0)))
noncomputable def fW(m:Bool × Nat)(s:List (List Nat) × List (List Nat))(p:Nat):List (List Nat) × List (List Nat):=match iF s.2 p with
 | none=>s
 | some i=>(ff m s.1 (cU m s.2 i p) p++[cU m s.2 i p],ff m (s.2.take i++s.2.drop (i+1)) (cU m s.2 i p) p)
noncomputable def iG(m:Bool × Nat)(G:List (List Nat))(k:Nat):List (List Nat) × List (List Nat):=(aR k).foldl (fW m) ([],G)
noncomputable def iH(m:Bool × Nat)(G:List (List Nat)):List (List Nat):=(iG m G (dv G)).1
theorem EI(m:Bool × Nat)(G:List (List Nat))(k:Nat):iG m G (k+1)=fW m (iG m G k) k:=by
 unfold iG
 rw[List.range_succ,KW];rfl
theorem Aj{T:List (List Nat)}{j i:Nat}(h:iF T j=some i):∃hi:i<T.length,T[i].getD j 0≠0/\T.getD i []=T[i]:=by
 obtain⟨hi,h1,_⟩:=KY.mp h
 exact⟨hi,by simpa using h1,by rw[aQ,aP hi];rfl⟩
structure xB(N w n:Nat)(s:List (List Nat) × List (List Nat)):Prop where
 a:RT N w s.1
 b:RT N w s.2
 l:s.1.length+s.2.length<=n
theorem Λ{m:Bool × Nat}(hm:m∈aK){w n p:Nat}{s:List (List Nat) × List (List Nat)}(h:xB (ag m) w n s):xB (ag m) w n (fW m s p):=by
 unfold fW
 split
 ·exact h
 ·rename_i i e
  obtain⟨hi,h1,h2⟩:=Aj e
  have hl:(cU m s.2 i p).length=w:=by unfold cU;rw[bU,h2];exact(h.b _ (fi hi)).1
  have hr:RT (ag m) w [cU m s.2 i p]:=λr hr=>by
   rw[eF]at hr
   refine⟨by rw[hr];exact hl,λx hx=>?_⟩
   rw[hr]at hx
   obtain⟨y,_,rfl⟩:=cn.mp hx
   exact eT hm _ _
  refine⟨(OO hm h.a hl).app hr,OO hm (λr hr=>h.b r ?_) hl,?_⟩
  ·rcases bP.mp hr with hr | hr
   ·exact yw hr
   ·exact Ca hr
  ·have:=h.l
   unfold ff
   rw[fh,bU,bU,fh,mw,my]
   show s.1.length+1+_<=n
   omega
theorem Ak{m:Bool × Nat}(hm:m∈aK){w:Nat}{G:List (List Nat)}(h:RT (ag m) w G):∀k,xB (ag m) w G.length (iG m G k)
 | 0=>⟨(λr hr=>nomatch hr),h,yj (Nat.zero_add _)⟩
 | k+1=>by rw[EI];exact Λ hm (Ak hm h k)
end L3
namespace L2
open PySem PySem.Spec PyProof.Rows
theorem Ξ{M:Model}{A:Around}{E:Value->Shared->Prop}{s:Shared}{scope:Scope}{globals:Addr}{cl:List (Str × Addr)}{qual:Str}{env:Env}{bi:Addr}{Q:Env->Shared->Prop}
  (hQ:Q (newEnv scope s.heap.objs.size globals (cellsFrom (s.heap.objs.size+1) scope.names cl) qual none .none (some env) bi) { s with heap:=pushCells (s.heap.push { cls:=.type "dict",data:=.dict #[] }) scope.names }) :
  wpAny M A (newFunctionEnv scope globals cl [] qual none .none (some env) bi) Q E s:=by
 simp only[newFunctionEnv,Option.isSome_some,if_true]
 refine wpAny_bind (wpAny_alloc (wpAny_bind (wpAny_layCells _ (λname kind cells=>by cases e:kind==Cj<;>simp[e]) _ _ _ _ ?_)))
 rw[List.forIn_nil]
 refine wpAny_bind (wpAny_pure (wpAny_pure ?_))
 have z:({ s with heap:=s.heap.push { cls:=.type "dict",data:=.dict #[] } }:Shared).heap.objs.size=s.heap.objs.size+1:=jI ..
 rw[z]
 exact hQ
theorem xC:∀(ns:List (Str × NameKind)) (n:Nat) (acc:List (Str × Addr)) (y:Str) (c:Addr),(cellsFrom n ns acc).lookup y=some c->(n<=c/\(y,Cj)∈ns)\/acc.lookup y=some c
 | [],_,_,_,_,h=>.inr h
 | (z,k)::r,n,acc,y,c,h=>by
  unfold cellsFrom at h
  split at h
  ·rename_i hk
   rcases xC r (n+1) _ y c h with⟨h1,h2⟩ | h1
   ·exact .inl ⟨by omega,fF _ h2⟩
   ·rw[eV]at h1
    cases q:y==z with
    | true =>
     rw[q]at h1;cases h1
     exact .inl ⟨aX _,by rw[eq_of_beq q,eq_of_beq hk];exact mm⟩
    | false=>rw[q]at h1;exact .inr h1
  ·rcases xC r n acc y c h with⟨h1,h2⟩ | h1
   ·exact .inl ⟨h1,fF _ h2⟩
   ·exact .inr h1
theorem EJ:∀(ns:List (Str × NameKind)) (n:Nat) (acc:List (Str × Addr)),(∀y z c,acc.lookup y=some c->acc.lookup z=some c->y=z)->(∀y c,acc.lookup y=some c->c<n) ->
  ∀y z c,(cellsFrom n ns acc).lookup y=some c->(cellsFrom n ns acc).lookup z=some c->y=z
 | [],_,_,i,_,y,z,c,h1,h2=>i y z c h1 h2
 | (u,k)::r,n,acc,i,b,y,z,c,h1,h2=>by
  unfold cellsFrom at h1 h2
  split at h1
  ·rw[if_pos (by assumption)]at h2
   refine EJ r (n+1) ((u,n)::acc) (λy z c e1 e2=>?_) (λy c e=>?_) y z c h1 h2
   ·rw[eV]at e1 e2
    cases q1:y==u with
    | true =>
     rw[q1]at e1;cases e1
     cases q2:z==u with
     | true=>rw[eq_of_beq q1,eq_of_beq q2]
     | false=>rw[q2]at e2;exact absurd (b _ _ e2) (fE _)
    | false =>
     rw[q1]at e1
     cases q2:z==u with
     | true=>rw[q2]at e2;cases e2;exact absurd (b _ _ e1) (fE _)
     | false=>rw[q2]at e2;exact i y z c e1 e2
   ·rw[eV]at e
    cases q:y==u with
    | true=>rw[q]at e;cases e;exact qq _
    | false=>rw[q]at e;exact u7 (b _ _ e)
  ·rw[if_neg (by assumption)]at h2
   exact EJ r n acc i b y z c h1 h2
theorem EK:∀(ns:List (Str × NameKind)) (n:Nat) (acc:List (Str × Addr)) (y:Str) (c:Addr),(y,Cj)∈ns->(cellsFrom n ns acc).lookup y=some c->n<=c
 | [],_,_,_,_,m,_=>nomatch m
 | (z,k)::r,n,acc,y,c,m,h=>by
  unfold cellsFrom at h
  split at h
  ·rename_i hk
   rcases bJ.mp m with e | m
   ·have e1:y=z:=(Prod.mk.inj e).1
    rcases xC r (n+1) _ y c h with⟨h1,_⟩ | h1
    ·exact yD h1
    ·rw[eV,e1,beq_self_eq_true]at h1
     exact yj (cW h1)
   ·exact yD (EK r (n+1) _ y c m h)
  ·rename_i hk
   rcases bJ.mp m with e | m
   ·cases e;exact absurd rfl hk
   ·exact EK r n acc y c m h
noncomputable def cV(X:Cx)(scope:Scope)(N:List Str)(cl:List (Str × Addr))(C:Addr)(s:Shared)(H:Hp)(fp:List Addr):Cx :=
 { zf X scope N (cellsFrom (C+1) scope.names cl) C s H fp with fn:=λy=>scope.names.contains (y,Cj) }
section
variable{X:Cx}{scope:Scope}{cl:List (Str × Addr)}
theorem Φ{pins:List (Addr × Obj)}{σ:St}{H:Hp}{s:Shared}{fp:List Addr}{C:Addr}(I:Inv X pins σ H s)(gI:scope.kind=.function)(hC:s.heap.objs.size<=C)
  (fA:∀y c,cl.lookup y=some c->X.env.cells.lookup y=some c) (Ψ:∀y,((relabel scope X.env).names.lookup y=some .cell\/(relabel scope X.env).names.lookup y=some .free)->∃c,(cellsFrom (C+1) scope.names cl).lookup y=some c)
  (hf:∀b∈fp,gE X pins H b) (ho:∀b∈fp,∃o,s.heap.get? b=some o/\∀v,o.data≠.cell v) (N:List Str):(cV X scope N cl C s H fp).Ok where
 mod:=I.ok.mod
 kind:=gI
 glob:=I.ok.glob
 blt:=I.ok.blt
 above:=hC
 inj:=EJ scope.names (C+1) cl (λy z c h1 h2=>I.ok.inj y z c (fA _ _ h1) (fA _ _ h2)) λy c e=>by
  obtain⟨v,o,ho,_⟩:=I.cell y c (fA y c e)
  exact Nat.lt_succ_of_le (nV (cq (bf ho) hC))
 has:=Ψ
 oq:=λy c h e=>dP hC (yD (EK _ _ _ y c (KZ.mp h) e))
 hd:=I.ok.hd
 frames:=I.ok.frames
 vh:=.inl rfl
 vi:=λb hb=>⟨by
  obtain⟨o,e,_⟩:=ho b hb
  exact cI (cq (bf e) hC),λy c e z=>by
  rcases xC _ _ _ y c e with⟨h1,_⟩ | h1
  ·obtain⟨o,e,_⟩:=ho b hb
   rw[z]at h1
   exact absurd (cq (bf e) (dP hC (yD h1))) (fE _)
  ·exact(hf b hb).2.2.2.2.1 y c (fA _ _ h1) z⟩
 bs:=I.bs
 gC:=dP I.ok.gC I.sz
 qK:=λb o e hb=>by
  rcases(hf b hb).2.2.2.1 with z | z
  ·exact I.ok.qK b o e z
  ·exact absurd (cq (bf (I.ok.bs b o e).1) z) (fE _)
 qL:=λb hb z=>(bJ.mp (I.vk b z)).elim (hf b hb).2.1 (hf b hb).2.2.1
 eX:=I.stack
 ib:=I.yS
end
theorem EL:∀(ns:List (Str × NameKind)) (h:Heap) (acc:List (Str × Addr)) (y:Str) (c:Addr),(cellsFrom h.objs.size ns acc).lookup y=some c->(∃o,(pushCells h ns).get? c=some o/\o.data=.cell none)\/acc.lookup y=some c
 | [],_,_,_,_,e=>.inr e
 | (z,k)::r,h,acc,y,c,e=>by
  unfold cellsFrom at e
  unfold pushCells
  split at e
  ·rename_i hk
   rw[if_pos hk]
   rw[<-jI h { cls:=.type "cell",data:=.cell none }]at e
   rcases EL r _ _ y c e with h1 | h1
   ·exact .inl h1
   ·rw[eV]at h1
    cases q:y==z with
    | true =>
     rw[q]at h1;cases h1
     exact .inl ⟨_,pushCells_keeps _ _ _ _ (cX _ rfl),rfl⟩
    | false=>rw[q]at h1;exact .inr h1
  ·rename_i hk
   rw[if_neg hk]
   exact EL r h acc y c e
end L2
namespace L2
open PySem PySem.Spec PyProof.Rows
section
variable{X:Cx}{elt iter tg:Expr}{pos:Pos}{ifs:List Expr}{scope:Scope}{cl:List (Str × Addr)}{wi:TI}{tt:TT}{te:TE}{g:TG}
theorem OP(aq:List (Str × Nat))(bH:List Str)(hc:X.calm=true)(hi:PI X tg iter wi)
  (hg:∀C s H fp,PG (cV X scope (aq.map (·.1)++bH) cl C s H fp) tg g)
  (ht:∀C s H fp,kL (cV X scope (aq.map (·.1)++bH) cl C s H fp) ifs tt) (he:∀C s H fp,PE (cV X scope (aq.map (·.1)++bH) cl C s H fp) elt te)
  (lQ:closureFor scope X.env=pure cl) (lR:kM X cl) (lU:∀C:Addr,kN (cellsFrom (C+1) scope.names cl) (relabel scope X.env).names) (lV:∀C:Addr,kK X scope (cellsFrom (C+1) scope.names cl) aq)
  (gI:scope.kind=.function) (lW:∀y∈scope.names,y.2=.local->scope.names.lookup y.1=some .local)
  (hs:∀x,foldedSetIterable iter X.env x=pure x:=by intro _;rfl) {pins:List (Addr × Obj)} {s:Shared} {σ:L2.St} {H:Hp} {Q:VK} {use:Option (Value->Sem Unit)} {bM:Pos} {Rf:Value->Shared->Prop} (I:Inv X pins σ H s) (h:zh wi aq bH.length g tt te σ H Q)
  (Ω:∀(s':Shared) (H':Hp) (C Da:Addr) (m:Str->Option Value),Inv X pins σ H' s'->s'.heap.Ns C m->H' C=none->C≠X.env.locals->X.bQ.heap.objs.size<=C->(∀x c,X.env.cells.lookup x=some c->c≠C)->(∀p∈X.pn++pins,p.1≠C)->C ∉ X.fs->Q (.ref Da) H' ->
   compPost (model X.prog X.w) X.A X.xe use Rf (.ref Da) C (.ok .next) s') :
  wpAny (model X.prog X.w) X.A (comprehension (.ListComp elt [⟨tg,iter,ifs,0⟩] scope pos) scope X.env bM (newList []) false (eval iter X.env) use) Rf X.xe s:=by
 have fA:=lR.all
 refine wpAny_comprehension_free (use:=use) rfl hs lQ gI lW (aH (hi pins s σ H _ I h) λv s1 h1=>aH h1 λCK s2 h2=>?_)
 obtain⟨it,fp,tn,J,H2,e,I2,T,vw,f2,q⟩:=h2
 subst e
 refine wpAny_newList ?_
 refine Ξ ?_
 have hD:H2 s2.heap.objs.size=none:=I2.ay.fresh (aX _)
 obtain⟨W,⟨m0,w0⟩,turn⟩:=q s2.heap.objs.size hD
 generalize EM:s2.heap.push { cls:=.type "list",data:=.seq ([]:List Value).toArray }=g0 at ⊢
 have hCs:g0.objs.size=s2.heap.objs.size+1:=by rw[<-EM,jI]
 have hDC:s2.heap.objs.size≠g0.objs.size:=by omega
 have hle:s2.heap.objs.size<=g0.objs.size:=by omega
 have qN:∀b o,s2.heap.get? b=some o->b≠g0.objs.size:=λb o e=>cI (cq (bf e) hle)
 obtain⟨g1,Al⟩:∃g1,g1=pushCells (g0.push { cls:=.type "dict",data:=.dict #[] }) scope.names:=⟨_,rfl⟩
 have ns1:g1.Ns g0.objs.size (λ_=>none):=by rw[Al];exact(Heap.Ns.new g0 (.type "dict")).keeps (pushCells_keeps _ _)
 have OQ:∀b o,g0.get? b=some o->g1.get? b=some o:=λb o e=>by rw[Al];exact pushCells_keeps _ _ b o (bY _ e)
 have old:∀b o,s2.heap.get? b=some o->g1.get? b=some o:=λb o e=>OQ b o (EM ▸ bY _ e)
 rw[<-Al]
 have hDg:g1.get? s2.heap.objs.size=some { cls:=.type "list",data:=.seq ([]:List Value).toArray }:=OQ _ _ (EM ▸ cX _ rfl)
 have OR:∀b∈fp,∃o,s2.heap.get? b=some o/\∀v,o.data≠.cell v:=T.obj _ _ vw
 have Am:=Φ (scope:=scope) (cl:=cl) (C:=g0.objs.size) I2 gI hle fA (lU g0.objs.size).all f2 OR (aq.map (·.1)++bH)
 have I4:Inv (cV X scope (aq.map (·.1)++bH) cl g0.objs.size s2 H2 fp) [] (fJ aq bH.length σ) (upd H2 s2.heap.objs.size (.lst [])) { s2 with heap:=g1 }:=by
  refine⟨Am,rfl,I2.bare,Un.laid old (aX _) hD,⟨_,ns1,λi y v h1 h2 h3=>?_⟩,λy c e=>?_,?_,λy c e=>?_,λp hp=>absurd hp (by simp[cV,zf]),I2.ay.laid old (aX _) ⟨iZ _,[],0,.nil,hDg⟩,by simp[fJ,cV,zf]⟩
  ·by_cases EN:i<aq.length
   case neg =>
    have ik:((aq.map λp=>(σ[p.2]?).getD none)++bh bH.length none)[i]?=some (some v):=h2
    rw[qt (by simpa using EN),ym]at ik
    split at ik<;>cases ik
   case pos =>
    have iQ:(aq.map (·.1))[i]?=some y:=by
     have z:(aq.map (·.1)++bH)[i]?=some y:=h1
     rwa [uX (by simpa using EN)]at z
    have ik:(aq.map λp=>(σ[p.2]?).getD none)[i]?=some (some v):=by
     have z:((aq.map λp=>(σ[p.2]?).getD none)++bh bH.length none)[i]?=some (some v):=h2
     rwa [uX (by simpa using EN)]at z
    rw[cY]at iQ ik
    cases hj:aq[i]? with
    | none=>rw[hj]at iQ;cases iQ
    | some p =>
     rw[hj]at iQ ik
     have ey:p.1=y:=cW iQ
     have ev:(σ[p.2]?).getD none=some v:=cW ik
     obtain⟨hN,hk,An,c,e1,e2⟩:=(lV g0.objs.size).at p (qu hj)
     obtain⟨m,hn,hl⟩:=I2.loc
     have es:σ[p.2]?=some (some v):=by
      cases z:σ[p.2]? with
      | none=>rw[z]at ev;cases ev
      | some o=>rw[z]at ev;exact congrArg some ev
     obtain⟨u,ru,lk⟩:=hl p.2 p.1 v hN es (hk.elim (λz=>.inr (.inl z)) λz=>.inr (.inr z))
     refine⟨u,ru,?_⟩
     rcases lk with⟨lk,_⟩ | ⟨_,c',e3,ic⟩
     ·rcases hk with hk | hk
      ·have:=hk.symm.trans lk;cases this
      ·have:=hk.symm.trans lk;cases this
     ·rw[e2]at e3
      cases e3
      subst ey
      obtain⟨oc,gD,Em⟩:=ic
      exact .inr ⟨An,c,e1,oc,old _ _ gD,Em⟩
  ·rcases EL _ _ _ y c (show(cellsFrom (g0.push { cls:=.type "dict",data:=.dict #[] }).objs.size scope.names cl).lookup y=some c by rw[jI];exact e)with h1 | h1
   ·rw[<-Al]at h1
    exact⟨none,h1⟩
   ·obtain⟨v,o,ho,hd⟩:=I2.cell y c (fA y c h1)
    exact⟨v,o,old _ _ ho,hd⟩
  ·show upd H2 _ _ g0.objs.size=none
   rw[aM (dy hDC)]
   exact I2.ay.fresh hle
  ·rcases xC _ _ _ y c e with⟨h1,_⟩ | h1
   ·rw[aM (yh (kr hle h1))]
    exact I2.ay.fresh (dP hle (yD h1))
   ·obtain⟨v,o,ho,hd⟩:=I2.cell y c (fA y c h1)
    rw[aM (cI (bf ho))]
    exact I2.gb y c (fA y c h1)
 have fin:∀(s':Shared) (H':Hp) (av:L2.St),Inv (cV X scope (aq.map (·.1)++bH) cl g0.objs.size s2 H2 fp) [] av H' s'->Q (.ref s2.heap.objs.size) H' ->
   compPost (model X.prog X.w) X.A X.xe use Rf (.ref s2.heap.objs.size) g0.objs.size (.ok .next) s':=by
  intro s' H' av I' q'
  obtain⟨m,hn,_⟩:=I'.loc
  have u:=I'.base
  have hC':H' g0.objs.size=none:=I'.free
  have IX:Inv X pins σ H' s':=I2.Tr (s':=s') (ch:=fp) I'.os ⟨u.keep,u.slot,u.free,u.there,u.fk,u.eW,u.eG⟩ I'.ay I'.bare λb hb=>by
   obtain⟨_,y1,y2,y3,y4,y5⟩:=f2 b hb
   exact⟨y3,y1,y4,y5⟩
  have OS:∀b,(∃o,s2.heap.get? b=some o)->b≠g0.objs.size:=λb ⟨o,e⟩=>qN b o e
  refine Ω s' H' g0.objs.size s2.heap.objs.size m IX hn hC' (λz=>?_) (dP I2.sz hle) (λx c e z=>?_) (λp hp z=>?_) (λz=>?_) q'
  ·have h0:X.env.locals<s2.heap.objs.size:=I2.lt
   rw[<-z]at h0
   exact fE _ (cq h0 hle)
  ·obtain⟨v,o,ho,_⟩:=I2.cell x c e
   exact OS c ⟨o,ho⟩ z
  ·exact OS p.1 ⟨_,(I2.pin p hp).1⟩ z
  ·exact I2.K8 hle z
 have EO:∀(H':Hp),(∀b∈fp,H' b=none)->∀b∈fp,gE (cV X scope (aq.map (·.1)++bH) cl g0.objs.size s2 H2 fp) [] H' b:=λH' hn b hb =>
  ⟨hn b hb,(Am.vi b hb).1,Am.qL b hb,.inl hb,(Am.vi b hb).2,λp hp=>absurd hp (by simp[cV,zf])⟩
 have loop:codeAny (model X.prog X.w) X.A (.compLoop (.ListComp elt [⟨tg,iter,ifs,0⟩] scope pos) 0 (.ref it) (.ref s2.heap.objs.size) (compEnvC scope (cellsFrom (g0.objs.size+1) scope.names cl) g0.objs.size X.env))
   (compPost (model X.prog X.w) X.A X.xe use Rf (.ref s2.heap.objs.size) g0.objs.size) { s2 with heap:=g1 }:=by
  refine WG (λn s'=>∃i acc H',Inv (cV X scope (aq.map (·.1)++bH) cl g0.objs.size s2 H2 fp) [] (fJ aq bH.length σ) H' s'/\tn i s'.heap/\(∀b∈fp,H' b=none)/\W i n acc H') ?_ m0
   ⟨0,[],_,I4,T.keep _ _ _ vw λb hb o e=>old b o e,λb hb=>?_,w0⟩
  ·rintro n s' ⟨i,acc,H',I',mO,ni,w'⟩
   obtain⟨o9,⟨stop,qn⟩ | ⟨go,step⟩⟩:=turn i n acc H' w'
   ·refine aH (T.done (cV X scope (aq.map (·.1)++bH) cl g0.objs.size s2 H2 fp) rfl rfl rfl hc i [] s' _ H' (λ_ _=>False) I' (EO H' ni) mO stop) λr t1 zz=>?_
    obtain⟨hr,I1⟩:=zz
    subst hr
    exact fin _ _ _ I1 qn
   ·refine aH (T.item (cV X scope (aq.map (·.1)++bH) cl g0.objs.size s2 H2 fp) rfl rfl rfl hc i [] s' _ H' (λ_ _=>False) I' (EO H' ni) mO go) λr t1 zz=>?_
    obtain⟨u,hr,h4⟩:=zz
    subst hr
    refine aH h4 λ_ t2 zz=>?_
    obtain⟨x5,H5,I5,r5,y5,oA,CN⟩:=zz
    obtain⟨zB,st6⟩:=step x5 H5 y5
    have CO:=I5.pinned (EO H5 CN) (T.obj _ _ oA)
    refine aH (hg _ _ _ _ _ t2 _ H5 x5 u _ CO r5 st6) λ_ t3 zz=>?_
    obtain⟨CP,H6,I6,⟨cw5,cw6⟩,st7⟩:=zz
    have back:∀(s7:Shared) (H7:Hp) (ER:List V) (m7:Nat),Inv (cV X scope (aq.map (·.1)++bH) cl g0.objs.size s2 H2 fp) ([]++vt fp t2.heap) CP H7 s7->W (i+1) m7 ER H7 ->
      ∃i acc H',Inv (cV X scope (aq.map (·.1)++bH) cl g0.objs.size s2 H2 fp) [] (fJ aq bH.length σ) H' s7/\tn i s7.heap/\(∀b∈fp,H' b=none)/\W i m7 acc H':=λs7 H7 ER m7 I7 w7 =>
     ⟨i+1,ER,H7,(I7.vv).weak cw5.symm λj v z=>by
       by_cases hj:j<aq.length
       ·rw[cw6 j hj];exact z
       ·have z':((aq.map λp=>(σ[p.2]?).getD none)++bh bH.length none)[j]?=some (some v):=z
        rw[qt (by simpa using hj),ym]at z'
        split at z'<;>(cases z'),
      T.keep _ _ _ oA λb hb o e=>(I7.pin (b,o) (dz _ (dz _ (y6 hb e)))).1,λb hb=>by
       obtain⟨o,e,d⟩:=T.obj _ _ oA b hb
       exact(I7.pin (b,o) (dz _ (dz _ (y6 hb e)))).2.1,w7⟩
    refine aH (ht _ _ _ _ _ t3 _ H6 _ I6 st7) λok t4 zz=>?_
    obtain⟨H7,I7,hD7,q7⟩:=zz
    cases ok with
    | false =>
     obtain⟨m',hm,w7⟩:=(show ∃m',m'<n/\W (i+1) m' acc H7 from q7)
     exact⟨m',hm,back t4 H7 acc m' I7 w7⟩
    | true =>
     refine aH (he _ _ _ _ _ t4 _ H7 _ I7 q7) λy t5 zz=>?_
     obtain⟨v8,H8,I8,r8,hD8,hl8,m',hm,w8⟩:=zz
     exact aH (LX _ t5 _ H8 (.ref s2.heap.objs.size) [v8] (.ref s2.heap.objs.size) [y] (λ_ H9=>H9=upd H8 s2.heap.objs.size (.lst (acc++[v8]))) I8 rfl (.cons r8 .nil) ⟨_,acc,v8,rfl,rfl,hD8,hl8,rfl⟩) λ_ t6 zz=>by
      obtain⟨_,H9,I9,_,e9⟩:=zz
      subst e9
      exact⟨m',hm,back t6 _ _ m' I9 w8⟩
  ·obtain⟨o,e,_⟩:=OR b hb
   rw[aM (cI (bf e))]
   exact(f2 b hb).1
 exact codeAny_compStart_list loop (T.self _ 0 _ _ _ (T.keep _ _ _ vw λb hb o e=>old b o e) loop)
theorem bP8(aq:List (Str × Nat))(bH:List Str)(hc:X.calm=true)(hi:PI X tg iter wi)
  (hg:∀C s H fp,PG (cV X scope (aq.map (·.1)++bH) cl C s H fp) tg g)
  (ht:∀C s H fp,kL (cV X scope (aq.map (·.1)++bH) cl C s H fp) ifs tt) (he:∀C s H fp,PE (cV X scope (aq.map (·.1)++bH) cl C s H fp) elt te)
  (lQ:closureFor scope X.env=pure cl) (lR:kM X cl) (lU:∀C:Addr,kN (cellsFrom (C+1) scope.names cl) (relabel scope X.env).names) (lV:∀C:Addr,kK X scope (cellsFrom (C+1) scope.names cl) aq)
  (gI:scope.kind=.function) (lW:∀y∈scope.names,y.2=.local->scope.names.lookup y.1=some .local)
  (hs:∀x,foldedSetIterable iter X.env x=pure x:=by intro _;rfl):PE X (.ListComp elt [⟨tg,iter,ifs,0⟩] scope pos) (zh wi aq bH.length g tt te):=by
 intro pins s σ H Q I h
 rw[eval_ListComp]
 refine OP aq bH hc hi hg ht he lQ lR lU lV gI lW hs I h λs' H' C Da m IX hn hC hL h1 h2 h3 h4 q'=>?_
 exact⟨m,hn,λh' sb=>⟨.ref Da,H',IX.turned (t':=s'.toks) (λb o hb e=>sb.extBut b o hb e) hC hL (.inr h1) h2 h3,rfl,q'⟩⟩
theorem bQ9{i:Nat}{x:Str}{pos' apos:Pos}(hN:X.N.Nodup)(nr:X.N[i]?=some x)(hx:Loc X.env.scope x)(hf:X.fn x=true\/X.env.scope.names.lookup x=some .local)(aq:List (Str × Nat))(bH:List Str)(hc:X.calm=true)(hi:PI X tg iter wi)
  (hg:∀C s H fp,PG (cV X scope (aq.map (·.1)++bH) cl C s H fp) tg g)
  (ht:∀C s H fp,kL (cV X scope (aq.map (·.1)++bH) cl C s H fp) ifs tt) (he:∀C s H fp,PE (cV X scope (aq.map (·.1)++bH) cl C s H fp) elt te)
  (lQ:closureFor scope X.env=pure cl) (lR:kM X cl) (lU:∀C:Addr,kN (cellsFrom (C+1) scope.names cl) (relabel scope X.env).names) (lV:∀C:Addr,kK X scope (cellsFrom (C+1) scope.names cl) aq)
  (gI:scope.kind=.function) (lW:∀y∈scope.names,y.2=.local->scope.names.lookup y.1=some .local)
  (pG:swapsWith (.ListComp elt [⟨tg,iter,ifs,0⟩] scope pos) (some (.Name x pos')) apos.line X.env=pure true) (hs:∀x,foldedSetIterable iter X.env x=pure x:=by intro _;rfl):PS X (.Assign [.Name x pos'] (.ListComp elt [⟨tg,iter,ifs,0⟩] scope pos) apos) (CJ (zh wi aq bH.length g tt te) (yY i)):=by
 intro pins s σ H D I h
 rw[exec_Assign_Name_used x pos' _ apos pG]
 refine wpAny_bind (wpAny_standAt (wpAny_bind ?_))
 have hh:zh wi aq bH.length g tt te σ H λv H1=>D.nx (σ.set i (some v)) H1:=h
 show wpAny _ _ (comprehension (.ListComp elt [⟨tg,iter,ifs,0⟩] scope pos) scope X.env (firstIterPos [⟨tg,iter,ifs,0⟩] pos) (newList []) false (eval iter X.env) (some (assign (.Name x pos') X.env)) >>= λ_=>pure ()) _ _ _
 refine wpAny_bind (OP (use:=some (assign (.Name x pos') X.env)) (pos:=pos) aq bH hc hi hg ht he lQ lR lU lV gI lW hs I hh λs' H' C Da m IX hn hC hL h1 h2 h3 h4 q'=>?_)
 obtain⟨oC,es,ep,hoC,OT,eH⟩:=id hn
 have IP:Inv X (pins++[(C,oC)]) σ H' s':=⟨IX.ok,IX.os,IX.bare,IX.base,IX.loc,IX.cell,IX.free,IX.gb,λp hp=>by
  rcases bP.mp hp with z | z
  ·exact IX.pin p (eU _ z)
  ·rcases bP.mp z with z | z
   ·exact IX.pin p (dz _ z)
   ·obtain rfl:=eF.mp z
    exact⟨hoC,hC,hL,h4,λv w=>by rw[OT]at w;cases w⟩,IX.ay,IX.len⟩
 refine aH (yZ (X:=X) hN nr hx hf _ s' σ H' (.ref Da) (.ref Da) (λjO H2=>jO=σ.set i (some (.ref Da))/\H2=H') IP rfl ⟨rfl,rfl⟩) λ_ s2 zz=>?_
 obtain⟨jO,H2,I2,e1,e2⟩:=zz
 subst e1 e2
 have pC:=I2.pin (C,oC) (dz _ (dz _ (by simp)))
 refine⟨m,⟨oC,es,ep,pC.1,OT,eH⟩,λh' sb=>wpAny_pure (wpAny_pure ?_)⟩
 exact⟨σ.set i (some (.ref Da)),H2,(I2.vv).turned (t':=s2.toks) (λb o hb e=>sb.extBut b o hb e) hC hL (.inr h1) h2 h3,q'⟩
end
end L2
namespace L3
open PySem L2 PySem.Spec PyProof.Rows
section
variable{X:Cx}{elt iter tg:Expr}{pos:Pos}{ifs:List Expr}{scope:Scope}{cl:List (Str × Addr)}{ti:iS}{tt:e7}{te:aF}{g:fL}
theorem fg(aq:List (Str × Nat))(bH:List Str)(hc:X.calm=true)(hi:PI X tg iter (lI ti))
  (hg:∀C s H fp,PG (cV X scope (aq.map (·.1)++bH) cl C s H fp) tg (lG aq.length g))
  (ht:∀C s H fp,kL (cV X scope (aq.map (·.1)++bH) cl C s H fp) ifs (lT tt)) (he:∀C s H fp,PE (cV X scope (aq.map (·.1)++bH) cl C s H fp) elt (lE te))
  (lQ:closureFor scope X.env=pure cl) (lR:kM X cl) (lU:∀C:Addr,kN (cellsFrom (C+1) scope.names cl) (relabel scope X.env).names) (lV:∀C:Addr,kK X scope (cellsFrom (C+1) scope.names cl) aq)
  (gI:scope.kind=.function) (lW:∀y∈scope.names,y.2=.local->scope.names.lookup y.1=some .local)
  (hs:∀x,foldedSetIterable iter X.env x=pure x:=by intro _;rfl):PE X (.ListComp elt [⟨tg,iter,ifs,0⟩] scope pos) (lE (o7 ti aq bH.length g tt te)) :=
 cR (bP8 aq bH hc hi hg ht he lQ lR lU lV gI lW hs) λσ H Q ⟨B,F,δ,ts,Qd,c,q,k⟩=>⟨B,F,δ,ts,_,c,q,λsh xs ao J F1 H1 hq f1 h1 c1 o8 vW=>by
  obtain⟨p,f,hx,dq,hlen,hQ⟩:=hq
  exact MX c1 o8 vW p f hx dq hlen hQ λd ah v F' H' hd hf hs c'=>k d ah v F' H' hd (f1.trans hf) (h1.trans hs) c'⟩
theorem b66{i:Nat}{x:Str}{pos' apos:Pos}(hN:X.N.Nodup)(nr:X.N[i]?=some x)(hx:L2.Loc X.env.scope x)(aq:List (Str × Nat))(bH:List Str)(hc:X.calm=true)(hi:PI X tg iter (lI ti))
  (hg:∀C s H fp,PG (cV X scope (aq.map (·.1)++bH) cl C s H fp) tg (lG aq.length g))
  (ht:∀C s H fp,kL (cV X scope (aq.map (·.1)++bH) cl C s H fp) ifs (lT tt)) (he:∀C s H fp,PE (cV X scope (aq.map (·.1)++bH) cl C s H fp) elt (lE te))
  (lQ:closureFor scope X.env=pure cl) (lR:kM X cl) (lU:∀C:Addr,kN (cellsFrom (C+1) scope.names cl) (relabel scope X.env).names) (lV:∀C:Addr,kK X scope (cellsFrom (C+1) scope.names cl) aq)
  (gI:scope.kind=.function) (lW:∀y∈scope.names,y.2=.local->scope.names.lookup y.1=some .local)
  (pG:swapsWith (.ListComp elt [⟨tg,iter,ifs,0⟩] scope pos) (some (.Name x pos')) apos.line X.env=pure true:=by rfl) (hf:X.fn x=true\/X.env.scope.names.lookup x=some .local:=by first | exact .inl rfl | exact .inr rfl)
  (hs:∀x,foldedSetIterable iter X.env x=pure x:=by intro _;rfl):PS X (.Assign [.Name x pos'] (.ListComp elt [⟨tg,iter,ifs,0⟩] scope pos) apos) (lS X (oZ i (o7 ti aq bH.length g tt te))) :=
 jn (bQ9 hN nr hx hf aq bH hc hi hg ht he lQ lR lU lV gI lW pG hs) λEn σ H ⟨B,F,δ,Dd,c,q,k1,k2,k3,k4⟩=>⟨B,F,δ,[],_,c,q,λsh xs ao J F1 H1 hq f1 h1 c1 o8 vW=>by
  obtain⟨p,f,hx,dq,hlen,hQ⟩:=hq
  exact MX (Qd:=λd ah=>Dd.nx (ah.set i (some d))) c1 o8 vW p f hx dq hlen hQ λd ah v F' H' hd hf hs c'=>k1 _ _ F' H' hd (c'.store i)⟩
end
end L3
namespace L3
open PySem L2 Mf
theorem lo1{m:Bool × Nat}(hm:m∈aK):1<ag m:=by have:=(dE hm).lo;omega
inductive Sp(N:Nat)(p q:Nat->Nat->Nat)(S:(Nat->Nat)->Prop):(Nat->Nat)->Prop
 | mem {f:Nat->Nat}:S f->Sp N p q S f
 | zero:Sp N p q S λ_=>0
 | add {f g:Nat->Nat}:Sp N p q S f->Sp N p q S g->Sp N p q S λk=>p (f k) (g k)
 | mul {f:Nat->Nat} (c:Nat):c<N->Sp N p q S f->Sp N p q S λk=>q c (f k)
theorem Sp.trans{N:Nat}{p q:Nat->Nat->Nat}{S S':(Nat->Nat)->Prop}(h:∀f,S f->Sp N p q S' f){f:Nat->Nat}(s:Sp N p q S f):Sp N p q S' f:=by
 induction s with
 | mem a=>exact h _ a
 | zero=>exact .zero
 | add _ _ a b=>exact .add a b
 | mul c hc _ a=>exact .mul c hc a
theorem Sp.lt{N:Nat}{p q:Nat->Nat->Nat}(r:Rg N p q){S:(Nat->Nat)->Prop}(h:∀f,S f->∀k,f k<N){f:Nat->Nat}(s:Sp N p q S f):∀k,f k<N:=by
 induction s with
 | mem a=>exact h _ a
 | zero=>exact λ_=>r.pos
 | add _ _ a b=>exact λk=>r.lp (a k) (b k)
 | mul c hc _ a=>exact λk=>r.lq _ _
noncomputable def Gn(T:List (List Nat))(f:Nat->Nat):Prop:=∃r∈T,f=cf r
noncomputable def bI(m:Bool × Nat)(T:List (List Nat))(f:Nat->Nat):Prop:=Sp (ag m) (gp m) (gm m) (Gn T) f
theorem Gn.lt{m:Bool × Nat}(hm:m∈aK){w:Nat}{T:List (List Nat)}(h:RT (ag m) w T)(f:Nat->Nat)(g:Gn T f):∀k,f k<ag m:=by
 obtain⟨r,hr,rfl⟩:=g
 exact fe hm (h r hr).2
theorem bI.of{m:Bool × Nat}{T:List (List Nat)}{r:List Nat}(h:r∈T):bI m T (cf r):=.mem ⟨r,h,rfl⟩
theorem bN4{m:Bool × Nat}(hm:m∈aK){a:Nat}(ha:a<ag m){f f' l:Nat->Nat}(hf':∀k,f' k<ag m)(hl:∀k,l k<ag m)(h:∀k,gp m (f' k) (gm m a (l k))=f k):∃b,b<ag m/\f'=λk=>gp m (f k) (gm m b (l k)):=by
 have r:=rg hm
 obtain⟨b,hb,e⟩:=r.ng ha
 refine⟨b,hb,funext λk=>?_⟩
 rw[<-h k,r.pa,r.mc a,r.mc b,<- r.dl,e,r.qz,r.z' (hf' k)]
theorem ES{m:Bool × Nat}(hm:m∈aK){r l:List Nat}{w:Nat}(hr:r.length=w)(hl:l.length=w)(a k:Nat):cf (fj (λx y=>cG m x (gm m a y)) r l) k=cG m (cf r k) (gm m a (cf l k)):=by
 by_cases h:k<w
 ·unfold cf
  rw[aQ,Ck,aP (by omega),aP (by omega),aQ,aP (by omega),aQ,aP (by omega)]
  rfl
 ·rw[lK (by rw[yC];omega),lK (l:=r) (by omega),lK (l:=l) (by omega),tD m _ (dj m hm),OF]
theorem ET{m:Bool × Nat}(hm:m∈aK){r l:List Nat}{w a:Nat}(hr:r.length=w)(hl:l.length=w)(ar:AllLt (ag m) r)(k:Nat):gp m (cf (fj (λx y=>cG m x (gm m a y)) r l) k) (gm m a (cf l k))=cf r k:=by
 rw[ES hm hr hl]
 exact(tF hm (fe hm ar k) (eT hm _ _)).2.2
theorem OU{m:Bool × Nat}(hm:m∈aK){r l:List Nat}{w:Nat}(hr:r.length=w)(hl:l.length=w)(ar:AllLt (ag m) r)(a k:Nat):cf (fj (λx y=>cG m x (gm m a y)) r l) k<ag m:=by
 rw[ES hm hr hl]
 exact(tF hm (fe hm ar k) (eT hm _ _)).2.1
theorem OV{m:Bool × Nat}(hm:m∈aK){w p i:Nat}{T:List (List Nat)}(hT:RT (ag m) w T)(e:iF T p=some i):∃(g:List Nat) (c:Nat),g∈T/\T.getD i []=g/\g.length=w/\AllLt (ag m) g/\c<ag m/\gm m c (cf g p)=1/\(cU m T i p).length=w/\AllLt (ag m) (cU m T i p)/\(∀k,cf (cU m T i p) k=gm m c (cf g k))/\cf (cU m T i p) p=1/\∀k,gm m (cf g p) (cf (cU m T i p) k)=cf g k:=by
 obtain⟨hi,h1,h2⟩:=Aj e
 obtain⟨a,b⟩:=hT _ (fi hi)
 have l1:1<ag m:=lo1 hm
 obtain⟨c,hc,Ao⟩:=OL hm l1 (fe hm b p) h1
 have ec:xA m (cf T[i] p)=c:=ON hm hc Ao
 have el:cU m T i p=T[i].map (gm m c):=by unfold cU;rw[h2,<- ec];rfl
 have ek:∀k,cf (cU m T i p) k=gm m c (cf T[i] k):=λk=>by rw[el];exact τ hm _ _ _
 refine⟨T[i],c,fi hi,h2,a,b,hc,Ao,by rw[el,bU,a],λx hx=>?_,ek,by rw[ek];exact Ao,λk=>?_⟩
 ·rw[el]at hx
  obtain⟨y,_,rfl⟩:=cn.mp hx
  exact eT hm _ _
 ·rw[ek,<- j9 (dj m hm),jy m _ c,Ao,lJ (fe hm b k)]
theorem OW{m:Bool × Nat}{s:List (List Nat) × List (List Nat)}{p i:Nat}(e:iF s.2 p=some i):fW m s p=(ff m s.1 (cU m s.2 i p) p++[cU m s.2 i p],ff m (s.2.take i++s.2.drop (i+1)) (cU m s.2 i p) p):=by unfold fW;rw[e]
theorem OX{m:Bool × Nat}{s:List (List Nat) × List (List Nat)}{p:Nat}(e:iF s.2 p=none):fW m s p=s:=by unfold fW;rw[e]
theorem Ap{α:Type}{T:List α}{i:Nat}{r:α}(h:r∈T.take i++T.drop (i+1)):r∈T:=(bP.mp h).elim yw Ca
theorem bO6{α:Type}{T:List α}{i:Nat}{r:α}(h:r∈T)(hi:i<T.length):r=T[i]\/r∈T.take i++T.drop (i+1):=by
 obtain⟨j,hj,rfl⟩:=hV h
 rcases Cm j i with h | h | h
 ·exact .inr (bP.mpr (.inl (List.mem_take_iff_getElem.mpr ⟨j,by omega,rfl⟩)))
 ·subst h;exact .inl rfl
 ·exact .inr (bP.mpr (.inr (List.mem_drop_iff_getElem.mpr ⟨j-(i+1),by omega,by congr 1;omega⟩)))
theorem by7{m:Bool × Nat}(hm:m∈aK){w n p:Nat}{s:List (List Nat) × List (List Nat)}(h:xB (ag m) w n s)(f:Nat->Nat):bI m (s.1++s.2) f↔bI m ((fW m s p).1++(fW m s p).2) f:=by
 cases e:iF s.2 p with
 | none=>rw[OX e]
 | some i =>
  obtain⟨g,c,g1,g2,g3,g4,c1,c2,l1,l2,l3,l4,l5⟩:=OV hm h.b e
  obtain⟨hi,_,hg⟩:=Aj e
  rw[OW e]
  generalize cU m s.2 i p=l at l1 l2 l3 l4 l5
  have ll:=fe hm l2
  have row:∀{T:List (List Nat)},RT (ag m) w T->∀r'∈ff m T l p,∃r∈T,∃b,b<ag m/\cf r'=λk=>gp m (cf r k) (gm m b (cf l k)):=λ{T} hT r' cC=>by
   obtain⟨r,hr,rfl⟩:=cn.mp cC
   obtain⟨a1,a2⟩:=hT r hr
   exact⟨r,hr,bN4 hm (fe hm a2 p) (OU hm a1 l1 a2 _) ll (ET hm a1 l1 a2)⟩
  have OY:∀{T:List (List Nat)},RT (ag m) w T->∀r∈T,∃r'∈ff m T l p,cf r=λk=>gp m (cf r' k) (gm m (cf r p) (cf l k)):=λ{T} hT r hr=>by
   obtain⟨a1,a2⟩:=hT r hr
   exact⟨_,cn.mpr ⟨r,hr,rfl⟩,funext λk=>(ET hm a1 l1 a2 k).symm⟩
  have hB:RT (ag m) w (s.2.take i++s.2.drop (i+1)):=λr hr=>h.b r (Ap hr)
  constructor
  ·refine Sp.trans ?_
   rintro f ⟨r,hr,rfl⟩
   have hl:bI m ((ff m s.1 l p++[l])++ff m (s.2.take i++s.2.drop (i+1)) l p) (cf l):=bI.of (by simp)
   rcases bP.mp hr with hr | hr
   ·obtain⟨r',h1,h2⟩:=OY h.a r hr
    rw[h2]
    exact .add (bI.of (by simp[h1])) (.mul _ (fe hm (h.a r hr).2 p) hl)
   ·rcases bO6 hr hi with e' | cC
    ·have:cf r=λk=>gm m (cf g p) (cf l k):=funext λk=>by rw[l5 k,e',<- hg,g2]
     rw[this]
     exact .mul _ (fe hm g4 p) hl
    ·obtain⟨r',h1,h2⟩:=OY hB r cC
     rw[h2]
     exact .add (bI.of (by simp[h1])) (.mul _ (fe hm (h.b r hr).2 p) hl)
  ·refine Sp.trans ?_
   rintro f ⟨r,hr,rfl⟩
   have hl:bI m (s.1++s.2) (cf l):=by
    have:cf l=λk=>gm m c (cf g k):=funext l3
    rw[this]
    exact .mul _ c1 (bI.of (dz _ g1))
   rcases bP.mp hr with hr | hr
   ·rcases bP.mp hr with hr | hr
    ·obtain⟨r1,h1,b,hb,h2⟩:=row h.a r hr
     rw[h2]
     exact .add (bI.of (eU _ h1)) (.mul _ hb hl)
    ·rw[eF]at hr
     rw[hr];exact hl
   ·obtain⟨r1,h1,b,hb,h2⟩:=row hB r hr
    rw[h2]
    exact .add (bI.of (dz _ (Ap h1))) (.mul _ hb hl)
structure RR(w:Nat)(R:List (List Nat))(H:Nat->Nat):Prop where
 u:∀i j,i<R.length->j<R.length->cf (R.getD i []) (H j)=if i=j then 1 else 0
 z:∀i,i<R.length->∀t,t<H i->cf (R.getD i []) t=0
 i:∀i j,i<j->j<R.length->H i<H j
 l:∀i,i<R.length->H i<w
theorem EU{α β:Type}(f:α->β){l:List α}{i:Nat}(h:i<l.length)(a:α)(b:β):(l.map f).getD i b=f (l.getD i a):=by
 rw[aQ,cY,aQ,aP h];rfl
theorem dw{α:Type}{l:List α}{i:Nat}(h:i<l.length)(a:α):l.getD i a∈l:=by
 rw[aQ,aP h];exact fi h
theorem bo8{m:Bool × Nat}(hm:m∈aK){w n p:Nat}{s:List (List Nat) × List (List Nat)}(h:xB (ag m) w n s){H:Nat->Nat}(I:RR p s.1 H)(e2:∀r∈s.2,∀t,t<p->cf r t=0):∃H',RR (p+1) (fW m s p).1 H'/\∀r∈(fW m s p).2,∀t,t<p+1->cf r t=0:=by
 cases e:iF s.2 p with
 | none =>
  rw[OX e]
  refine⟨H,⟨I.u,I.z,I.i,λi hi=>u7 (I.l i hi)⟩,λr hr t ht=>?_⟩
  rcases u9 t p with h1 | h1
  ·exact e2 r hr t h1
  ·have:=K0.mp e r hr
   have z:r.getD p 0=0:=by simpa using this
   rw[show t=p by omega]
   exact z
 | some i0 =>
  obtain⟨g,c,g1,g2,g3,g4,c1,c2,l1,l2,l3,l4,l5⟩:=OV hm h.b e
  rw[OW e]
  generalize cU m s.2 i0 p=l at l1 l2 l3 l4 l5
  have m0:=dj m hm
  have lz:∀t,t<p->cf l t=0:=λt ht=>by rw[l3,e2 g g1 t ht,tD m _ m0]
  have xD:∀{r:List Nat},r.length=w->AllLt (ag m) r->(∀t,t<p->cf (fj (λx y=>cG m x (gm m (r.getD p 0) y)) r l) t=cf r t)/\cf (fj (λx y=>cG m x (gm m (r.getD p 0) y)) r l) p=0:=λ{r} a1 a2=>by
   constructor
   ·intro t ht
    have:=ET hm (a:=r.getD p 0) a1 l1 a2 t
    rw[lz t ht,tD m _ m0,Z2 (OU hm a1 l1 a2 _ _)]at this
    exact this
   ·rw[ES hm a1 l1,l4]
    show cG m (r.getD p 0) (gm m (r.getD p 0) 1)=0
    rw[tw (show r.getD p 0<ag m from fe hm a2 p),OF]
  have nl:(ff m s.1 l p).length=s.1.length:=by unfold ff;rw[bU]
  have Aq:∀i,i<s.1.length->∃r,s.1.getD i []=r/\r.length=w/\AllLt (ag m) r/\(ff m s.1 l p++[l]).getD i []=fj (λx y=>cG m x (gm m (r.getD p 0) y)) r l:=λi hi=>by
   refine⟨_,rfl,(h.a _ (dw hi [])).1,(h.a _ (dw hi [])).2,?_⟩
   rw[aQ,uX (by omega),<- aQ]
   exact EU _ hi [] []
  have OZ:(ff m s.1 l p++[l]).getD s.1.length []=l:=by
   rw[aQ,qt (by omega),nl,u5];rfl
  have le:(ff m s.1 l p++[l]).length=s.1.length+1:=by rw[fh,nl];rfl
  refine⟨λi=>if i<s.1.length then H i else p,⟨λi j hi hj=>?_,λi hi t ht=>?_,λi j xE hj=>?_,λi hi=>?_⟩,λr hr t ht=>?_⟩
  ·show cf ((ff m s.1 l p++[l]).getD i []) _=_
   dsimp only at hi hj ⊢
   rw[le]at hi hj
   by_cases h1:i<s.1.length
   ·obtain⟨r,r1,r2,r3,r4⟩:=Aq i h1
    rw[r4]
    by_cases h2:j<s.1.length
    ·rw[if_pos h2,(xD r2 r3).1 _ (I.l j h2),<- r1]
     exact I.u i j h1 h2
    ·rw[if_neg h2,(xD r2 r3).2,if_neg (by omega)]
   ·have e1:i=s.1.length:=by omega
    rw[e1,OZ]
    by_cases h2:j<s.1.length
    ·rw[if_pos h2,lz _ (I.l j h2),if_neg (by omega)]
    ·rw[if_neg h2,l4,if_pos (by omega)]
  ·dsimp only at hi ht ⊢
   rw[le]at hi
   by_cases h1:i<s.1.length
   ·rw[if_pos h1]at ht
    obtain⟨r,r1,r2,r3,r4⟩:=Aq i h1
    rw[r4,(xD r2 r3).1 _ (by have:=I.l i h1;omega),<- r1]
    exact I.z i h1 t ht
   ·rw[if_neg h1]at ht
    have e1:i=s.1.length:=by omega
    rw[e1,OZ];exact lz t ht
  ·dsimp only at hj ⊢
   rw[le]at hj
   rw[if_pos (by omega)]
   by_cases h2:j<s.1.length
   ·rw[if_pos h2];exact I.i i j xE h2
   ·rw[if_neg h2];exact I.l i (by omega)
  ·dsimp only at hi ⊢
   rw[le]at hi
   split
   ·have:=I.l i (by omega);omega
   ·omega
  ·obtain⟨r1,lX,rfl⟩:=cn.mp hr
   obtain⟨a1,a2⟩:=h.b r1 (Ap lX)
   rcases u9 t p with h1 | h1
   ·rw[(xD a1 a2).1 t h1];exact e2 _ (Ap lX) t h1
   ·rw[show t=p by omega];exact(xD a1 a2).2
theorem O0{m:Bool × Nat}(hm:m∈aK){w:Nat}{G:List (List Nat)}(h:RT (ag m) w G):∀k,(∃H,RR k (iG m G k).1 H/\∀r∈(iG m G k).2,∀t,t<k->cf r t=0)/\∀f,bI m G f↔bI m ((iG m G k).1++(iG m G k).2) f
 | 0=>⟨⟨λ_=>0,⟨(λ_ _ h=>nomatch h),(λ_ h=>nomatch h),(λ_ _ _ h=>nomatch h),(λ_ h=>nomatch h)⟩,λr _ t ht=>nomatch ht⟩,λf=>.rfl⟩
 | k+1=>by
  obtain⟨⟨H,h1,h2⟩,h3⟩:=O0 hm h k
  have D:=Ak hm h k
  rw[EI]
  exact⟨bo8 hm D h1 h2,λf=>(h3 f).trans (by7 hm D f)⟩
theorem EV{m:Bool × Nat}(hm:m∈aK){G:List (List Nat)}(h:RT (ag m) (dv G) G):(∃H,RR (dv G) (iH m G) H)/\RT (ag m) (dv G) (iH m G)/\(iH m G).length<=G.length/\∀f,bI m G f↔bI m (iH m G) f:=by
 obtain⟨⟨H,h1,h2⟩,h3⟩:=O0 hm h (dv G)
 have D:=Ak hm h (dv G)
 refine⟨⟨H,h1⟩,D.a,by have:=D.l;show(iG m G (dv G)).1.length<=_;omega,λf=>(h3 f).trans ⟨Sp.trans ?_,Sp.trans ?_⟩⟩
 ·rintro f ⟨r,hr,rfl⟩
  rcases bP.mp hr with hr | hr
  ·exact bI.of hr
  ·have:cf r=λ_=>0:=funext λt=>by
    rcases u9 t (dv G)with h4 | h4
    ·exact h2 r hr t h4
    ·exact lK (by rw[(D.b r hr).1];exact h4)
   rw[this];exact .zero
 ·rintro f ⟨r,hr,rfl⟩
  exact bI.of (eU _ hr)
theorem pY{N:Nat}{p q:Nat->Nat->Nat}(r:Rg N p q){f:Nat->Nat}{j0:Nat}(hf:f j0<N):∀{n:Nat},j0<n->(∀j,j<n->j≠j0->f j=0)->sm p n f=f j0
 | 0,h,_=>nomatch h
 | n+1,h,hz=>by
  rw[sm]
  by_cases e:j0=n
  ·subst e
   rw[iD r λj hj=>hz j (by omega) (by omega),r.z hf]
  ·rw[pY r hf (by omega) λj hj=>hz j (by omega),hz n (by omega) (by omega),r.z' hf]
theorem RR.own{m:Bool × Nat}(hm:m∈aK){w:Nat}{R:List (List Nat)}{H:Nat->Nat}(hR:RT (ag m) w R)(I:RR w R H){f:Nat->Nat}(s:bI m R f):∀k,f k=sm (gp m) R.length λi=>gm m (f (H i)) (cf (R.getD i []) k):=by
 have r:=rg hm
 have m0:=dj m hm
 induction s with
 | mem a =>
  intro k
  obtain⟨x,hx,rfl⟩:=a
  obtain⟨i,hi,rfl⟩:=hV hx
  have ei:R[i]=R.getD i []:=by rw[aQ,aP hi];rfl
  have one:gm m (cf R[i] (H i)) (cf (R.getD i []) k)=cf R[i] k:=by
   rw[ei,I.u i i hi hi,if_pos rfl]
   exact lJ (fe hm (hR _ (dw hi [])).2 k)
  refine((pY r (f:=λa=>gm m (cf R[i] (H a)) (cf (R.getD a []) k)) (j0:=i) (eT hm _ _) hi λj hj hn=>?_).trans one).symm
  rw[ei,I.u i j hi hj,if_neg (by omega),iV m _ m0]
 | zero=>exact λk=>(iD r λj _=>iV m _ m0).symm
 | add _ _ a b =>
  intro k
  dsimp only
  rw[a k,b k,<- nJ r]
  refine du λj _=>?_
  rw[r.mc (gp m _ _),r.dl,r.mc _ (cf _ k),r.mc _ (cf _ k)]
 | mul c hc _ a =>
  intro k
  dsimp only
  rw[a k,<- nK r]
  refine du λj _=>?_
  rw[j9 m0]
theorem bI.sum{m:Bool × Nat}(hm:m∈aK){w:Nat}{R:List (List Nat)}(hR:RT (ag m) w R){f:Nat->Nat}(s:bI m R f):∃c:Nat->Nat,(∀i,c i<ag m)/\∀k,f k=sm (gp m) R.length λi=>gm m (c i) (cf (R.getD i []) k):=by
 have r:=rg hm
 have m0:=dj m hm
 have l1:=lo1 hm
 induction s with
 | mem a =>
  obtain⟨x,hx,rfl⟩:=a
  obtain⟨i,hi,rfl⟩:=hV hx
  have ei:R[i]=R.getD i []:=by rw[aQ,aP hi];rfl
  refine⟨λj=>if j=i then 1 else 0,λj=>by dsimp only;split<;>omega,λk=>?_⟩
  refine((pY r (f:=λa=>gm m (if a=i then 1 else 0) (cf (R.getD a []) k)) (j0:=i) (eT hm _ _) hi λj hj hn=>?_).trans ?_).symm
  ·rw[if_neg hn,iV m _ m0]
  ·rw[if_pos rfl,ei]
   exact lJ (fe hm (hR _ (dw hi [])).2 k)
 | zero=>exact⟨λ_=>0,λ_=>r.pos,λk=>(iD r λj _=>iV m _ m0).symm⟩
 | add _ _ a b =>
  obtain⟨c,hc,a⟩:=a
  obtain⟨d,hd,b⟩:=b
  refine⟨λi=>gp m (c i) (d i),λi=>r.lp (hc i) (hd i),λk=>?_⟩
  dsimp only
  rw[a k,b k,<- nJ r]
  refine du λj _=>?_
  rw[r.mc (gp m _ _),r.dl,r.mc _ (cf _ k),r.mc _ (cf _ k)]
 | mul e he _ a =>
  obtain⟨c,hc,a⟩:=a
  refine⟨λi=>gm m e (c i),λi=>eT hm _ _,λk=>?_⟩
  dsimp only
  rw[a k,<- nK r]
  refine du λj _=>?_
  rw[j9 m0]
theorem bI.ann{m:Bool × Nat}(hm:m∈aK){R:List (List Nat)}{n:Nat}{y:Nat->Nat}(h:∀x∈R,sm (gp m) n (λj=>gm m (cf x j) (y j))=0){f:Nat->Nat}(s:bI m R f):sm (gp m) n (λj=>gm m (f j) (y j))=0:=by
 have r:=rg hm
 have m0:=dj m hm
 induction s with
 | mem a=>obtain⟨x,hx,rfl⟩:=a;exact h x hx
 | zero=>exact iD r λj _=>iV m _ m0
 | @add f g _ _ a b =>
  rw[du (g:=λj=>gp m (gm m (f j) (y j)) (gm m (g j) (y j))) λj _=>by dsimp only;rw[r.mc (gp m _ _),r.dl,r.mc (y j),r.mc (y j)],nJ r,a,b,r.z r.pos]
 | @mul f e he _ a =>
  rw[du (g:=λj=>gm m e (gm m (f j) (y j))) λj _=>j9 m0 _ _ _,nK r,a,r.qz]
theorem RR.EW{m:Bool × Nat}(hm:m∈aK){w:Nat}{R:List (List Nat)}{H:Nat->Nat}(hR:RT (ag m) w R)(I:RR w R H){i:Nat}(hi:i<R.length):(R.getD i []).findIdx (· != 0)=H i/\∃x∈R.getD i [],x≠0:=by
 have a:=(hR _ (dw hi [])).1
 have l:=I.l i hi
 have u:=I.u i i hi hi
 rw[if_pos rfl]at u
 have eu:(R.getD i [])[H i]'(by omega)=1:=by
  unfold cf at u
  rw[aQ (l:=R.getD i []),aP (by omega)]at u
  exact u
 refine⟨?_,_,fi (show H i<(R.getD i []).length by omega),by rw[eu];decide⟩
 rw[List.findIdx_eq (by omega)]
 refine⟨by rw[eu];rfl,λj hj=>?_⟩
 have z:=I.z i hi j hj
 unfold cf at z
 rw[aQ (l:=R.getD i []),aP (by omega)]at z
 simpa using z
theorem b85{a b:List Nat}{w:Nat}(ha:a.length=w)(hb:b.length=w)(h:∀k,k<w->cf a k=cf b k):a=b:=by
 refine qF (ha.trans hb.symm) λk h1 h2=>?_
 have:=h k (by omega)
 unfold cf at this
 rw[aQ,aQ,aP h1,aP h2]at this
 exact this
theorem O1(f:Nat->Nat){w k:Nat}(h:k<w):cf ((aR w).map f) k=f k:=by
 unfold cf
 rw[aQ,cY,mF h];rfl
theorem O2(m:Bool × Nat){xs ys:List Nat}(h:xs.length=ys.length):gd m xs ys=sm (gp m) xs.length λj=>gm m (cf xs j) (cf ys j):=by
 unfold gd
 rw[ρ,yC,h,B9]
 refine du λj hj=>?_
 unfold cf
 rw[aQ,Ck,aP (by omega),aP (by omega),aQ,aP (by omega),aQ,aP (by omega)]
 rfl
noncomputable def iW(m:Bool × Nat)(xs:List Nat)(T:List (List Nat))(w:Nat):List Nat:=(aR w).map λk=>gd m xs (T.map λr=>r.getD k 0)
theorem cc7{T:List (List Nat)}(k i:Nat):cf (T.map λr=>r.getD k 0) i=cf (T.getD i []) k:=by
 by_cases h:i<T.length
 ·exact EU (λr:List Nat=>r.getD k 0) h [] 0
 ·rw[lK (by rw[bU];omega),aQ,i4 (by omega)];rfl
theorem O3(m:Bool × Nat)(xs:List Nat)(T:List (List Nat))(w:Nat):(iW m xs T w).length=w:=by unfold iW;rw[bU,dR]
theorem cf5(m:Bool × Nat){xs:List Nat}{T:List (List Nat)}{w k:Nat}(h:xs.length=T.length)(hk:k<w):cf (iW m xs T w) k=sm (gp m) T.length λi=>gm m (cf xs i) (cf (T.getD i []) k):=by
 unfold iW
 rw[O1 _ hk,O2 m (by rw[bU,h]),h]
 exact du λj _=>by rw[cc7]
theorem ce7{m:Bool × Nat}(hm:m∈aK){xs ys:List Nat}(h:xs.length=ys.length):gd m xs ys<ag m:=by
 rw[O2 m h];exact nH (rg hm) λj _=>eT hm _ _
theorem cf2{m:Bool × Nat}(hm:m∈aK){xs:List Nat}{T:List (List Nat)}(w:Nat)(h:xs.length=T.length):AllLt (ag m) (iW m xs T w):=λx hx=>by
 obtain⟨k,_,rfl⟩:=cn.mp hx
 exact ce7 hm (by rw[bU,h])
noncomputable def eB(r:List Nat):Nat:=r.findIdx (· != 0)
theorem Ar{α:Type}(a b:α->Nat){j:Nat}:∀(l:List α) (x:List Nat),(∀z∈l,a z≠j)->cf (l.foldl (λx z=>x.set (a z) (b z)) x) j=cf x j
 | [],_,_=>rfl
 | z::l,x,h=>by
  rw[yo,Ar a b l _ λy hy=>h y (fF _ hy)]
  unfold cf
  rw[aQ,qo (h z mm),<- aQ]
theorem O4{α:Type}(a b:α->Nat):∀(l:List α) (x:List Nat),l.Pairwise (λy z=>a y≠a z)->∀z∈l,a z<x.length->cf (l.foldl (λx z=>x.set (a z) (b z)) x) (a z)=b z
 | [],_,_,_,h,_=>nomatch h
 | y::l,x,hp,z,hz,hl=>by
  rw[yo]
  rw[va]at hp
  rcases bJ.mp hz with rfl | hz
  ·rw[Ar a b l _ λy hy=>dy (hp.1 y hy)]
   unfold cf
   rw[aQ,BS hl];rfl
  ·exact O4 a b l _ hp.2 z hz (by rw[yn];exact hl)
theorem O5{α:Type}(a b:α->Nat):∀(l:List α) (x:List Nat),(l.foldl (λx z=>x.set (a z) (b z)) x).length=x.length
 | [],_=>rfl
 | z::l,x=>by rw[yo,O5 a b l,yn]
theorem cp3{m:Bool × Nat}(hm:m∈aK):∃e,e<ag m/\gp m 1 e=0/\e≠0/\∀{a b},a<ag m->b<ag m->(gp m a (gm m b e)=0↔a=b):=by
 have r:=rg hm
 obtain⟨e,he,h⟩:=r.ng (lo1 hm)
 refine⟨e,he,h,λz=>?_,λ{a b} ha hb=>?_⟩
 ·rw[z,r.z' (lo1 hm)]at h;omega
 ·have k:gp m b (gm m b e)=0:=by
   have:=r.dl b 1 e
   rw[h,r.qz,tw hb]at this
   exact this.symm
  exact⟨λh1=>r.ι ha hb (eT hm b e) (h1.trans k.symm),λh1=>h1 ▸ k⟩
end L3
namespace L3
open PySem L2 Mf
noncomputable def nL(T:List (List Nat))(w:Nat):List Nat:=(aR w).filter λj=>!(T.map eB).contains j
noncomputable def jz(m:Bool × Nat)(T:List (List Nat))(w f:Nat):List Nat:=(((T.map eB).zip T).foldl (λx z=>x.set z.1 (cG m 0 (z.2.getD f 0))) ((bh w 0).set f 1))
theorem RR.heads{m:Bool × Nat}(hm:m∈aK){w:Nat}{R:List (List Nat)}{H:Nat->Nat}(hR:RT (ag m) w R)(I:RR w R H):R.map eB=(aR R.length).map H:=by
 refine qF (by rw[bU,bU,dR]) λi h1 h2=>?_
 rw[bU]at h1
 rw[qG,qG,Cn,<- (I.EW hm hR h1).1,aQ,aP h1];rfl
theorem RR.mem{m:Bool × Nat}(hm:m∈aK){w:Nat}{R:List (List Nat)}{H:Nat->Nat}(hR:RT (ag m) w R)(I:RR w R H)(j:Nat):j∈R.map eB↔∃i,i<R.length/\H i=j:=by
 rw[I.heads hm hR,cn]
 exact⟨λ⟨i,a,b⟩=>⟨i,dO.mp a,b⟩,λ⟨i,a,b⟩=>⟨i,dO.mpr a,b⟩⟩
theorem RR.free{m:Bool × Nat}(hm:m∈aK){w:Nat}{R:List (List Nat)}{H:Nat->Nat}(hR:RT (ag m) w R)(I:RR w R H)(j:Nat):j∈nL R w↔j<w/\∀i,i<R.length->H i≠j:=by
 unfold nL
 rw[yg,dO,Bool.not_eq_true',<- Bool.not_eq_true,KZ,I.mem hm hR]
 exact and_congr_right λ_=>⟨λh i a b=>h ⟨i,a,b⟩,λh ⟨i,a,b⟩=>h i a b⟩
theorem RR.cy5{m:Bool × Nat}(hm:m∈aK){w:Nat}{R:List (List Nat)}{H:Nat->Nat}(hR:RT (ag m) w R)(I:RR w R H):(nL R w).length+R.length=w:=by
 have nd:(R.map eB).Nodup:=by
  rw[I.heads hm hR]
  unfold List.Nodup
  rw[yE]
  intro i j hi hj xE
  rw[bU,dR]at hi hj
  rw[qG,qG,Cn,Cn]
  have:=I.i i j xE hj
  omega
 have pe:((aR w).filter λj=>(R.map eB).contains j).Perm (R.map eB):=by
  refine(List.perm_ext_iff_of_nodup (List.Pairwise.filter _ List.nodup_range) nd).mpr λj=>?_
  rw[yg,KZ,dO]
  refine⟨λh=>h.2,λh=>⟨?_,h⟩⟩
  obtain⟨i,hi,rfl⟩:=(I.mem hm hR j).mp h
  exact I.l i hi
 have l1:=pe.length_eq
 rw[bU]at l1
 have l2:=List.length_eq_countP_add_countP (λj=>(R.map eB).contains j) (l:=aR w)
 rw[dR,SQ,SQ,l1]at l2
 unfold nL
 have e:((aR w).filter λa=>decide ¬(R.map eB).contains a=true)=(aR w).filter λj=>!(R.map eB).contains j:=List.filter_congr λx _=>by
  cases(R.map eB).contains x<;>rfl
 rw[e]at l2
 omega
theorem O6{m:Bool × Nat}(hm:m∈aK){w f:Nat}{R:List (List Nat)}{H:Nat->Nat}(hR:RT (ag m) w R)(I:RR w R H)(hf:f∈nL R w):(jz m R w f).length=w/\AllLt (ag m) (jz m R w f)/\cf (jz m R w f) f=1/\(∀i,i<R.length->cf (jz m R w f) (H i)=cG m 0 (cf (R.getD i []) f))/\∀j,j≠f->(∀i,i<R.length->H i≠j)->cf (jz m R w f) j=0:=by
 obtain⟨f1,f2⟩:=(I.free hm hR f).mp hf
 have l1:=lo1 hm
 have zl:((R.map eB).zip R).length=R.length:=by rw[List.length_zip,bU,B9]
 have zg:∀i (h:i<R.length),((R.map eB).zip R)[i]'(by omega)=(H i,R.getD i []):=λi h=>by
  rw[List.getElem_zip,qG]
  have e:R.getD i []=R[i]:=by rw[aQ,aP h];rfl
  have:=(I.EW hm hR h).1
  rw[e]at this ⊢
  exact Prod.ext this rfl
 have zm:∀z∈(R.map eB).zip R,∃i,i<R.length/\z=(H i,R.getD i []):=λz hz=>by
  obtain⟨i,hi,rfl⟩:=hV hz
  exact⟨i,by omega,zg i (by omega)⟩
 have mz:∀i,i<R.length->(H i,R.getD i [])∈(R.map eB).zip R:=λi h=>by
  rw[<-zg i h];exact fi _
 have bd:∀z∈(R.map eB).zip R,cG m 0 (z.2.getD f 0)<ag m:=λz hz=>by
  obtain⟨i,hi,rfl⟩:=zm z hz
  exact(tF hm (by omega) (fe hm (hR _ (dw hi [])).2 f)).2.1
 refine⟨?_,?_,?_,λi hi=>?_,λj hj hj2=>?_⟩
 ·unfold jz
  rw[O5 (λz:Nat × List Nat=>z.1) (λz=>cG m 0 (z.2.getD f 0)),yn,qv]
 ·have key:∀(l:List (Nat × List Nat)) (x:List Nat),(∀z∈l,cG m 0 (z.2.getD f 0)<ag m)->AllLt (ag m) x->AllLt (ag m) (l.foldl (λx z=>x.set z.1 (cG m 0 (z.2.getD f 0))) x):=by
   intro l
   induction l with
   | nil=>exact λx _ h=>h
   | cons z l ih =>
    intro x hz h
    rw[yo]
    refine ih _ (λy hy=>hz y (fF _ hy)) λy hy=>?_
    rcases KR hy with h1 | h1
    ·exact h y h1
    ·rw[h1];exact hz z mm
  refine key _ _ bd λx hx=>?_
  rcases KR hx with h1 | h1
  ·rw[(KH.mp h1).2];omega
  ·omega
 ·unfold jz
  rw[Ar (λz:Nat × List Nat=>z.1) (λz=>cG m 0 (z.2.getD f 0)) _ _ λz hz=>?_]
  ·unfold cf
   rw[aQ,BS (by rw[qv];exact f1)];rfl
  ·obtain⟨i,hi,rfl⟩:=zm z hz
   exact f2 i hi
 ·have hp:((R.map eB).zip R).Pairwise (λy z:Nat × List Nat=>y.1≠z.1):=by
   rw[yE]
   intro i j hi hj xE
   rw[zg i (by omega),zg j (by omega)]
   have:=I.i i j xE (by omega)
   show H i≠H j
   omega
  exact O4 (λz:Nat × List Nat=>z.1) (λz=>cG m 0 (z.2.getD f 0)) _ _ hp _ (mz i hi) (by rw[yn,qv];exact I.l i hi)
 ·unfold jz
  rw[Ar (λz:Nat × List Nat=>z.1) (λz=>cG m 0 (z.2.getD f 0)) _ _ λz hz=>?_]
  ·unfold cf
   rw[aQ,qo (dy hj),ym]
   split<;>rfl
  ·obtain⟨i,hi,rfl⟩:=zm z hz
   exact hj2 i hi
theorem cg2{N:Nat}{p q:Nat->Nat->Nat}(r:Rg N p q){f:Nat->Nat}{a b n:Nat}(ha:a<n)(hb:b<n)(hn:a≠b)(fa:f a<N)(fb:f b<N)(hz:∀j,j<n->j≠a->j≠b->f j=0):sm p n f=p (f a) (f b):=by
 have h1:=pY r (f:=λj=>if j=a then f a else 0) (j0:=a) (n:=n) (by rw[if_pos rfl];exact fa) ha λj _ h=>if_neg h
 have h2:=pY r (f:=λj=>if j=b then f b else 0) (j0:=b) (n:=n) (by rw[if_pos rfl];exact fb) hb λj _ h=>if_neg h
 rw[if_pos rfl]at h1 h2
 rw[<-h1,<- h2,<- nJ r]
 refine du λj hj=>?_
 by_cases ja:j=a
 ·rw[if_pos ja,if_neg (by omega),r.z' fa,ja]
 ·by_cases jb:j=b
  ·rw[if_neg ja,if_pos jb,r.z fb,jb]
  ·rw[if_neg ja,if_neg jb,hz j hj ja jb,r.z r.pos]
noncomputable def dt(m:Bool × Nat)(w:Nat)(x y:Nat->Nat):Nat:=sm (gp m) w λj=>gm m (x j) (y j)
theorem cj2{m:Bool × Nat}(hm:m∈aK){w f:Nat}{R:List (List Nat)}{H:Nat->Nat}(hR:RT (ag m) w R)(I:RR w R H)(hf:f∈nL R w){i:Nat}(hi:i<R.length):dt m w (cf (R.getD i [])) (cf (jz m R w f))=0:=by
 have r:=rg hm
 obtain⟨f1,f2⟩:=(I.free hm hR f).mp hf
 obtain⟨k1,k2,k3,k4,k5⟩:=O6 hm hR I hf
 have il:=fe hm (hR _ (dw hi [])).2
 have g:=tF hm (a:=0) r.pos (il f)
 unfold dt
 rw[cg2 r (f:=λj=>gm m (cf (R.getD i []) j) (cf (jz m R w f) j)) (a:=H i) (b:=f) (I.l i hi) f1 (f2 i hi) (eT hm _ _) (eT hm _ _) λj hj ja jb=>?_]
 ·rw[k3,k4 i hi,I.u i i hi hi,if_pos rfl,lJ g.2.1,tw (il f)]
  exact g.2.2
 ·by_cases c:∃i',i'<R.length/\H i'=j
  ·obtain⟨i',h1,rfl⟩:=c
   rw[I.u i i' hi h1,if_neg (λz:i=i'=>ja (by rw[z])),iV m _ (dj m hm)]
  ·rw[k5 j jb λi' h1 h2=>c ⟨i',h1,h2⟩,r.qz]
theorem bI.dt{m:Bool × Nat}(hm:m∈aK){R:List (List Nat)}{n:Nat}{y:Nat->Nat}(h:∀i,i<R.length->dt m n (cf (R.getD i [])) y=0){f:Nat->Nat}(s:bI m R f):dt m n f y=0:=by
 refine s.ann hm λx hx=>?_
 obtain⟨i,hi,rfl⟩:=hV hx
 have:=h i hi
 rw[aQ,aP hi]at this
 exact this
theorem EX{N n:Nat}{M:List (List Nat)}(h:RT N n M)(h0:M≠[]):dv M=n:=by
 cases M with
 | nil=>exact absurd rfl h0
 | cons g M=>exact(h g mm).1
theorem cn5{m:Bool × Nat}(hm:m∈aK){n:Nat}{M:List (List Nat)}(h:RT (ag m) n M)(hl:M.length<n):∃(x:Nat->Nat) (f:Nat),f<n/\(∀k,x k<ag m)/\x f=1/\∀i,i<M.length->dt m n (cf (M.getD i [])) x=0:=by
 by_cases h0:M=[]
 ·subst h0
  exact⟨λ_=>1,0,hl,λ_=>lo1 hm,rfl,λi hi=>nomatch hi⟩
 ·have hw:=EX h h0
  obtain⟨⟨H,I⟩,iR,il,sp⟩:=EV hm (G:=M) (by rw[hw];exact h)
  rw[hw]at I iR
  have fl:=I.cy5 hm iR
  have f0:0<(nL (iH m M) n).length:=by omega
  have hf:=dw f0 0
  obtain⟨k1,k2,k3,k4,k5⟩:=O6 hm iR I hf
  refine⟨cf (jz m (iH m M) n ((nL (iH m M) n).getD 0 0)),_,((I.free hm iR _).mp hf).1,fe hm k2,k3,λi hi=>?_⟩
  exact bI.dt hm (λi' dW=>cj2 hm iR I hf dW) ((sp _).mp (bI.of (dw hi [])))
theorem RR.O7{m:Bool × Nat}(hm:m∈aK){w v:Nat}{S R:List (List Nat)}{H:Nat->Nat}(hS:RT (ag m) w S)(I:RR w S H)(hR:RT (ag m) v R)(h:∀i,i<S.length->bI m R (cf (S.getD i []))):S.length<=R.length:=by
 have r:=rg hm
 refine yp λhl=>?_
 have hc:∀i,∃c:Nat->Nat,i<S.length->(∀j,c j<ag m)/\∀k,cf (S.getD i []) k=sm (gp m) R.length λj=>gm m (c j) (cf (R.getD j []) k):=λi=>by
  by_cases hi:i<S.length
  ·obtain⟨c,a,b⟩:=(h i hi).sum hm hR
   exact⟨c,λ_=>⟨a,b⟩⟩
  ·exact⟨λ_=>0,λz=>absurd z hi⟩
 obtain⟨C,hC⟩:=Classical.axiomOfChoice hc
 have cl:∀i,i<S.length->∀j,C i j<ag m:=λi hi=>(hC i hi).1
 obtain⟨x,f,f1,x1,x2,x3⟩:=cn5 hm (n:=S.length) (M:=(aR R.length).map λj=>(aR S.length).map λi=>C i j) (λy hy=>by
  obtain⟨j,_,rfl⟩:=cn.mp hy
  refine⟨by rw[bU,dR],λz hz=>?_⟩
  obtain⟨i,hi,rfl⟩:=cn.mp hz
  exact cl i (dO.mp hi) j) (by rw[bU,dR];exact hl)
 rw[bU,dR]at x3
 have x4:∀j,j<R.length->sm (gp m) S.length (λi=>gm m (C i j) (x i))=0:=λj hj=>by
  rw[<-x3 j hj]
  refine du λi hi=>?_
  rw[EU (λj=>(aR S.length).map λi=>C i j) (by rw[dR];exact hj) 0 [],O1 _ hi,aQ,mF hj];rfl
 have x5:∀k,sm (gp m) S.length (λi=>gm m (x i) (cf (S.getD i []) k))=0:=λk=>by
  rw[du (g:=λi=>sm (gp m) R.length λj=>gm m (gm m (C i j) (x i)) (cf (R.getD j []) k)) λi hi=>?_,EF r,iD r λj hj=>?_]
  ·rw[du (g:=λi=>gm m (cf (R.getD j []) k) (gm m (C i j) (x i))) λi hi=>jy m _ _,nK r,x4 j hj,r.qz]
  ·rw[(hC i hi).2 k,<- nK r]
   exact du λj _=>by rw[<-j9 (dj m hm),jy m (x i)]
 have:=x5 (H f)
 rw[pY r (f:=λi=>gm m (x i) (cf (S.getD i []) (H f))) (eT hm _ _) f1 λj hj hn=>by rw[I.u j f hj f1,if_neg hn,r.qz],I.u f f f1 f1,if_pos rfl,x2,lJ (lo1 hm)]at this
 omega
theorem Sp.sm{N:Nat}{p q:Nat->Nat->Nat}{S:(Nat->Nat)->Prop}{c:Nat->Nat}{F:Nat->Nat->Nat}:∀{n:Nat},(∀i,i<n->c i<N)->(∀i,i<n->Sp N p q S (F i))->Sp N p q S λk=>L3.sm p n λi=>q (c i) (F i k)
 | 0,_,_=>.zero
 | n+1,hc,h=>.add (Sp.sm (λi hi=>hc i (by omega)) λi hi=>h i (by omega)) (.mul _ (hc n (by omega)) (h n (by omega)))
theorem EY{T:List (List Nat)}{i:Nat}(h:i<T.length):T.getD i []=T[i]:=by rw[aQ,aP h];rfl
theorem bI.red{m:Bool × Nat}(hm:m∈aK){G:List (List Nat)}(hG:RT (ag m) (dv G) G){f:Nat->Nat}(h:bI m G f):bI m (iH m G) f:=((EV hm hG).2.2.2 f).mp h
end L3
namespace L3
open PySem L2 PySem.Spec PyProof.Rows
section
variable{X:Cx}{F H:Hp}{e b:Expr}{pos pos' p p2 p3 apos bM:Pos}{ti te:aF}{x y:Str}{i j:Nat}
noncomputable def tH(i:Nat)(n:Int)(te ti:aF):ck:=λD δ=>te δ λd ao=>∃l1 ys l2,ao[i]?=some (some (.lst true (l1++.lst true ys::l2)))/\n=l1.length/\mZ ti ao λk aJ=>match k with
 | .int n=>∃jj,aJ[i]?=some (some (.lst true (l1++.lst true ys::l2)))/\fG ys.length n=some jj/\D.nx (aJ.set i (some (.lst true (l1++.lst true (ys.set jj d)::l2))))
 | _=>False
theorem bZ7{n:Int}{tk:Nat}(hN:X.N[i]?=some x)(hv:i8 X.env.scope x)(he:PE X e (lE te))(hi:PE X b (lB ti))(hd:(x==("__debug__":Str))=false:=by decide)(bV:(x==("__classdict__":Str))=false:=by decide)
  (ha:∀v,assign (.Subscript (.Subscript (.Name x p) (.Constant (.int n) tk p2) p3) b pos') X.env v=(do
   let ov<-holding [v] (eval (.Subscript (.Name x p) (.Constant (.int n) tk p2) p3) X.env)
   let iv<-holding [v,ov] (eval b X.env)
   standAt pos'
   holding [v,ov,iv] (setItem ov iv v)
   release [v,ov,iv] []):=by intro _;rfl)
  (hs:swapsWithSole [.Subscript (.Subscript (.Name x p) (.Constant (.int n) tk p2) p3) b pos'] e pos.line X.env=pure false:=by rfl) (hw:swappedStores [.Subscript (.Subscript (.Name x p) (.Constant (.int n) tk p2) p3) b pos'] e X.env=pure none:=by rfl)
  (h1:(assignEach [.Subscript (.Subscript (.Name x p) (.Constant (.int n) tk p2) p3) b pos'] X.env).map (·.2)=[assign (.Subscript (.Subscript (.Name x p) (.Constant (.int n) tk p2) p3) b pos') X.env]:=by rfl) :
  PS X (.Assign [.Subscript (.Subscript (.Name x p) (.Constant (.int n) tk p2) p3) b pos'] e pos) (lS X (tH i n te ti)) :=
 jn (Lk he (Lj (LH LM (mL hN hv hd bV) qP (λ_ _=>rfl)) (eK hi) LN ha) hs hw h1) λEn σ H ⟨B,F,δ,Dd,c,q,k1,k2,k3,k4⟩=>⟨B,F,δ,[],_,c,q,λd ao v F1 H1 hq f1 h1 c1=>by
  obtain⟨l1,ys,l2,e1,e2,hq⟩:=hq
  obtain⟨p0,ws,g1,g2,g3⟩:=c1.ownAt e1
  obtain⟨q0,us,g5,g6,g7,_⟩:=D1 c1 e1 g1 g2
  subst e2
  refine⟨.ref p0,g1,p0,ws,_,.ref q0,rfl,rfl,bq.of g2,zb g5,B,F1,ao,[(d,v)],_,c1,hq,λkd aJ kv F2 H2 hk f2 h2 c2=>?_⟩
  have st:=c2.top
  split at hk
  ·obtain⟨jj,ex,ej,hn⟩:=hk
   cases st
   have c3:=c2.pop
   refine⟨q0,us,_,jj,rfl,rfl,h2 _ _ g6,by rw[<-g7];exact ej,k1 _ _ F2 _ hn ?_⟩
   exact ai.Yh (ps:=[(d,v)]) (ts:=[]) c3 ex g1 (h2 _ _ g2) g5 λus0 A1 A2 z r1 r2 nd=>by
    rw[h2 _ _ g6]at z;cases z
    exact R.DF jj r1 r2 nd
  ·exact hk.elim⟩
theorem R.rev:∀{xs:List D} {ws:List V} {A:List Addr},R F H xs ws A->A.Nodup->∃A',R F H xs.reverse ws.reverse A'/\A'.Nodup/\∀a∈A',a∈A
 | [],_,A,r,nd=>by cases r;exact⟨[],.nil,by simp,by simp⟩
 | d::ds,_,A,r,nd=>by
  obtain⟨w,df,B1,B2,rfl,rfl,h1,h2⟩:=r.cA
  obtain⟨n1,n2,n3⟩:=dY.mp nd
  obtain⟨A',r',gn,sub⟩:=R.rev h2 n2
  refine⟨A'++B1,?_,dY.mpr ⟨gn,n1,λa ha hb=>n3 a hb (sub a ha)⟩,λa ha=>?_⟩
  ·rw[BW,BW]
   exact r'.append h1
  ·rcases bP.mp ha with z | z
   ·simp[sub a z]
   ·simp[z]
noncomputable def tI(i:Nat):ck:=λD δ=>∃xs,δ[i]?=some (some (.lst true xs))/\D.nx (δ.set i (some (.lst true xs.reverse)))
theorem bI5(hN:X.N[i]?=some x)(hv:i8 X.env.scope x)(hd:(x==("__debug__":Str))=false:=by decide)(bV:(x==("__classdict__":Str))=false:=by decide)
  (jk:attributeBase (.Name x p) "reverse" X.env (eval (.Name x p) X.env)=eval (.Name x p) X.env:=by rfl) (jl:(apos.endLine==bM.line)=true:=by rfl)
  (pG:swapsWith (.Call (.Attribute (.Name x p) "reverse" apos) [] [] bM) none pos.line X.env=pure false:=by rfl) :
  PS X (.Expr (.Call (.Attribute (.Name x p) "reverse" apos) [] [] bM) pos) (lS X (tI i)) :=
 jn (yW (LR PySem.F.plainAttrs_list PySem.F.slot_list_reverse PySem.F.type_list_reverse VO (mL hN hv hd bV) jk jl) pG) λEn σ H zz=>by
  obtain⟨B,F,δ,Dd,c,⟨ys,ey,hn⟩,k1,k2,k3,k4⟩:=zz
  obtain⟨p0,rk,g1,g2,g3⟩:=c.ownAt ey
  refine⟨.ref p0,g1,.inl ⟨rfl,_,bq.of g2⟩,p0,rk,rfl,rfl,g2,k1 _ _ F _ hn ?_⟩
  exact ai.mut (ps:=[]) c ey g1 λdf A1 A2 h r1 r2 nd=>by
   rw[g2]at h;cases h
   obtain⟨A',r',gn,sub⟩:=r1.rev (dY.mp nd).1
   exact⟨A',r',gn,λa ha=>eU _ (sub a ha)⟩
end
section
variable{X:Cx}
end
section
variable{X:Cx}{es:List Expr}{tr:cj}{pos:Pos}
end
end L3
namespace L3
open PySem L2 Mf
theorem RR.lead{m:Bool × Nat}(hm:m∈aK){w:Nat}{R:List (List Nat)}{H:Nat->Nat}(hR:RT (ag m) w R)(I:RR w R H){f:Nat->Nat}(s:bI m R f){t:Nat}(h1:f t≠0)(h2:∀j,j<t->f j=0):∃i,i<R.length/\H i=t:=by
 refine SA λc=>h1 ?_
 rw[I.own hm hR s t]
 refine iD (rg hm) λi hi=>?_
 rcases Cm (H i) t with h | h | h
 ·rw[h2 _ h,iV m _ (dj m hm)]
 ·exact absurd ⟨i,hi,h⟩ c
 ·rw[I.z i hi t h,(rg hm).qz]
theorem RR.same{m:Bool × Nat}(hm:m∈aK){w:Nat}{R R':List (List Nat)}{H H':Nat->Nat}(hR:RT (ag m) w R)(I:RR w R H)(As:RT (ag m) w R')(I':RR w R' H')(h:∀x∈R,bI m R' (cf x))(h':∀x∈R',bI m R (cf x)):R=R':=by
 have l:R.length=R'.length:=Nat.le_antisymm (I.O7 hm hR As λi hi=>h _ (dw hi [])) (I'.O7 hm As hR λi hi=>h' _ (dw hi []))
 have a:∀i,i<R.length->∃j,j<R'.length/\H' j=H i:=λi hi=>I'.lead hm As (h _ (dw hi [])) (by rw[I.u i i hi hi,if_pos rfl];decide) λj hj=>I.z i hi j hj
 have a':∀i,i<R'.length->∃j,j<R.length/\H j=H' i:=λi hi=>I.lead hm hR (h' _ (dw hi [])) (by rw[I'.u i i hi hi,if_pos rfl];decide) λj hj=>I'.z i hi j hj
 have e:∀n i,i<n->i<R.length->H i=H' i:=by
  intro n
  induction n with
  | zero=>exact λi hi=>nomatch hi
  | succ n ih =>
   intro i hi hl
   by_cases hn:i<n
   ·exact ih i hn hl
   obtain rfl:i=n:=by omega
   obtain⟨j,j1,j2⟩:=a i hl
   obtain⟨j',j3,j4⟩:=a' i (by omega)
   have b1:i<=j:=yp λc=>by
    have:=ih j c (by omega)
    have:=I.i j i c hl
    omega
   have b2:i<=j':=yp λc=>by
    have:=ih j' c (by omega)
    have:=I'.i j' i c (by omega)
    omega
   have c1:H' i<=H' j:=by
    rcases u9 i j with c | c
    ·exact nV (I'.i i j c j1)
    ·rw[show i=j by omega];exact aX _
   have c2:H i<=H j':=by
    rcases u9 i j' with c | c
    ·exact nV (I.i i j' c j3)
    ·rw[show i=j' by omega];exact aX _
   omega
 refine qF l λi h1 h2=>?_
 rw[<-EY h1,<- EY h2]
 refine b85 (hR _ (dw h1 [])).1 (As _ (dw h2 [])).1 λk _=>?_
 rw[I.own hm hR (h' _ (dw h2 [])) k,pY (rg hm) (f:=λj=>gm m (cf (R'.getD i []) (H j)) (cf (R.getD j []) k)) (eT hm _ _) h1 λj hj hn=>?_]
 ·rw[e (i+1) i (by omega) h1,I'.u i i h2 h2,if_pos rfl,lJ (fe hm (hR _ (dw h1 [])).2 k)]
 ·rw[e (j+1) j (by omega) hj,I'.u i j h2 (by omega),if_neg (λz:i=j=>hn z.symm),iV m _ (dj m hm)]
theorem O8{m:Bool × Nat}(hm:m∈aK){A T:List (List Nat)}{H:Nat->Nat}(hT:RT (ag m) (dv T) T)(hA:RT (ag m) (dv T) A)(I:RR (dv T) A H)(h:∀x∈T,bI m A (cf x))(h':∀x∈A,bI m T (cf x)):iH m T=A:=by
 obtain⟨⟨H1,I1⟩,iR,il,sp⟩:=EV hm hT
 refine I1.same hm iR hA I (λx hx=>?_) λx hx=>(sp _).mp (h' x hx)
 refine Sp.trans (λf hf=>?_) ((sp _).mpr (bI.of hx))
 obtain⟨y,hy,rfl⟩:=hf
 exact h y hy
theorem bL9{m:Bool × Nat}(hm:m∈aK){w:Nat}{A T:List (List Nat)}(hA:RT (ag m) w A)(h:∀i,i<A.length->∃r∈T,∃c:Nat->Nat,(∀j,c j<ag m)/\c i≠0/\∀k,cf r k=sm (gp m) (i+1) λj=>gm m (c j) (cf (A.getD j []) k)):∀n i,i<n->i<A.length->bI m T (cf (A.getD i [])):=by
 intro n
 have r:=rg hm
 have m0:=dj m hm
 obtain⟨e,e1,e2,e3,e4⟩:=cp3 hm
 induction n with
 | zero=>exact λi hi=>nomatch hi
 | succ n ih =>
  intro i hi hl
  by_cases hn:i<n
  ·exact ih i hn hl
  obtain rfl:i=n:=by omega
  obtain⟨x,hx,c,c1,c2,c3⟩:=h i hl
  obtain⟨d,d1,d2⟩:=OL hm (lo1 hm) (c1 i) c2
  have la:=fe hm (hA _ (dw hl [])).2
  have:cf (A.getD i [])=λk=>gm m d (gp m (cf x k) (gm m e (sm (gp m) i λj=>gm m (c j) (cf (A.getD j []) k)))):=funext λk=>by
   have hs:sm (gp m) i (λj=>gm m (c j) (cf (A.getD j []) k))<ag m:=nH r λ_ _=>eT hm _ _
   rw[c3 k,sm,r.pc (sm _ _ _),r.pa,jy m e,(e4 hs hs).mpr rfl,r.z' (eT hm _ _),<- j9 m0,d2,lJ (la k)]
  rw[this]
  exact .mul d d1 (.add (bI.of hx) (.mul e e1 (Sp.sm (λj _=>c1 j) λj hj=>ih j hj (by omega))))
end L3
namespace L3
open PySem L2 Mf
theorem Au(a b:List Nat)(k:Nat):cf (a++b) k=if k<a.length then cf a k else cf b (k-a.length):=by
 unfold cf
 rw[aQ,List.getElem?_append]
 split<;>rw[aQ]
end L3
namespace L3
open PySem L2 Mf
end L3
namespace L2
open PySem PySem.Spec PyProof.Rows
section
variable{X:Cx}
end
end L2
namespace L3
open PySem L2 PySem.Spec PyProof.Rows
section
variable{X:Cx}
end
end L3
namespace L2
open PySem PySem.Spec PyProof.Rows
section
variable{X:Cx}{a:Expr}{ta:TE}{p p2 pos Av:Pos}
end
end L2
namespace L3
open PySem L2 PySem.Spec PyProof.Rows
section
variable{X:Cx}{a:Expr}{t:aF}{p p2 pos Av:Pos}
end
end L3
namespace L3
open PySem L2 PySem.Spec PyProof.Rows
section
variable{F H:Hp}
end
section
variable{X:Cx}{e:Expr}{t:aF}{p2 pos:Pos}
end
end L3
namespace L3
open PySem L2 PySem.Spec PyProof.Rows
noncomputable def Dk(A:List Addr)(H:Hp):Hp:=λa=>if a∈A then none else H a
section
variable{F H:Hp}
end
section
variable{P:Program}{w:World}{K:PySem.W.Frag}{mg:Str->Option Value}{base:Heap}
end
section
variable{X:Cx}{CX:dA}{n i:Nat}{f:Addr}{fd:FuncData}{ps:List Str}{sp:bD}{E:XK}{fn x:Str}{e:Expr}{te:aF}{p p2 pos pos' Av:Pos}
end
end L3
namespace L2
section
variable{α:Type}{P:List α->Prop}
theorem ci6(h:P []):∀us:List α,us.length=0->P us:=by
 intro us hl;rcases us with _ | ⟨a,t⟩
 ·exact h
 ·cases hl
theorem iJ(h:∀a,P [a]):∀us:List α,us.length=1->P us:=by
 intro us hl;rcases us with _ | ⟨a,t⟩
 ·cases hl
 ·exact ci6 (P:=λt=>P (a::t)) (h a) t (vb hl)
theorem gY(h:∀a b,P [a,b]):∀us:List α,us.length=2->P us:=by
 intro us hl;rcases us with _ | ⟨a,t⟩
 ·cases hl
 ·exact iJ (P:=λt=>P (a::t)) (h a) t (vb hl)
theorem lY(h:∀a b c,P [a,b,c]):∀us:List α,us.length=3->P us:=by
 intro us hl;rcases us with _ | ⟨a,t⟩
 ·cases hl
 ·exact gY (P:=λt=>P (a::t)) (h a) t (vb hl)
theorem pZ(h:∀a b c d,P [a,b,c,d]):∀us:List α,us.length=4->P us:=by
 intro us hl;rcases us with _ | ⟨a,t⟩
 ·cases hl
 ·exact lY (P:=λt=>P (a::t)) (h a) t (vb hl)
theorem O9(h:∀a b c d e,P [a,b,c,d,e]):∀us:List α,us.length=5->P us:=by
 intro us hl;rcases us with _ | ⟨a,t⟩
 ·cases hl
 ·exact pZ (P:=λt=>P (a::t)) (h a) t (vb hl)
theorem cj8(h:∀a b c d e f,P [a,b,c,d,e,f]):∀us:List α,us.length=6->P us:=by
 intro us hl;rcases us with _ | ⟨a,t⟩
 ·cases hl
 ·exact O9 (P:=λt=>P (a::t)) (h a) t (vb hl)
end
end L2
namespace L3
open PySem L2 PySem.Spec PyProof.Rows
section
variable{B:Bs}{F H:Hp}{σ:L2.St}{δ:Dl}{ts:List (D × V)}
theorem ai.apart{j:Nat}{p q:Addr}{xs ys:List D}(c:ai B F H σ δ ((.lst true xs,.ref q)::ts))(e:δ[j]?=some (some (.lst true ys)))(e2:σ[j]?=some (some (.ref p))):p≠q:=by
 obtain⟨A,C,r,s,nd,fr⟩:=c.own
 obtain⟨v,A',C',e1,h1,h2,pm⟩:=s.pick e
 rw[e2]at e1;cases e1
 intro z
 subst z
 have i1:p∈A:=by
  cases r with
  | own h f x r=>simp
 have i2:p∈C:=by
  refine pm.mem_iff.mpr ?_
  cases h1 with
  | own h f x r=>simp
 exact(dY.mp nd).2.2 p i1 i2
theorem EZ(F H:Hp):∀ns:List Int,R F H (nums ns) (ns.map V.int) []
 | []=>.nil
 | _::ns=>.int (EZ F H ns)
end
section
variable{X:Cx}{elt iter tg:Expr}{pos:Pos}{scope:Scope}{cl:List (Str × Addr)}{ti:iS}{te:aF}{g:fL}
end
end L3
namespace L2
open PySem PySem.Spec PyProof.Rows
section
variable{X:Cx}
theorem Pa:∀{ns:List Int} {its:List Value},PyProof.Rows.IntsAre its ns->Vals (ns.map V.int) its
 | _,_,.nil=>.nil
 | _,_,.cons n t r=>.cons ⟨t,rfl⟩ (Pa r)
end
end L2
namespace L3
open PySem L2 PySem.Spec PyProof.Rows
section
variable{X:Cx}
end
end L3
namespace L3
open PySem L2 Mf
noncomputable def Aw(l:List Nat)(z:Nat->Nat):Nat->List Nat
 | 0=>l
 | t+1=>(Aw l z t).eraseIdx (z t%(Aw l z t).length)
noncomputable def drawn(l:List Nat)(z:Nat->Nat)(t:Nat):Nat:=(Aw l z t).getD (z t%(Aw l z t).length) 0
theorem Az{α:Type}:∀(l:List α) (i:Nat) (h:i<l.length),(l[i]::l.eraseIdx i).Perm l
 | a::l,0,_=>Co _
 | a::l,i+1,h=>by
  have h':i<l.length:=by simpa using h
  show(l[i]::a::l.eraseIdx i).Perm (a::l)
  exact(List.Perm.swap _ _ _).trans (List.Perm.cons a (Az l i h'))
end L3
namespace L3
open PySem L2 Mf
section
variable{m:Bool × Nat}{C:Nat->Nat->Nat}{w:Nat}
end
end L3
namespace L3
open PySem L2 Mf
section
variable{m:Bool × Nat}{C:Nat->Nat->Nat}{w:Nat}
end
end L3
namespace L3
open PySem L2 Mf
section
variable{m:Bool × Nat}{C:Nat->Nat->Nat}
end
end L3
namespace L3
open PySem L2 PySem.Spec PyProof.Rows
section
variable{B:Bs}{F H:Hp}{σ:L2.St}{δ:Dl}{ts:List (D × V)}
end
section
variable{X:Cx}{a:Expr}{ta:aF}{pos p2:Pos}{tk:Nat}
end
end L3
namespace L3
open PySem L2 PySem.Spec PyProof.Rows
section
variable{X:Cx}{a b:Expr}{ta tb:aF}{elts:List Expr}{x1:Nat}{kB p pos:Pos}
end
end L3
namespace L3
open PySem L2 Mf
section
variable{m:Bool × Nat}
end
end L3
namespace L3
open PySem L2 PySem.Spec PyProof.Rows
section
variable{B:Bs}{F H:Hp}{σ:L2.St}{δ:Dl}{ts ps:List (D × V)}{p:Addr}
end
section
variable{X:Cx}{iter tg:Expr}{te:aF}{g:fL}{t:ck}{pos:Pos}
end
section
variable{X:Cx}{e:Expr}{pos p pr apos bM zH tp:Pos}{t:aF}{x y:Str}{i j:Nat}{n0:Int}
end
end L3
namespace L2
open PySem PySem.Spec PyProof.Rows
section
variable{prog:Program}{w:World}{A:Around}{E:Value->Shared->Prop}{s:Shared}
end
section
variable{prog:Program}{w:World}{A:Around}{E:Value->Shared->Prop}{s:Shared}
end
section
variable{X:Cx}{pins:List (Addr × Obj)}{σ:St}{H:Hp}{s:Shared}
end
section
variable{X:Cx}{a b:Expr}{ta:TA}{p pos kB:Pos}{elts:List Expr}{x1:Nat}
end
end L2
namespace L3
open PySem L2 PySem.Spec PyProof.Rows
section
variable{F H:Hp}{p q:Addr}{xs ys:List D}{ws us:List V}
end
section
variable{X:Cx}{a b l tg:Expr}{ta:cj}{te:aF}{p pos kB:Pos}{elts:List Expr}{x1:Nat}
end
end L3
namespace L3
open PySem L2 Mf
section
variable{m:Bool × Nat}
end
end L3
namespace L3
open PySem L2 PySem.Spec PyProof.Rows
section
variable{B:Bs}{F H:Hp}{σ:L2.St}{δ:Dl}{ts:List (D × V)}
end
section
variable{X:Cx}{a:Expr}{ta:aF}{pos p2:Pos}{tk:Nat}
end
end L3
namespace L2
open PySem PySem.Spec PyProof.Rows
noncomputable def Rs(a:Array Nat):Prop:=a.toList.Pairwise (· < ·)
theorem Rs.lt{a:Array Nat}(r:Rs a){i k:Nat}(h:i<k)(hk:k<a.size):a[i]'(by omega)<a[k]:=by
 have:=yE.mp r i k (by simpa using(by omega:i<a.size)) (by simpa using hk) h
 simpa using this
theorem E1{a:Array Nat}{j:Nat}(r:Rs a):∀(fuel lo hi:Nat),lo<=hi->hi<=a.size->hi-lo<=fuel->(∀i,(h:i<a.size)->i<lo->a[i]<j)->(∀i,(h:i<a.size)->hi<=i->j<=a[i]) ->
  yF a j fuel lo hi<=a.size/\(∀i,(h:i<a.size)->i<yF a j fuel lo hi->a[i]<j)/\∀i,(h:i<a.size)->yF a j fuel lo hi<=i->j<=a[i]
 | 0,lo,hi,h1,h2,h3,h4,h5=>by
  have e:lo=hi:=by omega
  subst e
  unfold yF
  exact⟨h2,h4,h5⟩
 | fuel+1,lo,hi,h1,h2,h3,h4,h5=>by
  unfold yF
  by_cases hl:lo<hi
  ·rw[if_pos hl]
   have hm:(lo+hi)/2<a.size:=by omega
   have eg:a.getD ((lo+hi)/2) j=a[(lo+hi)/2]:=by simp[yG,hm]
   dsimp only
   rw[eg]
   by_cases hc:a[(lo+hi)/2]<j
   ·rw[if_pos hc]
    refine E1 r fuel _ hi (by omega) h2 (by omega) (λi dW dJ=>?_) h5
    by_cases e:i=(lo+hi)/2
    ·subst e;exact hc
    ·exact Nat.lt_trans (r.lt (show i<(lo+hi)/2 by omega) hm) hc
   ·rw[if_neg hc]
    refine E1 r fuel lo _ (by omega) (by omega) (by omega) h4 (λi dW hle=>?_)
    by_cases e:i=(lo+hi)/2
    ·subst e;omega
    ·exact nV (kr (yp hc) (r.lt (show(lo+hi)/2<i by omega) dW))
  ·rw[if_neg hl]
   have e:lo=hi:=by omega
   subst e
   exact⟨h2,h4,h5⟩
theorem Pb{a:Array Nat}{j:Nat}(r:Rs a):eP a j<=a.size/\(∀i,(h:i<a.size)->i<eP a j->a[i]<j)/\∀i,(h:i<a.size)->eP a j<=i->j<=a[i] :=
 E1 r a.size 0 a.size (iZ _) (aX _) (by omega) (λi _ h=>absurd h (yB _)) λi h h'=>absurd h' (by omega)
theorem Rs.ins{a:Array Nat}{j:Nat}(r:Rs a)(hn:a[eP a j]?≠some j):Rs (SetTable.insertAt a (eP a j) j):=by
 obtain⟨h1,h2,h3⟩:=Pb (j:=j) r
 unfold Rs
 rw[SetTable.toList_insertAt]
 refine List.pairwise_append.mpr ⟨r.sublist (List.take_sublist _ _),va.mpr ⟨λx hx=>?_,r.sublist (List.drop_sublist _ _)⟩,λx hx y hy=>?_⟩
 ·obtain⟨i,hi,e⟩:=hV hx
  rw[List.getElem_drop]at e
  have dW:eP a j+i<a.size:=by rw[my,hE]at hi;omega
  have e':a[eP a j+i]=x:=by simpa using e
  have:=h3 _ dW (by omega)
  rcases u9 j x with z | z
  ·exact z
  ·exfalso
   have ex:x=j:=by omega
   cases i with
   | zero=>exact hn (by rw[qH (by simpa using dW)];simpa[ex]using e')
   | succ i =>
    have:=r.lt (show eP a j<eP a j+(i+1) by omega) dW
    have:=h3 (eP a j) (by omega) (aX _)
    omega
 ·obtain⟨i,hi,e⟩:=hV hx
  rw[List.getElem_take]at e
  have sP:i<eP a j:=by rw[mw]at hi;omega
  have e':a[i]'(by omega)=x:=by simpa using e
  have xl:=h2 i (by omega) sP
  rcases bJ.mp hy with rfl | hy
  ·omega
  ·obtain⟨k,hk,f⟩:=hV hy
   rw[List.getElem_drop]at f
   have An:eP a j+k<a.size:=by rw[my,hE]at hk;omega
   have f':a[eP a j+k]=y:=by simpa using f
   have:=h3 _ An (by omega)
   omega
structure cO(led:Bool)(t:SetTable):Prop where
 led:t.led=led
 E2:t.dummies=#[]
 AA:Rs t.place
theorem cO.off{led:Bool}{t:SetTable}(p:cO led t):cO led { t with plain:=false }:=⟨p.led,p.E2,p.AA⟩
theorem cO.fresh(led:Bool):cO led (.fresh 0 0 led):=⟨rfl,rfl,Kw⟩
theorem cO.standIn{led:Bool}{t:SetTable}(p:cO led t)(n:Nat):cO led (t.standIn n):=⟨p.led,rfl,by
 show(Array.range n).toList.Pairwise (· < ·)
 rw[Array.toList_range];exact SR⟩
theorem Pc(j:Nat):SetTable.has #[] j=false:=by
 unfold SetTable.has;simp
theorem Pd{led:Bool}{t:SetTable}(p:cO led t){f:Nat->Int}{h:Int}:∀(fuel:Nat) (q:SetTable.Probe) (j:Nat) (d:Option Nat),q.dummy=none->K1 t f h fuel q=some (.empty j d)->d=none/\t.place[eP t.place j]?≠some j
 | 0,q,j,d,hq,e=>by unfold K1 at e;cases e
 | fuel+1,q,j,d,hq,e=>by
  unfold K1 at e
  have adv:∀q:SetTable.Probe,(t.advance q).dummy=q.dummy:=λq=>by
   unfold SetTable.advance
   split<;>rfl
  have sl:t.slot q.j=.empty\/(∃i,t.slot q.j=.live i):=by
   unfold SetTable.slot
   rw[p.E2,Pc]
   dsimp only
   split
   ·exact .inr ⟨_,rfl⟩
   ·exact .inl rfl
  rcases sl with z | ⟨i,z⟩
  ·rw[z]at e
   dsimp only at e
   injection e with e
   injection e with e1 e2
   subst e1
   refine⟨by rw[<-e2];exact hq,λy=>?_⟩
   unfold SetTable.slot at z
   dsimp only at z
   rw[y]at z
   simp at z
  ·rw[z]at e
   dsimp only at e
   split at e
   ·cases e
   ·exact Pd p fuel _ j d (by rw[adv];exact hq) e
theorem cO.put{led:Bool}{t:SetTable}(p:cO led t){j:Nat}(hn:t.place[eP t.place j]?≠some j):cO led (t.put j).1:=⟨p.led,by
 show(if SetTable.has t.dummies j then _ else t.dummies)=#[]
 rw[p.E2,Pc];rfl,p.AA.ins hn⟩
theorem cO.orStandIn{led:Bool}{t:SetTable}(p:cO led t)(n:Nat):cO led (t.orStandIn n):=by
 unfold SetTable.orStandIn
 split
 ·exact p
 ·exact p.standIn n
theorem bB1{led:Bool}{t:SetTable}(p:cO led t)(es:Array (Int × Value))(h:Int)(x:Value):cO led (layNew t es h x).2.1:=by
 unfold layNew
 split
 ·rename_i slot wd e
  unfold SetTable.freeSlot at e
  split at e
  ·rename_i j d e2
   obtain⟨e3,e4⟩:=Pd p _ _ j d rfl e2
   subst e3
   injection e with e
   injection e with e _
   subst e
   exact(p.put e4).orStandIn _
  ·cases e
 ·exact p.standIn _
theorem Pe(f:Nat->Option Nat):∀l:List Nat,l.Pairwise (· < ·)->((l.filterMap λj=>(f j).map (j,·)).map (·.1)).Pairwise (· < ·)/\∀x∈(l.filterMap λj=>(f j).map (j,·)).map (·.1),x∈l
 | [],_=>⟨Kw,λ_ h=>h⟩
 | a::l,h=>by
  obtain⟨h1,h2⟩:=va.mp h
  obtain⟨i1,i2⟩:=Pe f l h2
  cases e:f a with
  | none =>
   rw[List.filterMap_cons_none (by rw[e];rfl)]
   exact⟨i1,λx hx=>fF _ (i2 x hx)⟩
  | some v =>
   rw[List.filterMap_cons_some (b:=(a,v)) (by rw[e];rfl),dF]
   exact⟨va.mpr ⟨λx hx=>h1 x (i2 x hx),i1⟩,λx hx=>by
    rcases bJ.mp hx with z | z
    ·rw[z];exact mm
    ·exact fF _ (i2 x z)⟩
theorem bo2{led:Bool}{t:SetTable}(p:cO led t)(es:Array (Int × Value))(wanted:Nat):cO led (relayAll t es wanted).2.1:=by
 unfold relayAll
 split
 ·rename_i t' order e
  dsimp only
  split
  ·unfold SetTable.relaid SetTable.laid at e
   cases ow:SetTable.layClean (SetTable.sizeAbove wanted-1) (es.map (·.1))with
   | none=>rw[ow]at e;cases e
   | some owner =>
    rw[ow]at e
    simp only[Option.bind_eq_bind,Option.bind_some,Option.pure_def,mI,Prod.mk.injEq]at e
    obtain⟨rfl,_⟩:=e
    exact⟨p.led,rfl,(Pe (λj=>owner.getD j none) _ SR).1⟩
  ·exact p.standIn _
 ·exact p.standIn _
end L2
namespace L2
open PySem PySem.Spec PyProof.Rows
section
variable{prog:Program}{w:World}{A:Around}{E:Value->Shared->Prop}{s:Shared}
noncomputable def eO(prog:Program)(w:World)(led:Bool)(h:Heap)(a:Addr)(S:Int->Bool)(n:Nat):Prop :=
 ∃o es ep t,h.get? a=some o/\o.ExactSet/\o.data=.set es ep t/\ElemsOf (intKind prog w) es.toList/\(∀k,S k=true↔∃e∈es.toList,(intKind prog w).is k e.2=true)/\es.size<scanBound/\t.fits es.size=true/\es.size=n/\cO led t
theorem eO.at{led:Bool}{h h':Heap}{a:Addr}{S:Int->Bool}{n:Nat}(x:eO prog w led h a S n)(k:∀o,h.get? a=some o->h'.get? a=some o):eO prog w led h' a S n:=by
 obtain⟨o,es,ep,t,g,r⟩:=x
 exact⟨o,es,ep,t,k o g,r⟩
theorem eO.eq{led:Bool}{h:Heap}{a:Addr}{S S':Int->Bool}{n n':Nat}(x:eO prog w led h a S n)(e:∀k,S k=S' k)(en:n=n'):eO prog w led h a S' n':=by
 have:S=S':=funext e
 subst this;subst en;exact x
theorem eO.store{led:Bool}{h:Heap}{a:Addr}{o:Obj}{es bS:Array (Int × Value)}{ep:Nat}{t t1:SetTable}{S':Int->Bool}(g:h.get? a=some o)(ex:o.ExactSet)(d:o.data=.set es ep t)(el:ElemsOf (intKind prog w) bS.toList)
  (mem:∀k,S' k=true↔∃e∈bS.toList,(intKind prog w).is k e.2=true) (b:bS.size<scanBound) (f:t1.fits bS.size=true) (p:cO led t1) :
  (h.update a (Obj.putSet bS t1)).get? a=some { o with data:=.set bS (ep+1) t1 }/\eO prog w led (h.update a (Obj.putSet bS t1)) a S' bS.size:=by
 obtain⟨g1,_⟩:=SetOf_store (knd:=intKind prog w) g ex d el mem b f
 exact⟨g1,_,bS,ep+1,t1,g1,ex,rfl,el,mem,b,f,rfl,p⟩
theorem Pf{led:Bool}{gv:Bool->Sem Unit}(hg:∀(b:Bool) (s1:Shared) (Q:Unit->Shared->Prop),Q () s1->wpAny (model prog w) A (gv b) Q E s1){a:Addr}{o:Obj}{es bS:Array (Int × Value)}{ep:Nat}{t t1:SetTable}{S':Int->Bool}{wd:Bool}{R:Option Bool->Shared->Prop}
  (g:s.heap.get? a=some o) (ex:o.ExactSet) (d:o.data=.set es ep t) (el:ElemsOf (intKind prog w) bS.toList) (mem:∀k,S' k=true↔∃e∈bS.toList,(intKind prog w).is k e.2=true) (b:bS.size<scanBound) (f:t1.fits bS.size=true) (p:cO led t1)
  (q:∀h',nW a s.heap h'->eO prog w led h' a S' bS.size->R (some true) { s with heap:=h' }) :
  wpAny (model prog w) A (do
    storeSet a bS t1
    if(!wd&&t1.tooFull)=true then do
      gv (relayAll t1 bS (qI bS.size)).2.2
      storeSet a (relayAll t1 bS (qI bS.size)).1 (relayAll t1 bS (qI bS.size)).2.1
      pure (some true)
     else pure (some true)) R E s:=by
 obtain⟨g1,S1⟩:=eO.store g ex d el mem b f p
 have u1:=Heap.SameBut.update s.heap a (Obj.putSet bS t1)
 refine wpAny_bind (wpAny_storeSet_of g d ?_ (fits_of_scanBound b))
 split
 ·have rp:=relayAll_perm t1 bS (qI bS.size)
  have rf:=relayAll_fits t1 bS (qI bS.size)
  have rt:=bo2 p bS (qI bS.size)
  generalize relayAll t1 bS (qI bS.size)=W at rp rf rt ⊢
  obtain⟨Pg,t2,cz8⟩:=W
  dsimp only at rp rf rt ⊢
  have z:Pg.size=bS.size:=by rw[<-hE,rp.length_eq,hE]
  have b2:Pg.size<scanBound:=by rw[z];exact b
  refine wpAny_bind (hg _ _ _ (wpAny_bind (wpAny_storeSet_of g1 rfl ?_ (fits_of_scanBound b2))))
  obtain⟨_,S2⟩:=eO.store (S':=S') g1 ex rfl (el.perm rp) (λk=>(mem k).trans ⟨λ⟨e,he,y⟩=>⟨e,rp.mem_iff.mpr he,y⟩,λ⟨e,he,y⟩=>⟨e,rp.mem_iff.mp he,y⟩⟩) b2 rf rt
  rw[z]at S2
  exact wpAny_pure (q _ (u1.trans (Heap.SameBut.update _ a _)) S2)
 ·exact wpAny_pure (q _ u1 S1)
theorem b71{led:Bool}{a:Addr}{S:Int->Bool}{n:Nat}{k:Int}{tk:Tok}{Q:Bool->Shared->Prop}(x:eO prog w led s.heap a S n)(room:n+1<scanBound)
  (q:∀h',nW a s.heap h'->eO prog w led h' a (λk'=>S k'||decide (k'=k)) (if S k then n else n+1)->Q (!S k) { s with heap:=h' }) :
  wpAny (model prog w) A (setAddHashed a (.int k tk) ((intKind prog w).hash k)) Q E s:=by
 obtain⟨o,es,ep,t,g,ex,d,el,mem,b,f,rfl,p⟩:=x
 have ky:(intKind prog w).is k (.int k tk)=true:=intKind_is _ _ _ _
 unfold setAddHashed setAddHashedIn
 refine wpAny_holding (wpAny_bind (wpAny_setState_of g d f ?_))
 dsimp only
 rw[byScan_of (show(gA k tk).scannable=true from rfl) b el]
 simp only[↓reduceIte]
 unfold setAddByScan
 refine wpAny_bind (wpAny_bind (wpAny_rule (wpAny_bind (wpAny_setScan_of ky g d f el ?_))))
 cases hr:List.findIdx? (λe=>(intKind prog w).is k e.2) es.toList with
 | some j =>
  dsimp only
  obtain⟨hj,hp,_⟩:=KY.mp hr
  have sk:S k=true:=(mem k).mpr ⟨es.toList[j],fi hj,hp⟩
  have y:=q s.heap (Heap.SameBut.refl a s.heap) ⟨o,es,ep,t,g,ex,d,el,λk'=>by
   rw[Bool.or_eq_true,decide_eq_true_eq,<- mem k']
   exact⟨λz=>z.elim id λe=>e ▸ sk,.inl⟩,b,f,by rw[if_pos sk],p⟩
  rw[sk]at y
  exact wpAny_pure (wpAny_pure y)
 | none =>
  dsimp only
  have sk:S k=false:=by
   cases h:S k with
   | false=>rfl
   | true =>
    obtain⟨e,he,hp⟩:=(mem k).mp h
    have:=K0.mp hr e he
    rw[hp]at this;cases this
  have lp:=layNew_perm t es ((intKind prog w).hash k) (.int k tk)
  have lf:=layNew_fits t es ((intKind prog w).hash k) (.int k tk)
  have lt:=bB1 p es ((intKind prog w).hash k) (.int k tk)
  generalize layNew t es ((intKind prog w).hash k) (.int k tk)=W at lp lf lt ⊢
  obtain⟨bS,t1,wd,cz8⟩:=W
  dsimp only at lp lf lt ⊢
  rw[SS]at lp
  have z:bS.size=es.size+1:=by rw[<-hE,lp.length_eq,fh,hE];rfl
  have Ph:ElemsOf (intKind prog w) bS.toList:=(el.push ky rfl).perm lp
  have Pj:∀k',(S k'||decide (k'=k))=true↔∃e∈bS.toList,(intKind prog w).is k' e.2=true:=mem_push_iff ky mem lp
  have b1:bS.size<scanBound:=by rw[z];exact room
  have gw:∀(c:Bool) (s1:Shared) (Q':Unit->Shared->Prop),Q' () s1->wpAny (model prog w) A (match c with | true=>rule "set.scan.the-table-gave-way" | false=>pure ()) Q' E s1:=λc s1 Q' y=>by cases c<;>first | exact wpAny_pure y | exact wpAny_rule y
  have fin:∀h',nW a s.heap h'->eO prog w led h' a (λk'=>S k'||decide (k'=k)) bS.size->Q true { s with heap:=h' }:=λh' c1 c2=>by
   have y:=q h' c1
   rw[sk]at y
   rw[z]at c2
   exact y (by rw[if_neg hJ];exact c2)
  refine wpAny_bind (gw _ _ _ ?_)
  split
  ·refine wpAny_bind ?_
   rw[hashByValue_scannable 8 (show(gA k tk).scannable=true from rfl)]
   refine wpAny_pure (Pf (led:=led) ?_ g ex d Ph Pj b1 ?_ ?_ ?_)
   ·intro c s1 Q' y;cases c<;>first | exact wpAny_pure y | exact wpAny_rule y
   ·split
    ·exact lf
    ·exact SetTable.fits_plain_off lf
   ·split
    ·exact lt
    ·exact lt.off
   ·intro h' c1 c2;dsimp only;exact wpAny_pure (fin h' c1 c2)
  ·refine wpAny_bind (wpAny_pure ?_)
   simp only[↓reduceIte]
   refine Pf ?_ g ex d Ph Pj b1 lf lt ?_
   ·intro c s1 Q' y;cases c<;>first | exact wpAny_pure y | exact wpAny_rule y
   ·intro h' c1 c2;dsimp only;exact wpAny_pure (fin h' c1 c2)
end
end L2
namespace L2
open PySem PySem.Spec PyProof.Rows
noncomputable def eC(w:World):Bool:=w.params.followText "set-order"
section
variable{prog:Program}{w:World}{A:Around}{R:Result->Shared->Prop}{I:Addr}{fp wr:List Addr}{G:Array GenState->Array GenState->Prop}{n:Nat}{P:Nat->Value->Prop}{St:Nat->Shared->Prop}
theorem bL6(W:WalksS prog w A.in1 I fp wr G n P St)(a:Addr)(af:a ∉ fp)(val:Nat->Int)(hv:∀i v,P i v->∃t,v=.int (val i) t)(hb:n+1<scanBound) :
  ∀(k i:Nat) (s:Shared),n-i=k->i<=n->St i s->eO prog w (!eC w) s.heap a (λz=>(firstMet val i).any (·==z)) (firstMet val i).length ->
   (∀s',Moved (a::wr) G s s'->eO prog w (!eC w) s'.heap a (λz=>(firstMet val n).any (·==z)) (firstMet val n).length->R (.ok (.ret .none)) s') ->
   codeAny (model prog w) A (.builtin "set.update.loop" ⟨[.ref a,.ref I],[]⟩) R s:=by
 have aw:a ∉ wr:=λh=>af (W.sub _ h)
 have sub:∀b∈wr,b∈a::wr:=λb h=>fF _ h
 intro k
 induction k with
 | zero =>
  intro i s hk hi st x r
  obtain rfl:i=n:=by omega
  refine codeAny_builtin F.entry_set_update_loop ?_
  rw[Cp K2 _]
  show wpAny _ A.in1 (pyNext (.ref I) >>= _) _ _ s
  refine wpAny_bind (W.done s _ _ st λs' mv=>?_)
  show wpAny _ A.in1 (ret g8) _ _ s'
  exact wpAny_pure (r s' (mv.mono sub) (x.at λo g=>mv.heap a _ aw g))
 | succ k ih =>
  intro i s hk hi st x r
  have lt:i<n:=by omega
  refine codeAny_builtin F.entry_set_update_loop ?_
  rw[Cp K2 _]
  show wpAny _ A.in1 (pyNext (.ref I) >>= _) _ _ s
  refine wpAny_bind (W.item i s _ _ lt st λv s1 pv st1 mv=>?_)
  obtain⟨t,rfl⟩:=hv i v pv
  have x1:=x.at (h':=s1.heap) λo g=>mv.heap a _ aw g
  show wpAny _ A.in1 (holding [gA (val i) t] (setAdd a (.int (val i) t)) >>= _) _ _ s1
  refine wpAny_bind (wpAny_holding ?_)
  unfold setAdd
  refine wpAny_holding (wpAny_bind ((intKind prog w).pyHash (k:=val i) (intKind_is _ _ _ _) ?_))
  refine b71 (s:={ s1 with toks:=s1.toks+1 }) x1 (by have:=firstMet_length_le val i;omega) λh2 sb x2=>?_
  have x3:eO prog w (!eC w) h2 a (λz=>(firstMet val (i+1)).any (·==z)) (firstMet val (i+1)).length:=x2.eq (λz=>by rw[firstMet_succ,step_any]) (by rw[firstMet_succ,step_length])
  refine wpAny_pure ⟨plainId_quiet K2 _,ih (i+1) _ (by omega) lt (W.frame _ s1 _ _ st1 (yk _) λb hb o e=>?_) x3 λs2 mv2 x4=>?_⟩
  ·rw[sb.2 b (λh:b=a=>af (by rw[<-h];exact hb))];exact e
  ·refine r s2 (Moved.trans W.gtrans ((mv.mono sub).then_heap (yk _) λb o hb e=>?_) mv2) x4
   rw[sb.2 b (λh:b=a=>hb (by rw[h];exact mm))];exact e
end
section
variable{prog:Program}{w:World}{A:Around}{E:Value->Shared->Prop}{s:Shared}
noncomputable abbrev iX(w:World):Obj:={ cls:=.type "set",dict:=none,data:=.set #[] 0 (.fresh 0 0 (!eC w)) }
theorem bY2(v:Value){Q:Value->Shared->Prop}(q:Q (.ref s.heap.objs.size) { s with heap:=s.heap.push (iX w) }) :
  codeAny (model prog w) A (.call (.builtin "set.__new__") ⟨[.type "set",v],[]⟩) (wants Q E) s:=by
 refine codeAny_of_tree ?_
 show wpAny _ A.in1 (do checkBuiltinCall "set.__new__" ⟨[.type "set",v],[]⟩;again (.builtin "set.__new__" ⟨[.type "set",v],[]⟩)) _ _ s
 refine wpAny_bind (wpAny_of_eq (F.newCall_set_1 v) (wpAny_pure ⟨plainId_quiet F.plain_set_new _,codeAny_builtin F.entry_set_new ?_⟩))
 rw[Cp F.plain_set_new _]
 unfold Builtin.«set.__new__» Builtin.Frozenset.newClass
 have cA4:=sub_set_self
 obtain⟨hp,g,d,tk,os⟩:=s
 dsimp only
 wp_walk
 refine wpAny_askSetting (wpAny_pure ?_)
 dsimp only
 simp only[newObj]
 refine wpAny_bind (wpAny_alloc (wpAny_pure ?_))
 exact wpAny_pure q
end
end L2
namespace L2
open PySem PySem.Spec PyProof.Rows
section
variable{prog:Program}{w:World}{A:Around}{E:Value->Shared->Prop}{s:Shared}
set_option maxRecDepth 100000 in
set_option maxHeartbeats 3200000 in
theorem bq6{l:Addr}{its:Array Value}{ns:List Int}{Q:Value->Shared->Prop}(hh:A.handled=none)(hl:s.heap.IsList l its)(hi:IntsAre its.toList ns)(hb:its.size+1<scanBound)
  (q:∀(h':Heap) (tk:Nat),eO prog w (!eC w) h' s.heap.objs.size (λz=>(firstMet (λi=>ns.getD i 0) its.size).any (·==z)) (firstMet (λi=>ns.getD i 0) its.size).length ->
   (∀b o,b<s.heap.objs.size->s.heap.get? b=some o->h'.get? b=some o)->Q (.ref s.heap.objs.size) { s with heap:=h',toks:=tk }) :
  wpAny (model prog w) A (call (.type "set") [.ref l]) Q E s:=by
 obtain⟨c,tl,dD8⟩:=og.mro
 have dD9:=og.made
 have cA4:=og.sub
 refine wpAny_call (codeAny_of_tree ?_)
 show wpAny _ _ (callAny (.type "set") _) _ _ _
 refine wpAny_pure ⟨Code.quiet_builtin _ (by decide +kernel),codeAny_builtin F.entry_type_call ?_⟩
 rw[Around.under_plain (weight_type_call_type "set" [.ref l] []) rfl]
 have n1:=og.notType
 have n2:=og.canCreate
 have n3:=F.typeCall_set_1 (.ref l)
 repeat (any_goals (first | assumption | wp_step))
 refine codeAny_mono (bY2 (.ref l) (E:=E) (Q:=λobj s1=>obj=.ref s.heap.objs.size/\s1={ s with heap:=s.heap.push (iX w) }) ⟨rfl,rfl⟩) λr s1 hr=>?_
 cases r with
 | error e=>exact hr
 | ok fl =>
  cases fl with
  | ret obj =>
   obtain⟨rfl,rfl⟩:=hr
   have gS:(s.heap.push (iX w)).get? s.heap.objs.size=some (iX w):=cX _ rfl
   have hT:Shared.TypeIs { s with heap:=s.heap.push (iX w) } (.ref s.heap.objs.size) "set":=⟨_,gS,rfl⟩
   have li:=og.init.lookup
   have bi:=og.init.bind (.ref s.heap.objs.size)
   repeat (any_goals (first | assumption | wp_step))
   refine codeAny_mono (codeAny_call_builtin (R:=wants (λr s2=>r=.none/\∃h' tk,s2={ s with heap:=h',toks:=tk } /\
     eO prog w (!eC w) h' s.heap.objs.size (λz=>(firstMet (λi=>ns.getD i 0) its.size).any (·==z)) (firstMet (λi=>ns.getD i 0) its.size).length /\
     (∀b o,b<s.heap.objs.size->s.heap.get? b=some o->h'.get? b=some o)) E) og.init.plain F.entry_set_init (check_set_init_1 hT ?_)) λr2 s2 jx=>?_
   ·obtain⟨ol,gl,cl,nl,dl⟩:=id hl
    obtain⟨dE0,cA6,dE1,cA7⟩:=ol
    simp only at cl dl
    subst cl;subst dl
    have Aq:(s.heap.push (iX w)).get? l=some { cls:=.type "list",dict:=cA6,data:=.seq its nl,slots:=cA7 }:=bY _ gl
    have m1:=F.sub_list_set
    have m2:=F.sub_list_frozenset
    have m3:(mj "list"==mj "dict")=false:=by decide
    have tJ:(s.heap.push (iX w)).IsList l its:=⟨_,Aq,rfl,nl,rfl⟩
    unfold Builtin.«set.__init__» noKeywords Builtin.Frozenset.updateFrom
    generalize hPI:pyIter=PI
    wp_walk
    subst hPI
    refine wpAny_pyIter_list tJ (wpAny_bind (wpAny_runValue ?_))
    have lS:l<s.heap.objs.size:=bf gl
    have h3:A.in1.in1.in1.handled=none:=by simp[hh]
    have nI:l≠(s.heap.push (iX w)).objs.size:=by rw[jI];exact cI (u7 lS)
    have nf:s.heap.objs.size ∉ [(s.heap.push (iX w)).objs.size,l]:=by
     rw[jI];simp only[bJ,eF,hW,or_false,not_or]
     exact⟨cI (qq _),yh lS⟩
    refine bL6 ((Walks.list h3 _ l nI its).toS) s.heap.objs.size nf (λi=>ns.getD i 0) (λi v e=>IntsAre.int_at hi i v (by rw[Cq];exact e)) hb (its.size-0) 0 _ (by omega) (iZ _)
     ⟨⟨_,cX _ rfl,rfl,rfl⟩,tJ.push _⟩ ?hS ?hR
    case hS =>
     have g2:((s.heap.push (iX w)).push { cls:=.type "list_iterator",data:=.fields #[.ref l,.int 0 0] }).get? s.heap.objs.size=some (iX w):=bY _ gS
     exact⟨iX w,#[],0,_,g2,⟨rfl,rfl,rfl⟩,rfl,λe h=>(by simp at h),λk=>⟨λh=>by simp[firstMet]at h,λ⟨e,h,_⟩=>by simp at h⟩,by decide,by simp[SetTable.fits,SetTable.fill,SetTable.fresh],rfl,cO.fresh _⟩
    case hR =>
     intro s3 mv x3
     obtain⟨h4,g4,d4,k4,o4⟩:=s3
     have eg:g4=s.gens:=mv.gens
     have ed:d4=s.drawn:=mv.drawn
     have eo:o4=s.os:=mv.os
     subst eg;subst ed;subst eo
     show wpAny _ _ _ _ _ _
     refine wpAny_pure ?_
     show wpAny _ _ (ret g8) _ _ _
     refine wpAny_pure ⟨rfl,h4,k4,rfl,x3,λb o lb e=>?_⟩
     refine mv.heap b o ?_ (bY _ (bY _ e))
     simp only[bJ,eF,hW,or_false,not_or]
     exact⟨cI lb,by rw[jI];exact cI (u7 lb)⟩
   ·cases r2 with
    | error e=>exact jx
    | ok f2 =>
     cases f2 with
     | ret r =>
      obtain⟨rfl,h',tk,rfl,x3,kk⟩:=jx
      repeat (any_goals (first | assumption | wp_step))
      exact q _ _ x3 kk
     | _=>exact jx.elim
  | _=>exact hr.elim
end
end L2
namespace L2
open PySem PySem.Spec PyProof.Rows
theorem Pk:entryFor table "set.__iter__"=some Builtin.«frozenset.__iter__» :=
 entryFor_alias (id':="frozenset.__iter__") (by kernel_rfl) (by first | rfl | decide +kernel | (unfold String.splitOn;simp +decide [SU])) (by decide +kernel) (by kernel_rfl)
theorem jA:Slot "set_iterator" "__next__" "set_iterator.__next__" :=
 .of (owner:="set_iterator") (n:="__next__") (by rw[typeLookup_type,builtinLookup_eq_fast];kernel_rfl) (by decide +kernel) (by decide +kernel) (by decide +kernel) (by first | exact .inl (by decide +kernel) | exact .inr (by decide +kernel)) (by rw[isSubtype_type];kernel_rfl)
theorem AB:entryFor table "set_iterator.__next__"=some Builtin.«set_iterator.__next__»:=entryFor_of_tree (by kernel_rfl)
theorem AD(a:Value):argsOk "set_iterator.__next__" ⟨[a],[]⟩:=by unfold argsOk;kernel_rfl
theorem Pl:Slot "set_iterator" "__iter__" "set_iterator.__iter__" :=
 .of (owner:="set_iterator") (n:="__iter__") (by rw[typeLookup_type,builtinLookup_eq_fast];kernel_rfl) (by decide +kernel) (by decide +kernel) (by decide +kernel) (by first | exact .inl (by decide +kernel) | exact .inr (by decide +kernel)) (by rw[isSubtype_type];kernel_rfl)
theorem bn3:entryFor table "set_iterator.__iter__"=some Builtin.«dict_keyiterator.__iter__» :=
 entryFor_alias (id':="dict_keyiterator.__iter__") (by kernel_rfl) (by first | rfl | decide +kernel | (unfold String.splitOn;simp +decide [SU])) (by decide +kernel) (by kernel_rfl)
theorem bn5(a:Value):argsOk "set_iterator.__iter__" ⟨[a],[]⟩:=by unfold argsOk;kernel_rfl
noncomputable def jB(h:Heap)(I a:Addr)(m:Value)(i n ep:Nat):Prop:=h.get? I=some { cls:=.type "set_iterator",dict:=none,data:=.fields #[m,.int i 0,.ref a,.int n 0,.int ep 0],slots:=#[] }
section
variable{prog:Program}{w:World}{A:Around}{E:Value->Shared->Prop}{s:Shared}
theorem Pm{I a:Addr}{m:Value}{i n ep:Nat}{Q:Value->Shared->Prop}(x:jB s.heap I a m i n ep)(q:Q (.ref I) s):wpAny (model prog w) A (pyIter (.ref I)) Q E s:=by
 have hT:s.TypeIs (.ref I) "set_iterator":=⟨_,x,rfl⟩
 refine wpAny_pyIter_slot hT Pl (wpAny_call_entry Pl hT bn3 ?_ (bn5 _))
 show wpAny _ _ (ret (.ref I)) _ _ s
 exact wpAny_pure ⟨_,rfl,"set_iterator",_,hT,jA.lookup,q⟩
theorem bO1{r:Addr}{Q:Bool->Shared->Prop}(hT:s.TypeIs (.ref r) "set")(q:Q false s):wpAny (model prog w) A (SV (.ref r)) Q E s:=by
 unfold SV
 refine wpAny_bind (wpAny_specialOf hT F.slot_set_len.lookup ?_)
 generalize Pn:("set.__len__":String)=id0
 wp_delta
 rw[show splitId id0=some ("set","__len__") from by subst Pn;decide +kernel]
 subst Pn
 refine wpAny_bind (wpAny_isInstance (T:="set") (b:=true) hT (by rw[isSubtype_type];kernel_rfl) ?_)
 refine wpAny_ite_split (λc=>absurd c (by decide)) (λ_=>?_)
 refine wpAny_ite_split (λ_=>?_) (λc=>absurd (by decide +kernel) c)
 exact wpAny_bind (wpAny_typeOf hT (wpAny_pure q))
end
end L2
namespace L2
open PySem PySem.Spec PyProof.Rows
section
variable{prog:Program}{w:World}{A:Around}{E:Value->Shared->Prop}{s:Shared}
noncomputable def nM(prog:Program)(w:World)(o:Obj)(a:Addr)(sl i ep:Nat)(r:Option (Value × Nat)):Prop :=
 ∀(A:Around) (E:Value->Shared->Prop) (s:Shared) (Q:Option (Value × Nat)->Shared->Prop),s.heap.get? a=some o->Q r s->wpAny (model prog w) A (setNext a sl i ep) Q E s
theorem tK{a:Addr}{o:Obj}{es:Array (Int × Value)}{ep:Nat}{t:SetTable}{Q:Array (Int × Value)->Shared->Prop}(g:s.heap.get? a=some o)(d:o.data=.set es ep t)(f:t.fits es.size=true)(q:Q es s):wpAny (model prog w) A (setEntries a) Q E s:=by
 unfold setEntries
 exact wpAny_bind (wpAny_setState_of g d f (wpAny_pure q))
theorem bM9{I a:Addr}{o:Obj}{es:Array (Int × Value)}{t:SetTable}{sl nx i n ep:Nat}{x:Value}{Q:Option Value->Shared->Prop}(it:jB s.heap I a (.int sl 0) i n ep)(g:s.heap.get? a=some o)(d:o.data=.set es ep t)(f:t.fits es.size=true)(hn:es.size=n)(ne:a≠I)
  (v:nM prog w o a sl i ep (some (x,nx))) (q:∀h',jB h' I a (.int nx 0) (i+1) n ep->nW I s.heap h'->Q (some x) { s with heap:=h' }):wpAny (model prog w) A (pyNext (.ref I)) Q E s:=by
 have hT:s.TypeIs (.ref I) "set_iterator":=⟨_,it,rfl⟩
 unfold pyNext
 refine wpAny_bind (wpAny_attempt (wpAny_callSpecial?_slot (name:=Cr "__next__") hT jA (wpAny_call_entry jA hT AB ?_ (AD _))))
 show wpAny _ _ (fieldsOf (.ref I) >>= _) _ _ s
 refine wpAny_bind (wpAny_fieldsOf it rfl ?_)
 show wpAny _ _ (setEntries a >>= _) _ _ s
 refine wpAny_bind (tK g d f ?_)
 rw[if_neg (by rw[hn];simp)]
 show wpAny _ _ (setNext a (sl:Int).toNat (i:Int).toNat (ep:Int).toNat >>= _) _ _ s
 rw[eE,eE,eE]
 refine wpAny_bind (v _ _ s _ g ?_)
 show wpAny _ _ (setField (.ref I) 0 (rawInt nx) >>= _) _ _ s
 refine wpAny_bind (wpAny_setField_rec it (by simp) λh1 i1 b1=>?_)
 refine wpAny_bind (wpAny_setField_rec i1 (by simp) λh2 i2 b2=>?_)
 exact wpAny_pure ⟨x,rfl,wpAny_pure (q h2 i2 (b1.trans b2))⟩
theorem b84{I a:Addr}{o:Obj}{es:Array (Int × Value)}{t:SetTable}{sl i n ep:Nat}{Q:Option Value->Shared->Prop}(hh:A.handled=none)(it:jB s.heap I a (.int sl 0) i n ep)(g:s.heap.get? a=some o)(d:o.data=.set es ep t)(f:t.fits es.size=true)(hn:es.size=n)
  (v:nM prog w o a sl i ep none) (q:∀h',Heap.ExtBut I s.heap h'->Q none { s with heap:=h' }):wpAny (model prog w) A (pyNext (.ref I)) Q E s:=by
 have hT:s.TypeIs (.ref I) "set_iterator":=⟨_,it,rfl⟩
 unfold pyNext
 refine wpAny_bind (wpAny_attempt (wpAny_callSpecial?_slot (name:=Cr "__next__") hT jA (wpAny_call_entry jA hT AB ?_ (AD _))))
 show wpAny _ _ (fieldsOf (.ref I) >>= _) _ _ s
 refine wpAny_bind (wpAny_fieldsOf it rfl ?_)
 show wpAny _ _ (setEntries a >>= _) _ _ s
 refine wpAny_bind (tK g d f ?_)
 rw[if_neg (by rw[hn];simp)]
 show wpAny _ _ (setNext a (sl:Int).toNat (i:Int).toNat (ep:Int).toNat >>= _) _ _ s
 rw[eE,eE,eE]
 refine wpAny_bind (v _ _ s _ g ?_)
 show wpAny _ _ (setField (.ref I) 2 .none >>= _) _ _ s
 refine wpAny_bind (wpAny_setField_rec it (by simp) λh1 i1 b1=>?_)
 show wpAny _ _ (newExc (.type "StopIteration") [] >>= _) _ _ _
 refine wpAny_bind ?_
 simp only[newExc,newTuple]
 refine wpAny_bind (wpAny_newObj_type ?_ (by size_fits))
 refine wpAny_bind (m:=firstArgMember _ _) (wpAny_of_eq (a:=g8) (by first | rfl | (simp only[firstArgMember];rfl)) ?_)
 refine wpAny_newObj_type ?_ (by size_fits)
 simp only[raiseNew]
 refine wpAny_bind (wpAny_handled ?_)
 first | rw[show A.in1.handled=none from hh] | rw[hh]
 refine wpAny_bind (wpAny_pure (wpAny_throw ?_))
 refine wpAny_bind (wpAny_isInstance (T:="StopIteration") (b:=true) ⟨_,cX _ rfl,rfl⟩ isSubtype_stop ?_)
 exact wpAny_pure (q _ ((b1.extBut.push _).push _))
end
end L2
namespace L2
open PySem PySem.Spec PyProof.Rows
theorem Az{α:Type}{l:List α}{n:Nat}(h:n<l.length):(l[n]::l.eraseIdx n).Perm l:=by
 rw[List.eraseIdx_eq_take_drop_succ]
 have e:l=l.take n++l[n]::l.drop (n+1):=by rw[<-List.drop_eq_getElem_cons h,SW]
 exact List.perm_middle.symm.trans (List.Perm.of_eq e.symm)
theorem Po{α:Type}(f:Nat->Nat):∀(fuel k:Nat) (left:List α) (out:Array α),left.length=fuel->(pickOrder.go f fuel k left out).toList.Perm (out.toList++left)
 | 0,k,left,out,h=>by
  have:left=[]:=SX.mp h
  subst this
  unfold pickOrder.go
  rw[jJ]
 | fuel+1,k,left,out,h=>by
  unfold pickOrder.go
  have lt:f k%left.length<left.length:=oa _ (by omega)
  rw[aP lt]
  dsimp only
  refine(Po f fuel (k+1) _ _ (by rw[SY,if_pos lt];omega)).trans ?_
  rw[SS,cS]
  exact List.Perm.append_left _ (Az lt)
theorem bB2{α:Type}(f:Nat->Nat)(a:Array α):(pickOrder f a).toList.Perm a.toList:=by
 have:=Po f a.size 0 a.toList #[] (by simp)
 simpa[pickOrder]using this
section
variable{prog:Program}{w:World}{A:Around}{E:Value->Shared->Prop}{s:Shared}
theorem AE{Q:Bool->Shared->Prop}(q:Q (eC w) s):wpAny (model prog w) A setsByText Q E s:=by
 unfold setsByText
 exact wpAny_bind (wpAny_askSetting (wpAny_pure q))
theorem Pp{a:Addr}{o:Obj}{es:Array (Int × Value)}{ep:Nat}{t:SetTable}(d:o.data=.set es ep t)(f:t.fits es.size=true)(bt:eC w=true)(sl i:Nat) :
  nM prog w o a sl i ep (((pickOrder (w.params.setOrder a ep) es)[i]?).map λe=>(e.2,sl)):=by
 intro A E s Q g q
 unfold setNext
 refine wpAny_bind (wpAny_setState_of g d f ?_)
 dsimp only
 refine wpAny_bind (AE ?_)
 rw[bt,if_pos rfl,if_neg (by simp)]
 refine wpAny_bind ?_
 unfold setWalk
 refine wpAny_bind (wpAny_setState_of g d f ?_)
 dsimp only
 refine wpAny_bind (AE ?_)
 rw[bt,if_pos rfl]
 exact wpAny_bind (wpAny_askSetting (wpAny_pure (wpAny_pure q)))
theorem Pq{a:Addr}{o:Obj}{es:Array (Int × Value)}{ep:Nat}{t:SetTable}(d:o.data=.set es ep t)(f:t.fits es.size=true)(bt:eC w=false)(p:cO true t)(nd:(!t.plain&&decide (es.size>1))=false)(sl i:Nat) :
  nM prog w o a sl i ep (match es[eP t.place sl]?,t.place[eP t.place sl]? with | some (_,x),some j=>some (x,j+1) | _,_=>none):=by
 intro A E s Q g q
 unfold setNext
 refine wpAny_bind (wpAny_setState_of g d f ?_)
 dsimp only
 refine wpAny_bind (AE ?_)
 rw[bt,if_neg hJ]
 refine wpAny_ite_split (λz=>?_) (λ_=>?_)
 ·have z':(!t.plain&&decide (es.size>1))=true:=z
  rw[nd]at z';cases z'
 refine wpAny_bind ?_
 show wpAny _ _ (if(!t.led && !es.isEmpty)=true then unsupported _ else pure ()) _ _ _
 rw[if_neg (by rw[p.led];simp)]
 exact wpAny_pure (wpAny_pure q)
noncomputable def mk(t:SetTable):Nat->Nat
 | 0=>0
 | i+1=>t.place.getD i 0+1
theorem Pr{t:SetTable}(r:Rs t.place){i:Nat}(hi:i<=t.place.size):eP t.place (mk t i)=i:=by
 obtain⟨h1,h2,h3⟩:=Pb (j:=mk t i) r
 cases i with
 | zero =>
  cases e:eP t.place (mk t 0)with
  | zero=>rfl
  | succ p =>
   exfalso
   have:=h2 0 (by omega) (by omega)
   exact absurd this (yB _)
 | succ i =>
  have ei:mk t (i+1)=t.place[i]+1:=by simp[mk,yG,hi,Nat.lt_of_succ_le hi]
  rcases Cm (eP t.place (mk t (i+1))) (i+1)with z | z | z
  ·have:=h3 i hi (by omega)
   omega
  ·exact z
  ·have y:=h2 (i+1) (by omega) z
   have:=r.lt (show i<i+1 by omega) (show i+1<t.place.size by omega)
   omega
theorem bG2{I a:Addr}{o:Obj}{es:Array (Int × Value)}{ep n:Nat}{t:SetTable}(hh:A.handled=none)(d:o.data=.set es ep t)(f:t.fits es.size=true)(hn:es.size=n)(ne:a≠I)(L:List Value)(sl:Nat->Nat)(hL:L.length=n)
  (v1:∀i x,L[i]?=some x->nM prog w o a (sl i) i ep (some (x,sl (i+1)))) (v2:nM prog w o a (sl n) n ep none) :
  Walks prog w A I [I,a] [I] n (λi v=>L[i]?=some v) (λi h=>jB h I a (.int (sl i) 0) i n ep/\h.get? a=some o) where
 sub:=λb hb=>by simp at hb;simp[hb]
 frame:=λi h h' st k=>⟨k I (by simp) _ st.1,k a (by simp) _ st.2⟩
 item:=λi s Q E hi st q=>by
  have e:L[i]?=some (L[i]'(by omega)):=aP (by omega)
  exact bM9 st.1 st.2 d f hn ne (v1 i _ e) λh' i1 b1=>q _ h' s.toks e ⟨i1,b1.extBut _ _ ne st.2⟩ λb o' hb e'=>b1.extBut _ _ (λz=>hb (by simp[z])) e'
 done:=λs Q E st q=>b84 hh st.1 st.2 d f hn v2 λh' b1=>q h' s.toks λb o' hb e'=>b1 _ _ (λz=>hb (by simp[z])) e'
 self:=λi s Q E st q=>Pm st.1 q
end
end L2
namespace L2
open PySem PySem.Spec PyProof.Rows
section
variable{prog:Program}{w:World}{A:Around}{E:Value->Shared->Prop}{s:Shared}
noncomputable abbrev xF(m:Value)(a:Addr)(n ep:Nat):Obj:={ cls:=.type "set_iterator",dict:=none,data:=.fields #[m,.int (0:Nat) 0,.ref a,.int n 0,.int ep 0],slots:=#[] }
theorem Pt{a:Addr}{o:Obj}{es:Array (Int × Value)}{ep:Nat}{t:SetTable}{Q:Bool->Shared->Prop}(g:s.heap.get? a=some o)(d:o.data=.set es ep t)(f:t.fits es.size=true)(q:Q (!eC w&&(!t.plain&&decide (es.size>1))) s):wpAny (model prog w) A (setDrawn a) Q E s:=by
 unfold setDrawn
 refine wpAny_bind (wpAny_setState_of g d f ?_)
 dsimp only
 exact wpAny_bind (AE (wpAny_pure q))
theorem bP4{a:Addr}{o:Obj}{es:Array (Int × Value)}{ep:Nat}{t:SetTable}{Q:Value->Shared->Prop}(g:s.heap.get? a=some o)(c:o.cls=.type "set")(d:o.data=.set es ep t)(f:t.fits es.size=true)(nd:(!eC w&&(!t.plain&&decide (es.size>1)))=false)
  (q:Q (.ref s.heap.objs.size) { s with heap:=s.heap.push (xF (.int (0:Nat) 0) a es.size ep) }):wpAny (model prog w) A (pyIter (.ref a)) Q E s:=by
 have hT:s.TypeIs (.ref a) "set":=⟨o,g,c⟩
 refine wpAny_pyIter_slot hT Cs (wpAny_call_entry Cs hT Pk ?_ (F.args_set_iter_1 _))
 show wpAny _ _ (Ct a >>= _) _ _ s
 refine wpAny_bind ?_
 unfold Ct
 refine wpAny_bind (tK g d f (wpAny_pure ?_))
 refine wpAny_bind (Pt g d f ?_)
 rw[nd,if_neg hJ]
 refine wpAny_bind (wpAny_pure ?_)
 refine wpAny_bind (wpAny_setEpoch_of g d f ?_)
 exact wpAny_bind (wpAny_newObj_type (wpAny_pure ⟨_,rfl,"set_iterator",_,⟨_,cX _ rfl,rfl⟩,jA.lookup,q⟩))
theorem ck5{n:Nat}{src:Source}{Q:Nat->Shared->Prop}(hn:n≠0)(q:∀i dr,i<n->Q i { s with drawn:=dr }):wpAny (model prog w) A (choose src n) Q E s:=λΓ p _=>⟨hn,q _ _ (oa _ (Nat.pos_of_ne_zero hn))⟩
theorem Pu{α:Type}:∀(n:Nat) (xs:List α) (s:Shared) (Q:List α->Shared->Prop),xs.length<=n->(∀ys dr,ys.Perm xs->Q ys { s with drawn:=dr })->wpAny (model prog w) A (drawOrder n xs) Q E s
 | 0,xs,s,Q,h,q=>by
  have:xs=[]:=SX.mp (by omega)
  subst this
  unfold drawOrder
  exact wpAny_pure (q [] s.drawn (Co _))
 | n+1,[],s,Q,h,q=>by
  unfold drawOrder
  exact wpAny_pure (q [] s.drawn (Co _))
 | n+1,x::xs,s,Q,h,q=>by
  unfold drawOrder
  refine wpAny_bind (ck5 (by simp) λi dr lt=>?_)
  rw[aP lt]
  dsimp only
  refine wpAny_bind (Pu n _ _ _ (by rw[SY,if_pos lt];simp at h ⊢;omega) λys dr2 hp=>?_)
  exact wpAny_pure (q _ dr2 ((List.Perm.cons _ hp).trans (Az lt)))
theorem bx3{a:Addr}{o:Obj}{es:Array (Int × Value)}{ep pl:Nat}{t:SetTable}{x:Value}{hx:Int}{Q:Value->Shared->Prop}(g:s.heap.get? a=some o)(d:o.data=.set es ep t)(f:t.fits es.size=true)(e:es[pl]?=some (hx,x))(q:Q x s):wpAny (model prog w) A (setNextDrawn a pl ep) Q E s:=by
 unfold setNextDrawn
 refine wpAny_bind (wpAny_setState_of g d f ?_)
 dsimp only
 rw[if_neg (by simp),e]
 exact wpAny_pure q
theorem bQ5{a:Addr}{o:Obj}{es:Array (Int × Value)}{ep:Nat}{t:SetTable}{Q:Value->Shared->Prop}(g:s.heap.get? a=some o)(c:o.cls=.type "set")(d:o.data=.set es ep t)(f:t.fits es.size=true)(b:es.size<scanBound)(dr:(!eC w&&(!t.plain&&decide (es.size>1)))=true)
  (q:∀(ps:List Nat) lZ,ps.Perm (aR es.size)->Q (.ref (s.heap.objs.size+1)) { s with heap:=(s.heap.push { cls:=.type "tuple",data:=.seq (ps.map λ(i:Nat)=>gA i 0).toArray }).push (xF (.ref s.heap.objs.size) a es.size ep),drawn:=lZ }):wpAny (model prog w) A (pyIter (.ref a)) Q E s:=by
 have hT:s.TypeIs (.ref a) "set":=⟨o,g,c⟩
 refine wpAny_pyIter_slot hT Cs (wpAny_call_entry Cs hT Pk ?_ (F.args_set_iter_1 _))
 show wpAny _ _ (Ct a >>= _) _ _ s
 refine wpAny_bind ?_
 unfold Ct
 refine wpAny_bind (tK g d f (wpAny_pure ?_))
 refine wpAny_bind (Pt g d f ?_)
 rw[dr,if_pos rfl]
 refine wpAny_bind (Pu es.size (aR es.size) s _ (yj dR) λps lZ hp=>?_)
 refine wpAny_bind (wpAny_newTuple ?_ ?_)
 ·have g1:(s.heap.push { cls:=.type "tuple",data:=.seq (ps.map λ(i:Nat)=>rawInt i).toArray }).get? a=some o:=bY _ g
  refine wpAny_bind (wpAny_setEpoch_of g1 d f ?_)
  refine wpAny_bind (wpAny_newObj_type (wpAny_pure ⟨_,rfl,"set_iterator",_,⟨_,cX _ rfl,rfl⟩,jA.lookup,?_⟩))
  have:=q ps lZ hp
  rw[<-jI s.heap { cls:=.type "tuple",data:=.seq (ps.map λ(i:Nat)=>gA i 0).toArray }]at this
  exact this
 ·have:=hp.length_eq
  rw[dR]at this
  have:=fits_of_scanBound b
  simp only[bU]
  omega
end
end L2
namespace L2
open PySem PySem.Spec PyProof.Rows
section
variable{prog:Program}{w:World}{A:Around}{E:Value->Shared->Prop}{s:Shared}
noncomputable def AF(h:Heap)(T:Addr)(ps:List Nat):Prop:=∃nT,h.get? T=some { cls:=.type "tuple",data:=.seq (ps.map λ(i:Nat)=>gA i 0).toArray nT }
theorem bC7{I a T:Addr}{o:Obj}{es:Array (Int × Value)}{t:SetTable}{i n ep:Nat}{ps:List Nat}{pl:Nat}{hx:Int}{x:Value}{Q:Option Value->Shared->Prop}(it:jB s.heap I a (.ref T) i n ep)(g:s.heap.get? a=some o)(d:o.data=.set es ep t)(f:t.fits es.size=true)(hn:es.size=n)(tp:AF s.heap T ps)
  (e1:ps[i]?=some pl) (e2:es[pl]?=some (hx,x)) (q:∀h',jB h' I a (.ref T) (i+1) n ep->nW I s.heap h'->Q (some x) { s with heap:=h' }):wpAny (model prog w) A (pyNext (.ref I)) Q E s:=by
 have hT:s.TypeIs (.ref I) "set_iterator":=⟨_,it,rfl⟩
 obtain⟨nT,gT⟩:=tp
 unfold pyNext
 refine wpAny_bind (wpAny_attempt (wpAny_callSpecial?_slot (name:=Cr "__next__") hT jA (wpAny_call_entry jA hT AB ?_ (AD _))))
 show wpAny _ _ (fieldsOf (.ref I) >>= _) _ _ s
 refine wpAny_bind (wpAny_fieldsOf it rfl ?_)
 show wpAny _ _ (setEntries a >>= _) _ _ s
 refine wpAny_bind (tK g d f ?_)
 rw[if_neg (by rw[hn];simp)]
 show wpAny _ _ (seqItems? (.ref T) >>= _) _ _ s
 refine wpAny_bind (wpAny_seqItems gT rfl ?_)
 dsimp only
 rw[eE,show(ps.map λ(i:Nat)=>gA i 0).toArray[i]?=some (.int pl 0) by simp[e1]]
 dsimp only
 rw[eE,eE]
 refine wpAny_bind (bx3 g d f e2 ?_)
 refine wpAny_bind (wpAny_setField_rec it (by simp) λh1 i1 b1=>?_)
 exact wpAny_pure ⟨x,rfl,wpAny_pure (q h1 i1 b1)⟩
theorem bN2{I a T:Addr}{o:Obj}{es:Array (Int × Value)}{t:SetTable}{i n ep:Nat}{ps:List Nat}{Q:Option Value->Shared->Prop}(hh:A.handled=none)(it:jB s.heap I a (.ref T) i n ep)(g:s.heap.get? a=some o)(d:o.data=.set es ep t)(f:t.fits es.size=true)(hn:es.size=n)(tp:AF s.heap T ps)
  (e1:ps[i]?=none) (q:∀h',Heap.ExtBut I s.heap h'->Q none { s with heap:=h' }):wpAny (model prog w) A (pyNext (.ref I)) Q E s:=by
 have hT:s.TypeIs (.ref I) "set_iterator":=⟨_,it,rfl⟩
 obtain⟨nT,gT⟩:=tp
 unfold pyNext
 refine wpAny_bind (wpAny_attempt (wpAny_callSpecial?_slot (name:=Cr "__next__") hT jA (wpAny_call_entry jA hT AB ?_ (AD _))))
 show wpAny _ _ (fieldsOf (.ref I) >>= _) _ _ s
 refine wpAny_bind (wpAny_fieldsOf it rfl ?_)
 show wpAny _ _ (setEntries a >>= _) _ _ s
 refine wpAny_bind (tK g d f ?_)
 rw[if_neg (by rw[hn];simp)]
 show wpAny _ _ (seqItems? (.ref T) >>= _) _ _ s
 refine wpAny_bind (wpAny_seqItems gT rfl ?_)
 dsimp only
 rw[eE,show(ps.map λ(i:Nat)=>gA i 0).toArray[i]?=none by simp[e1]]
 dsimp only
 refine wpAny_bind (wpAny_setField_rec it (by simp) λh0 i0 b0=>?_)
 refine wpAny_bind (wpAny_setField_rec i0 (by simp) λh1 i1 b1=>?_)
 show wpAny _ _ (newExc (.type "StopIteration") [] >>= _) _ _ _
 refine wpAny_bind ?_
 simp only[newExc,newTuple]
 refine wpAny_bind (wpAny_newObj_type ?_ (by size_fits))
 refine wpAny_bind (m:=firstArgMember _ _) (wpAny_of_eq (a:=g8) (by first | rfl | (simp only[firstArgMember];rfl)) ?_)
 refine wpAny_newObj_type ?_ (by size_fits)
 simp only[raiseNew]
 refine wpAny_bind (wpAny_handled ?_)
 first | rw[show A.in1.handled=none from hh] | rw[hh]
 refine wpAny_bind (wpAny_pure (wpAny_throw ?_))
 refine wpAny_bind (wpAny_isInstance (T:="StopIteration") (b:=true) ⟨_,cX _ rfl,rfl⟩ isSubtype_stop ?_)
 exact wpAny_pure (q _ (((b0.trans b1).extBut.push _).push _))
theorem bw0{I a T:Addr}{o:Obj}{es:Array (Int × Value)}{ep n:Nat}{t:SetTable}(hh:A.handled=none)(d:o.data=.set es ep t)(f:t.fits es.size=true)(hn:es.size=n)(ne:a≠I)(nT:T≠I)(ps:List Nat)(hp:ps.length=n)(L:List Value)(hL:L.length=n)
  (v:∀(i pl:Nat),ps[i]?=some pl->∃hx x,es[pl]?=some (hx,x)/\L[i]?=some x) :
  Walks prog w A I [I,a,T] [I] n (λi v=>L[i]?=some v) (λi h=>jB h I a (.ref T) i n ep/\h.get? a=some o/\AF h T ps) where
 sub:=λb hb=>by simp at hb;simp[hb]
 frame:=λi h h' st k=>⟨k I (by simp) _ st.1,k a (by simp) _ st.2.1,by obtain⟨m,e⟩:=st.2.2;exact⟨m,k T (by simp) _ e⟩⟩
 item:=λi s Q E hi st q=>by
  obtain⟨hx,x,e2,e3⟩:=v i _ (aP (show i<ps.length by omega))
  exact bC7 st.1 st.2.1 d f hn st.2.2 (aP (show i<ps.length by omega)) e2 λh' i1 b1=>q _ h' s.toks e3 ⟨i1,b1.extBut _ _ ne st.2.1,by obtain⟨m,e⟩:=st.2.2;exact⟨m,b1.extBut _ _ nT e⟩⟩ λb o' hb e'=>b1.extBut _ _ (λz=>hb (by simp[z])) e'
 done:=λs Q E st q=>bN2 hh st.1 st.2.1 d f hn st.2.2 (i4 (by omega)) λh' b1=>q h' s.toks λb o' hb e'=>b1 _ _ (λz=>hb (by simp[z])) e'
 self:=λi s Q E st q=>Pm st.1 q
end
end L2
namespace L2
open PySem PySem.Spec PyProof.Rows
section
variable{prog:Program}{w:World}{A:Around}{E:Value->Shared->Prop}{s:Shared}
theorem bR4{led:Bool}{a:Addr}{o:Obj}{es:Array (Int × Value)}{ep:Nat}{t:SetTable}{Q:Value->Shared->Prop}(hh:A.handled=none)(g:s.heap.get? a=some o)(c:o.cls=.type "set")(d:o.data=.set es ep t)(f:t.fits es.size=true)(b:es.size<scanBound)(p:cO (!eC w) t)
  (q:∀(h':Heap) dr (I:Addr) (fp:List Addr) (L:List Value) (St:Nat->Heap->Prop),L.Perm (es.toList.map (·.2))->Walks prog w A I fp [I] L.length (λi v=>L[i]?=some v) St->St 0 h'->(∀b o,s.heap.get? b=some o->h'.get? b=some o)->s.heap.objs.size<=I->(∀b∈fp,b=a\/s.heap.objs.size<=b)->Q (.ref I) { s with heap:=h',drawn:=dr }) :
  wpAny (model prog w) A (pyIter (.ref a)) Q E s:=by
 have al:a<s.heap.objs.size:=bf g
 have ne:a≠s.heap.objs.size:=cI al
 by_cases dr:(!eC w&&(!t.plain&&decide (es.size>1)))=true
 ·refine bQ5 g c d f b dr λps lZ hp=>?_
  have hl:ps.length=es.size:=by rw[hp.length_eq,dR]
  have ok:∀pl∈ps,pl<es.size:=λpl h=>dO.mp (hp.mem_iff.mp h)
  have e1:es.toList.map (·.2)=(aR es.size).map λi=>(es.getD i (0,.none)).2:=by
   refine qF (by simp) λi h1 h2=>?_
   simp at h1
   simp[yG,h1]
  have hL:(ps.map λi=>(es.getD i (0,.none)).2).length=es.size:=by rw[bU,hl]
  refine q _ lZ _ [s.heap.objs.size+1,a,s.heap.objs.size] (ps.map λi=>(es.getD i (0,.none)).2) (λi h=>jB h (s.heap.objs.size+1) a (.ref s.heap.objs.size) i es.size ep/\h.get? a=some o/\AF h s.heap.objs.size ps) (by rw[e1];exact hp.map _) (by
   rw[hL]
   exact bw0 hh d f rfl (cI (u7 al)) (cI (qq _)) ps hl _ hL λi pl e=>by
    have bE:=ok pl (qu e)
    refine⟨(es[pl]).1,(es[pl]).2,qH bE,?_⟩
    rw[cY,e]
    simp[yG,bE]) ⟨?_,?_,?_⟩ (λb o e=>bY _ (bY _ e)) (yk _) (λb hb=>?_)
  ·have:=cX (s.heap.push { cls:=.type "tuple",data:=.seq (ps.map λ(i:Nat)=>gA i 0).toArray }) (o:=xF (.ref s.heap.objs.size) a es.size ep) rfl
   rw[jI]at this
   exact this
  ·exact bY _ (bY _ g)
  ·exact⟨_,bY _ (cX _ rfl)⟩
  ·simp only[bJ,hW,or_false]at hb
   rcases hb with rfl | rfl | rfl
   ·exact .inr (yk _)
   ·exact .inl rfl
   ·exact .inr (aX _)
 ·have lZ:(!eC w&&(!t.plain&&decide (es.size>1)))=false:=Bool.eq_false_iff.mpr dr
  refine bP4 g c d f lZ ?_
  have fin:∀(L:List Value) (sl:Nat->Nat),sl 0=0->L.length=es.size->L.Perm (es.toList.map (·.2))->(∀i x,L[i]?=some x->nM prog w o a (sl i) i ep (some (x,sl (i+1))))->nM prog w o a (sl es.size) es.size ep none->Q (.ref s.heap.objs.size) { s with heap:=s.heap.push (xF (.int (0:Nat) 0) a es.size ep) }:=λL sl s0 hL hp v1 v2=>by
   have:=q (s.heap.push (xF (.int (0:Nat) 0) a es.size ep)) s.drawn s.heap.objs.size [s.heap.objs.size,a] L (λi h=>jB h s.heap.objs.size a (.int (sl i) 0) i es.size ep/\h.get? a=some o) hp (by rw[hL];exact bG2 hh d f rfl ne L sl hL v1 v2) ⟨by rw[s0];exact cX _ rfl,bY _ g⟩ (λb o e=>bY _ e) (aX _) (λb hb=>by
    simp only[bJ,hW,or_false]at hb
    rcases hb with rfl | rfl
    ·exact .inr (aX _)
    ·exact .inl rfl)
   exact this
  cases bt:eC w with
  | true =>
   have pp:=bB2 (w.params.setOrder a ep) es
   have pl:(pickOrder (w.params.setOrder a ep) es).size=es.size:=by rw[<-hE,pp.length_eq,hE]
   refine fin ((pickOrder (w.params.setOrder a ep) es).toList.map (·.2)) (λ_=>0) rfl (by simp[pl]) (pp.map _) (λi x e=>?_) ?_
   ·have:=Pp (prog:=prog) (a:=a) d f bt 0 i
    rw[cY,Cq]at e
    cases e2:(pickOrder (w.params.setOrder a ep) es)[i]? with
    | none=>rw[e2]at e;cases e
    | some y =>
     rw[e2]at e this
     injection e with e
     rw[<-e]
     exact this
   ·have:=Pp (prog:=prog) (a:=a) d f bt 0 es.size
    rw[K3 (by omega)]at this
    exact this
  | false =>
   rw[bt]at p lZ
   have nd:(!t.plain&&decide (es.size>1))=false:=by simpa using lZ
   have ps:t.place.size=es.size:=by
    simp only[SetTable.fits,da,beq_iff_eq]at f
    exact f.1
   refine fin (es.toList.map (·.2)) (mk t) rfl (by simp) (Co _) (λi x e=>?_) ?_
   ·have hi:i<es.size:=by have:=(g9.mp e).1;simpa using this
    have:=Pq (prog:=prog) (a:=a) d f bt p nd (mk t i) i
    rw[Pr p.AA (by omega),qH hi,qH (by omega)]at this
    have ex:x=(es[i]).2:=by
     rw[cY,Cq,qH hi]at e
     injection e with e;exact e.symm
    rw[ex,show mk t (i+1)=t.place[i]+1 by simp[mk,yG,ps,hi]]
    exact this
   ·have:=Pq (prog:=prog) (a:=a) d f bt p nd (mk t es.size) es.size
    rw[Pr p.AA (by omega),K3 (aX _)]at this
    exact this
end
end L2
namespace L2
open PySem PySem.Spec PyProof.Rows
section
variable{prog:Program}{w:World}{A:Around}{E:Value->Shared->Prop}{s:Shared}
theorem bv9{R:Result->Shared->Prop}{a S:Addr}{o:Obj}{es:Array (Int × Value)}{ep:Nat}{t:SetTable}(hh:A.handled=none)(g:s.heap.get? a=some o)(c:o.cls=.type "set")(d:o.data=.set es ep t)(f:t.fits es.size=true)(b:es.size<scanBound)(p:cO (!eC w) t)
  (nS:S≠a) (res:Value) (c₀:Nat) (hS:s.heap.get? S=some { cls:=.type "list",data:=.seq #[] c₀ }) (hn:es.size<=sizeLine)
  (hR:∀h' tk dr ka c',ka.toList.Perm (es.toList.map (·.2))->(∀b o,b≠S->s.heap.get? b=some o->h'.get? b=some o)->h'.get? S=some { cls:=.type "list",dict:=none,data:=.seq ka c',slots:=#[] }->R (.ok (.ret res)) { s with heap:=h',toks:=tk,drawn:=dr }) :
  wpAny (model prog w) A.in1 (S0 (.ref S) (.ref a) res)
   (λfin s'=>match fin with | .done f=>R (.ok f) s' | .again c'=>c'.quiet=true/\codeAny (model prog w) A c' R s') (λe s'=>R (.error e) s') s:=by
 have hT:s.TypeIs (.ref a) "set":=⟨o,g,c⟩
 unfold S0
 refine wpAny_bind (wpAny_typeOf (T:="set") hT ?_)
 have h1:S3 (.ref S) (.ref a)=false:=by simp[S3,nS]
 simp only[h1,show(mj "set"==mj "list")=false by decide,show(mj "set"==mj "tuple")=false by decide,qw,vd,if_false]
 refine wpAny_bind (bR4 (led:=true) (A:=A.in1) hh g c d f b p λh1 dr I fp L St hL W st k1 hI hfp=>?_)
 have E3:=k1 _ _ hS
 have Pw:S ∉ fp:=λh=>by
  rcases hfp S h with h | h
  ·exact nS h
  ·exact absurd (bf hS) (ku.mpr h)
 have hSI:S≠I:=λh=>absurd (bf hS) (ku.mpr (h ▸ hI))
 have hl:L.length=es.size:=by rw[hL.length_eq];simp
 have key:∀(h:Heap) (c₁ tk:Nat),St 0 h->(∀b o,b≠S->s.heap.get? b=some o->h.get? b=some o) ->
   h.get? S=some { cls:=.type "list",data:=.seq #[] c₁ }->codeAny (model prog w) A (.builtin "list.extend.loop" ⟨[.ref S,.ref I,res],[]⟩) R { s with heap:=h,toks:=tk,drawn:=dr }:=by
  intro h c₁ tk cx hk cC8
  refine codeAny_extend_loopS W.toS (hl ▸ hn) S Pw res _ 0 _ #[] c₁ rfl (iZ _) cx cC8 (ItemsOf.nil _) λs' ka c' hm hS' o9=>?_
  rw[Moved.eq_with hm]
  have ea:ka.toList=L:=by
   refine Cb λi=>?_
   rw[Cq]
   by_cases hi:i<L.length
   ·have h2:i<ka.size:=by rw[o9.1];exact hi
    rw[qH h2]
    exact(o9.2 i _ (qH h2)).symm
   ·rw[i4 (ku.mp hi)]
    exact K3 (by rw[o9.1];omega)
  refine hR s'.heap s'.toks dr ka c' (ea ▸ hL) (λb o hb e=>hm.heap b o (λkX=>?_) (hk b o hb e)) hS'
  rcases bJ.mp kX with e' | kX
  ·exact hb e'
  ·exact absurd (bf e) (ku.mpr (eF.mp kX ▸ hI))
 refine wpAny_bind (wpAny_holding (bO1 ⟨o,k1 _ _ g,c⟩ ?_))
 refine wpAny_ite_split (λ_=>?_) (λ_=>wpAny_pure ⟨plainId_quiet PySem.F.plain_extend_loop _,key _ c₀ _ st (λb o _ e=>k1 b o e) E3⟩)
 refine wpAny_bind (wpAny_rule ?_)
 refine wpAny_bind ?_
 show wpAny _ _ (updateSeq S (·.push .none) >>= λ_=>updateSeq S (·.pop)) _ _ _
 refine wpAny_bind (wpAny_updateSeq E3 rfl ?_)
 have y2:=uY (mB (·.push g8)) E3 rfl
 refine wpAny_updateSeq (hz:=by seq_fits) y2 rfl ?_
 have y3:=uY (mB (·.pop)) y2 rfl
 have ot:∀b o,b≠S->h1.get? b=some o->((h1.update S (mB (·.push g8))).update S (mB (·.pop))).get? b=some o:=λb o n e=>(km _ _ (dy n)).trans ((km _ _ (dy n)).trans e)
 exact wpAny_pure ⟨plainId_quiet PySem.F.plain_extend_loop _,key _ _ _ (W.frame 0 _ _ st λb hb o e=>ot b o (λh=>Pw (h ▸ hb)) e) (λb o hb e=>ot b o hb (k1 b o e)) y3⟩
theorem bR0{R:Result->Shared->Prop}{a S:Addr}{o:Obj}{es:Array (Int × Value)}{ep:Nat}{t:SetTable}(hh:A.handled=none)(g:s.heap.get? a=some o)(c:o.cls=.type "set")(d:o.data=.set es ep t)(f:t.fits es.size=true)(b:es.size<scanBound)(p:cO (!eC w) t)
  (nS:S≠a) (c₀:Nat) (hS:s.heap.get? S=some { cls:=.type "list",data:=.seq #[] c₀ }) (hn:es.size<=sizeLine)
  (hR:∀h' tk dr ka c',ka.toList.Perm (es.toList.map (·.2))->(∀b o,b≠S->s.heap.get? b=some o->h'.get? b=some o)->h'.get? S=some { cls:=.type "list",dict:=none,data:=.seq ka c',slots:=#[] }->R (.ok (.ret (.ref S))) { s with heap:=h',toks:=tk,drawn:=dr }) :
  codeAny (model prog w) A (.builtin "list.__iadd__" ⟨[.ref S,.ref a],[]⟩) R s:=by
 refine codeAny_builtin entry_list_iadd' ?_
 rw[Cp (show plainId "list.__iadd__"=true by decide +kernel) _]
 exact bv9 hh g c d f b p nS _ c₀ hS hn hR
theorem bp9{a:Addr}{o:Obj}{es:Array (Int × Value)}{ep:Nat}{t:SetTable}{Q:List Value->Shared->Prop}(hh:A.handled=none)(g:s.heap.get? a=some o)(c:o.cls=.type "set")(d:o.data=.set es ep t)(f:t.fits es.size=true)(b:es.size<scanBound)(p:cO (!eC w) t)(hn:es.size<=sizeLine)
  (q:∀h' tk dr L,L.Perm (es.toList.map (·.2))->(∀b o,s.heap.get? b=some o->h'.get? b=some o)->Q L { s with heap:=h',toks:=tk,drawn:=dr }) :
  wpAny (model prog w) A (collect (.ref a)) Q E s:=by
 unfold collect
 refine wpAny_bind (wpAny_runValue (codeAny_builtin entry_proto_collect' ?_))
 show wpAny _ _ (do again (.builtin "list.__iadd__" ⟨[<-newList [],.ref a],[]⟩)) _ _ s
 have al:a<s.heap.objs.size:=bf g
 refine wpAny_bind (wpAny_newList (wpAny_pure ⟨Code.quiet_builtin _ (by decide +kernel),bR0 hh (bY _ g) c d f b p (yh al) 0 (cX _ rfl) hn λh' tk dr ka c' h1 h2 h3=>?_⟩))
 dsimp only
 refine wpAny_bind (wpAny_load h3 ?_)
 exact wpAny_pure (q h' tk dr _ h1 λb o e=>h2 b o (cI (bf e)) (bY _ e))
end
end L2
namespace L2
open PySem PySem.Spec PyProof.Rows
theorem E4(val:Nat->Int):∀i,(firstMet val i).Nodup
 | 0=>by rw[firstMet_zero];exact .nil
 | i+1=>by
  rw[firstMet_succ]
  have ih:=E4 val i
  unfold step_dedup
  split
  ·exact ih
  ·rename_i h
   rw[List.nodup_append]
   refine⟨ih,by simp,λa ha b hb e=>?_⟩
   rw[eF]at hb
   subst hb;subst e
   exact h (by first | simpa using ha | (simp;exact ha))
theorem bY7(ns:List Int)(k:Int):k∈firstMet (λi=>ns.getD i 0) ns.length↔k∈ns:=by
 have h:=firstMet_any (λi=>ns.getD i 0) ns.length k
 have e:(aR ns.length).map (λi=>ns.getD i 0)=ns:=by
  refine qF (by simp) λi h1 h2=>?_
  simp[List.getD,h2]
 rw[e]at h
 have f:∀l:List Int,l.any (·==k)=true↔k∈l:=λl=>by
  rw[KQ]
  exact⟨λ⟨x,hx,e⟩=>by rw[beq_iff_eq]at e;exact e ▸ hx,λhx=>⟨k,hx,by simp⟩⟩
 rw[<-f,h,f]
theorem Px{α:Type}[DecidableEq α]:∀{a b:List α},a.Nodup->(∀x∈a,x∈b)->b.length<=a.length->b.Perm a
 | [],b,_,_,h=>by
  cases b with
  | nil=>exact .nil
  | cons x b=>simp at h
 | x::a,b,nd,s,h=>by
  have hx:=s x (by simp)
  have gn:=fZ.mp nd
  have:=Px (a:=a) (b:=b.erase x) gn.2 (λy hy=>by
   have:y≠x:=λe=>gn.1 (e ▸ hy)
   exact(S4 this).mpr (s y (by simp[hy]))) (by
   rw[S5 hx];simp at h;omega)
  exact(List.perm_cons_erase hx).trans (this.cons x)
theorem ce1{l:List Int}(p:l.Pairwise (·<=·))(n:l.Nodup):l.Pairwise (· < ·):=by
 induction l with
 | nil=>exact .nil
 | cons x l ih =>
  have p':=va.mp p
  have n':=fZ.mp n
  refine va.mpr ⟨λy hy=>?_,ih p'.2 n'.2⟩
  have h1:=p'.1 y hy
  have h2:x≠y:=λe=>n'.1 (e ▸ hy)
  omega
noncomputable def AG(P:Program)(w:World)(l:Addr)(ns:List Int):HO:=.ext λh=>eO P w (!eC w) h l (λz=>(firstMet (λi=>ns.getD i 0) ns.length).any (·==z)) (firstMet (λi=>ns.getD i 0) ns.length).length
section
variable{prog:Program}{w:World}{A:Around}{E:Value->Shared->Prop}{s:Shared}
theorem bx0{a:Addr}{o:Obj}{es:Array (Int × Value)}{ep:Nat}{t:SetTable}{ns:List Int}{Q:Value->Shared->Prop}(hh:A.handled=none)(g:s.heap.get? a=some o)(c:o.cls=.type "set")(d:o.data=.set es ep t)(f:t.fits es.size=true)(b:es.size<64)(p:cO (!eC w) t)(hI:IntsAre (es.toList.map (·.2)) ns)
  (q:∀(h1 h':Heap) tk dr e (vs:List Value) (ms:List Int),IntsAre vs ms->ms.Perm ns->ms.Pairwise (·<=·)->(∀b o,s.heap.get? b=some o->h1.get? b=some o)->(∀b o,h1.get? b=some o->h'.get? b=some o)->h'.get? h1.objs.size=some (seqObj "list" vs.toArray e)->Q (.ref h1.objs.size) { s with heap:=h',toks:=tk,drawn:=dr }) :
  wpAny (model prog w) A (call (.builtin "sorted") [.ref a]) Q E s:=by
 refine Calls.call_function_entry kind_sorted plain_sorted entry_sorted (args_sorted1 _) ?_
 unfold Builtin.«sorted»
 refine wpAny_bind (m:=checkCount "sorted" 1 1 _) (wpAny_pure ?_)
 refine wpAny_bind (bp9 (A:=A.in1) hh g c d f (by unfold scanBound;omega) p (by rw[sizeLine_eq];omega) λh1 tk dr L pL k1=>?_)
 have iL:IntsAre L (L.map numOf):=intsAre_map L λv hv=>hI.all v (pL.mem_iff.mp hv)
 have pn:(L.map numOf).Perm ns:=by rw[<-hI.nums];exact pL.map _
 have lL:L.length<64:=by rw[pL.length_eq];simpa using b
 refine wpAny_bind (wpAny_newList ?_ (by rw[sizeLine_eq];omega))
 have vn:(h1.push (seqObj "list" L.toArray 0)).get? h1.objs.size=some (seqObj "list" L.toArray 0):=cX _ rfl
 refine wpAny_bind (wpAny_holding (wpAny_call_entry slot_list_sort ⟨_,vn,rfl⟩ entry_list_sort (list_sort_tree vn iL lL λout ns' a1 a2 a3=>⟨_,rfl,?_⟩) (args_list_sort _)))
 obtain⟨e,he⟩:=sortedHeap_at (out:=out) vn
 exact wpAny_pure ⟨_,rfl,q h1 _ tk dr e out.toList ns' a1 (a2.trans pn) a3 k1 (λb o e1=>by
  rw[sortedHeap_old (cI (bf e1)) (by rw[size_push'];exact u7 (bf e1))]
  exact bY _ e1) he⟩
end
section
variable{X:Cx}
theorem bF6(hc:X.calm=true):eY X (.type "set") (λxs H Q=>∃(p:Addr) (ns:List Int),xs=[.ref p]/\bq X.K H p (ns.map V.int)/\ns.length<64/\∀l,H l=none->Q (.ref l) (upd H l (AG X.prog X.w l ns))):=by
 intro pins s σ H xs us Q I r h
 obtain⟨p,ns,rfl,hS,hn,q⟩:=h
 obtain⟨u,rfl,ru⟩:=r.one
 cases ru
 obtain⟨its,rv,pl,hz⟩:=I.list hS
 have hl:=pl.isList
 have hlen:ns.length=its.length:=by have:=rv.length;rwa [bU]at this
 refine bq6 (I.ok.hd hc) hl (ns:=ns) (by simpa using Vm rv) (by simp only[cZ];unfold scanBound;omega) λh' tk x k=>?_
 rw[show its.toArray.size=ns.length by simp[hlen]]at x
 have x0:=x
 obtain⟨o,_,_,_,g,_⟩:=x0
 exact⟨.ref _,_,I.laid (t':=tk) (λb o e=>k b o (bf e) e) (aX _) (show cP X.prog X.w _ _ _ (AG X.prog X.w _ ns) from⟨x,⟨o,g⟩,λh1 h2 y z=>y.at λo e=>z _ o (.inl rfl) e⟩),rfl,q _ (I.ay.fresh (aX _))⟩
theorem bi8(hc:X.calm=true):eY X (.builtin "sorted") (λxs H Q=>∃(p:Addr) (ns:List Int),xs=[.ref p]/\H p=some (AG X.prog X.w p ns)/\ns.length<64/\∀(ms:List Int) l,ms.Pairwise (· < ·)->(∀k,k∈ms↔k∈ns)->H l=none->Q (.ref l) (upd H l (.lst (ms.map V.int)))):=by
 intro pins s σ H xs us Q I r h
 obtain⟨p,ns,rfl,hS,hn,q⟩:=h
 obtain⟨u,rfl,ru⟩:=r.one
 cases ru
 obtain⟨x,_,_⟩:=I.ay p _ hS
 obtain⟨o,es,ep,t,g,ex,d,el,mem,b,f,sz,tb⟩:=x
 have fl:=firstMet_length_le (λi=>ns.getD i 0) ns.length
 have h1:∀v∈es.toList.map (·.2),∃n t,v=.int n t:=λv hv=>by
  obtain⟨e,he,rfl⟩:=cn.mp hv
  obtain⟨⟨k,hk,_⟩,_⟩:=el e he
  obtain⟨t,ht⟩:=Ks hk
  exact⟨k,t,ht⟩
 have iE:=intsAre_map _ h1
 have pE:((es.toList.map (·.2)).map numOf).Perm (firstMet (λi=>ns.getD i 0) ns.length):=by
  refine Px (E4 _ _) (λk hk=>?_) (by simp[sz])
  obtain⟨e,he,hke⟩:=(mem k).mp (by rw[KQ];exact⟨k,hk,by simp⟩)
  obtain⟨t,ht⟩:=Ks hke
  refine cn.mpr ⟨e.2,cn.mpr ⟨e,he,rfl⟩,?_⟩
  rw[ht];rfl
 refine bx0 (I.ok.hd hc) g ex.1 d f (by omega) tb iE λh1 h' tk dr e vs ms a1 a2 a3 k1 k2 he=>?_
 have pm:=a2.trans pE
 have I0:=I.kept (t':=tk) k1
 have I1:=I0.laid (t':=tk) (o:=.lst (ms.map V.int)) k2 (aX _) (show cP X.prog X.w _ _ _ (.lst _) from⟨by rw[bU,pm.length_eq,sizeLine_eq];omega,vs,e,Pa a1,he⟩)
 exact⟨.ref _,_,⟨I1.ok,I1.os,I1.bare,I1.base,I1.loc,I1.cell,I1.free,I1.gb,I1.pin,I1.ay,I1.len⟩,rfl,q ms _ (ce1 a3 (pm.nodup_iff.mpr (E4 _ _))) (λk=>by rw[pm.mem_iff,bY7]) (I0.ay.fresh (aX _))⟩
end
end L2
namespace L3
open PySem L2 PySem.Spec PyProof.Rows
section
variable{X:Cx}{e:Expr}{tr:cj}{p p2 pos Av:Pos}
noncomputable def p8:iz:=λds Q=>match ds with
 | [.lst _ xs]=>∃ns,xs=nums ns/\ns.length<64/\∀ms:List Int,ms.Pairwise (· < ·)->(∀k,k∈ms↔k∈ns)->Q (.lst true (nums ms))
 | _=>False
theorem bD7(hc:X.calm=true)(hg:Gl X "sorted")(hm:X.mg "sorted"=none)(DW:Gl X "set")(zF:X.mg "set"=none)(ha:PA X [e] (lA tr))(he:starEach [e] X.env=[(false,eval e X.env)]:=by rfl):PE X (.Call (.Name "sorted" p) [.Call (.Name "set" p2) [e] [] Av] [] pos) (lE (lh p8 tr)) :=
 cR (CZ (bi8 hc) hg hm rfl (eJ (LD (bF6 hc) DW zF rfl ha (he:=he)) ij)) λσ H Q ⟨B,F,δ,ts,Qd,c,q,k⟩=>⟨B,F,δ,ts,_,c,q,λds ao vs F1 H1 q1 f1 h1 c1 s1=>by
  unfold p8 at q1
  split at q1
  ·obtain⟨v,rfl,s2⟩:=iT s1
   obtain⟨ns,rfl,hn,q1⟩:=q1
   obtain⟨p,ws,rfl,h,t⟩:=kY s2 c1.ext rfl
   rw[Eg t]at h
   refine⟨p,ns,rfl,jZ h,hn,λl hl=>⟨l,ns,rfl,bO,hn,λms l2 hs hm oI=>?_⟩⟩
   have g1:aa H1 (upd H1 l (AG X.prog X.w l ns)):=aa.upd hl
   have c2:=c1.grow g1
   exact k _ _ _ _ _ (q1 ms hs hm) f1 (h1.trans (g1.trans (aa.upd oI))) (c2.kQ oI (EZ _ _ ms).s (EZ F1 H1 ms).pl)
  ·exact q1.elim⟩
end
end L3
namespace L3
open PySem L2 Mf
theorem Py{α:Type}[DecidableEq α]:∀{a b:List α},a.Nodup->(∀x∈a,x∈b)->a.length<=b.length
 | [],_,_,_=>iZ _
 | x::a,b,nd,s=>by
  have hx:=s x (by simp)
  have gn:=fZ.mp nd
  have:=Py (a:=a) (b:=b.erase x) gn.2 λy hy=>(S4 (λ(e:y=x)=>gn.1 (e ▸ hy))).mpr (s y (by simp[hy]))
  have p:=List.length_pos_of_mem hx
  rw[S5 hx]at this
  rw[iY];omega
theorem cp7{wd:List Nat}{ms:List Int}(h1:ms.Pairwise (· < ·))(h2:∀k,k∈ms↔k∈wd.map λ(n:Nat)=>(n:Int)):∃hs:List Nat,nums ms=aA hs/\hs.Pairwise (· < ·)/\(∀h,h∈hs↔h∈wd)/\hs.length<=wd.length:=by
 have nn:∀k∈ms,((k.toNat:Nat):Int)=k:=λk hk=>by
  obtain⟨x,_,e⟩:=cn.mp ((h2 k).mp hk)
  omega
 have mem:∀h,h∈ms.map yA↔h∈wd:=λh=>by
  constructor
  ·intro hh
   obtain⟨k,hk,rfl⟩:=cn.mp hh
   obtain⟨x,hx,e⟩:=cn.mp ((h2 k).mp hk)
   rw[show k.toNat=x by omega];exact hx
  ·intro hh
   exact cn.mpr ⟨(h:Int),(h2 _).mpr (cn.mpr ⟨h,hh,rfl⟩),eE h⟩
 have pw:(ms.map yA).Pairwise (· < ·):=by
  rw[List.pairwise_map]
  refine List.Pairwise.imp_of_mem (λha hb h=>?_) h1
  have:=nn _ ha
  have:=nn _ hb
  omega
 refine⟨ms.map yA,?_,pw,mem,Py (pw.imp λh e=>absurd e (cI h)) λx hx=>(mem x).mp hx⟩
 unfold aA
 rw[dk]
 congr 1
 refine((qD (g:=id) λk hk=>nn k hk).trans (KU ms)).symm
end L3
namespace HK15
open PySem.W (Frag codeHdIn nsIn fnOf codeIn keepIn findIn isFn specialIn takesIn mroIn mg_of mg_none_of CodeHd)
open PySem L2 L3 Mf
seal L2.PSs L2.PS L2.PE L2.PT L2.PA L2.PI L2.PG L2.PO L2.PW
local macro_rules | `(tactic| walk_at "l3") => do
  let l ← (("rE oZ rF rG dT kR m4 m5 dC mZ oY oX oW rC rD lh sr pB sA sC rm rn rq rz rB oU pk pq ii pd rP pf rQ rR rS rV rW rX iI fN rY rZ r6 r9 ph nh sg si gN sD sq rH rK rL rM rN sE sF o7 js eS iu gR u3 qy yH yI kS jo jq pz sM sN sO wW j7 sS pO sQ iA wZ wX wY dF mx mH nY iY yJ bh oh oi i5 i6 mI exists_eq_left' exists_eq_left D.bl.injEq D.int.injEq D.lst.injEq D.fz.injEq D.str.injEq D.tup.injEq yK and_true true_and dG qC mG n6 wg wj wk wm wo wt gM jT pH wB wC wD wF wG dX kP sG wu wz wA fK oS yL yM uW oj yN yO qw wK wL wM wN wO wQ wR ly nj pI iU pJ wI sJ wH sH wJ nk sI if_true vd if_false reduceIte wU decide_eq_true_eq iB nu sT w5 nv rJ sX pV sR pS pU s8 pX tG tH tI fV xw lM xy p8 sL ZT ZU ZV ZW EE xt".splitOn " ").toArray.map fun (s : String) => Lean.mkIdent s.toName).mapM fun i => `(Lean.Parser.Tactic.simpLemma| $i:term)
  `(tactic| simp only [$l,*])
noncomputable def top (i:Nat):Stmt:=PySem.Challenge.pw_mendfield_k15_reduced_rows_found.main.body.getD i (.Pass ⟨0,0,0,0⟩)
noncomputable abbrev tL:Stmt:=top 29
theorem E5:bB ["_law_cell_here","_law_some","_law_primes"] ["_law_cell_here"] (az tL):=⟨rfl,rfl,rfl,by decide +kernel,rfl,by decide +kernel,by decide +kernel⟩
noncomputable abbrev tM:Stmt:=top 17
theorem AH:bB ["a","product","found","power"] ["a","product"] (az tM):=⟨rfl,rfl,rfl,by decide +kernel,rfl,by decide +kernel,by decide +kernel⟩
noncomputable abbrev tN:Stmt:=top 18
theorem xG:bB ["many","product","step","found"] ["many","product"] (az tN):=⟨rfl,rfl,rfl,by decide +kernel,rfl,by decide +kernel,by decide +kernel⟩
noncomputable abbrev tO:Stmt:=top 19
theorem E6:bB ["powers","logs","n","a"] ["powers"] (az tO):=⟨rfl,rfl,rfl,by decide +kernel,rfl,by decide +kernel,by decide +kernel⟩
noncomputable abbrev tP:Stmt:=kH (top 23) 8
theorem ax8:bB ["self","n"] ["self","n"] (az tP):=⟨rfl,rfl,rfl,by decide +kernel,rfl,by decide +kernel,by decide +kernel⟩
noncomputable abbrev tQ:Stmt:=kH (top 23) 0
theorem aE6:bB ["self","many","product"] ["self","many","product"] (az tQ):=⟨rfl,rfl,rfl,by decide +kernel,rfl,by decide +kernel,by decide +kernel⟩
noncomputable abbrev tR:Stmt:=top 22
theorem aw4:bB ["prime"] ["prime"] (az tR):=⟨rfl,rfl,rfl,by decide +kernel,rfl,by decide +kernel,by decide +kernel⟩
noncomputable abbrev me:Stmt:=kH (top 25) 0
theorem ay3:bB ["self","prime"] ["self","prime"] (az me):=⟨rfl,rfl,rfl,by decide +kernel,rfl,by decide +kernel,by decide +kernel⟩
noncomputable abbrev tS:Stmt:=top 20
theorem AI:bB ["powers","logs","many","rows","a"] ["powers","logs"] (az tS):=⟨rfl,rfl,rfl,by decide +kernel,rfl,by decide +kernel,by decide +kernel⟩
noncomputable abbrev tT:Stmt:=top 14
theorem tU:bB ["a","b","quotient","rest","shift"] ["a","b"] (az tT):=⟨rfl,rfl,rfl,by decide +kernel,rfl,by decide +kernel,by decide +kernel⟩
noncomputable abbrev tV:Stmt:=top 15
theorem E7:bB ["a","half","b"] ["a"] (az tV):=⟨rfl,rfl,rfl,by decide +kernel,rfl,by decide +kernel,by decide +kernel⟩
noncomputable abbrev tW:Stmt:=top 21
theorem ay4:bB ["bits"] ["bits"] (az tW):=⟨rfl,rfl,rfl,by decide +kernel,rfl,by decide +kernel,by decide +kernel⟩
noncomputable abbrev tX:Stmt:=top 13
theorem AJ:bB ["a","b","product","k"] ["a","b"] (az tX):=⟨rfl,rfl,rfl,by decide +kernel,rfl,by decide +kernel,by decide +kernel⟩
noncomputable abbrev mf:Stmt:=kH (top 24) 0
theorem Pz:bB ["self","bits","many"] ["self","bits"] (az mf):=⟨rfl,rfl,rfl,by decide +kernel,rfl,by decide +kernel,by decide +kernel⟩
noncomputable abbrev tY:Stmt:=top 33
theorem aE7:bB ["_law_told_here"] ["_law_told_here"] (az tY):=⟨rfl,rfl,rfl,by decide +kernel,rfl,by decide +kernel,by decide +kernel⟩
noncomputable abbrev tZ:Stmt:=top 27
theorem aG4:bB ["_law_script","_law_k"] ["_law_script","_law_k"] (az tZ):=⟨rfl,rfl,rfl,by decide +kernel,rfl,by decide +kernel,by decide +kernel⟩
noncomputable abbrev t7:Stmt:=top 30
theorem aG5:bB ["_law_told_here"] ["_law_told_here"] (az t7):=⟨rfl,rfl,rfl,by decide +kernel,rfl,by decide +kernel,by decide +kernel⟩
noncomputable abbrev t8:Stmt:=top 40
theorem p9:bB ["_law_told_here","_law_script","_law_begin","_law_wide","_law_heads","_law_rows","_law_i","_law_head","_law_row","_law_k","_law_sign"] ["_law_told_here","_law_script","_law_begin","_law_wide","_law_heads"] (az t8):=⟨rfl,rfl,rfl,by decide +kernel,rfl,by decide +kernel,by decide +kernel⟩
noncomputable abbrev t9:Stmt:=top 31
theorem aG6:bB ["_law_told_here","_law_a","_law_b"] ["_law_told_here","_law_a","_law_b"] (az t9):=⟨rfl,rfl,rfl,by decide +kernel,rfl,by decide +kernel,by decide +kernel⟩
noncomputable abbrev ua:Stmt:=top 32
theorem ub:bB ["_law_told_here","_law_a","_law_b","_law_total"] ["_law_told_here","_law_a","_law_b"] (az ua):=⟨rfl,rfl,rfl,by decide +kernel,rfl,by decide +kernel,by decide +kernel⟩
noncomputable abbrev ud:Stmt:=top 34
theorem AK:bB ["_law_told_here","_law_xs","_law_ys","_law_total","_law_x","_law_y"] ["_law_told_here","_law_xs","_law_ys"] (az ud):=⟨rfl,rfl,rfl,by decide +kernel,rfl,by decide +kernel,by decide +kernel⟩
noncomputable abbrev ue:Stmt:=top 35
theorem aD8:bB ["_law_told_here","_law_xs","_law_table","_law_wide"] ["_law_told_here","_law_xs","_law_table","_law_wide"] (az ue):=⟨rfl,rfl,rfl,by decide +kernel,rfl,by decide +kernel,by decide +kernel⟩
noncomputable abbrev uf:Stmt:=top 41
theorem qa:bB ["_law_told_here","_law_script","_law_answer_here","_law_count","_law_wide","_law_turn","_law_rows","_law_i","_law_begin","_law_xs"] ["_law_told_here","_law_script","_law_answer_here","_law_count","_law_wide","_law_turn"] (az uf):=⟨rfl,rfl,rfl,by decide +kernel,rfl,by decide +kernel,by decide +kernel⟩
noncomputable abbrev ug:Stmt:=top 39
theorem aG7:bB ["_law_table"] ["_law_table"] (az ug):=⟨rfl,rfl,rfl,by decide +kernel,rfl,by decide +kernel,by decide +kernel⟩
noncomputable abbrev uh:Stmt:=top 2
theorem aI8:bB ["table"] ["table"] (az uh):=⟨rfl,rfl,rfl,by decide +kernel,rfl,by decide +kernel,by decide +kernel⟩
noncomputable abbrev ui:Stmt:=top 3
theorem PB:bB ["rows","place","number","row"] ["rows","place"] (az ui):=⟨rfl,rfl,rfl,by decide +kernel,rfl,by decide +kernel,by decide +kernel⟩
noncomputable abbrev uj:Stmt:=kH (top 24) 6
theorem PC:bB ["self","a","row","by_a"] ["self","a","row"] (az uj):=⟨rfl,rfl,rfl,by decide +kernel,rfl,by decide +kernel,by decide +kernel⟩
noncomputable abbrev uk:Stmt:=kH (top 25) 6
theorem PD:bB ["self","a","row","prime"] ["self","a","row"] (az uk):=⟨rfl,rfl,rfl,by decide +kernel,rfl,by decide +kernel,by decide +kernel⟩
noncomputable abbrev um:Stmt:=kH (top 24) 7
theorem PF:bB ["self","row","a","other","by_a"] ["self","row","a","other"] (az um):=⟨rfl,rfl,rfl,by decide +kernel,rfl,by decide +kernel,by decide +kernel⟩
noncomputable abbrev uo:Stmt:=kH (top 25) 7
theorem PH:bB ["self","row","a","other","prime"] ["self","row","a","other"] (az uo):=⟨rfl,rfl,rfl,by decide +kernel,rfl,by decide +kernel,by decide +kernel⟩
noncomputable abbrev uq:Stmt:=top 4
theorem aK3:bB ["field","rows","lead_row","place"] ["field","rows","lead_row","place"] (az uq):=⟨rfl,rfl,rfl,by decide +kernel,rfl,by decide +kernel,by decide +kernel⟩
noncomputable abbrev ur:Stmt:=kH (top 23) 5
theorem aE8:bB ["self","a","b"] ["self","a","b"] (az ur):=⟨rfl,rfl,rfl,by decide +kernel,rfl,by decide +kernel,by decide +kernel⟩
noncomputable abbrev uu:Stmt:=top 5
theorem nN:bB ["field","table","done","left","place","number","lead_row"] ["field","table"] (az uu):=⟨rfl,rfl,rfl,by decide +kernel,rfl,by decide +kernel,by decide +kernel⟩
noncomputable abbrev uv:Stmt:=top 6
theorem bM1:bB ["rows"] ["rows"] (az uv):=⟨rfl,rfl,rfl,by decide +kernel,rfl,by decide +kernel,by decide +kernel⟩
noncomputable abbrev uw:Stmt:=top 7
theorem bZ5:bB ["field","table"] ["field","table"] (az uw):=⟨rfl,rfl,rfl,by decide +kernel,rfl,by decide +kernel,by decide +kernel⟩
noncomputable abbrev uz:Stmt:=top 42
theorem E8:bB ["_law_field_here","_law_answer_here","_law_handed","_law_found"] ["_law_field_here","_law_answer_here"] (az uz):=⟨rfl,rfl,rfl,by decide +kernel,rfl,by decide +kernel,by decide +kernel⟩
noncomputable abbrev uA:Stmt:=top 28
theorem aE9:bB ["_law_x"] ["_law_x"] (az uA):=⟨rfl,rfl,rfl,by decide +kernel,rfl,by decide +kernel,by decide +kernel⟩
noncomputable abbrev uB:Stmt:=top 36
theorem aB5:bB ["_law_row","_law_wide","_law_many_here"] ["_law_row","_law_wide","_law_many_here"] (az uB):=⟨rfl,rfl,rfl,by decide +kernel,rfl,by decide +kernel,by decide +kernel⟩
noncomputable abbrev uC:Stmt:=top 37
theorem ay5:bB ["_law_table","_law_rows","_law_wide","_law_many_here"] ["_law_table","_law_rows","_law_wide","_law_many_here"] (az uC):=⟨rfl,rfl,rfl,by decide +kernel,rfl,by decide +kernel,by decide +kernel⟩
noncomputable abbrev uD:Stmt:=top 38
theorem aG8:bB ["_law_found","_law_due","_law_wide","_law_many_here"] ["_law_found","_law_due","_law_wide","_law_many_here"] (az uD):=⟨rfl,rfl,rfl,by decide +kernel,rfl,by decide +kernel,by decide +kernel⟩
noncomputable abbrev mh:Stmt:=top 43
theorem gz:bB ["_law_script","_law_told_here","_law_field_here","_law_wide","_law_count","_law_heads","_law_answer_here","_law_many_here","_law_table","_law_handed","_law_found","_law_told_leads","_law_size"] ["_law_script"] (az mh):=⟨rfl,rfl,rfl,by decide +kernel,rfl,by decide +kernel,by decide +kernel⟩
set_option genInjectivity false in
set_option genSizeOf false in
structure mT where
 E9:Addr
 Fb:FuncData
 Fc:Addr
 Fd:FuncData
 Fe:Addr
 Ff:FuncData
 Fg:Addr
 Fh:FuncData
 xH:Addr
 Fj:FuncData
 Fl:Addr
 Fm:FuncData
 Fo:Addr
 Fp:FuncData
 Fq:Addr
 AL:FuncData
 Fs:Addr
 Ft:FuncData
 Fu:Addr
 Fv:FuncData
 Fw:Addr
 Fx:FuncData
 Fy:Addr
 Fz:FuncData
 FA:Addr
 FC:FuncData
 FD:Addr
 AM:FuncData
 FE:Addr
 FF:FuncData
 FG:Addr
 FH:FuncData
 FI:Addr
 FJ:FuncData
 FK:Addr
 FL:FuncData
 FN:Addr
 FP:FuncData
 FQ:Addr
 FR:FuncData
 FT:Addr
 FU:FuncData
 FV:Addr
 FW:FuncData
 FX:Addr
 FY:FuncData
 FZ:Addr
 Ga:FuncData
 Gb:Addr
 Gd:FuncData
 Ge:Addr
 Gf:FuncData
 Gg:Addr
 Gh:FuncData
 Gi:Addr
 Gj:FuncData
 Gk:Addr
 Gm:FuncData
 Gp:Addr
 Gq:FuncData
 Gs:Addr
 Gu:FuncData
 AN:Addr
 Gv:FuncData
 Gw:Addr
 Gx:FuncData
 Gy:Addr
 Gz:FuncData
 GA:Addr
 GB:FuncData
 GC:Addr
 GD:FuncData
 GF:Addr
 GG:FuncData
 GH:Addr
 GI:FuncData
 GJ:Addr
 GK:FuncData
 GL:Addr
 GN:FuncData
 GO:Addr
 GP:FuncData
 PJ:Addr
 jC:Addr
 PK:Addr
 jD:Addr
 aS:Addr
 fX:Addr
 jE:Addr
 aW:Addr
structure Txt(K:Frag)(mg:Str->Option Value)(t:mT):Prop where
 PL:bw K "_law_told" "_law_told" tL t.E9 t.Fb
 aI9:mg "_law_told"=some (.ref t.E9)
 aJ0:Binds K t.Fb ["_law_cell_here"] []
 GQ:bw K "powers_of" "powers_of" tM t.Fc t.Fd
 PM:mg "powers_of"=some (.ref t.Fc)
 PN:Binds K t.Fd ["a","product"] []
 PQ:bw K "step_powers" "step_powers" tN t.Fe t.Ff
 cG3:mg "step_powers"=some (.ref t.Fe)
 cG4:Binds K t.Ff ["many","product"] []
 PR:bw K "logs_of" "logs_of" tO t.Fg t.Fh
 cG5:mg "logs_of"=some (.ref t.Fg)
 cG6:Binds K t.Fh ["powers"] []
 ay6:bw K "step_power" "Field.step_power" tP t.xH t.Fj
 GR:Binds K t.Fj ["self","n"] []
 aG9:bw K "__init__" "Field.__init__" tQ t.Fl t.Fm
 PU:Binds K t.Fm ["self","many","product"] []
 PV:bw K "makes_prime_field" "makes_prime_field" tR t.Fo t.Fp
 cG9:mg "makes_prime_field"=some (.ref t.Fo)
 cH0:Binds K t.Fp ["prime"] []
 aA4:bw K "__init__" "PrimeField.__init__" me t.Fq t.AL
 aA5:Binds K t.AL ["self","prime"] []
 PX:bw K "product_rows" "product_rows" tS t.Fs t.Ft
 cH3:mg "product_rows"=some (.ref t.Fs)
 cH4:Binds K t.Ft ["powers","logs"] []
 GS:bw K "bits_divided" "bits_divided" tT t.Fu t.Fv
 PY:mg "bits_divided"=some (.ref t.Fu)
 PZ:Binds K t.Fv ["a","b"] []
 P0:bw K "stands_alone" "stands_alone" tV t.Fw t.Fx
 cH5:mg "stands_alone"=some (.ref t.Fw)
 cH6:Binds K t.Fx ["a"] []
 P1:bw K "makes_bit_field" "makes_bit_field" tW t.Fy t.Fz
 cH7:mg "makes_bit_field"=some (.ref t.Fy)
 cH8:Binds K t.Fz ["bits"] []
 P2:bw K "bits_times" "bits_times" tX t.FA t.FC
 cH9:mg "bits_times"=some (.ref t.FA)
 cI0:Binds K t.FC ["a","b"] []
 aC5:bw K "__init__" "BitField.__init__" mf t.FD t.AM
 aC6:Binds K t.AM ["self","bits"] []
 P4:bw K "_law_field" "_law_field" tY t.FE t.FF
 aH0:mg "_law_field"=some (.ref t.FE)
 aH1:Binds K t.FF ["_law_told_here"] []
 jF:bw K "_law_cell" "_law_cell" tZ t.FG t.FH
 kb:mg "_law_cell"=some (.ref t.FG)
 ke:Binds K t.FH ["_law_script","_law_k"] []
 xI:bw K "_law_many" "_law_many" t7 t.FI t.FJ
 AO:mg "_law_many"=some (.ref t.FI)
 AQ:Binds K t.FJ ["_law_told_here"] []
 P5:bw K "_law_answer" "_law_answer" t8 t.FK t.FL
 aF0:mg "_law_answer"=some (.ref t.FK)
 aF1:Binds K t.FL ["_law_told_here","_law_script","_law_begin","_law_wide","_law_heads"] []
 P6:bw K "_law_plus" "_law_plus" t9 t.FN t.FP
 aJ1:mg "_law_plus"=some (.ref t.FN)
 aJ2:Binds K t.FP ["_law_told_here","_law_a","_law_b"] []
 P7:bw K "_law_times" "_law_times" ua t.FQ t.FR
 aH2:mg "_law_times"=some (.ref t.FQ)
 aH3:Binds K t.FR ["_law_told_here","_law_a","_law_b"] []
 P8:bw K "_law_dot" "_law_dot" ud t.FT t.FU
 aK4:mg "_law_dot"=some (.ref t.FT)
 aK5:Binds K t.FU ["_law_told_here","_law_xs","_law_ys"] []
 P9:bw K "_law_by_row" "_law_by_row" ue t.FV t.FW
 aF2:mg "_law_by_row"=some (.ref t.FV)
 aF3:Binds K t.FW ["_law_told_here","_law_xs","_law_table","_law_wide"] []
 Qa:bw K "_law_made" "_law_made" uf t.FX t.FY
 aJ3:mg "_law_made"=some (.ref t.FX)
 aJ4:Binds K t.FY ["_law_told_here","_law_script","_law_answer_here","_law_count","_law_wide","_law_turn"] []
 AR:bw K "_law_copy" "_law_copy" ug t.FZ t.Ga
 GU:mg "_law_copy"=some (.ref t.FZ)
 GV:Binds K t.Ga ["_law_table"] []
 Qb:bw K "width_of" "width_of" uh t.Gb t.Gd
 cJ7:mg "width_of"=some (.ref t.Gb)
 cJ8:Binds K t.Gd ["table"] []
 Qc:bw K "first_with" "first_with" ui t.Ge t.Gf
 cJ9:mg "first_with"=some (.ref t.Ge)
 cK0:Binds K t.Gf ["rows","place"] []
 aA6:bw K "scaled" "BitField.scaled" uj t.Gg t.Gh
 aA7:Binds K t.Gh ["self","a","row"] []
 ax9:bw K "scaled" "PrimeField.scaled" uk t.Gi t.Gj
 ay0:Binds K t.Gj ["self","a","row"] []
 ay1:bw K "lessened" "BitField.lessened" um t.Gk t.Gm
 ay2:Binds K t.Gm ["self","row","a","other"] []
 aw1:bw K "lessened" "PrimeField.lessened" uo t.Gp t.Gq
 aw2:Binds K t.Gq ["self","row","a","other"] []
 GW:bw K "cleared" "cleared" uq t.Gs t.Gu
 Qe:mg "cleared"=some (.ref t.Gs)
 Qf:Binds K t.Gu ["field","rows","lead_row","place"] []
 aH4:bw K "over" "Field.over" ur t.AN t.Gv
 Qg:Binds K t.Gv ["self","a","b"] []
 uE:bw K "reduced" "reduced" uu t.Gw t.Gx
 xJ:mg "reduced"=some (.ref t.Gw)
 xK:Binds K t.Gx ["field","table"] []
 GX:bw K "leads" "leads" uv t.Gy t.Gz
 Qh:mg "leads"=some (.ref t.Gy)
 Qi:Binds K t.Gz ["rows"] []
 Qj:bw K "rank" "rank" uw t.GA t.GB
 cL0:mg "rank"=some (.ref t.GA)
 cL1:Binds K t.GB ["field","table"] []
 Qk:bw K "_law_own" "_law_own" uz t.GC t.GD
 aK6:mg "_law_own"=some (.ref t.GC)
 aK7:Binds K t.GD ["_law_field_here","_law_answer_here"] []
 AS:bw K "_law_whole" "_law_whole" uA t.GF t.GG
 GY:mg "_law_whole"=some (.ref t.GF)
 GZ:Binds K t.GG ["_law_x"] []
 Ql:bw K "_law_row_kind" "_law_row_kind" uB t.GH t.GI
 aC9:mg "_law_row_kind"=some (.ref t.GH)
 aD0:Binds K t.GI ["_law_row","_law_wide","_law_many_here"] []
 Qm:bw K "_law_table_kind" "_law_table_kind" uC t.GJ t.GK
 aA8:mg "_law_table_kind"=some (.ref t.GJ)
 aA9:Binds K t.GK ["_law_table","_law_rows","_law_wide","_law_many_here"] []
 Qn:bw K "_law_same" "_law_same" uD t.GL t.GN
 aJ5:mg "_law_same"=some (.ref t.GL)
 aJ6:Binds K t.GN ["_law_found","_law_due","_law_wide","_law_many_here"] []
 cM0:bw K "law" "law" mh t.GO t.GP
 dE3:mg "law"=some (.ref t.GO)
 dE4:Binds K t.GP ["_law_script"] []
 az1:t.AL.code=.ref t.PJ
 az2:codeHdIn K t.PJ t.jC=true
 aB6:t.AM.code=.ref t.PK
 aB7:codeHdIn K t.PK t.jD=true
 gZ:dS K t.aS
 xM:Mk K t.aS t.FD
 aL3:Ox K t.aS
 xN:cu K t.aS "bits"
 nO:cu K t.aS "logs"
 uF:cu K t.aS "many"
 qe:cu K t.aS "powers"
 AU:cu K t.aS "prime"
 qf:cu K t.aS "products"
 xO:cu K t.aS "step"
 xP:cu K t.aS "wide"
 xQ:Meth K t.aS "lessened" t.Gk
 xR:Meth K t.aS "over" t.AN
 xS:Meth K t.aS "scaled" t.Gg
 uG:Meth K t.aS "step_power" t.xH
 jG:dS K t.aW
 xT:Mk K t.aW t.Fq
 aL2:Ox K t.aW
 AV:cu K t.aW "bits"
 qg:cu K t.aW "logs"
 uH:cu K t.aW "many"
 uI:cu K t.aW "powers"
 qh:cu K t.aW "prime"
 AW:cu K t.aW "products"
 xU:cu K t.aW "step"
 xV:cu K t.aW "wide"
 xW:Meth K t.aW "lessened" t.Gp
 xX:Meth K t.aW "over" t.AN
 xY:Meth K t.aW "scaled" t.Gi
 uJ:Meth K t.aW "step_power" t.xH
 Qo:zX K t.jE "__init__" t.Fl
 AX:mg "all"=none
 cM5:mg "bool"=none
 AY:mg "enumerate"=none
 Qp:mg "int"=none
 xZ:mg "isinstance"=none
 fY:mg "len"=none
 AZ:mg "list"=none
 cM6:mg "max"=none
 iK:mg "range"=none
 cM7:mg "set"=none
 cM8:mg "sorted"=none
 G0:mg "zip"=none
 x6:mg "BitField"=some (.ref t.aS)
 x8:mg "ByNought"=some (.ref t.fX)
 uK:mg "Field"=some (.ref t.jE)
 x9:mg "PrimeField"=some (.ref t.aW)
 Qq:D6 K mg "ByNought" t.fX
 aL4:WZ K t.fX
section
variable{P:Program}{w:World}{K:Frag}{mg:Str->Option Value}{base:Heap}{t:mT}
noncomputable abbrev aH5:bD:=λds Q=>∃c:Int,ds=[.int c]/\Q (cF (nG c))
theorem aH6(T:Txt K mg t):aO P w K mg base aY 1 t.E9 t.Fb ["_law_cell_here"] (bG (aH5 )):=by
 refine cw T.PL E5 ?_ ?_
 ·intro ds Q h
  obtain⟨c,rfl,q⟩:=h<;>rfl
 ·intro aG A outer s H E hr
  refine⟨_,(aD (bb (i:=1) E5.nd rfl (au rfl) (Nq (ns:=[7,11,13,19,25,31,37,41,47,55,59,61,67,73,87,91,97,103,109,115,117]) (by decide +kernel)))
   (aD (bb (i:=2) E5.nd rfl (au rfl) (Nq (ns:=[2,3,5,7,11,13,17,19,23,29,31,37,41,43,47,53,59,61]) (by decide +kernel)))
   (aD (cM (cB (gr (cN hr)) (ae (aE dh (bv 0) (ae ax))) (ae ax) (bW _)) (aL (bc (DJ (gP gO (gP (eK (bR (bv 1) (ae (aE dh (ae (aE m9 (bv 0) (ae ax))) (ae ax))) (λ_ _=>rfl))) fv))))) cL)
   (aL (bc (DJ (gP gO (gP (eK (bR (bv 2) (ae (aE dh (ae (aE m9 (bv 0) (ae ax))) (ae ax))) (λ_ _=>rfl))) fv)))))))),λds Q h=>?_⟩
  obtain⟨c,rfl,q⟩:=h
  refine aC λU hU=>?_
  walk_at"l3"
  refine⟨by decide,hU _ ?_⟩
  clear hU U
  refine aC λU hU=>?_
  walk_at"l3"
  refine⟨by decide,hU _ ?_⟩
  clear hU U
  refine aC λU hU=>?_
  walk_at"l3"
  refine⟨by decide,?_⟩
  have n1:=iM (c/2) (show(21:Int)≠0 by decide)
  have n2:=iN (c/2) (show(0:Int)<21 by decide)
  have n3:=iM (c/2) (show(18:Int)≠0 by decide)
  have n4:=iN (c/2) (show(0:Int)<18 by decide)
  split
  ·rename_i hc
   refine⟨m8 (by decide) (by decide),by decide,_,j6 n1 (by simpa using n2),rfl,by decide,?_⟩
   have e:cF (nG c)=.tup [.bl true,.int (([7,11,13,19,25,31,37,41,47,55,59,61,67,73,87,91,97,103,109,115,117]:List Int).getD (c/2%21).toNat 0)]:=by
    unfold nG cF
    rw[if_pos hc]
    have:∀k:Nat,((fS.getD k 0:Nat):Int)=([7,11,13,19,25,31,37,41,47,55,59,61,67,73,87,91,97,103,109,115,117]:List Int).getD k 0:=λk=>by
     show _=(fS.map (λ(n:Nat)=>(n:Int))).getD k ((0:Nat):Int)
     rw[aQ,aQ,cY]
     cases fS[k]?<;>rfl
    rw[<-this]
   rw[<-e];exact q
  ·rename_i hc
   refine hU _ ?_
   walk_at"l3"
   refine⟨m8 (by decide) (by decide),by decide,_,j6 n3 (by simpa using n4),rfl,by decide,?_⟩
   have e:cF (nG c)=.tup [.bl false,.int (([2,3,5,7,11,13,17,19,23,29,31,37,41,43,47,53,59,61]:List Int).getD (c/2%18).toNat 0)]:=by
    unfold nG cF
    rw[if_neg hc]
    have:∀k:Nat,((lF.getD k 0:Nat):Int)=([2,3,5,7,11,13,17,19,23,29,31,37,41,43,47,53,59,61]:List Int).getD k 0:=λk=>by
     show _=(lF.map (λ(n:Nat)=>(n:Int))).getD k ((0:Nat):Int)
     rw[aQ,aQ,cY]
     cases lF[k]?<;>rfl
    rw[<-this]
   rw[<-e];exact q
noncomputable abbrev aH7(L:Obj->Obj->Addr->Addr->sW->Prop):bD:=λds Q=>∃(a:Nat) (of oc:Obj) (c k:Addr) (g:Nat->Nat->Nat) (l:List Int),ds=[.int a,.aV (.lam of oc c k)]/\L of oc c k (xk g)/\a<64/\Eu g a=some l/\Q (.lst true (nums l))
theorem Qr(T:Txt K mg t):aO P w K mg base aY 5 t.Fc t.Fd ["a","product"] (bG (aH7 (xa P w K mg base 4))):=by
 refine cw T.GQ AH ?_ ?_
 ·intro ds Q h
  obtain⟨a,of,oc,c,k,g,l,rfl,hL,ha,hp,q⟩:=h<;>rfl
 ·intro aG A outer s H E hr
  refine⟨_,(aD (bb (i:=2) AH.nd rfl (au rfl) (gQ (gP ax fv)))
   (aD (bb (i:=3) AH.nd rfl (au rfl) (NQ (n:=4) (i:=1) rfl (by first | exact au rfl | exact bu (au rfl)) (hr.mono (by decide)) (aj (ae ax) (aj (bv 0) aB))))
   (aD (zx ia (cB (gU (cN hr)) (bv 3) (ae ax) (bW _))
    (aD (pF (i:=2) rfl (by first | exact au rfl | exact bu (au rfl)) (eK (bv 3)))
    (aL (bb (i:=3) AH.nd rfl (au rfl) (NQ (n:=4) (i:=1) rfl (by first | exact au rfl | exact bu (au rfl)) (hr.mono (by decide)) (aj (bv 3) (aj (bv 0) aB)))))))
   (aL (bc (em 2)))))),λds Q h=>?_⟩
  obtain⟨a,of,oc,c,k,g,l,rfl,hL,ha,hp,q⟩:=h
  refine aC λU hU=>?_
  walk_at"l3"
  refine⟨by decide,hU _ ?_⟩
  clear hU U
  refine aC λU hU=>?_
  walk_at"l3"
  refine⟨of,oc,c,k,xk g,rfl,hL,1,a,⟨rfl,rfl⟩,1,a,rfl,rfl,by decide,ha,hU _ ?_⟩
  clear hU U
  refine aC λU hU=>?_
  walk_at"l3"
  refine⟨λm δ=>∃(p:Nat) (acc:List Int),δ=[some (.int a),some (.aV (.lam of oc c k)),some (.lst true (nums acc)),some (.int p)]/\acc.length+m<=70/\zY g a m p acc=some l,⟨64,_,[1],rfl,by decide,hp⟩,?_⟩
  rintro m δ ⟨p,acc,rfl,hn,hg⟩
  walk_at"l3"
  cases m with
  | zero=>cases hg
  | succ m =>
   unfold zY at hg
   split at hg
   ·rename_i h1
    subst h1
    cases hg
    rw[if_neg (by simp)]
    refine hU _ ?_
    walk_at"l3"
    exact q
   ·rename_i h1
    rw[if_pos (by simp;omega)]
    split at hg
    ·rename_i h2
     clear hU
     refine aC λU hU=>?_
     walk_at"l3"
     refine⟨⟨_,rfl⟩,by omega,hU _ ?_⟩
     clear hU
     walk_at"l3"
     exact⟨of,oc,c,k,xk g,rfl,hL,p,a,⟨rfl,rfl⟩,p,a,rfl,rfl,h2,ha,m,by omega,g p a,acc++[(p:Int)],⟨by rw[<-pJ];rfl,rfl⟩,by simp;omega,hg⟩
    ·cases hg
noncomputable abbrev aD9(L:Obj->Obj->Addr->Addr->sW->Prop):bD:=λds Q=>∃(n:Nat) (of oc:Obj) (c k:Addr) (g:Nat->Nat->Nat) (l:List Int),ds=[.int n,.aV (.lam of oc c k)]/\L of oc c k (xk g)/\xj g n=some l/\Q (.lst true (nums l))
theorem aE0(T:Txt K mg t):aO P w K mg base aY 6 t.Fe t.Ff ["many","product"] (bG (aD9 (xa P w K mg base 4))):=by
 refine cw T.PQ xG ?_ ?_
 ·intro ds Q h
  obtain⟨n,of,oc,c,k,g,l,rfl,hL,hp,q⟩:=h<;>rfl
 ·intro aG A outer s H E hr
  refine⟨_,(aD (bb (i:=2) xG.nd rfl (au rfl) ax)
   (aD (bb (i:=3) xG.nd rfl (au rfl) (bA ((Qr T).mono (by decide)) hr rfl T.PM T.GQ.kp T.PN aZ (aj (bv 2) (aj (bv 1) aB))))
   (aD (zx ia (cB se (ae (dZ (fP) (by rfl) T.fY fI (aj (bv 3) aB))) (ae (aE jt (bv 0) (ae ax))) (bW _))
    (aD (zw (i:=2) xG.nd rfl (au rfl) (ae ax) XS)
    (aL (bb (i:=3) xG.nd rfl (au rfl) (bA ((Qr T).mono (by decide)) hr rfl T.PM T.GQ.kp T.PN aZ (aj (bv 2) (aj (bv 1) aB)))))))
   (aL (bc (em 3)))))),λds Q h=>?_⟩
  obtain⟨n,of,oc,c,k,g,l,rfl,hL,hp,q⟩:=h
  unfold xj at hp
  split at hp
  ·rename_i l0 h0
   refine aC λU hU=>?_
   walk_at"l3"
   refine hU _ ?_
   clear hU U
   refine aC λU hU=>?_
   walk_at"l3"
   refine⟨1,of,oc,c,k,g,l0,rfl,hL,by decide,h0,hU _ ?_⟩
   clear hU U
   refine aC λU hU=>?_
   walk_at"l3"
   refine⟨λm δ=>∃(st:Nat) (l1:List Int),δ=[some (.int n),some (.aV (.lam of oc c k)),some (.int st),some (.lst true (nums l1))]/\st+m<=63/\zZ g n m st l1=some l,⟨62,1,l0,rfl,by decide,hp⟩,?_⟩
   rintro m δ ⟨st,l1,rfl,hn,hg⟩
   walk_at"l3"
   cases m with
   | zero=>cases hg
   | succ m =>
    unfold zZ at hg
    split at hg
    ·rename_i h1
     rw[if_pos (by omega)]
     split at hg
     ·rename_i l2 h2
      clear hU
      refine aC λU hU=>?_
      walk_at"l3"
      refine hU _ ?_
      clear hU
      walk_at"l3"
      exact⟨st+1,of,oc,c,k,g,l2,rfl,hL,by omega,h2,m,by omega,st+1,l2,⟨rfl,rfl⟩,by omega,hg⟩
     ·cases hg
    ·rename_i h1
     rw[if_neg (by omega)]
     cases hg
     refine hU _ ?_
     walk_at"l3"
     exact q
  ·cases hp
noncomputable abbrev aK8:bD:=λds Q=>∃(l:List Int),ds=[.lst false (nums l)]/\l.length<=64/\(∀x∈l,0<=x/\x.toNat<=l.length)/\Q (.lst true (nums (di l)))
theorem aK9(T:Txt K mg t):aO P w K mg base aY 1 t.Fg t.Fh ["powers"] (bG (aK8 )):=by
 refine cw T.PR E6 ?_ ?_
 ·intro ds Q h
  obtain⟨l,rfl,hl,hx,q⟩:=h<;>rfl
 ·intro aG A outer s H E hr
  refine⟨_,(aD (bb (i:=1) E6.nd rfl (au rfl) (aE jv (ae (gQ (gP ax fv))) (ae (aE dD (ae (dZ (fP) (by rfl) T.fY fI (aj (bv 0) aB))) (ae ax)))))
   (aD (jW ia rfl (zL rfl T.AY (aj (bv 0) aB)) (pM (i1:=2) (i2:=3) rfl E6.nd rfl (au rfl) rfl (au rfl))
    (aL (Yf (i:=1) rfl (by first | exact au rfl | exact bu (au rfl)) (eK (bv 2)) (bv 3))))
   (aL (bc (em 1))))),λds Q h=>?_⟩
  obtain⟨l,rfl,hl,hx,q⟩:=h
  refine aC λU hU=>?_
  walk_at"l3"
  refine⟨by decide,⟨by omega,by omega,by omega⟩,hU _ ?_⟩
  clear hU U
  refine aC λU hU=>?_
  walk_at"l3"
  refine jr.mk (λi δ=>∃o1 o2,δ=[some (.lst false (nums l)),some (.lst true (nums (lH l i))),o1,o2]) ⟨none,none,?_⟩ ?_ ?_
  ·rw[show((l.length:Int)+1).toNat=l.length+1 by omega];rfl
  ·rintro i d δ hd ⟨o1,o2,rfl⟩
   obtain⟨hi,rfl⟩:∃h:i<l.length,d=.tup [.int i,.int l[i]]:=by
    unfold eN nums at hd
    rw[yx,cY]at hd
    by_cases hi:i<l.length
    ·rw[aP hi]at hd
     simp at hd
     exact⟨hi,hd.symm⟩
    ·rw[i4 (by omega)]at hd;simp at hd
   have eA:=hx l[i] (fi _)
   walk_at"l3"
   refine⟨_,(l[i]).toNat,rfl,?_,_,_,?_,rfl,rfl⟩
   ·unfold fG
    rw[ly,xm,if_pos eA.1,if_pos (by omega)]
   ·unfold nums
    rw[<-List.map_set]
    congr 1
    show _=(lH l i).set (l.getD i 0).toNat (i:Int)
    rw[aQ,aP hi];rfl
  ·rintro δ ⟨o1,o2,rfl⟩
   refine hU _ ?_
   simp only[rE,oZ,rF,rG,dT,kR,m4,m5,dC,mZ,oY,oX,oW,rC,rD,lh,sr,pB,sA,sC,rm,rn,rq,rz,rB,oU,pk,pq,ii,pd,rP,pf,rQ,rR,rS,rV,rW,rX,iI,fN,rY,rZ,r6,r9,ph,nh,sg,si,gN,sD,sq,rH,rK,rL,rM,rN,sE,sF,o7,js,eS,iu,gR,u3,qy,yH,yI,kS,jo,jq,pz,sM,sN,sO,wW,j7,sS,pO,sQ,iA,wZ,wX,wY,dF,mx,mH,nY,iY,yJ,bh,oh,oi,i5,i6,mI,exists_eq_left',exists_eq_left,D.bl.injEq,D.int.injEq,D.lst.injEq,D.fz.injEq,D.str.injEq,D.tup.injEq,yK,and_true,true_and,dG,qC,mG,n6,wg,wj,wk,wm,wo,wt,gM,jT,pH,wB,wC,wD,wF,wG,dX,kP,sG,wu,wz,wA,fK,oS,yL,yM,uW,oj,yN,yO,qw,wK,wL,wM,wN,wO,wQ,wR,ly,nj,pI,iU,pJ,wI,sJ,wH,sH,wJ,nk,sI,if_true,vd,if_false,reduceIte,wU,decide_eq_true_eq,iB,nu,sT,w5,nv,rJ,sX,pV,sR,pS,pU,s8,pX,tG,tH,tI,fV,xw,lM,xy,p8,pK]
   exact q
noncomputable abbrev G1(K:Frag):bD:=λds Q=>∃(C:Addr) (ns:List Str) (xs:List D) (n:Int) (many:Nat) (l:List Int) (r:Int),ds=[.obj C ns xs,.int n]/\dS K C/\cu K C "powers"/\cu K C "many"/\(ns.zip xs).lookup ("powers":Str)=some (.lst false (nums l))/\(ns.zip xs).lookup ("many":Str)=some (.int many)/\2<=many/\l[(n%((many:Int)-1)).toNat]?=some r/\Q (.int r)
theorem G3(T:Txt K mg t):aO P w K mg base aY 1 t.xH t.Fj ["self","n"] (bG (G1 K)):=by
 refine cw T.ay6 ax8 ?_ ?_
 ·intro ds Q h
  obtain⟨C,ns,xs,n,many,l,r,rfl,hC,h1,h2,h3,h4,h5,h6,q⟩:=h<;>rfl
 ·intro aG A outer s H E hr
  refine⟨_,(aL (bc (eK (bR (nF (K:=K) (bv 0)) (ae (aE dh (bv 1) (ae (aE jt (nF (K:=K) (bv 0)) (ae ax))))) (λ_ _=>rfl))))),λds Q h=>?_⟩
  obtain⟨C,ns,xs,n,many,l,r,rfl,hC,h1,h2,h3,h4,h5,h6,q⟩:=h
  walk_at"l3"
  refine⟨C,ns,xs,_,rfl,hC,h1,h3,C,ns,xs,_,rfl,hC,h2,h4,?_⟩
  refine⟨by omega,_,mQ (d:=.int r) (iM _ (by omega)) ?_,rfl,q⟩
  unfold nums
  rw[cY,h6];rfl
noncomputable abbrev aF4(P:Program)(w:World)(K:Frag)(mg:Str->Option Value)(base:Heap)(fs:Addr):Sp:=λvs H Q _=>∃(x dx f C:Addr) (b:Str) (n0:Int) (many:Nat) (of oc:Obj) (c k:Addr) (g:Nat->Nat->Nat) (l:List Int) (st:Int),
 vs=[.ref x,.int many,.ref f]/\H x=some (.ins C dx [(b,.int n0)])/\(∀n∈(["many","wide","powers","logs","step","step_power"]:List Str),b≠n)/\Zv K C fs/\gi H f of oc c k/\xa P w K mg base 4 of oc c k (xk g)/\Oa g many l st /\
 ∀H' p1 p2,cT x H H'->H' x=some (.ins C dx ((fU b).zip (z0 n0 many p1 p2 st)))->LI H' p1 l->LI H' p2 (di l)->p1≠p2->H p1=none->H p2=none->Q .ak H'
theorem Qs(T:Txt K mg t):aO P w K mg base aY 7 t.Fl t.Fm ["self","many","product"] (aF4 P w K mg base t.xH):=by
 refine T.aG9.ok aE6 (λvs H Q E h=>?_) λaG A outer s H vs Q E hr h=>?_
 ·obtain⟨x,dx,f,C,b,n0,many,of,oc,c,k,g,l,st,rfl,_⟩:=h;rfl
 obtain⟨x,dx,f,C,b,n0,many,of,oc,c,k,g,l,st,rfl,hx,hb,hC,cN7,hL,hF,q⟩:=h
 refine⟨_,je (mP (pv 0) (pv 1) rfl) (je (mP (pv 0) (vy CS (Dn (pv 1)) qP) rfl)
  (je (mP (pv 0) (oF ((aE0 T).mono (by decide)) hr rfl T.cG3 T.PQ.kp T.cG4 .nil aZ (eJ (pv 1) (eJ (pv 2) ij))) rfl)
  (je (mP (pv 0) (oF ((aK9 T).mono (by decide)) hr rfl T.cG5 T.PR.kp T.cG6 .nil aZ (eJ (y9 (pv 0) rfl) ij)) rfl)
  (qR (mP (pv 0) (Vf (pv 0) hC.cls hC.sp ((G3 T).mono (by decide)) hr T.GR .nil aZ (eJ qP ij)) rfl))))),?_⟩
 have nb:∀n∈(["many","wide","powers","logs","step","step_power"]:List Str),b≠n:=hb
 refine⟨.int many,rfl,.ref x,rfl,x,C,dx,_,rfl,hx,hC.cls,hC.many,kr (aX 1) (by decide),?_⟩
 rw[tf (by simpa using nb "many" (by simp))]
 generalize e1:upd H x (HO.ins C dx ([(b,V.int n0)]++[(("many":Str),V.int many)]))=H1
 have eA:H1 x=some (.ins C dx [(b,V.int n0),(("many":Str),V.int many)]):=by rw[<-e1,bO];rfl
 have s1:cT x H H1:=by rw[<-e1];exact cT.upd (C:=C) (dx:=dx) hx rfl
 have l1:gi H1 f of oc c k:=by rw[<-e1];exact cN7.xn hx
 have n1:∀p,H1 p=none->H p=none:=λp h=>xo hx (by rw[e1];exact h)
 refine⟨_,rfl,rfl,_,rfl,rfl,_,_,rfl,rfl,.ref x,rfl,x,C,dx,_,rfl,eA,hC.cls,hC.wide,kr (aX 2) (by decide),?_⟩
 rw[tf (by simp;exact⟨nb "wide" (by simp),by decide⟩),gB]
 generalize e2:upd H1 x (HO.ins C dx ([(b,V.int n0),(("many":Str),V.int many)]++[(("wide":Str),V.int ((bl many:Nat)-1))]))=H2
 have gy:H2 x=some (.ins C dx [(b,V.int n0),(("many":Str),V.int many),(("wide":Str),V.int ((bl many:Nat)-1))]):=by rw[<-e2,bO];rfl
 have s2:cT x H H2:=by rw[<-e2];exact s1.trans (cT.upd (C:=C) (dx:=dx) eA rfl)
 have l2:gi H2 f of oc c k:=by rw[<-e2];exact l1.xn eA
 have n2:∀p,H2 p=none->H p=none:=λp h=>n1 p (xo eA (by rw[e2];exact h))
 refine⟨_,rfl,_,rfl,H2,[.int many,.aV (.lam of oc c k)],λd=>d=.lst true (nums l),aa.refl _,.int (.aV l2 .nil),⟨many,of,oc,c,k,g,l,rfl,hL,hF.step,rfl⟩,λd v F' H3 A' hd hs hf he h3 r nd fr=>?_⟩
 subst hd
 obtain⟨p1,rfl,hp1,ya⟩:=N9 r fr
 have kg:=hs.get _ _ gy
 have s3:=s2.trans (hs.x (x:=x))
 refine⟨.ref x,rfl,x,C,dx,_,rfl,kg,hC.cls,hC.Ew,kr (aX 3) (by decide),?_⟩
 rw[tf (by simp;exact⟨nb "powers" (by simp),by decide,by decide⟩)]
 generalize e4:upd H3 x (HO.ins C dx ([(b,V.int n0),(("many":Str),V.int many),(("wide":Str),V.int ((bl many:Nat)-1))]++[(("powers":Str),V.ref p1)]))=H4
 have nQ:H4 x=some (.ins C dx [(b,V.int n0),(("many":Str),V.int many),(("wide":Str),V.int ((bl many:Nat)-1)),(("powers":Str),V.ref p1)]):=by rw[<-e4,bO];rfl
 have s4:cT x H H4:=by rw[<-e4];exact s3.trans (cT.upd (C:=C) (dx:=dx) kg rfl)
 have p4:LI H4 p1 l:=by rw[<-e4];exact hp1.upd kg (λws z=>by cases z)
 have n4:∀p,H4 p=none->H p=none:=λp h=>n2 p (hs.free (xo kg (by rw[e4];exact h)))
 refine⟨.ref x,rfl,x,C,dx,_,.ref p1,rfl,nQ,hC.cls,hC.Ew,by rw[z7 (nb "powers" (by simp))];rfl,H4,[.lst false (nums l)],λd=>d=.lst true (nums (di l)),aa.refl _,.shr p4 (jw l) .nil,⟨l,rfl,by have:=hF.len;have:=hF.hi;omega,hF.ins,rfl⟩,λd v F' H5 A' hd nR hf he h3 r nd fr=>?_⟩
 subst hd
 obtain⟨p2,rfl,Qt,qi⟩:=N9 r fr
 have kh:=nR.get _ _ nQ
 have s5:=s4.trans (nR.x (x:=x))
 have cN9:p1≠p2:=λz=>by rw[<-z]at qi;unfold LI at p4;rw[qi]at p4;cases p4
 refine⟨.ref x,rfl,x,C,dx,_,rfl,kh,hC.cls,hC.Zw,kr (aX 4) (by decide),?_⟩
 rw[tf (by simp;exact⟨nb "logs" (by simp),by decide,by decide,by decide⟩)]
 generalize e6:upd H5 x (HO.ins C dx ([(b,V.int n0),(("many":Str),V.int many),(("wide":Str),V.int ((bl many:Nat)-1)),(("powers":Str),V.ref p1)]++[(("logs":Str),V.ref p2)]))=H6
 have G4:H6 x=some (.ins C dx (([b,"many","wide","powers","logs"]:List Str).zip [V.int n0,V.int many,V.int ((bl many:Nat)-1),V.ref p1,V.ref p2])):=by rw[<-e6,bO];rfl
 have s6:cT x H H6:=by rw[<-e6];exact s5.trans (cT.upd (C:=C) (dx:=dx) kh rfl)
 have p6:LI H6 p1 l:=by rw[<-e6];exact(p4.same nR).upd kh (λws z=>by cases z)
 have q6:LI H6 p2 (di l):=by rw[<-e6];exact Qt.upd kh (λws z=>by cases z)
 refine⟨.ref x,rfl,x,dx,_,rfl,G4,by show kl ("step_power":Str) ((b,V.int n0)::_)=none;rw[z7 (nb "step_power" (by simp))];rfl,H6,[.obj C [b,"many","wide","powers","logs"] [.int n0,.int many,.int ((bl many:Nat)-1),.lst false (nums l),.lst false (nums (di l))],.int 1],λd=>d=.int st,aa.refl _,
  .obj G4 rfl (.int (.int (.int (.shr p6 (jw l) (.shr q6 (jw _) .nil))))) (.int .nil),⟨C,_,_,1,many,l,st,rfl,hC.cls,hC.Ew,hC.many,by show kl ("powers":Str) ((b,D.int n0)::_)=_;rw[z7 (nb "powers" (by simp))];rfl,by show kl ("many":Str) ((b,D.int n0)::_)=_;rw[z7 (nb "many" (by simp))];rfl,hF.lo,hF.st,rfl⟩,λd v F' H7 A' hd A6 hf he h3 r nd fr=>?_⟩
 subst hd
 cases r
 have A7:=A6.get _ _ G4
 refine⟨.ref x,rfl,x,C,dx,_,rfl,A7,hC.cls,hC.step,kr (aX 5) (by decide),?_⟩
 rw[tf (by simp;exact⟨nb "step" (by simp),by decide,by decide,by decide,by decide⟩)]
 refine q _ p1 p2 ((s6.trans (A6.x (x:=x))).trans (cT.upd (C:=C) (dx:=dx) A7 rfl)) (by rw[bO];rfl) ((p6.same A6).upd A7 (λws z=>by cases z)) ((q6.same A6).upd A7 (λws z=>by cases z)) cN9 (n2 p1 ya) (n4 p2 qi)
noncomputable abbrev aw7:bD:=λds Q=>∃a:Int,ds=[.int a]/\Q (.bl (decide (2<=a)&&decide (a<=61)&&(aR (a.toNat-2)).all λi=>a%(2+(i:Int)) != 0))
theorem aw8(T:Txt K mg t):aO P w K mg base aY 1 t.Fo t.Fp ["prime"] (bG (aw7 )):=by
 refine cw T.PV aw4 ?_ ?_
 ·intro ds Q h
  obtain⟨a,rfl,q⟩:=h<;>rfl
 ·intro aG A outer s H E hr
  refine⟨_,(aL (bc (rA (ae (DT vZ vZ (ae ax) (bv 0) (ae ax))) (qQ (dZ (zE rfl) (by rfl) T.AX zd (aj (ae (fg [("prime",0)] ["d"] rfl (zA rfl T.iK (aj (ae ax) (aj (bv 0) aB))) (λ_ _ _ _=>(dM (i:=1) (show(["prime","d"]:List Str).Nodup by decide +kernel) rfl (au (lookup_relabel_local rfl)) (by decide) (bu (lookup_relabel_local rfl)))) (λ_ _ _ _=>e8) (λ_ _ _ _=>(vS (gU (cN hr)) (ae (aE dh (bv 0) (bv 1))) (ae ax) (bW _))) rfl ⟨rfl,trivial⟩ (λ_=>by repeat' (first | exact trivial | refine⟨.inl rfl,?_⟩ | refine⟨.inr (.inl rfl),?_⟩ | refine⟨.inr (.inr ⟨_,rfl⟩),?_⟩)) (λ_=>⟨⟨rfl,.inl rfl,.inl rfl,_,rfl,rfl⟩,trivial⟩) rfl (by decide +kernel))) aB)))))),λds Q h=>?_⟩
  obtain⟨a,rfl,q⟩:=h
  walk_at"l3"
  split
  ·rename_i h1
   split
   ·rename_i h2
    refine⟨2,a,⟨rfl,rfl⟩,⟨by decide,by decide,by omega,by omega⟩,?_⟩
    have e0:(a-2).toNat=a.toNat-2:=by omega
    rw[e0]
    refine gx (aR (a.toNat-2)) (λ(k:Nat)=>D.int (2+(k:Int))) (λ(k:Nat)=>D.bl (a%(2+(k:Int)) != 0)) (by rw[vV]) (λx y h=>by injection h with h;omega) (λk hk=>?_) (.inr λ_ _=>rfl) (by rw[dR,sL];omega) ?_
    ·walk_at"l3"
     refine⟨by omega,?_⟩
     by_cases z:a%(2+(k:Int))=0<;>simp[z]
    ·refine⟨(aR (a.toNat-2)).map λ(k:Nat)=>a%(2+(k:Int)) != 0,?_,?_⟩
     ·unfold sj;rw[dk];rfl
     ·have e:(decide (2<=a)&&decide (a<=61)&&(aR (a.toNat-2)).all λi=>a%(2+(i:Int)) != 0)=((aR (a.toNat-2)).map λ(k:Nat)=>a%(2+(k:Int)) != 0).all id:=by
       simp[h1,h2,n9]
      rw[<-e];exact q
   ·rename_i h2
    have e:(decide (2<=a)&&decide (a<=61)&&(aR (a.toNat-2)).all λi=>a%(2+(i:Int)) != 0)=false:=by simp[h2]
    rw[e]at q;exact q
  ·rename_i h1
   have e:(decide (2<=a)&&decide (a<=61)&&(aR (a.toNat-2)).all λi=>a%(2+(i:Int)) != 0)=false:=by simp[h1]
   rw[e]at q;exact q
noncomputable abbrev aE1:List D->List Str->List D->Prop:=λds ns xs=>∃p:Nat,ds=[.int p]/\p∈lF/\ns=fU "prime"/\xs=[.int p,.int p,.int ((bl p:Nat)-1),.lst true (nums (fl (false,p))),.lst true (nums (di (fl (false,p)))),.int (fst (false,p))]
theorem az4(T:Txt K mg t)(hB:Bm mg base):aO P w K mg base aY 8 t.Fq t.AL ["self","prime"] (Et [t.jC,t.jD] t.aW aE1):=by
 refine N5 T.aA4 T.az1 ay3 (λvs H Q E h=>?_) λA outer s H vs Q E hr h=>?_
 ·obtain⟨x,dx,bX,ds,ns,xs,rfl,_,_,r,⟨p,rfl,_⟩,_⟩:=h
  have:=r.length
  simp at this
  simp[this]
 obtain⟨x,dx,bX,ds,ns,xs,rfl,tb,hx,r,⟨p,rfl,hp,rfl,rfl⟩,q⟩:=h
 obtain rfl:bX=[.int p]:=by
  cases r with
  | int r=>cases r;rfl
 have hm:(false,p)∈aK:=dz _ (Cg hp)
 have hF:=dE hm
 refine⟨_,je (CG (CD (CC (oF ((aw8 T).mono (by decide)) hr rfl T.cG9 T.PV.kp T.cH0 .nil aZ (eJ (pv 1) ij)))) (qR Lg) CF)
  (je (mP (pv 0) (pv 1) rfl)
  (qR (yW (NY (E:=E0) (i:=1) T.Qo ((Qs T).mono (by decide)) hr T.PU rfl T.uK rfl rfl rfl rfl (eJ (pv 0) (eJ (pv 1) (eJ (NR rfl rfl T.az2 hB) ij))))))),?_⟩
 refine⟨_,rfl,H,[.int p],λd=>d=.bl true,aa.refl _,.int .nil,⟨p,rfl,by rw[Zy p hp]⟩,λd v F' H1 A1 hd qj hf he h3 r nd fr=>?_⟩
 subst hd
 cases r
 refine⟨true,rfl,?_⟩
 refine kI ?_
 have eA:=qj.get _ _ hx
 refine⟨.int p,rfl,.ref x,rfl,x,t.aW,dx,_,rfl,eA,T.jG,T.qh,by decide,?_⟩
 generalize e2:upd H1 x (HO.ins t.aW dx (eI "prime" (.int p) []))=H2
 have gy:H2 x=some (.ins t.aW dx [(("prime":Str),.int p)]):=by rw[<-e2,bO];rfl
 have s2:cT x H H2:=by rw[<-e2];exact(qj.x (x:=x)).trans (cT.upd (C:=x) (dx:=dx) eA rfl)
 have n2:∀p,H2 p=none->H p=none:=λp h=>qj.free (xo eA (by rw[e2];exact h))
 obtain⟨ps,hP⟩:=tb t.jC (by simp)
 obtain⟨more,G5⟩:=s2.tb _ ps hP
 refine⟨.ref x,rfl,.int p,rfl,⟨_,G5⟩,λf k qn pm gX H3 nf G6 hk kf mi hl3=>?_⟩
 refine⟨f,_,_,.int p,G6,rfl,rfl,λoc u gD hu nc nC=>?_⟩
 obtain⟨tm,rfl⟩:∃tm,u=gA p tm:=hu
 have kg:=mi.get _ _ gy
 refine⟨x,dx,f,t.aW,"prime",p,p,_,oc,_,k,gm (false,p),fl (false,p),fst (false,p),rfl,xp kg (λz=>by rw[z,nf]at gy;cases gy) nc,by decide,⟨T.jG,T.uH,T.xV,T.uI,T.qg,T.xU,T.uJ⟩,Oc nC nc hk kf,?_,hF,λH' p1 p2 sx cQ tJ oI ne ya qi=>?_⟩
 ·refine N3 (n:=3) ⟨rfl,rfl,rfl,by decide,rfl,rfl,by decide,by decide,rfl⟩ gD (λu1 u2=>rfl) λq f A outer s H E hr=>?_
  refine⟨_,aE dh (ae (aE jv (bv 0) (bv 1))) (bv 2),λi j Qd h=>?_⟩
  obtain⟨a,b,rfl,rfl,ha,hb,hq⟩:=h
  walk_at"l3"
  have hp0:2<=p:=hF.lo
  refine⟨ji.ok (.inr ⟨by omega,by omega⟩),by omega,?_⟩
  have e:((gm (false,p) a b:Nat):Int)=(a:Int)*b%p:=by
   show((a*b%p:Nat):Int)=_
   rw[qE,ve]
  rw[<-e];exact hq
 ·have gf:H' f=some (.ext (iq _ oc _ f)):=sx.get f _ (λz=>by rw[z]at nf;rw[nf]at gy;cases gy) (by rw[aM nC.symm,bO]) rfl
  have gc:=sx.get _ _ (dH kg nc).symm bO rfl
  refine⟨gf,gc,?_⟩
  refine q _ (z0 p p p1 p2 (fst (false,p))) [p1,p2] (s2.trans (Ob mi nf nc sx)) ?_ rfl ?_ (by simp[ne]) (λa ha=>?_)
  ·rw[fR (λz=>by rw[z,gf]at cQ;cases cQ) (λz=>by rw[z,gc]at cQ;cases cQ)];exact cQ
  ·exact .int (.int (.int (.own (tJ.rem gf gc) rfl (jw _) (.own (oI.rem gf gc) rfl (jw _) (.int .nil)))))
  ·simp at ha
   rcases ha with rfl | rfl
   ·exact n2 _ (z8 mi ya)
   ·exact n2 _ (z8 mi qi)
noncomputable abbrev aD2:bD:=λds Q=>∃(l g:List Int),ds=[.lst false (nums l),.lst false (nums g)]/\1<=l.length/\l.length<=63/\g.length=l.length+1/\(∀x∈g,0<=x)/\Q (.lst true (nE l g))
theorem aD3(T:Txt K mg t):aO P w K mg base aY 1 t.Fs t.Ft ["powers","logs"] (bG (aD2 )):=by
 refine cw T.PX AI ?_ ?_
 ·intro ds Q h
  obtain⟨l,g,rfl,h1,h2,h3,h4,q⟩:=h<;>rfl
 ·intro aG A outer s H E hr
  refine⟨_,(aD (bb (i:=2) AI.nd rfl (bu rfl) (aE dD (ae (dZ (fP) (by rfl) T.fY fI (aj (bv 0) aB))) (ae ax)))
   (aD (bb (i:=3) AI.nd rfl (au rfl) (gQ (gP (aE jv (ae (gQ (gP ax fv))) (bv 2)) fv)))
   (aD (jW ia rfl (zA rfl T.iK (aj (ae ax) (aj (bv 2) aB))) (dM (i:=4) AI.nd rfl (bu rfl))
    (aL (pF (i:=3) rfl (by first | exact au rfl | exact bu (au rfl)) (aE dD (ae (gQ (gP ax fv))) (ae (fg [("powers",0),("many",2),("logs",1),("a",4)] ["b"] rfl (zA rfl T.iK (aj (ae ax) (aj (bv 2) aB))) (λ_ _ _ _=>(dM (i:=4) (show(["powers","many","logs","a","b"]:List Str).Nodup by decide +kernel) rfl (au (lookup_relabel_local rfl)) (by decide) (bu (lookup_relabel_local rfl)))) (λ_ _ _ _=>e8) (λ_ _ _ _=>(eK (bR (bv 0) (ae (aE dh (ae (aE dD (bR (bv 2) (bv 3) (λ_ _=>rfl)) (bR (bv 2) (bv 4) (λ_ _=>rfl)))) (ae (aE jt (bv 1) (ae ax))))) (λ_ _=>rfl)))) rfl ⟨rfl,⟨rfl,⟨rfl,⟨rfl,trivial⟩⟩⟩⟩ (λ_=>by repeat' (first | exact trivial | refine⟨.inl rfl,?_⟩ | refine⟨.inr (.inl rfl),?_⟩ | refine⟨.inr (.inr ⟨_,rfl⟩),?_⟩)) (λ_=>⟨⟨rfl,.inl rfl,.inl rfl,_,rfl,rfl⟩,⟨⟨rfl,.inl rfl,.inl rfl,_,rfl,rfl⟩,⟨⟨rfl,.inl rfl,.inl rfl,_,rfl,rfl⟩,⟨⟨rfl,.inl rfl,.inl rfl,_,rfl,rfl⟩,trivial⟩⟩⟩⟩) rfl (by decide +kernel)))))))
   (aL (bc (em 3)))))),λds Q h=>?_⟩
  obtain⟨l,g,rfl,h1,h2,h3,h4,q⟩:=h
  refine aC λU hU=>?_
  walk_at"l3"
  refine hU _ ?_
  clear hU U
  refine aC λU hU=>?_
  walk_at"l3"
  refine⟨by decide,⟨by omega,by omega,by omega⟩,by decide,hU _ ?_⟩
  clear hU U
  refine aC λU hU=>?_
  walk_at"l3"
  refine⟨1,(l.length:Int)+1,⟨rfl,rfl⟩,⟨by decide,by decide,by omega,by omega⟩,?_⟩
  have en:((l.length:Int)+1-1).toNat=l.length:=by omega
  rw[en]
  refine jr.mk (λi δ=>∃o,δ=[some (.lst false (nums l)),some (.lst false (nums g)),some (.int ((l.length:Int)+1)),some (.lst true (s9 l g (i+1))),o]) ⟨none,?_⟩ ?_ ?_
  ·rw[show((l.length:Int)+1).toNat=l.length+1 by omega];rfl
  ·rintro i d δ hd ⟨o,rfl⟩
   obtain⟨hi,rfl⟩:i<l.length/\d=.int (1+(i:Int)):=by
    rw[cY]at hd
    by_cases hi:i<l.length
    ·rw[mF hi]at hd
     exact⟨hi,(cW hd).symm⟩
    ·rw[i4 (by simpa using hi)]at hd;cases hd
   walk_at"l3"
   refine⟨⟨_,rfl⟩,by decide,1,(l.length:Int)+1,⟨rfl,rfl⟩,⟨by decide,by decide,by omega,by omega⟩,?_⟩
   rw[en]
   refine gx (aR l.length) (λ(k:Nat)=>D.int (1+(k:Int))) (λ(k:Nat)=>D.int (l.getD ((g.getD (i+1) 0+g.getD (k+1) 0)%(l.length:Int)).toNat 0)) (by rw[vV]) (λx y h=>by injection h with h;omega) (λk hk=>?_) (.inr λ_ _=>rfl) (by rw[dR,sL];omega) ?_
   ·have An:=dO.mp hk
    walk_at"l3"
    have e1:(1+(i:Int)).toNat=i+1:=by omega
    have e2:(1+(k:Int)).toNat=k+1:=by omega
    have e3:(l.length:Int)+1-1=l.length:=by omega
    have n0:=iM (g.getD (i+1) 0+g.getD (k+1) 0) (show(l.length:Int)≠0 by omega)
    have n1:=iN (g.getD (i+1) 0+g.getD (k+1) 0) (show(0:Int)<l.length by omega)
    refine⟨_,j6 (by omega) (by omega),_,j6 (by omega) (by omega),?_⟩
    rw[e1,e2,e3]
    exact⟨by omega,_,j6 n0 n1,rfl,rfl⟩
   ·walk_at"l3"
    refine⟨⟨by simp;omega,by rw[n9,dg];intro x _;rfl⟩,by simp[s9];omega,_,?_,rfl⟩
    unfold s9
    rw[List.range_succ (n:=i+1),mE]
    congr 1
    show _=[D.lst true (nums (nD l g (i+1)))]
    unfold nD
    rw[if_neg (by omega)]
    unfold nums
    rw[dF,dk];rfl
  ·rintro δ ⟨o,rfl⟩
   refine hU _ ?_
   simp only[rE,oZ,rF,rG,dT,kR,m4,m5,dC,mZ,oY,oX,oW,rC,rD,lh,sr,pB,sA,sC,rm,rn,rq,rz,rB,oU,pk,pq,ii,pd,rP,pf,rQ,rR,rS,rV,rW,rX,iI,fN,rY,rZ,r6,r9,ph,nh,sg,si,gN,sD,sq,rH,rK,rL,rM,rN,sE,sF,o7,js,eS,iu,gR,u3,qy,yH,yI,kS,jo,jq,pz,sM,sN,sO,wW,j7,sS,pO,sQ,iA,wZ,wX,wY,dF,mx,mH,nY,iY,yJ,bh,oh,oi,i5,i6,mI,exists_eq_left',exists_eq_left,D.bl.injEq,D.int.injEq,D.lst.injEq,D.fz.injEq,D.str.injEq,D.tup.injEq,yK,and_true,true_and,dG,qC,mG,n6,wg,wj,wk,wm,wo,wt,gM,jT,pH,wB,wC,wD,wF,wG,dX,kP,sG,wu,wz,wA,fK,oS,yL,yM,uW,oj,yN,yO,qw,wK,wL,wM,wN,wO,wQ,wR,ly,nj,pI,iU,pJ,wI,sJ,wH,sH,wJ,nk,sI,if_true,vd,if_false,reduceIte,wU,decide_eq_true_eq,iB,nu,sT,w5,nv,rJ,sX,pV,sR,pS,pU,s8,pX,tG,tH,tI,fV,xw,lM,xy,p8,bU,dR]
   exact q
noncomputable abbrev aD4(t:mT):nq:=λds Q Ex=>∃a b:Nat,ds=[.int a,.int b]/\bl a<=1000000/\bl b<=1000000/\(b=0->Ex t.fX)/\(b≠0->∀q r:Nat,a=cl q b ^^^ r->bl r<bl b->Q (.tup [.int q,.int r]))
theorem Qu(T:Txt K mg t):aO P w K mg base (kO P w) 1 t.Fu t.Fv ["a","b"] (wV (aD4 t )):=by
 refine Nr T.GS tU ?_ ?_
 ·intro ds Q Ex h
  obtain⟨a,b,rfl,ha,hb,qx,q⟩:=h<;>rfl
 ·intro aG A outer s H E hr
  refine⟨_,(aD (cM (cB (gr (cN hr)) (bv 1) (ae ax) (bW _)) (aL (Nw T.Qq rfl (by rfl) (aj (ae MQ) aB))) cL)
   (aD (bb (i:=2) tU.nd rfl (au rfl) ax)
   (aD (bb (i:=3) tU.nd rfl (au rfl) (em 0))
   (aD (Yv (zx ia (cB XU (ae (lu (bv 3))) (ae (lu (bv 1))) (bW _))
    (aD (bb (i:=4) tU.nd rfl (au rfl) (aE jt (ae (lu (bv 3))) (ae (lu (bv 1)))))
    (aD (zw (i:=2) tU.nd rfl (au rfl) (ae (aE rU (ae ax) (bv 4))) DP)
    (aL (zw (i:=3) tU.nd rfl (au rfl) (ae (aE rU (bv 1) (bv 4))) DP))))))
   (aL (bc (DJ (gP (em 2) (gP (em 3) fv))))))))),λds Q Ex h=>?_⟩
  obtain⟨a,b,rfl,ha,hb,qx,q⟩:=h
  refine aC λU hU=>?_
  walk_at"l3"
  split
  ·rename_i h0
   exact⟨by decide,qx (by omega)⟩
  ·rename_i h0
   have b0:b≠0:=by omega
   refine hU _ ?_
   clear hU U
   refine aC λU hU=>?_
   walk_at"l3"
   refine hU _ ?_
   clear hU U
   refine aC λU hU=>?_
   walk_at"l3"
   refine hU _ ?_
   clear hU U
   refine aC λU hU=>?_
   walk_at"l3"
   refine⟨λm δ=>∃(x r:Nat) (o sh:Option D),δ=[o,some (.int b),some (.int (x:Nat)),some (.int (r:Nat)),sh]/\a=cl x b ^^^ r/\bl r<=bl a/\m=bl r,
    ⟨bl a,0,a,_,none,rfl,by rw[mV,mC],aX _,rfl⟩,?_⟩
   rintro m δ ⟨x,r,o,sh,rfl,inv,hra,rfl⟩
   simp only[rE,oZ,rF,rG,dT,kR,m4,m5,dC,mZ,oY,oX,oW,rC,rD,lh,sr,pB,sA,sC,rm,rn,rq,rz,rB,oU,pk,pq,ii,pd,rP,pf,rQ,rR,rS,rV,rW,rX,iI,fN,rY,rZ,r6,r9,ph,nh,sg,si,gN,sD,sq,rH,rK,rL,rM,rN,sE,sF,o7,js,eS,iu,gR,u3,qy,yH,yI,kS,jo,jq,pz,sM,sN,sO,wW,j7,sS,pO,sQ,iA,wZ,wX,wY,dF,mx,mH,nY,iY,yJ,bh,oh,oi,i5,i6,mI,exists_eq_left',exists_eq_left,D.bl.injEq,D.int.injEq,D.lst.injEq,D.fz.injEq,D.str.injEq,D.tup.injEq,yK,and_true,true_and,dG,qC,mG,n6,wg,wj,wk,wm,wo,wt,gM,jT,pH,wB,wC,wD,wF,wG,dX,kP,sG,wu,wz,wA,fK,oS,yL,yM,uW,oj,yN,yO,qw,wK,wL,wM,wN,wO,wQ,wR,ly,nj,pI,iU,pJ,wI,sJ,wH,sH,wJ,nk,sI,if_true,vd,if_false,reduceIte,wU,decide_eq_true_eq,iB,nu,sT,w5,nv,rJ,sX,pV,sR,pS,pU,s8,pX,tG,tH,tI,fV,xw,lM,xy,p8,gB]
   split
   ·rename_i hc
    have hle:bl b<=bl r:=by omega
    have Dk:=Mm b0 hle
    have es:(((bl r:Nat):Int)-((bl b:Nat):Int))=((bl r-bl b:Nat):Int):=by omega
    clear hU
    refine aC λU hU=>?_
    walk_at"l3"
    simp only[gB,es]
    refine hU _ ?_
    clear hU
    refine aC λU hU=>?_
    walk_at"l3"
    have o1:bl (1:Int).natAbs=1:=by decide
    refine⟨⟨by omega,by omega⟩,hU _ ?_⟩
    clear hU
    simp only[rE,oZ,rF,rG,dT,kR,m4,m5,dC,mZ,oY,oX,oW,rC,rD,lh,sr,pB,sA,sC,rm,rn,rq,rz,rB,oU,pk,pq,ii,pd,rP,pf,rQ,rR,rS,rV,rW,rX,iI,fN,rY,rZ,r6,r9,ph,nh,sg,si,gN,sD,sq,rH,rK,rL,rM,rN,sE,sF,o7,js,eS,iu,gR,u3,qy,yH,yI,kS,jo,jq,pz,sM,sN,sO,wW,j7,sS,pO,sQ,iA,wZ,wX,wY,dF,mx,mH,nY,iY,yJ,bh,oh,oi,i5,i6,mI,exists_eq_left',exists_eq_left,D.bl.injEq,D.int.injEq,D.lst.injEq,D.fz.injEq,D.str.injEq,D.tup.injEq,yK,and_true,true_and,dG,qC,mG,n6,wg,wj,wk,wm,wo,wt,gM,jT,pH,wB,wC,wD,wF,wG,dX,kP,sG,wu,wz,wA,fK,oS,yL,yM,uW,oj,yN,yO,qw,wK,wL,wM,wN,wO,wQ,wR,ly,nj,pI,iU,pJ,wI,sJ,wH,sH,wJ,nk,sI,if_true,vd,if_false,reduceIte,wU,decide_eq_true_eq,iB,nu,sT,w5,nv,rJ,sX,pV,sR,pS,pU,s8,pX,tG,tH,tI,fV,xw,lM,xy,p8,gB]
    refine⟨⟨by omega,by rw[gB];omega⟩,_,Dk,x ^^^ 2 ^ (bl r-bl b),r ^^^ b <<< (bl r-bl b),o,_,⟨rfl,?_,?_,rfl⟩,Wb inv,by omega,rfl⟩
    ·rw[show(1:Int)=((1:Nat):Int) from rfl,qZ,oK,Cu]
    ·rw[qZ,oK]
   ·rename_i hc
    refine hU _ ?_
    walk_at"l3"
    refine⟨by decide,q b0 x r inv (by omega)⟩
noncomputable abbrev aD5:bD:=λds Q=>∃a:Nat,ds=[.int a]/\bl a<=60/\Q (.bl (al a))
theorem aD6(T:Txt K mg t):aO P w K mg base aY 2 t.Fw t.Fx ["a"] (bG (aD5 )):=by
 refine cw T.P0 E7 ?_ ?_
 ·intro ds Q h
  obtain⟨a,rfl,ha,q⟩:=h<;>rfl
 ·intro aG A outer s H E hr
  refine⟨_,(aD (cM (cB se (bv 0) (ae ax) (bW _)) (aL (bc gO)) cL)
   (aD (bb (i:=1) E7.nd rfl (au rfl) (aE m9 (ae (aE jt (ae (lu (bv 0))) (ae ax))) (ae ax)))
   (aD (jW ia rfl (zA rfl T.iK (aj (ae ax) (aj (ae (aE rU (ae ax) (ae (aE dD (bv 1) (ae ax))))) aB))) (dM (i:=2) E7.nd rfl (au rfl))
    (aL (cM (cB (gr (cN hr)) (bR (ae (bA (D9 ((Qu T).mono (by decide))) hr rfl T.PY T.GS.kp T.PZ D8 (aj (bv 0) (aj (bv 2) aB)))) (ae ax) (λ_ _=>rfl)) (ae ax) (bW _)) (aL (bc gO)) cL)))
   (aL (bc gO))))),λds Q h=>?_⟩
  obtain⟨a,rfl,ha,q⟩:=h
  refine aC λU hU=>?_
  walk_at"l3"
  split
  ·rename_i h2
   rw[Wn (by omega)]at q;exact q
  ·rename_i h2
   have h2:2<=a:=by omega
   have hp:=fH (show a≠0 by omega)
   refine hU _ ?_
   clear hU U
   refine aC λU hU=>?_
   walk_at"l3"
   simp only[gB]
   refine⟨m8 (by omega) (by omega),hU _ ?_⟩
   clear hU U
   have eh:((((bl a:Nat):Int)-1)/2+1)=(((bl a-1)/2+1:Nat):Int):=by omega
   have e1:(1:Int)*2 ^ ((((bl a:Nat):Int)-1)/2+1).toNat=((2 ^ ((bl a-1)/2+1):Nat):Int):=by
    rw[eh,show(1:Int)=((1:Nat):Int) from rfl,qZ,Cu]
   have big:2 ^ ((bl a-1)/2+1)<=2 ^ 40:=yq (by decide) (by omega)
   have o1:bl (1:Int).natAbs=1:=by decide
   refine aC λU hU=>?_
   walk_at"l3"
   rw[e1]
   have dF0:((2 ^ ((bl a-1)/2+1):Nat):Int)<=2 ^ 40:=by exact_mod_cast big
   have nn:(0:Int)<=((2 ^ ((bl a-1)/2+1):Nat):Int):=Ku _
   refine⟨⟨by omega,by omega⟩,_,_,⟨rfl,rfl⟩,⟨by decide,by decide,by omega,by omega⟩,?_⟩
   have en:(((2 ^ ((bl a-1)/2+1):Nat):Int)-2).toNat=2 ^ ((bl a-1)/2+1)-2:=by omega
   rw[en]
   refine jr.mk (λi δ=>(∃o1 o2,δ=[some (.int a),o1,o2])/\∀j,j<i->md a (2+j)≠0) ⟨⟨_,_,rfl⟩,λj hj=>absurd hj (by omega)⟩ ?_ ?_
   ·rintro i d δ hd ⟨⟨o1,o2,rfl⟩,inv⟩
    obtain⟨hi,rfl⟩:i<2 ^ ((bl a-1)/2+1)-2/\d=.int (2+(i:Int)):=by
     rw[cY]at hd
     by_cases hi:i<2 ^ ((bl a-1)/2+1)-2
     ·rw[mF hi]at hd
      exact⟨hi,(cW hd).symm⟩
     ·rw[i4 (by simpa using hi)]at hd;cases hd
    have bi:bl (2+i)<=60:=by
     have:=(Wr h2 (show 2+i<2 ^ ((bl a-1)/2+1) by omega)).2
     omega
    walk_at"l3"
    refine⟨a,2+i,by rw[show((2+i:Nat):Int)=2+(i:Int) by omega],by omega,by omega,by omega,λ_ x r e l=>?_⟩
    have em:md a (2+i)=r:=vK e l
    refine⟨.int r,rfl,rfl,?_⟩
    rw[nk]
    split
    ·rename_i hz
     have r0:r=0:=by have:=of_decide_eq_true hz;omega
     rw[Wq hi (em.trans r0)]at q
     exact q
    ·rename_i hz
     refine⟨⟨_,_,rfl,rfl⟩,λj hj=>?_⟩
     by_cases ej:j=i
     ·rw[ej,em]
      intro r0
      exact hz (decide_eq_true (by omega))
     ·exact inv j (by omega)
   ·rintro δ ⟨⟨o1,o2,rfl⟩,inv⟩
    rw[bU,dR]at inv
    rw[Wo h2 inv]at q
    refine hU _ ?_
    walk_at"l3"
    exact q
noncomputable abbrev az5:bD:=λds Q=>∃a:Int,ds=[.int a]/\Q (.bl (decide (4<=a)&&decide (a<=127)&&al a.toNat))
theorem az6(T:Txt K mg t):aO P w K mg base aY 3 t.Fy t.Fz ["bits"] (bG (az5 )):=by
 refine cw T.P1 ay4 ?_ ?_
 ·intro ds Q h
  obtain⟨a,rfl,q⟩:=h<;>rfl
 ·intro aG A outer s H E hr
  refine⟨_,(aL (bc (rA (ae (DT vZ vZ (ae ax) (bv 0) (ae ax))) (qQ (bA ((aD6 T).mono (by decide)) hr rfl T.cH5 T.P0.kp T.cH6 aZ (aj (bv 0) aB)))))),λds Q h=>?_⟩
  obtain⟨a,rfl,q⟩:=h
  walk_at"l3"
  split
  ·rename_i h1
   split
   ·rename_i h2
    refine⟨a.toNat,by rw[yz (by omega)],?_,?_⟩
    ·have:bl a.toNat<=bl 127:=Dm (by omega)
     exact dP this (by decide)
    ·have e:(decide (4<=a)&&decide (a<=127)&&al a.toNat)=al a.toNat:=by simp[h1,h2]
     rw[e]at q;exact q
   ·rename_i h2
    have e:(decide (4<=a)&&decide (a<=127)&&al a.toNat)=false:=by simp[h2]
    rw[e]at q;exact q
  ·rename_i h1
   have e:(decide (4<=a)&&decide (a<=127)&&al a.toNat)=false:=by simp[h1]
   rw[e]at q;exact q
noncomputable abbrev aF5:bD:=λds Q=>∃a b:Nat,ds=[.int a,.int b]/\bl a<=1000/\bl b<=1000/\Q (.int (cl a b:Nat))
theorem aF6(T:Txt K mg t):aO P w K mg base aY 1 t.FA t.FC ["a","b"] (bG (aF5 )):=by
 refine cw T.P2 AJ ?_ ?_
 ·intro ds Q h
  obtain⟨a,b,rfl,ha,hb,q⟩:=h<;>rfl
 ·intro aG A outer s H E hr
  refine⟨_,(aD (bb (i:=2) AJ.nd rfl (au rfl) ax)
   (aD (jW ia rfl (kU rfl T.iK (aj (ae (lu (bv 1))) aB)) (dM (i:=3) AJ.nd rfl (au rfl))
    (aL (cM (cB (gr (cN hr)) (ae (aE M4 (ae (aE M3 (bv 1) (bv 3))) (ae ax))) (ae ax) (bW _)) (aL (zw (i:=2) AJ.nd rfl (au rfl) (ae (aE rU (bv 0) (bv 3))) DP)) cL)))
   (aL (bc (em 2))))),λds Q h=>?_⟩
  obtain⟨a,b,rfl,ha,hb,q⟩:=h
  refine aC λU hU=>?_
  walk_at"l3"
  refine hU _ ?_
  clear hU U
  refine aC λU hU=>?_
  walk_at"l3"
  simp only[gB]
  refine⟨⟨by omega,by omega⟩,zJ (λi δ=>∃o,δ=[some (.int a),some (.int b),some (.int (Mf.P a b i:Nat)),o]) ⟨none,rfl⟩ ?_ ?_⟩
  ·rintro i δ hi ⟨o,rfl⟩
   walk_at"l3"
   refine⟨by omega,?_⟩
   have A8:(mq ((b:Int)/2 ^ ((i:Int)).toNat) 1=1)↔b.testBit i=true:=by
    have h:=Wz b i
    rw[KO]at h
    rw[<-h,dI]
   split
   ·rename_i hc
    have h:=WA (a:=a) (A8.mp hc)
    rw[KO]at h
    exact⟨⟨by omega,by rw[gB];omega⟩,_,h,rfl⟩
   ·rename_i hc
    exact⟨_,by rw[WB (λz=>hc (A8.mpr z))],rfl⟩
  ·rintro δ ⟨o,rfl⟩
   refine hU _ ?_
   walk_at"l3"
   exact q
noncomputable abbrev aH8:List D->List Str->List D->Prop:=λds ns xs=>∃p:Nat,ds=[.int p]/\p∈fS/\ns=fU "bits"++[("products":Str)]/\xs=[.int p,.int (ag (true,p)),.int ((bl (ag (true,p)):Nat)-1),.lst true (nums (fl (true,p))),.lst true (nums (di (fl (true,p)))),.int (fst (true,p)),.lst true (nE (fl (true,p)) (di (fl (true,p))))]
theorem aB8(T:Txt K mg t)(hB:Bm mg base):aO P w K mg base aY 8 t.FD t.AM ["self","bits"] (Et [t.jC,t.jD] t.aS aH8):=by
 refine N5 T.aC5 T.aB6 Pz (λvs H Q E h=>?_) λA outer s H vs Q E hr h=>?_
 ·obtain⟨x,dx,bX,ds,ns,xs,rfl,_,_,r,⟨p,rfl,_⟩,_⟩:=h
  have:=r.length
  simp at this
  simp[this]
 obtain⟨x,dx,bX,ds,ns,xs,rfl,tb,hx,r,⟨p,rfl,hp,rfl,rfl⟩,q⟩:=h
 obtain rfl:bX=[.int p]:=by
  cases r with
  | int r=>cases r;rfl
 have hm:(true,p)∈aK:=eU _ (Cg hp)
 have hF:=dE hm
 refine⟨_,je (CG (CD (CC (oF ((az6 T).mono (by decide)) hr rfl T.cH7 T.P1.kp T.cH8 .nil aZ (eJ (pv 1) ij)))) (qR Lg) CF)
  (je (mP (pv 0) (pv 1) rfl)
  (je (Ll (i:=2) Pz.nd rfl (au rfl) (vy Mw qP (vy CS (Dn (pv 1)) qP)))
  (je (yW (NY (E:=E0) (i:=1) T.Qo ((Qs T).mono (by decide)) hr T.PU rfl T.uK rfl rfl rfl rfl (eJ (pv 0) (eJ (pv 2) (eJ (NR rfl rfl T.aB7 hB) ij)))))
  (qR (mP (pv 0) (oF ((aD3 T).mono (by decide)) hr rfl T.cH3 T.PX.kp T.cH4 .nil aZ (eJ (y9 (pv 0) rfl) (eJ (y9 (pv 0) rfl) ij))) rfl))))),?_⟩
 refine⟨_,rfl,H,[.int p],λd=>d=.bl true,aa.refl _,.int .nil,⟨p,rfl,by rw[Zz p hp]⟩,λd v F' H1 A1 hd qj hf he h3 r nd fr=>?_⟩
 subst hd
 cases r
 refine⟨true,rfl,?_⟩
 refine kI ?_
 have eA:=qj.get _ _ hx
 refine⟨.int p,rfl,.ref x,rfl,x,t.aS,dx,_,rfl,eA,T.gZ,T.xN,by decide,?_⟩
 generalize e2:upd H1 x (HO.ins t.aS dx (eI "bits" (.int p) []))=H2
 have gy:H2 x=some (.ins t.aS dx [(("bits":Str),.int p)]):=by rw[<-e2,bO];rfl
 have s2:cT x H H2:=by rw[<-e2];exact(qj.x (x:=x)).trans (cT.upd (C:=x) (dx:=dx) eA rfl)
 have n2:∀p,H2 p=none->H p=none:=λp h=>qj.free (xo eA (by rw[e2];exact h))
 obtain⟨ps,hP⟩:=tb t.jD (by simp)
 obtain⟨more,G5⟩:=s2.tb _ ps hP
 have bp:bl p<=7:=Og p hp
 have A9:1<=bl p:=Oh p hp
 refine⟨.int p,rfl,rfl,p,rfl,rfl,_,_,rfl,rfl,_,_,rfl,rfl,?_,?_⟩
 ·have o1:bl (1:Int).natAbs=1:=by decide
  rw[gB]
  exact⟨by omega,by omega⟩
 have em:(1:Int)*2 ^ (((bl ((p:Int)).natAbs:Nat):Int)-1).toNat=((ag (true,p):Nat):Int):=by
  rw[gB,show(((bl p:Nat):Int)-1)=((bl p-1:Nat):Int) by omega,show(1:Int)=((1:Nat):Int) from rfl,qZ,Cu];rfl
 show yY 2 (.int ((1:Int)*2 ^ (((bl ((p:Int)).natAbs:Nat):Int)-1).toNat)) _ _ _
 rw[em]
 refine⟨.ref x,rfl,.int (ag (true,p)),rfl,⟨_,G5⟩,λf k qn pm gX H3 nf G6 hk kf mi hl3=>?_⟩
 refine⟨f,_,_,.int p,G6,rfl,rfl,λoc u gD hu nc nC=>?_⟩
 obtain⟨tm,rfl⟩:∃tm,u=gA p tm:=hu
 have kg:=mi.get _ _ gy
 refine⟨x,dx,f,t.aS,"bits",p,ag (true,p),_,oc,_,k,gm (true,p),fl (true,p),fst (true,p),rfl,xp kg (λz=>by rw[z,nf]at gy;cases gy) nc,by decide,⟨T.gZ,T.uF,T.xP,T.qe,T.nO,T.xO,T.uG⟩,Oc nC nc hk kf,?_,hF,λH' p1 p2 sx cQ tJ oI ne ya qi=>?_⟩
 ·refine N3 (n:=3) ⟨rfl,rfl,rfl,by decide,rfl,rfl,by decide,by decide,rfl⟩ gD (λu1 u2=>rfl) λq f A outer s H E hr=>?_
  refine⟨_,eK (bR (ae (bA (D9 ((Qu T).mono (by decide))) hr rfl T.PY T.GS.kp T.PZ D8 (aj (ae (bA ((aF6 T).mono (by decide)) hr rfl T.cH9 T.P2.kp T.cI0 aZ (aj (bv 0) (aj (bv 1) aB)))) (aj (bv 2) aB)))) (ae ax) (λ_ _=>rfl)),λi j Qd h=>?_⟩
  obtain⟨a,b,rfl,rfl,ha,hb,hq⟩:=h
  walk_at"l3"
  have b1:bl a<=6:=by
   have:bl a<=bl 63:=Dm (by omega)
   exact dP this (by decide)
  have b2:bl b<=6:=by
   have:bl b<=bl 63:=Dm (by omega)
   exact dP this (by decide)
  have p0:p≠0:=by
   intro z
   rw[z]at A9
   exact absurd A9 (by decide)
  refine⟨a,b,rfl,by omega,by omega,cl a b,p,rfl,dP (ZA a b) (by omega),by omega,λz=>p0 z,λ_ x r e l=>⟨by simp[D.pl],.int r,rfl,rfl,r,rfl,?_⟩⟩
  have er:gm (true,p) a b=r:=vK e l
  rw[<-er];exact hq
 ·have gf:H' f=some (.ext (iq _ oc _ f)):=sx.get f _ (λz=>by rw[z]at nf;rw[nf]at gy;cases gy) (by rw[aM nC.symm,bO]) rfl
  have gc:=sx.get _ _ (dH kg nc).symm bO rfl
  refine⟨gf,gc,?_⟩
  have s4:=s2.trans (Ob mi nf nc sx)
  have f1:=n2 _ (z8 mi ya)
  have f2:=n2 _ (z8 mi qi)
  have l1:=tJ.rem gf gc
  have l2:=oI.rem gf gc
  have nQ:rem H' f (s.heap.objs.size+1) x=some (.ins t.aS dx ((fU "bits").zip (z0 p (ag (true,p)) p1 p2 (fst (true,p))))):=by
   rw[fR (λz=>by rw[z,gf]at cQ;cases cQ) (λz=>by rw[z,gc]at cQ;cases cQ)];exact cQ
  generalize rem H' f (s.heap.objs.size+1)=H4 at s4 l1 l2 nQ
  refine⟨.ref x,rfl,x,t.aS,dx,_,.ref p1,rfl,nQ,T.gZ,T.qe,rfl,.ref x,rfl,x,t.aS,dx,_,.ref p2,rfl,nQ,T.gZ,T.nO,rfl,H4,[.lst false (nums (fl (true,p))),.lst false (nums (di (fl (true,p))))],λd=>d=.lst true (nE (fl (true,p)) (di (fl (true,p)))),aa.refl _,.shr l1 (jw _) (.shr l2 (jw _) .nil),
   ⟨_,_,rfl,by have:=hF.len;have:=hF.lo;omega,by have:=hF.len;have:=hF.hi;omega,xm _ _,Of _ _,rfl⟩,λd v F' H5 A' hd nR hf he h3 r nd fr=>?_⟩
  subst hd
  obtain⟨p3,rfl⟩:∃p3,v=.ref p3:=by cases r;exact⟨_,rfl⟩
  have kh:=nR.get _ _ nQ
  have nA:∀{a ws},H4 a=some (.lst ws)->a ∉ A':=λ{a ws} e z=>by rw[fr a z]at e;cases e
  refine⟨.ref x,rfl,x,t.aS,dx,_,rfl,kh,T.gZ,T.qf,kr (aX 6) (by decide),?_⟩
  refine q _ (z0 p (ag (true,p)) p1 p2 (fst (true,p))++[.ref p3]) (p1::p2::A') ((s4.trans (nR.x (x:=x))).trans (cT.upd (C:=x) (dx:=dx) kh rfl)) (by rw[bO];rfl) rfl ?_ ?_ ?_
  ·exact .int (.int (.int (.own ((l1.same nR).upd kh (λws z=>by cases z)) rfl (jw _) (.own ((l2.same nR).upd kh (λws z=>by cases z)) rfl (jw _) (.int ((r.DC (by simp[fK,Oe]) (aa.of λb o e=>by cases e)).xn kh (by simp[fK,Oe])))))))
  ·exact fZ.mpr ⟨by simp[ne];exact nA l1,fZ.mpr ⟨nA l2,nd⟩⟩
  ·intro a ha
   rcases bJ.mp ha with rfl | ha
   ·exact f1
   ·rcases bJ.mp ha with rfl | ha
    ·exact f2
    ·exact s4.free (by rw[nQ];simp) (fr a ha)
noncomputable abbrev aF7(cb cp:Addr):bD:=λds Q=>∃m:Bool × Nat,ds=[cF m]/\m∈aK/\Q (fD cb cp m)
theorem aF8(T:Txt K mg t)(hB:Bm mg base):aO P w K mg base aY 10 t.FE t.FF ["_law_told_here"] (w9 [t.jC,t.jD] (bG (aF7 t.aS t.aW))):=by
 refine N4 T.P4 aE7 ?_ ?_
 ·intro ds Q h
  obtain⟨m,rfl,hm,q⟩:=h<;>rfl
 ·intro aG A outer s H E hT hr
  refine⟨_,(aD (cM (jV (bR (bv 0) (ae ax) (λ_ _=>rfl))) (aL (bc (N7 hT T.xM ((aB8 T hB).mono (by decide)) hr rfl T.x6 T.aC6 aZ (aj (bR (bv 0) (ae ax) (λ_ _=>rfl)) aB)))) cL)
   (aL (bc (N7 hT T.xT ((az4 T hB).mono (by decide)) hr rfl T.x9 T.aA5 aZ (aj (bR (bv 0) (ae ax) (λ_ _=>rfl)) aB))))),λds Q h=>?_⟩
  obtain⟨m,rfl,hm,q⟩:=h
  unfold cF at *
  refine aC λU hU=>?_
  walk_at"l3"
  obtain⟨b,n⟩:=m
  cases b with
  | true =>
   refine⟨_,rfl,true,rfl,?_⟩
   rw[if_pos rfl]
   refine⟨_,rfl,_,_,⟨n,rfl,Ac hm,rfl,rfl⟩,?_⟩
   rw[ZH];exact q
  | false =>
   refine⟨_,rfl,false,rfl,?_⟩
   rw[if_neg (by decide)]
   refine hU _ ?_
   walk_at"l3"
   refine⟨_,rfl,_,_,⟨n,rfl,ZJ hm,rfl,rfl⟩,?_⟩
   rw[ZI];exact q
noncomputable def eD(ns:List Int)(k:Int):Int:=if k<ns.length then ns.getD k.toNat 0 else(k*k*48271+ns.length*7919)%65537
noncomputable abbrev aH9:bD:=λds Q=>∃(ns:List Int) (k:Int),ds=[.fz (nums ns),.int k]/\0<=k/\k<=1000000/\Q (.int (eD ns k))
theorem ki(T:Txt K mg t):aO P w K mg base aY 1 t.FG t.FH ["_law_script","_law_k"] (bG (aH9 )):=by
 refine cw T.jF aG4 ?_ ?_
 ·intro ds Q h
  obtain⟨ns,k,rfl,hk,hk2,q⟩:=h<;>rfl
 ·intro aG A outer s H E hr
  refine⟨_,(aD (cM (cB se (bv 1) (ae (dZ (fP) (by rfl) T.fY fI (aj (bv 0) aB))) (bW _)) (aL (bc (eK (bR (bv 0) (bv 1) (λ_ _=>rfl))))) cL)
   (aL (bc (aE dh (ae (aE dD (ae (aE jv (ae (aE jv (bv 1) (bv 1))) (ae ax))) (ae (aE jv (ae (dZ (fP) (by rfl) T.fY fI (aj (bv 0) aB))) (ae ax))))) (ae ax))))),λds Q h=>?_⟩
  obtain⟨ns,k,rfl,hk,hk2,q⟩:=h
  unfold eD at q
  refine aC λU hU=>?_
  walk_at"l3"
  split
  ·rename_i h
   rw[if_pos h]at q
   exact⟨_,j6 hk h,rfl,q⟩
  ·rename_i h
   rw[if_neg h]at q
   refine hU _ ?_
   walk_at"l3"
   exact⟨ji.ok (.inl ⟨by omega,by omega⟩),ji.ok (.inr ⟨by decide,by decide⟩),ji.ok (.inr ⟨by decide,by decide⟩),by decide,q⟩
noncomputable abbrev aI0:bD:=λds Q=>∃m:Bool × Nat,ds=[cF m]/\bl m.2<=1000/\1<=bl m.2/\Q (.int (ag m:Nat))
theorem Ba(T:Txt K mg t):aO P w K mg base aY 1 t.FI t.FJ ["_law_told_here"] (bG (aI0 )):=by
 refine cw T.xI aG5 ?_ ?_
 ·intro ds Q h
  obtain⟨m,rfl,h1,h2,q⟩:=h<;>rfl
 ·intro aG A outer s H E hr
  refine⟨_,(aD (cM (jV (bR (bv 0) (ae ax) (λ_ _=>rfl))) (aL (bc (aE rU (ae ax) (ae (aE jt (ae (lu (bR (bv 0) (ae ax) (λ_ _=>rfl)))) (ae ax)))))) cL)
   (aL (bc (eK (bR (bv 0) (ae ax) (λ_ _=>rfl)))))),λds Q h=>?_⟩
  obtain⟨m,rfl,h1,h2,q⟩:=h
  unfold cF at *
  refine aC λU hU=>?_
  walk_at"l3"
  obtain⟨b,n⟩:=m
  cases b with
  | true =>
   refine⟨_,rfl,true,rfl,?_⟩
   rw[if_pos rfl]
   refine⟨_,rfl,?_⟩
   have o1:bl (1:Int).natAbs=1:=by decide
   have e:(1:Int)*2 ^ (((bl ((n:Int)).natAbs:Nat):Int)-1).toNat=((ag (true,n):Nat):Int):=by
    have ik:1<=bl n:=h2
    rw[gB,show(((bl n:Nat):Int)-1)=((bl n-1:Nat):Int) by omega,show(1:Int)=((1:Nat):Int) from rfl,qZ,Cu];rfl
   refine⟨?_,by rw[e];exact q⟩
   rw[gB]
   have iQ:bl n<=1000:=h1
   have ik:1<=bl n:=h2
   exact⟨by omega,by omega⟩
  | false =>
   refine⟨_,rfl,false,rfl,?_⟩
   rw[if_neg (by decide)]
   refine hU _ ?_
   walk_at"l3"
   exact⟨_,rfl,rfl,q⟩
noncomputable def yb(hs:List Nat)(h:Nat)(n:Nat)(r:List Nat):Prop:=∀t,t<n->(t<h\/t∈hs)->cf r t=if t=h then 1 else 0
theorem uL{l:List Nat}{i:Nat}(h:i<l.length):l.getD i 0=l[i]:=by rw[aQ,aP h];rfl
theorem OE{α:Type}{l:List α}{x a:α}{j:Nat}(h:j<l.length+1):(l++[x]).getD j a=if j<l.length then l.getD j a else x:=by
 split
 ·rename_i h'
  rw[aQ,aQ,uX h']
 ·rw[show j=l.length by omega,aQ,qt (aX _),u5];rfl
theorem yb.snoc{hs:List Nat}{h n v:Nat}{r:List Nat}(a:yb hs h n r)(hl:r.length=n)(hv:(n<h\/n∈hs)->v=if n=h then 1 else 0):yb hs h (n+1) (r++[v]):=λt ht c=>by
 rw[Au,hl]
 split
 ·exact a t ‹_› c
 ·have e:t=n:=by omega
  subst e
  rw[u5]
  exact hv c
noncomputable abbrev aE2:bD:=λds Q=>∃(m:Bool × Nat) (ns:List Int) (b w:Nat) (hs:List Nat),ds=[cF m,.fz (nums ns),.int b,.int w,.lst false (aA hs)]/\m∈aK/\b<=1000/\w<=64/\hs.length<=64/\hs.Pairwise (· < ·)/\(∀h∈hs,h<w)/\∀A:List (List Nat),A.length=hs.length->RT (ag m) w A->RR w A (λi=>hs.getD i 0)->Q (.lst true (aN true A))
theorem aE3(T:Txt K mg t):aO P w K mg base aY 2 t.FK t.FL ["_law_told_here","_law_script","_law_begin","_law_wide","_law_heads"] (bG (aE2 )):=by
 refine cw T.P5 p9 ?_ ?_
 ·intro ds Q h
  obtain⟨m,ns,b,wi,hs,rfl,hm,hb,hw,hh,hp,dJ,q⟩:=h<;>rfl
 ·intro aG A outer s H E hr
  refine⟨_,(aD (bb (i:=5) p9.nd rfl (au rfl) (gQ fv))
   (aD (jW ia rfl (zL rfl T.AY (aj (bv 4) aB)) (pM (i1:=6) (i2:=7) rfl p9.nd rfl (au rfl) rfl (au rfl))
    (aD (bb (i:=8) p9.nd rfl (au rfl) (gQ fv))
    (aD (jW ia rfl (kU rfl T.iK (aj (bv 3) aB)) (dM (i:=9) p9.nd rfl (au rfl))
     (aD (bb (i:=10) p9.nd rfl (au rfl) (aE dh (ae (bA ((ki T).mono (by decide)) hr rfl T.kb T.jF.kp T.ke aZ (aj (bv 1) (aj (ae (aE dD (ae (aE dD (bv 2) (ae (aE jv (bv 6) (bv 3))))) (bv 9))) aB)))) (ae (bA ((Ba T).mono (by decide)) hr rfl T.AO T.xI.kp T.AQ aZ (aj (bv 0) aB)))))
     (aD (cM (PW.pt (m6 (cB se (bv 9) (bv 7) (bW _)) (mM (cB YM (bv 9) (bv 4) (by with_unfolding_all rfl))))) (aL (bb (i:=10) p9.nd rfl (au rfl) (Nc Z9 (by rfl) T.Qp Ms (aj (ae (vS (gr (cN hr)) (bv 9) (bv 7) (bW _))) aB)))) cL)
     (aL (pF (i:=8) rfl (by first | exact au rfl | exact bu (au rfl)) (em 10))))))
    (aL (pF (i:=5) rfl (by first | exact au rfl | exact bu (au rfl)) (em 8))))))
   (aL (bc (em 5))))),λds Q h=>?_⟩
  obtain⟨m,ns,b,wi,hs,rfl,hm,hb,hw,hh,hp,dJ,q⟩:=h
  have kG:=(dE hm).lo
  have Qv:=EC m hm
  have uM:∀z:Int,z%(ag m:Int)=(((z%(ag m:Int)).toNat:Nat):Int):=λz=>by
   have n0:=iM z (show(ag m:Int)≠0 by omega)
   omega
  have uN:∀z:Int,(z%(ag m:Int)).toNat<ag m:=λz=>by
   have n1:=iN z (show(0:Int)<(ag m:Int) by omega)
   omega
  refine aC λU hU=>?_
  walk_at"l3"
  refine⟨by decide,hU _ ?_⟩
  clear hU U
  refine aC λU hU=>?_
  walk_at"l3"
  refine jr.mk (λi δ=>∃(G:List (List Nat)) (o1 o2 o3 o4 o5:Option D),δ=[some (cF m),some (.fz (nums ns)),some (.int b),some (.int wi),some (.lst false (aA hs)),some (.lst true (aN true G)),o1,o2,o3,o4,o5]/\G.length=i/\RT (ag m) wi G/\∀j,j<i->yb hs (hs.getD j 0) wi (G.getD j [])) ⟨[],_,_,_,_,_,rfl,rfl,(λ_ h=>nomatch h),(λ_ h=>absurd h (by omega))⟩ ?_ ?_
  ·rintro i d δ hd ⟨G,o1,o2,o3,o4,o5,rfl,hG,hR,hA⟩
   obtain⟨hi,rfl⟩:=Z8 hd
   simp only[iA,i6,i5]
   clear hU
   have iw:i*wi<=64*64:=Nat.mul_le_mul (by omega) hw
   have eiw:(i:Int)*(wi:Int)=((i*wi:Nat):Int):=by rw[ve]
   refine aC λU hU=>?_
   walk_at"l3"
   refine⟨by decide,hU _ ?_⟩
   clear hU
   refine aC λU hU=>?_
   walk_at"l3"
   refine⟨⟨by omega,by omega⟩,zJ (λk δ=>∃(r:List Nat) (o4 o5:Option D),δ=[some (cF m),some (.fz (nums ns)),some (.int b),some (.int wi),some (.lst false (aA hs)),some (.lst true (aN true G)),some (.int i),some (.int (hs[i]:Nat)),some (.lst true (aA r)),o4,o5]/\r.length=k/\AllLt (ag m) r/\yb hs hs[i] k r) ⟨[],_,_,rfl,rfl,(λ_ h=>nomatch h),(λ_ h=>absurd h (by omega))⟩ ?_ ?_⟩
   ·rintro k δ hk ⟨r,o4,o5,rfl,lX,jx,G7⟩
    simp only[gN,i6,i5]
    clear hU
    refine aC λU hU=>?_
    walk_at"l3"
    refine⟨ji.ok (.inl ⟨by omega,by omega⟩),ns,_,rfl,by omega,by omega,m,rfl,by omega,by omega,?_⟩
    dsimp only
    refine⟨by omega,hU _ ?_⟩
    clear hU
    rw[uM]
    have vl:=uN (eD ns (↑b + ↑i * ↑wi + ↑k))
    generalize (eD ns (↑b + ↑i * ↑wi + ↑k) % ↑(ag m)).toNat=v at vl ⊢
    refine aC λU hU=>?_
    walk_at"l3"
    have fin:∀v:Nat,v<ag m->((k<hs[i]\/k∈hs)->v=if k=hs[i]then 1 else 0)->U [some (cF m),some (D.fz (nums ns)),some (D.int ↑b),some (D.int ↑wi),some (D.lst false (aA hs)),some (D.lst true (aN true G)),some (D.int ↑i),some (D.int ↑hs[i]),some (D.lst true (aA r)),some (D.int ↑k),some (D.int v)]:=by
     clear vl v
     intro v vl hv
     refine hU _ ?_
     walk_at"l3"
     refine⟨⟨_,rfl⟩,by omega,r++[v],_,_,⟨nv r [v],rfl,rfl⟩,by rw[fh,lX];rfl,λx hx=>?_,G7.snoc lX hv⟩
     rcases bP.mp hx with h | h
     ·exact jx x h
     ·rw[eF]at h
      rw[h];exact vl
    have one:∀c:(k<hs[i]\/k∈hs),U [some (cF m),some (D.fz (nums ns)),some (D.int ↑b),some (D.int ↑wi),some (D.lst false (aA hs)),some (D.lst true (aN true G)),some (D.int ↑i),some (D.int ↑hs[i]),some (D.lst true (aA r)),some (D.int ↑k),some (D.int (if(k:Int)=(hs[i]:Nat)then 1 else 0))]:=λc=>by
     have f:=fin (if k=hs[i]then 1 else 0) (by split<;>omega) λ_=>rfl
     by_cases e:k=hs[i]
     ·rw[if_pos e]at f
      rw[if_pos (by omega)];exact f
     ·rw[if_neg e]at f
      rw[if_neg (by omega)];exact f
    split
    ·exact one (.inl (by omega))
    ·refine⟨_,rfl,?_⟩
     split
     ·rename_i h
      exact one (.inr (by
       obtain⟨x,hx,e⟩:=cn.mp h
       rw[show k=x by omega];exact hx))
     ·rename_i h1 h2
      exact fin v vl λc=>by
       rcases c with c | c
       ·omega
       ·exact absurd (cn.mpr ⟨k,c,rfl⟩) h2
   ·rintro δ ⟨r,o4,o5,rfl,lX,jx,G7⟩
    refine hU _ ?_
    walk_at"l3"
    refine⟨⟨_,rfl⟩,by omega,G++[r],_,_,_,_,_,⟨xx true G [r],rfl,rfl,rfl,rfl,rfl⟩,by rw[fh,hG];rfl,hR.app λx hx=>?_,λj hj=>?_⟩
    ·rw[eF]at hx
     rw[hx];exact⟨lX,jx⟩
    ·rw[OE (by omega)]
     split
     ·exact hA j (by omega)
     ·rw[show j=i by omega,uL hi]
      exact G7
  ·rintro δ ⟨G,o1,o2,o3,o4,o5,rfl,hG,hR,hA⟩
   refine hU _ ?_
   walk_at"l3"
   rw[pK,iB]at hG hA
   refine q G hG hR ⟨λi j hi hj=>?_,λi hi t ht=>?_,λi j hi hj=>?_,λi hi=>dJ _ (dw (by omega) 0)⟩
   ·rw[hA i (by omega) _ (dJ _ (dw (by omega) 0)) (.inr (dw (by omega) 0))]
    rw[uL (show i<hs.length by omega),uL (show j<hs.length by omega)]
    have pw:=yE.mp hp
    rcases Cm i j with h | h | h
    ·have:=pw i j (by omega) (by omega) h
     rw[if_neg (by omega),if_neg (by omega)]
    ·subst h
     rw[if_pos rfl,if_pos rfl]
    ·have:=pw j i (by omega) (by omega) h
     rw[if_neg (by omega),if_neg (by omega)]
   ·have dF1:=dJ _ (dw (show i<hs.length by omega) 0)
    rw[hA i (by omega) t (by omega) (.inl ht),if_neg (by omega)]
   ·rw[uL (show i<hs.length by omega),uL (show j<hs.length by omega)]
    exact yE.mp hp i j (by omega) (by omega) hi
noncomputable abbrev aI1:bD:=λds Q=>∃(m:Bool × Nat) (a b:Nat),ds=[cF m,.int a,.int b]/\0<m.2/\Q (.int (gp m a b:Nat))
theorem aI2(T:Txt K mg t):aO P w K mg base aY 1 t.FN t.FP ["_law_told_here","_law_a","_law_b"] (bG (aI1 )):=by
 refine cw T.P6 aG6 ?_ ?_
 ·intro ds Q h
  obtain⟨m,a,b,rfl,h0,q⟩:=h<;>rfl
 ·intro aG A outer s H E hr
  refine⟨_,(aD (cM (jV (bR (bv 0) (ae ax) (λ_ _=>rfl))) (aL (bc (aE zD (bv 1) (bv 2)))) cL)
   (aL (bc (aE dh (ae (aE dD (bv 1) (bv 2))) (bR (bv 0) (ae ax) (λ_ _=>rfl)))))),λds Q h=>?_⟩
  obtain⟨m,a,b,rfl,h0,q⟩:=h
  unfold cF at *
  obtain⟨k,n⟩:=m
  refine aC λU hU=>?_
  walk_at"l3"
  cases k with
  | true =>
   refine⟨_,rfl,true,rfl,?_⟩
   rw[if_pos rfl,oK]
   exact q
  | false =>
   refine⟨_,rfl,false,rfl,?_⟩
   rw[if_neg (by decide)]
   refine hU _ ?_
   walk_at"l3"
   refine⟨_,rfl,?_⟩
   refine⟨by omega,?_⟩
   have e:((gp (false,n) a b:Nat):Int)=((a:Int)+b)%n:=by
    show(((a+b)%n:Nat):Int)=_
    rw[qE,Cf]
   rw[<-e];exact q
noncomputable abbrev aF9:bD:=λds Q=>∃(m:Bool × Nat) (a b:Nat),ds=[cF m,.int a,.int b]/\m∈aK/\a<ag m/\b<ag m/\Q (.int (gm m a b:Nat))
theorem aG0(T:Txt K mg t):aO P w K mg base aY 1 t.FQ t.FR ["_law_told_here","_law_a","_law_b"] (bG (aF9 )):=by
 refine cw T.P7 ub ?_ ?_
 ·intro ds Q h
  obtain⟨m,a,b,rfl,hm,ha,hb,q⟩:=h<;>rfl
 ·intro aG A outer s H E hr
  refine⟨_,(aD (cM (oV (jV (bR (bv 0) (ae ax) (λ_ _=>rfl)))) (aL (bc (aE dh (ae (aE jv (bv 1) (bv 2))) (bR (bv 0) (ae ax) (λ_ _=>rfl))))) cL)
   (aD (bb (i:=3) ub.nd rfl (au rfl) ax)
   (aD (zx ia (cB XT (bv 2) (ae ax) (bW _))
    (aD (cM (cB (gr (cN hr)) (ae (aE M4 (bv 2) (ae ax))) (ae ax) (bW _)) (aL (bb (i:=3) ub.nd rfl (au rfl) (aE zD (bv 3) (bv 1)))) cL)
    (aD (bb (i:=1) ub.nd rfl (au rfl) (aE rU (bv 1) (ae ax)))
    (aD (cM (cB (gr (cN hr)) (ae (lu (bv 1))) (ae (lu (bR (bv 0) (ae ax) (λ_ _=>rfl)))) (bW _)) (aL (bb (i:=1) ub.nd rfl (au rfl) (aE zD (bv 1) (bR (bv 0) (ae ax) (λ_ _=>rfl))))) cL)
    (aL (bb (i:=2) ub.nd rfl (au rfl) (aE M3 (bv 2) (ae ax))))))))
   (aL (bc (em 3)))))),λds Q h=>?_⟩
  obtain⟨m,a,b,rfl,hm,ha,hb,q⟩:=h
  unfold cF at *
  obtain⟨k,n⟩:=m
  refine aC λU hU=>?_
  walk_at"l3"
  have hF:=dE hm
  cases k with
  | false =>
   refine⟨_,rfl,false,rfl,?_⟩
   have uO:n<=64:=hF.hi
   have l2:2<=n:=hF.lo
   have D7:a<n:=ha
   have zW:b<n:=hb
   rw[if_pos (by decide)]
   refine⟨ji.ok (.inr ⟨by omega,by omega⟩),_,rfl,by omega,?_⟩
   have e:((gm (false,n) a b:Nat):Int)=(a:Int)*b%n:=by
    show((a*b%n:Nat):Int)=_
    rw[qE,ve]
   rw[<-e];exact q
  | true =>
   refine⟨_,rfl,true,rfl,?_⟩
   rw[if_neg (by decide)]
   have hp:=Ac hm
   have bp:=Og n hp
   have A9:=Oh n hp
   have p0:n≠0:=λz=>by rw[z,kJ]at A9;omega
   have DN:bl a<bl n:=by
    have:=dn.mpr (show a<2 ^ (bl n-1) from ha)
    omega
   have hy0:bl b<bl n:=by
    have:=dn.mpr (show b<2 ^ (bl n-1) from hb)
    omega
   refine hU _ ?_
   clear hU U
   refine aC λU hU=>?_
   walk_at"l3"
   refine hU _ ?_
   clear hU U
   refine aC λU hU=>?_
   walk_at"l3"
   refine⟨λm δ=>∃(x y z:Nat),δ=[some (.tup [.bl true,.int n]),some (.int (x:Nat)),some (.int (y:Nat)),some (.int (z:Nat))]/\z ^^^ md (cl x y) n=gm (true,n) a b/\bl x<bl n/\bl y<bl n/\m=bl y,
    ⟨bl b,a,b,0,rfl,by rw[mC];rfl,DN,hy0,rfl⟩,?_⟩
   rintro m δ ⟨x,y,z,rfl,inv,hx,hy,rfl⟩
   walk_at"l3"
   split
   ·rename_i G8
    have Qt:=fH (show y≠0 by omega)
    have Bb:bl (y/2)=bl y-1:=Wl y
    have e1:((x:Int)*2 ^ (1:Int).toNat)=((2*x:Nat):Int):=by
     show(x:Int)*(2:Int) ^ 1=_
     omega
    have e2:((y:Int)/2 ^ (1:Int).toNat)=((y/2:Nat):Int):=by
     show(y:Int)/(2:Int) ^ 1=_
     omega
    have a1:mq (y:Int) 1=((y%2:Nat):Int):=by
     rw[show(1:Int)=((1:Nat):Int) from rfl,Mo,Nat.and_one_is_mod]
    have tm:=ZN (y:=y) p0 hx
    have tb:=ZO p0 hx
    clear hU
    refine aC λU hU=>?_
    walk_at"l3"
    have fin:∀z':Nat,z'=z ^^^ (if y%2=1 then x else 0)->U [some (.tup [.bl true,.int n]),some (.int x),some (.int y),some (.int z')]:=by
     intro z' hz
     have cQ9:z' ^^^ md (cl (if bl (2*x)=bl n then 2*x ^^^ n else 2*x) (y/2)) n=gm (true,n) a b:=by
      rw[hz,n5,<- tm];exact inv
     refine hU _ ?_
     clear hU
     refine aC λU hU=>?_
     walk_at"l3"
     refine⟨⟨by decide,by simp only[gB];omega⟩,hU _ ?_⟩
     clear hU
     rw[e1]
     refine aC λU hU=>?_
     walk_at"l3"
     have last:∀x':Nat,x'=(if bl (2*x)=bl n then 2*x ^^^ n else 2*x)->U [some (.tup [.bl true,.int n]),some (.int (x':Nat)),some (.int y),some (.int z')]:=by
      intro x' cQ
      refine hU _ ?_
      walk_at"l3"
      exact⟨by decide,bl (y/2),by omega,x',y/2,z',⟨rfl,e2,rfl⟩,by rw[cQ];exact cQ9,by rw[cQ];exact tb,by omega,rfl⟩
     refine⟨_,rfl,?_⟩
     show(if(((bl (((2*x:Nat):Int)).natAbs:Nat):Int)=((bl ((n:Int)).natAbs:Nat):Int))then _ else _)
     rw[gB,gB]
     split
     ·rename_i hc
      refine⟨_,rfl,?_⟩
      have g:=last (2*x ^^^ n) (by rw[if_pos (by omega)])
      rw[<-oK]at g
      exact g
     ·rename_i hc
      exact last (2*x) (by rw[if_neg (by omega)])
    rw[a1]
    split
    ·rename_i A8
     have odd:y%2=1:=by omega
     have g:=fin (z ^^^ x) (by rw[if_pos odd])
     rw[<-oK]at g
     exact g
    ·rename_i A8
     exact fin z (by rw[if_neg (by omega),jK])
   ·rename_i G8
    have hy:y=0:=by omega
    subst hy
    rw[V5,xq (by rw[kJ];exact fH p0),jK]at inv
    subst inv
    refine hU _ ?_
    walk_at"l3"
    exact q
noncomputable abbrev aJ7:bD:=λds Q=>∃(m:Bool × Nat) (xs ys:List Nat),ds=[cF m,.lst false (aA xs),.lst false (aA ys)]/\m∈aK/\xs.length=ys.length/\xs.length<=64/\(∀x∈xs,x<ag m)/\(∀y∈ys,y<ag m)/\Q (.int (gd m xs ys:Nat))
theorem aJ8(T:Txt K mg t):aO P w K mg base aY 2 t.FT t.FU ["_law_told_here","_law_xs","_law_ys"] (bG (aJ7 )):=by
 refine cw T.P8 AK ?_ ?_
 ·intro ds Q h
  obtain⟨m,xs,ys,rfl,hm,hl,h64,hx,hy,q⟩:=h<;>rfl
 ·intro aG A outer s H E hr
  refine⟨_,(aD (bb (i:=3) AK.nd rfl (au rfl) ax)
   (aD (jW ia rfl (Ee rfl T.G0 (aj (bv 1) (aj (bv 2) aB))) (pM (i1:=4) (i2:=5) rfl AK.nd rfl (au rfl) rfl (au rfl))
    (aL (bb (i:=3) AK.nd rfl (au rfl) (bA ((aI2 T).mono (by decide)) hr rfl T.aJ1 T.P6.kp T.aJ2 aZ (aj (bv 0) (aj (bv 3) (aj (ae (bA ((aG0 T).mono (by decide)) hr rfl T.aH2 T.P7.kp T.aH3 aZ (aj (bv 0) (aj (bv 4) (aj (bv 5) aB))))) aB)))))))
   (aL (bc (em 3))))),λds Q h=>?_⟩
  obtain⟨m,xs,ys,rfl,hm,hl,h64,hx,hy,q⟩:=h
  refine aC λU hU=>?_
  walk_at"l3"
  refine hU _ ?_
  clear hU U
  refine aC λU hU=>?_
  walk_at"l3"
  refine⟨_,_,rfl,rfl,?_⟩
  refine jr.mk (λi δ=>∃o1 o2,δ=[some (cF m),some (.lst false (aA xs)),some (.lst false (aA ys)),some (.int (((fj (gm m) xs ys).take i).foldl (gp m) 0:Nat)),o1,o2]) ⟨none,none,rfl⟩ ?_ ?_
  ·rintro i d δ hd ⟨o1,o2,rfl⟩
   obtain⟨hi,hj,rfl⟩:∃(hi:i<xs.length) (hj:i<ys.length),d=.tup [.int (xs[i]:Nat),.int (ys[i]:Nat)]:=by
    unfold fc at hd
    rw[fQ,fQ,KP]at hd
    by_cases hi:i<xs.length
    ·have hj:i<ys.length:=by omega
     rw[Ck,aP hi,aP hj]at hd
     exact⟨hi,hj,(cW hd).symm⟩
    ·rw[i4 (by simp;omega)]at hd;cases hd
   have eA:=hx xs[i] (fi _)
   have G8:=hy ys[i] (fi _)
   walk_at"l3"
   have hF:=dE hm
   have t1:(cF m).sh=cF m:=rfl
   have t2:(cF m).pl=true:=rfl
   have m0:0<m.2:=dj m hm
   refine⟨m,xs[i],ys[i],rfl,hm,eA,G8,m,_,gm m xs[i] ys[i],rfl,m0,by simp[D.pl],_,_,?_,rfl,rfl⟩
   rw[List.take_succ,KW,Ck,aP hi,aP hj];rfl
  ·rintro δ ⟨o1,o2,rfl⟩
   refine hU _ ?_
   walk_at"l3"
   have e:(fc (aA xs) (aA ys)).length=xs.length:=by unfold fc;rw[yC,iB,iB];omega
   rw[e,KG (by rw[yC];omega)]
   exact q
noncomputable abbrev aE4:bD:=λds Q=>∃(m:Bool × Nat) (xs:List Nat) (T:List (List Nat)) (w:Nat),ds=[cF m,.lst false (aA xs),.lst false (aN false T),.int w]/\m∈aK/\AllLt (ag m) xs/\xs.length<=64/\T.length=xs.length/\w<=1000/\RT (ag m) w T/\Q (.lst true (aA (iW m xs T w)))
theorem aE5(T:Txt K mg t):aO P w K mg base aY 3 t.FV t.FW ["_law_told_here","_law_xs","_law_table","_law_wide"] (bG (aE4 )):=by
 refine cw T.P9 aD8 ?_ ?_
 ·intro ds Q h
  obtain⟨m,xs,G,wi,rfl,hm,hx,ju,hG,hw,hR,q⟩:=h<;>rfl
 ·intro aG A outer s H E hr
  refine⟨_,(aL (bc (fg [("_law_told_here",0),("_law_xs",1),("_law_table",2)] ["_law_k"] rfl (kU rfl T.iK (aj (bv 3) aB)) (λ_ _ _ _=>(dM (i:=3) (show(["_law_told_here","_law_xs","_law_table","_law_k"]:List Str).Nodup by decide +kernel) rfl (bu rfl) (by decide) (au rfl))) (λ_ _ _ _=>e8) (by exact λ_ _ _ _=>(bA ((aJ8 T).mono (by decide)) hr rfl T.aK4 T.P8.kp T.aK5 aZ (aj (bv 0) (aj (bv 1) (aj (ae (fg [("_law_k",3)] ["_law_row"] rfl (kT (bv 2)) (λ_ _ _ _=>(dM (i:=1) (show(["_law_k","_law_row"]:List Str).Nodup by decide +kernel) rfl (au (lookup_relabel_local rfl)) (by decide) (bu (lookup_relabel_local rfl)))) (λ_ _ _ _=>e8) (λ_ _ _ _=>(eK (bR (bv 1) (bv 0) (λ_ _=>rfl)))) rfl ⟨rfl,trivial⟩ (λ_=>by repeat' (first | exact trivial | refine⟨.inl rfl,?_⟩ | refine⟨.inr (.inl rfl),?_⟩ | refine⟨.inr (.inr ⟨_,rfl⟩),?_⟩)) (λ_=>⟨⟨rfl,.inl rfl,.inl rfl,_,rfl,rfl⟩,trivial⟩) rfl (by decide +kernel))) aB))))) rfl ⟨rfl,⟨rfl,⟨rfl,trivial⟩⟩⟩ (λ_=>by repeat' (first | exact trivial | refine⟨.inl rfl,?_⟩ | refine⟨.inr (.inl rfl),?_⟩ | refine⟨.inr (.inr ⟨_,rfl⟩),?_⟩)) (λ_=>⟨⟨rfl,.inl rfl,.inl rfl,_,rfl,rfl⟩,⟨⟨rfl,.inl rfl,.inl rfl,_,rfl,rfl⟩,⟨⟨rfl,.inl rfl,.inl rfl,_,rfl,rfl⟩,trivial⟩⟩⟩) rfl (by decide +kernel)))),λds Q h=>?_⟩
  obtain⟨m,xs,G,wi,rfl,hm,hx,ju,hG,hw,hR,q⟩:=h
  walk_at"l3"
  refine⟨⟨by omega,by omega⟩,gx (aR wi) (λ(i:Nat)=>D.int (i:Int)) (λk=>D.int ((gd m xs (G.map λr=>r.getD k 0):Nat):Int)) (Af _ rfl) nt (λk hk=>?_) (.inr λ_ _=>rfl) (by rw[dR,sL];omega) ?_⟩
  ·have hk:=dO.mp hk
   walk_at"l3"
   refine gx G (λr=>D.lst false (aA r)) (λr=>D.int ((r.getD k 0:Nat):Int)) (by rw[fV];rfl) (λa b h=>xu a b h) (λr cC=>?_) (.inr λr _=>rfl) (by rw[sL];omega) ?_
   ·walk_at"l3"
    have hl:=(hR r cC).1
    exact⟨.int (r.getD k 0:Nat),by rw[tE (by omega) (by omega),eE],rfl,rfl⟩
   ·refine⟨m,xs,G.map λr=>r.getD k 0,?_,hm,by rw[bU,hG],ju,hx,λy hy=>?_,?_⟩
    ·rw[fQ (G.map _),dk,dX,dk];rfl
    ·obtain⟨r,cC,rfl⟩:=cn.mp hy
     exact(hR r cC).2.getD (by have:=(dE hm).lo;omega) k
    ·exact⟨by rw[sG,oj],rfl⟩
  ·unfold iW at q
   rw[fQ,dk]at q
   exact q
theorem Qw{m:Bool × Nat}(hm:m∈aK){A:List (List Nat)}{c:Nat->Nat}(hc:∀i,c i<ag m):∀n,n<=A.length->bI m A (λk=>sm (gp m) n λi=>gm m (c i) (cf (A.getD i []) k))
 | 0,_=>.zero
 | n+1,h=>.add (Qw hm hc n (by omega)) (.mul (c n) (hc n) (bI.of (dw (by omega) [])))
theorem Qx{m:Bool × Nat}(hm:m∈aK){xs:List Nat}{A:List (List Nat)}{w:Nat}(h:xs.length=A.length)(hA:RT (ag m) w A)(k:Nat):cf (iW m xs A w) k=sm (gp m) A.length λi=>gm m (cf xs i) (cf (A.getD i []) k):=by
 by_cases hk:k<w
 ·exact cf5 m h hk
 ·rw[show cf (iW m xs A w) k=0 from lK (by rw[O3];omega),iD (rg hm) λj hj=>?_]
  rw[show cf (A.getD j []) k=0 from lK (by rw[(hA _ (dw hj [])).1];omega)]
  exact(rg hm).qz _
theorem b67(n k:Nat):cf (bh n 0) k=0:=by
 by_cases h:k<n
 ·unfold cf
  rw[aQ,ym,if_pos h];rfl
 ·exact lK (by rw[qv];omega)
theorem bD2(o:Bool)(T:List (List Nat)):(aN o T).reverse=aN o T.reverse:=by unfold aN;rw[List.map_reverse]
structure jH(m:Bool × Nat)(w i:Nat)(A T:List (List Nat)):Prop where
 l:T.length=i
 r:RT (ag m) w T
 s:∀x∈T,bI m A (cf x)
 t:∀j,j<i->j<A.length->∃r∈T,∃c:Nat->Nat,(∀j,c j<ag m)/\c j≠0/\∀k,cf r k=sm (gp m) (j+1) λj=>gm m (c j) (cf (A.getD j []) k)
theorem jH.of{m:Bool × Nat}{w i:Nat}{A T T':List (List Nat)}(h:jH m w i A T)(hl:T'.length=T.length)(h1:∀x,x∈T'↔x∈T):jH m w i A T' :=
 ⟨hl.trans h.l,λx hx=>h.r x ((h1 x).mp hx),λx hx=>h.s x ((h1 x).mp hx),λj a b=>let⟨r,hr,c⟩:=h.t j a b;⟨r,(h1 r).mpr hr,c⟩⟩
theorem jH.next{m:Bool × Nat}(hm:m∈aK){w i:Nat}{A T:List (List Nat)}(hA:RT (ag m) w A)(h:jH m w i A T){xs:List Nat}(hx:xs.length=A.length)(ha:AllLt (ag m) xs)(hi:i<A.length->cf xs i≠0/\∀j,i<j->cf xs j=0):jH m w (i+1) A (T++[iW m xs A w]):=by
 have lo:=lo1 hm
 have ca:∀j,cf xs j<ag m:=λj=>ha.getD (by omega) j
 refine⟨by rw[fh,h.l];rfl,h.r.app λx cQ=>?_,λx cQ=>?_,λj a b=>?_⟩
 ·rw[eF]at cQ
  rw[cQ]
  exact⟨O3 _ _ _ _,cf2 hm w hx⟩
 ·rcases bP.mp cQ with h1 | h1
  ·exact h.s x h1
  ·rw[eF]at h1
   rw[h1,show cf (iW m xs A w)=_ from funext (Qx hm hx hA)]
   exact Qw hm ca _ (aX _)
 ·by_cases e:j=i
  ·subst e
   obtain⟨c1,c2⟩:=hi b
   refine⟨_,dz _ (eF.mpr rfl),cf xs,ca,c1,λk=>?_⟩
   rw[Qx hm hx hA]
   refine OG (rg hm) (by omega) (λ_ _=>eT hm _ _) λz h1 _=>?_
   rw[c2 z (by omega)]
   exact(rg hm).zq _
  ·obtain⟨r,hr,c⟩:=h.t j (by omega) b
   exact⟨r,eU _ hr,c⟩
theorem jH.red{m:Bool × Nat}(hm:m∈aK){w i:Nat}{A T:List (List Nat)}{H:Nat->Nat}(hA:RT (ag m) w A)(I:RR w A H)(h:jH m w i A T)(h0:0<i)(hi:A.length<=i):dv T=w/\iH m T=A:=by
 have hw:dv T=w:=EX h.r λz=>by
  have:=h.l
  rw[z]at this;simp at this;omega
 refine⟨hw,?_⟩
 subst hw
 refine O8 hm h.r hA I h.s λx hx=>?_
 obtain⟨j,hj,rfl⟩:=hV hx
 have:=bL9 hm hA (T:=T) (λi a=>h.t i (by omega) a) (j+1) j (by omega) hj
 rw[aQ,aP hj]at this
 exact this
noncomputable abbrev aI3:bD:=λds Q=>∃(m:Bool × Nat) (ns:List Int) (A:List (List Nat)) (n w:Nat) (y:Int),ds=[cF m,.fz (nums ns),.lst false (aN false A),.int n,.int w,.int y]/\m∈aK/\A.length<=64/\RT (ag m) w A/\1<=n/\n<=64/\w<=64/\∀T:List (List Nat),jH m w n A T->Q (.lst true (aN false T))
theorem aI4(T:Txt K mg t):aO P w K mg base aY 4 t.FX t.FY ["_law_told_here","_law_script","_law_answer_here","_law_count","_law_wide","_law_turn"] (bG (aI3 )):=by
 refine cw T.Qa qa ?_ ?_
 ·intro ds Q h
  obtain⟨m,ns,A',n,wi,y,rfl,hm,hl,hR,G9,hn,hw,q⟩:=h<;>rfl
 ·intro aG A outer s H E hr
  refine⟨_,(aD (bb (i:=6) qa.nd rfl (au rfl) (gQ fv))
   (aD (jW ia rfl (kU rfl T.iK (aj (bv 3) aB)) (dM (i:=7) qa.nd rfl (au rfl))
    (aD (bb (i:=8) qa.nd rfl (bu rfl) (aE dD (ae ax) (ae (aE jv (ae (dZ (fP) (by rfl) T.fY fI (aj (bv 2) aB))) (ae (aE dD (bv 4) (bv 7)))))))
    (aD (b66 (i:=9) qa.nd rfl (au rfl) [("_law_script",1),("_law_told_here",0),("_law_begin",8)] ["_law_k"] rfl (kU rfl T.iK (aj (ae (dZ (fP) (by rfl) T.fY fI (aj (bv 2) aB))) aB)) (λ_ _ _ _=>(dM (i:=3) (show(["_law_script","_law_told_here","_law_begin","_law_k"]:List Str).Nodup by decide +kernel) rfl (au (lookup_relabel_local rfl)) (by decide) (bu (lookup_relabel_local rfl)))) (λ_ _ _ _=>e8) (λ_ _ _ _=>(aE dh (ae (bA ((ki T).mono (by decide)) hr rfl T.kb T.jF.kp T.ke aZ (aj (bv 0) (aj (ae (aE dD (bv 2) (bv 3))) aB)))) (ae (bA ((Ba T).mono (by decide)) hr rfl T.AO T.xI.kp T.AQ aZ (aj (bv 1) aB))))) rfl ⟨rfl,⟨rfl,⟨rfl,trivial⟩⟩⟩ (λ_=>by repeat' (first | exact trivial | refine⟨.inl rfl,?_⟩ | refine⟨.inr (.inl rfl),?_⟩ | refine⟨.inr (.inr ⟨_,rfl⟩),?_⟩)) (λ_=>⟨⟨rfl,.inl rfl,.inl rfl,_,rfl,rfl⟩,⟨⟨rfl,.inl rfl,.inl rfl,_,rfl,rfl⟩,⟨⟨rfl,.inl rfl,.inl rfl,_,rfl,rfl⟩,trivial⟩⟩⟩) rfl (by decide +kernel))
    (aD (cM (cB se (bv 7) (ae (dZ (fP) (by rfl) T.fY fI (aj (bv 2) aB))) (bW _)) (aL (bb (i:=9) qa.nd rfl (au rfl) (aE dD (ae (aE dD (ae (w4 (bv 9) wc (we (bv 7)))) (ae (gQ (gP (aE dD (ae ax) (ae (aE dh (bR (bv 9) (bv 7) (λ_ _=>rfl)) (ae (aE jt (ae (bA ((Ba T).mono (by decide)) hr rfl T.AO T.xI.kp T.AQ aZ (aj (bv 0) aB))) (ae ax)))))) fv))))) (ae (fg [] ["_law_k"] rfl (kU rfl T.iK (aj (ae (aE jt (ae (aE jt (ae (dZ (fP) (by rfl) T.fY fI (aj (bv 2) aB))) (bv 7))) (ae ax))) aB)) (λ_ _ _ _=>(dM (i:=0) (show(["_law_k"]:List Str).Nodup by decide +kernel) rfl (au (lookup_relabel_local rfl)) (by decide) (bu (lookup_relabel_local rfl)))) (λ_ _ _ _=>e8) (λ_ _ _ _=>ax) rfl trivial (λ_=>by repeat' (first | exact trivial | refine⟨.inl rfl,?_⟩ | refine⟨.inr (.inl rfl),?_⟩ | refine⟨.inr (.inr ⟨_,rfl⟩),?_⟩)) (λ_=>trivial) rfl (by decide +kernel)))))) cL)
    (aL (pF (i:=6) rfl (by first | exact au rfl | exact bu (au rfl)) (bA ((aE5 T).mono (by decide)) hr rfl T.aF2 T.P9.kp T.aF3 aZ (aj (bv 0) (aj (bv 9) (aj (bv 2) (aj (bv 4) aB)))))))))))
   (DK 6 (aD (bb (i:=6) qa.nd rfl (au rfl) (aE dD (ae (w4 (bv 6) (we (ae (aE dh (bv 5) (bv 3)))) wc)) (ae (w4 (bv 6) wc (we (ae (aE dh (bv 5) (bv 3))))))))
   (aD (cM (cB (gr (cN hr)) (ae (aE dh (ae (aE m9 (bv 5) (bv 3))) (ae ax))) (ae ax) (bW _)) (aL (bI5 (i:=6) rfl (by first | exact au rfl | exact bu (au rfl)))) cL)
   (aL (bc (em 6)))))))),λds Q h=>?_⟩
  obtain⟨m,ns,A',n,wi,y,rfl,hm,hl,hR,G9,hn,hw,q⟩:=h
  have kG:=(dE hm).lo
  have Qv:=EC m hm
  have uM:∀z:Int,z%(ag m:Int)=(((z%(ag m:Int)).toNat:Nat):Int):=λz=>by
   have n0:=iM z (show(ag m:Int)≠0 by omega)
   omega
  have uN:∀z:Int,(z%(ag m:Int)).toNat<ag m:=λz=>by
   have n1:=iN z (show(0:Int)<(ag m:Int) by omega)
   omega
  refine aC λU hU=>?_
  walk_at"l3"
  refine⟨by decide,hU _ ?_⟩
  clear hU U
  refine aC λU hU=>?_
  walk_at"l3"
  refine⟨⟨by omega,by omega⟩,zJ (λi δ=>∃(G:List (List Nat)) (o1 o2 o3:Option D),δ=[some (cF m),some (.fz (nums ns)),some (.lst false (aN false A')),some (.int n),some (.int wi),some (.int y),some (.lst true (aN true G)),o1,o2,o3]/\jH m wi i A' G) ⟨[],_,_,_,rfl,rfl,(λ_ h=>nomatch h),(λ_ h=>nomatch h),(λ_ h=>absurd h (by omega))⟩ ?_ ?_⟩
  ·rintro i δ hi ⟨G,o1,o2,o3,rfl,M⟩
   simp only[gN,i6,i5]
   clear hU
   have iw:A'.length*(wi+i)<=64*128:=Nat.mul_le_mul hl (by omega)
   have eiw:(A'.length:Int)*((wi:Int)+(i:Int))=((A'.length*(wi+i):Nat):Int):=by rw[ve,Cf]
   refine aC λU hU=>?_
   walk_at"l3"
   refine⟨ji.ok (.inl ⟨by omega,by omega⟩),hU _ ?_⟩
   clear hU
   refine aC λU hU=>?_
   walk_at"l3"
   refine⟨⟨by omega,by omega⟩,gx (aR A'.length) (λ(i:Nat)=>D.int (i:Int)) (λk=>D.int (((eD ns (9+(A'.length:Int)*((wi:Int)+(i:Int))+(k:Int))%(ag m:Int)).toNat:Nat):Int)) (Af _ rfl) nt (λk hk=>?_) (.inr λ_ _=>rfl) (by rw[dR,sL];omega) ?_⟩
   ·have hk:=dO.mp hk
    walk_at"l3"
    refine⟨ns,_,rfl,by omega,by omega,m,rfl,by omega,by omega,?_⟩
    dsimp only
    exact⟨by omega,uM _⟩
   obtain⟨xs,er,uP,ju⟩:∃wd:List Nat,((aR A'.length).map λ(k:Nat)=>D.int (((eD ns (9+(A'.length:Int)*((wi:Int)+(i:Int))+(k:Int))%(ag m:Int)).toNat:Nat):Int))=aA wd/\AllLt (ag m) wd/\wd.length=A'.length:=by
    refine⟨(aR A'.length).map λ(k:Nat)=>(eD ns (9+(A'.length:Int)*((wi:Int)+(i:Int))+(k:Int))%(ag m:Int)).toNat,by rw[fQ,dk];rfl,λa ha=>?_,by simp⟩
    obtain⟨k,_,rfl⟩:=cn.mp ha
    exact uN _
   rw[er]
   clear er
   refine hU _ ?_
   clear hU
   generalize 9+(A'.length:Int)*((wi:Int)+(i:Int))=bg
   refine aC λU hU=>?_
   walk_at"l3"
   have fin:∀xs:List Nat,AllLt (ag m) xs->xs.length=A'.length->(i<A'.length->cf xs i≠0/\∀j,i<j->cf xs j=0)->U [some (cF m),some (D.fz (nums ns)),some (D.lst false (aN false A')),some (D.int ↑n),some (D.int ↑wi),some (D.int y),some (D.lst true (aN true G)),some (D.int ↑i),some (D.int bg),some (D.lst true (aA xs))]:=by
    clear uP ju xs
    intro xs uP ju hxi
    refine hU _ ?_
    walk_at"l3"
    have ml:=M.l
    exact⟨⟨_,rfl⟩,m,xs,A',wi,rfl,hm,uP,by omega,ju.symm,by omega,hR,pW _,by omega,G++[iW m xs A' wi],_,_,_,⟨xx true G [_],rfl,rfl,rfl⟩,M.next hm hR ju uP hxi⟩
   split
   ·rename_i hiA
    have dF2:i<A'.length:=by omega
    refine⟨.int (xs.getD i 0:Nat),by rw[tE (by omega) (by omega),eE],m,rfl,by omega,by omega,?_⟩
    dsimp only
    rw[Ef]
    obtain⟨v,ev,hv1,DX⟩:∃v:Nat,1+(xs.getD i 0:Nat)%((ag m:Int)-1)=v/\v≠0/\v<ag m:=by
     have n0:=iM ((xs.getD i 0:Nat):Int) (show((ag m:Int)-1)≠0 by omega)
     have n1:=iN ((xs.getD i 0:Nat):Int) (show(0:Int)<((ag m:Int)-1) by omega)
     exact⟨(1+((xs.getD i 0:Nat):Int)%((ag m:Int)-1)).toNat,by omega,by omega,by omega⟩
    rw[ev]
    have lt:(xs.take i).length=i:=by rw[mw];omega
    refine⟨by omega,by decide,by omega,⟨by omega,by omega⟩,OA (n:=A'.length-i-1) (by omega) (by omega) ?_⟩
    have e1:aA (xs.take i)++[D.int (v:Int)]=aA (xs.take i++[v]):=nv _ [v]
    rw[e1]
    dsimp only
    rw[nv]
    refine⟨⟨by rw[iB,iB,fh,lt,qv];simp;omega,nu _,nu _⟩,fin _ (λx hx=>?_) ?_ λ_=>⟨?_,λj hj=>?_⟩⟩
    ·rcases bP.mp hx with h | h
     ·rcases bP.mp h with h | h
      ·exact uP x (yw h)
      ·rw[eF]at h
       rw[h];exact DX
     ·rw[List.eq_of_mem_replicate h];omega
    ·rw[fh,fh,lt,qv];simp;omega
    ·rw[Au,if_pos (by rw[fh,lt];simp),Au,if_neg (by omega),lt,u5]
     exact hv1
    ·rw[Au,if_neg (by rw[fh,lt];simp;omega)]
     exact b67 _ _
   ·rename_i hiA
    exact fin xs uP ju λh=>absurd h (by omega)
  ·rintro δ ⟨G,o1,o2,o3,rfl,M⟩
   refine hU _ ?_
   clear hU U
   simp only[kS,i6,i5,oi,oh,mI,exists_eq_left',dX,fV]
   refine aC λU hU=>?_
   walk_at"l3"
   obtain⟨a,ea,ha⟩:∃k:Nat,y%(n:Int)=k/\k<n:=by
    have n0:=iM y (show(n:Int)≠0 by omega)
    have n1:=iN y (show(0:Int)<(n:Int) by omega)
    exact⟨(y%(n:Int)).toNat,by omega,by omega⟩
   have ml:=M.l
   rw[ea,NC,Ef,xx]
   have M2:jH m wi n A' (G.drop a++G.take a):=M.of (by rw[fh,my,mw];omega) λx=>by
    rw[bP,Or.comm,<- bP,SW]
   refine⟨by omega,by omega,by rw[my,mw];omega,hU _ ?_⟩
   clear hU U
   generalize G.drop a++G.take a=G2 at M2 ⊢
   refine aC λU hU=>?_
   walk_at"l3"
   refine⟨m8 (by omega) (by omega),by decide,?_⟩
   split
   ·refine hU _ ?_
    walk_at"l3"
    rw[bD2]
    exact q _ (M2.of Sv λx=>List.mem_reverse)
   ·refine hU _ ?_
    walk_at"l3"
    exact q _ M2
noncomputable abbrev aI5:bD:=λds Q=>∃T:List (List Nat),ds=[.lst false (aN false T)]/\T.length<=1000/\Q (.lst true (aN true T))
theorem Ha(T:Txt K mg t):aO P w K mg base aY 1 t.FZ t.Ga ["_law_table"] (bG (aI5 )):=by
 refine cw T.AR aG7 ?_ ?_
 ·intro ds Q h
  obtain⟨G,rfl,hG,q⟩:=h<;>rfl
 ·intro aG A outer s H E hr
  refine⟨_,(aL (bc (fg [] ["_law_row"] rfl (kT (bv 0)) (λ_ _ _ _=>(dM (i:=0) (show(["_law_row"]:List Str).Nodup by decide +kernel) rfl (au (lookup_relabel_local rfl)) (by decide) (bu (lookup_relabel_local rfl)))) (λ_ _ _ _=>e8) (λ_ _ _ _=>(Nc (X9) (by rfl) T.AZ ze (aj (bv 0) aB))) rfl trivial (λ_=>by repeat' (first | exact trivial | refine⟨.inl rfl,?_⟩ | refine⟨.inr (.inl rfl),?_⟩ | refine⟨.inr (.inr ⟨_,rfl⟩),?_⟩)) (λ_=>trivial) rfl (by decide +kernel)))),λds Q h=>?_⟩
  obtain⟨G,rfl,hG,q⟩:=h
  walk_at"l3"
  refine gx G (λr=>D.lst false (aA r)) (λr=>D.lst true (aA r)) (by rw[fV];rfl) (λa b h=>xu a b h) (λr cC=>?_) (.inr λr _=>pW r) (by rw[sL];omega) q
  walk_at"l3"
noncomputable abbrev aJ9:bD:=λds Q=>∃T:List (List Nat),ds=[.lst false (aN false T)]/\T.length<=1000/\(∀r∈T,r.length<=1000)/\Q (.int (dv T:Nat))
theorem aK0(T:Txt K mg t):aO P w K mg base aY 1 t.Gb t.Gd ["table"] (bG (aJ9 )):=by
 refine cw T.Qb aI8 ?_ ?_
 ·intro ds Q h
  obtain⟨G,rfl,hG,hr,q⟩:=h<;>rfl
 ·intro aG A outer s H E hr
  refine⟨_,(aL (bc (XB (cB (gU (cN hr)) (bv 0) (ae (gQ fv)) (bW _)) (dZ (fP) (by rfl) T.fY fI (aj (bR (bv 0) (ae ax) (λ_ _=>rfl)) aB)) ax))),λds Q h=>?_⟩
  obtain⟨G,rfl,hG,hr,q⟩:=h
  walk_at"l3"
  refine⟨by decide,⟨fC 4 _ _ _,rfl⟩,?_⟩
  rw[show(D.lst true ([]:List D))=D.lst true (aN true []) from rfl,lN]
  cases G with
  | nil=>rw[if_neg (by simp)];exact q
  | cons r G =>
   rw[if_pos (by simp)]
   refine⟨.lst false (aA r),Ai false (T:=r::G) (i:=0) (Nat.succ_pos _),?_⟩
   show Q (D.int ((aA r).length:Nat))
   rw[iB];exact q
noncomputable abbrev aG1:bD:=λds Q=>∃(T:List (List Nat)) (j:Nat),ds=[.lst false (aN false T),.int j]/\T.length<=1000/\(∀r∈T,j<r.length)/\Q (match iF T j with | some i=>.int (i:Nat) | none=>.ak)
theorem aG2(T:Txt K mg t):aO P w K mg base aY 1 t.Ge t.Gf ["rows","place"] (bG (aG1 )):=by
 refine cw T.Qc PB ?_ ?_
 ·intro ds Q h
  obtain⟨G,j,rfl,hG,hr,q⟩:=h<;>rfl
 ·intro aG A outer s H E hr
  refine⟨_,(aD (jW ia rfl (zL rfl T.AY (aj (bv 0) aB)) (pM (i1:=2) (i2:=3) rfl PB.nd rfl (au rfl) rfl (au rfl))
    (aL (cM (cB (gU (cN hr)) (bR (bv 3) (bv 1) (λ_ _=>rfl)) (ae ax) (bW _)) (aL (bc (em 2))) cL)))
   (aL (bc MP))),λds Q h=>?_⟩
  obtain⟨G,j,rfl,hG,hr,q⟩:=h
  refine aC λU hU=>?_
  walk_at"l3"
  refine jr.mk (λi δ=>∃o1 o2,δ=[some (D.lst false (aN false G)),some (D.int j),o1,o2]/\∀k,k<i->(G.getD k []).getD j 0=0) ⟨_,_,rfl,λk hk=>absurd hk (yB k)⟩ ?_ ?_
  ·rintro i d δ hd ⟨o1,o2,rfl,hz⟩
   obtain⟨hi,rfl⟩:=ω hd
   have hj:=hr _ (fi hi)
   have eg:G.getD i []=G[i]:=by rw[aQ,aP hi];rfl
   walk_at"l3"
   refine⟨.int (G[i].getD j 0:Nat),by rw[tE (by omega) (by omega),eE],rfl,?_⟩
   rw[nk]
   by_cases h0:G[i].getD j 0=0
   ·rw[if_neg (by rw[h0];decide)]
    refine⟨_,_,⟨rfl,rfl⟩,λk hk=>?_⟩
    by_cases e:k=i
    ·rw[e,eg];exact h0
    ·exact hz k (by omega)
   ·rw[if_pos (by rw[decide_eq_false (by omega)];rfl)]
    have ef:iF G j=some i:=by
     unfold iF
     rw[KY]
     refine⟨hi,by simpa using h0,λk hk=>?_⟩
     have:=hz k hk
     rw[aQ (l:=G),aP (by omega)]at this
     simpa using this
    rw[ef]at q
    exact q
  ·rintro δ ⟨o1,o2,rfl,hz⟩
   refine hU _ ?_
   walk_at"l3"
   have ef:iF G j=none:=by
    unfold iF
    rw[K0]
    intro r cC
    obtain⟨i,hi,rfl⟩:=hV cC
    have:=hz i (by rw[pK,lM];exact hi)
    rw[aQ (l:=G),aP hi]at this
    simpa using this
   rw[ef]at q
   exact q
noncomputable abbrev Qy(K:Frag):bD:=λds Q=>∃(C:Addr) (p a:Nat) (xs:List Nat),ds=[Aa C p,.int a,.lst false (aA xs)]/\dS K C/\cu K C "products"/\p∈fS/\a<ag (true,p)/\(∀y∈xs,y<ag (true,p))/\xs.length<=1000/\Q (.lst true (aA (xs.map (gm (true,p) a))))
theorem az7(T:Txt K mg t):aO P w K mg base aY 1 t.Gg t.Gh ["self","a","row"] (bG (Qy K)):=by
 refine cw T.aA6 PC ?_ ?_
 ·intro ds Q h
  obtain⟨C,p,a,xs,rfl,hC,hn,hp,ha,hy,hl,q⟩:=h<;>rfl
 ·intro aG A outer s H E hr
  refine⟨_,(aD (bb (i:=3) PC.nd rfl (bu rfl) (eK (bR (nF (K:=K) (bv 0)) (bv 1) (λ_ _=>rfl))))
   (aL (bc (fg [("by_a",3)] ["x"] rfl (kT (bv 2)) (λ_ _ _ _=>(dM (i:=1) (show(["by_a","x"]:List Str).Nodup by decide +kernel) rfl (au (lookup_relabel_local rfl)) (by decide) (bu (lookup_relabel_local rfl)))) (λ_ _ _ _=>e8) (λ_ _ _ _=>(eK (bR (bv 0) (bv 1) (λ_ _=>rfl)))) rfl ⟨rfl,trivial⟩ (λ_=>by repeat' (first | exact trivial | refine⟨.inl rfl,?_⟩ | refine⟨.inr (.inl rfl),?_⟩ | refine⟨.inr (.inr ⟨_,rfl⟩),?_⟩)) (λ_=>⟨⟨rfl,.inl rfl,.inl rfl,_,rfl,rfl⟩,trivial⟩) rfl (by decide +kernel))))),λds Q h=>?_⟩
  obtain⟨C,p,a,xs,rfl,hC,hn,hp,ha,hy,hl,q⟩:=h
  refine aC λU hU=>?_
  walk_at"l3"
  refine⟨C,_,_,_,rfl,hC,hn,rfl,_,Ow hp ha,?_⟩
  refine⟨by rw[gM,nj];rfl,hU _ ?_⟩
  clear hU U
  walk_at"l3"
  refine gx xs (λ(i:Nat)=>D.int (i:Int)) (λx=>D.int ((gm (true,p) a x:Nat):Int)) (zM xs) nt (λx hx=>?_) (.inr λ_ _=>rfl) (by rw[sL];omega) ?_
  ·walk_at"l3"
   exact⟨_,Ov hp ha (hy x hx),rfl,rfl⟩
  ·rw[fQ,dk]at q
   exact q
noncomputable abbrev Qz(K:Frag):bD:=λds Q=>∃(C:Addr) (p a:Nat) (xs:List Nat),ds=[z9 C p,.int a,.lst false (aA xs)]/\dS K C/\cu K C "prime"/\0<p/\a<64/\(∀y∈xs,y<64)/\xs.length<=1000/\Q (.lst true (aA (xs.map (gm (false,p) a))))
theorem aw9(T:Txt K mg t):aO P w K mg base aY 1 t.Gi t.Gj ["self","a","row"] (bG (Qz K)):=by
 refine cw T.ax9 PD ?_ ?_
 ·intro ds Q h
  obtain⟨C,p,a,xs,rfl,hC,hn,hp,ha,hy,hl,q⟩:=h<;>rfl
 ·intro aG A outer s H E hr
  refine⟨_,(aD (bb (i:=3) PD.nd rfl (bu rfl) (eK (nF (K:=K) (bv 0))))
   (aL (bc (fg [("prime",3),("a",1)] ["x"] rfl (kT (bv 2)) (λ_ _ _ _=>(dM (i:=2) (show(["prime","a","x"]:List Str).Nodup by decide +kernel) rfl (au (lookup_relabel_local rfl)) (by decide) (bu (lookup_relabel_local rfl)))) (λ_ _ _ _=>e8) (λ_ _ _ _=>(aE dh (ae (aE jv (bv 1) (bv 2))) (bv 0))) rfl ⟨rfl,⟨rfl,trivial⟩⟩ (λ_=>by repeat' (first | exact trivial | refine⟨.inl rfl,?_⟩ | refine⟨.inr (.inl rfl),?_⟩ | refine⟨.inr (.inr ⟨_,rfl⟩),?_⟩)) (λ_=>⟨⟨rfl,.inl rfl,.inl rfl,_,rfl,rfl⟩,⟨⟨rfl,.inl rfl,.inl rfl,_,rfl,rfl⟩,trivial⟩⟩) rfl (by decide +kernel))))),λds Q h=>?_⟩
  obtain⟨C,p,a,xs,rfl,hC,hn,hp,ha,hy,hl,q⟩:=h
  refine aC λU hU=>?_
  walk_at"l3"
  refine⟨C,_,_,.int p,rfl,hC,hn,rfl,rfl,hU _ ?_⟩
  clear hU U
  walk_at"l3"
  refine gx xs (λ(i:Nat)=>D.int (i:Int)) (λx=>D.int ((gm (false,p) a x:Nat):Int)) (zM xs) nt (λx hx=>?_) (.inr λ_ _=>rfl) (by rw[sL];omega) ?_
  ·have h2:=hy x hx
   walk_at"l3"
   refine⟨ji.ok (.inr ⟨by omega,by omega⟩),by omega,?_⟩
   show _=((a*x%p:Nat):Int)
   rw[qE,ve]
  ·rw[fQ,dk]at q
   exact q
theorem bN3(T:Txt K mg t){m:Bool × Nat}(hm:m∈aK):∃C ns zs sp,fD t.aS t.aW m=.obj C ns zs/\xh P w K mg base 1 "scaled" C sp/\("scaled":Str) ∉ ns/\∀(xs:List Nat) (a:Nat) (Q:D->Prop),a<ag m->(∀y∈xs,y<ag m)->xs.length<=1000->Q (.lst true (aA (xs.map (gm m a))))->sp [.obj C ns zs,.int a,.lst false (aA xs)] Q:=by
 have hF:=dE hm
 obtain⟨k,n⟩:=m
 cases k with
 | true=>exact⟨_,_,_,Qy K,rfl,⟨T.gZ,_,_,_,T.xS,az7 T,T.aA7⟩,by decide,λxs a Q ha hy hl q=>⟨_,n,a,xs,rfl,T.gZ,T.qf,Ac hm,ha,hy,hl,q⟩⟩
 | false =>
  have uO:n<=64:=hF.hi
  have l2:2<=n:=hF.lo
  exact⟨_,_,_,Qz K,rfl,⟨T.jG,_,_,_,T.xY,aw9 T,T.ay0⟩,by decide,λxs a Q ha hy hl q=>⟨_,n,a,xs,rfl,T.jG,T.qh,by omega,cq (show a<n from ha) uO,λy h=>cq (show y<n from hy y h) uO,hl,q⟩⟩
noncomputable abbrev QB(K:Frag):bD:=λds Q=>∃(C:Addr) (p a:Nat) (xs ys:List Nat),ds=[Aa C p,.lst false (aA xs),.int a,.lst false (aA ys)]/\dS K C/\cu K C "products"/\p∈fS/\a<ag (true,p)/\(∀y∈ys,y<ag (true,p))/\xs.length<=1000/\Q (.lst true (aA (fj (λx y=>cG (true,p) x (gm (true,p) a y)) xs ys)))
theorem ax0(T:Txt K mg t):aO P w K mg base aY 1 t.Gk t.Gm ["self","row","a","other"] (bG (QB K)):=by
 refine cw T.ay1 PF ?_ ?_
 ·intro ds Q h
  obtain⟨C,p,a,xs,ys,rfl,hC,hn,hp,ha,hy,hl,q⟩:=h<;>rfl
 ·intro aG A outer s H E hr
  refine⟨_,(aD (bb (i:=4) PF.nd rfl (bu rfl) (eK (bR (nF (K:=K) (bv 0)) (bv 2) (λ_ _=>rfl))))
   (aL (bc (fg [("by_a",4)] ["x","y"] rfl (Ee rfl T.G0 (aj (bv 1) (aj (bv 3) aB))) (λ_ _ _ _=>(pM (i1:=1) (i2:=2) rfl (show(["by_a","x","y"]:List Str).Nodup by decide +kernel) rfl (au (lookup_relabel_local rfl)) rfl (au (lookup_relabel_local rfl)) (by decide) (by decide) (bu (lookup_relabel_local rfl)) (bu (lookup_relabel_local rfl)))) (λ_ _ _ _=>e8) (λ_ _ _ _=>(aE zD (bv 1) (bR (bv 0) (bv 2) (λ_ _=>rfl)))) rfl ⟨rfl,trivial⟩ (λ_=>by repeat' (first | exact trivial | refine⟨.inl rfl,?_⟩ | refine⟨.inr (.inl rfl),?_⟩ | refine⟨.inr (.inr ⟨_,rfl⟩),?_⟩)) (λ_=>⟨⟨rfl,.inl rfl,.inl rfl,_,rfl,rfl⟩,trivial⟩) rfl (by decide +kernel))))),λds Q h=>?_⟩
  obtain⟨C,p,a,xs,ys,rfl,hC,hn,hp,ha,hy,hl,q⟩:=h
  refine aC λU hU=>?_
  walk_at"l3"
  refine⟨C,_,_,_,rfl,hC,hn,rfl,_,Ow hp ha,?_⟩
  refine⟨by rw[gM,nj];rfl,hU _ ?_⟩
  clear hU U
  walk_at"l3"
  refine⟨_,_,rfl,rfl,OD (λx y=>cG (true,p) x (gm (true,p) a y)) (λx hx y Bb=>?_) (by omega) q⟩
  walk_at"l3"
  refine⟨_,Ov hp ha (hy y Bb),?_⟩
  show mr (x:Int) ((gm (true,p) a y:Nat):Int)=_
  rw[oK];rfl
noncomputable abbrev QC(K:Frag):bD:=λds Q=>∃(C:Addr) (p a:Nat) (xs ys:List Nat),ds=[z9 C p,.lst false (aA xs),.int a,.lst false (aA ys)]/\dS K C/\cu K C "prime"/\0<p/\a<64/\(∀y∈ys,y<64)/\xs.length<=1000/\Q (.lst true (aA (fj (λx y=>cG (false,p) x (gm (false,p) a y)) xs ys)))
theorem av1(T:Txt K mg t):aO P w K mg base aY 1 t.Gp t.Gq ["self","row","a","other"] (bG (QC K)):=by
 refine cw T.aw1 PH ?_ ?_
 ·intro ds Q h
  obtain⟨C,p,a,xs,ys,rfl,hC,hn,hp,ha,hy,hl,q⟩:=h<;>rfl
 ·intro aG A outer s H E hr
  refine⟨_,(aD (bb (i:=4) PH.nd rfl (bu rfl) (eK (nF (K:=K) (bv 0))))
   (aL (bc (fg [("prime",4),("a",2)] ["x","y"] rfl (Ee rfl T.G0 (aj (bv 1) (aj (bv 3) aB))) (λ_ _ _ _=>(pM (i1:=2) (i2:=3) rfl (show(["prime","a","x","y"]:List Str).Nodup by decide +kernel) rfl (au (lookup_relabel_local rfl)) rfl (au (lookup_relabel_local rfl)) (by decide) (by decide) (bu (lookup_relabel_local rfl)) (bu (lookup_relabel_local rfl)))) (λ_ _ _ _=>e8) (λ_ _ _ _=>(aE dh (ae (aE jt (bv 2) (ae (aE jv (bv 1) (bv 3))))) (bv 0))) rfl ⟨rfl,⟨rfl,trivial⟩⟩ (λ_=>by repeat' (first | exact trivial | refine⟨.inl rfl,?_⟩ | refine⟨.inr (.inl rfl),?_⟩ | refine⟨.inr (.inr ⟨_,rfl⟩),?_⟩)) (λ_=>⟨⟨rfl,.inl rfl,.inl rfl,_,rfl,rfl⟩,⟨⟨rfl,.inl rfl,.inl rfl,_,rfl,rfl⟩,trivial⟩⟩) rfl (by decide +kernel))))),λds Q h=>?_⟩
  obtain⟨C,p,a,xs,ys,rfl,hC,hn,hp,ha,hy,hl,q⟩:=h
  refine aC λU hU=>?_
  walk_at"l3"
  refine⟨C,_,_,.int p,rfl,hC,hn,rfl,rfl,hU _ ?_⟩
  clear hU U
  walk_at"l3"
  refine⟨_,_,rfl,rfl,OD (λx y=>cG (false,p) x (gm (false,p) a y)) (λx hx y Bb=>?_) (by omega) q⟩
  have h2:=hy y Bb
  walk_at"l3"
  refine⟨ji.ok (.inr ⟨by omega,by omega⟩),by omega,?_⟩
  have e:((x:Int)-((a*y%p:Nat):Int))%(p:Int)=((x:Int)-(a:Int)*y)%p:=by
   rw[qE,ve,Int.sub_emod,Int.emod_emod,<- Int.sub_emod]
  show _=(((((x:Int)-((a*y%p:Nat):Int))%(p:Int)).toNat:Nat):Int)
  rw[e,yz (iM _ (by omega))]
theorem by9(T:Txt K mg t){m:Bool × Nat}(hm:m∈aK):∃C ns zs sp,fD t.aS t.aW m=.obj C ns zs/\xh P w K mg base 1 "lessened" C sp/\("lessened":Str) ∉ ns/\∀(xs ys:List Nat) (a:Nat) (Q:D->Prop),a<ag m->(∀y∈ys,y<ag m)->xs.length<=1000->Q (.lst true (aA (fj (λx y=>cG m x (gm m a y)) xs ys)))->sp [.obj C ns zs,.lst false (aA xs),.int a,.lst false (aA ys)] Q:=by
 have hF:=dE hm
 obtain⟨k,n⟩:=m
 cases k with
 | true=>exact⟨_,_,_,QB K,rfl,⟨T.gZ,_,_,_,T.xQ,ax0 T,T.ay2⟩,by decide,λxs ys a Q ha hy hl q=>⟨_,n,a,xs,ys,rfl,T.gZ,T.qf,Ac hm,ha,hy,hl,q⟩⟩
 | false =>
  have uO:n<=64:=hF.hi
  have l2:2<=n:=hF.lo
  exact⟨_,_,_,QC K,rfl,⟨T.jG,_,_,_,T.xW,av1 T,T.aw2⟩,by decide,λxs ys a Q ha hy hl q=>⟨_,n,a,xs,ys,rfl,T.jG,T.qh,by omega,cq (show a<n from ha) uO,λy h=>cq (show y<n from hy y h) uO,hl,q⟩⟩
noncomputable abbrev aL0(cb cp:Addr):bD:=λds Q=>∃(m:Bool × Nat) (T:List (List Nat)) (l:List Nat) (j:Nat),ds=[fD cb cp m,.lst false (aN false T),.lst false (aA l),.int j]/\m∈aK/\T.length<=1000/\AllLt (ag m) l/\(∀r∈T,j<r.length/\r.length<=1000/\AllLt (ag m) r)/\Q (.lst true (aN true (T.map λr=>fj (λx y=>cG m x (gm m (r.getD j 0) y)) r l)))
theorem QD(T:Txt K mg t):aO P w K mg base aY 2 t.Gs t.Gu ["field","rows","lead_row","place"] (bG (aL0 t.aS t.aW)):=by
 refine cw T.GW aK3 ?_ ?_
 ·intro ds Q h
  obtain⟨m,G,l,j,rfl,hm,hG,hl,hr,q⟩:=h<;>rfl
 ·intro aG A outer s H E hr
  refine⟨_,(aL (bc (fg [("lead_row",2),("field",0),("place",3)] ["row"] rfl (kT (bv 1)) (λ_ _ _ _=>(dM (i:=3) (show(["lead_row","field","place","row"]:List Str).Nodup by decide +kernel) rfl (au (lookup_relabel_local rfl)) (by decide) (bu (lookup_relabel_local rfl)))) (λ_ _ _ _=>e8) (λ_ _ _ _=>(EB (P:=P) (w:=w) (K:=K) (mg:=mg) (base:=base) (n:=1) (bv 1) (hr.mono (by decide)) (aj (bv 3) (aj (bR (bv 3) (bv 2) (λ_ _=>rfl)) (aj (bv 0) aB))))) rfl ⟨rfl,⟨rfl,⟨rfl,trivial⟩⟩⟩ (λ_=>by repeat' (first | exact trivial | refine⟨.inl rfl,?_⟩ | refine⟨.inr (.inl rfl),?_⟩ | refine⟨.inr (.inr ⟨_,rfl⟩),?_⟩)) (λ_=>⟨⟨rfl,.inl rfl,.inl rfl,_,rfl,rfl⟩,⟨⟨rfl,.inl rfl,.inl rfl,_,rfl,rfl⟩,⟨⟨rfl,.inl rfl,.inl rfl,_,rfl,rfl⟩,trivial⟩⟩⟩) rfl (by decide +kernel)))),λds Q h=>?_⟩
  obtain⟨m,G,l,j,rfl,hm,hG,hl,hr,q⟩:=h
  walk_at"l3"
  refine gx G (λr=>D.lst false (aA r)) (λr=>D.lst true (aA (fj (λx y=>cG m x (gm m (r.getD j 0) y)) r l))) (by rw[fV];rfl) (λa b h=>xu a b h) (λr cC=>?_) (.inr λr _=>pW _) (by rw[sL];omega) ?_
  ·obtain⟨h1,h2,h3⟩:=hr r cC
   obtain⟨C,ns,zs,sp,e1,e2,e3,e4⟩:=by9 (P:=P) (w:=w) (base:=base) T hm
   walk_at"l3"
   refine⟨C,ns,zs,sp,e1,e2,e3,.int (r.getD j 0:Nat),by rw[tE (by omega) (by omega),eE],e4 _ _ _ _ (h3.getD (by have:=(dE hm).lo;omega) j) hl h2 ⟨rfl,rfl⟩⟩
  ·rw[aN,dk]at q
   exact q
noncomputable abbrev QE(t:mT)(P:Program)(w:World)(K:Frag)(mg:Str->Option Value)(base:Heap):nq:=λds Q Ex=>∃(m:Bool × Nat) (a b:Nat),ds=[fD t.aS t.aW m,.int a,.int b]/\m∈aK/\a<ag m/\b<ag m/\(b=0->Ex t.fX)/\(b≠0->∀r:Nat,r<ag m->gm m r b=a->Q (.int (r:Nat)))
theorem QF(T:Txt K mg t):aO P w K mg base (kO P w) 2 t.AN t.Gv ["self","a","b"] (wV (QE t P w K mg base)):=by
 refine Nr T.aH4 aE8 ?_ ?_
 ·intro ds Q Ex h
  obtain⟨m,a,b,rfl,hm,ha,hb,qx,q⟩:=h<;>rfl
 ·intro aG A outer s H E hr
  refine⟨_,(aD (cM (cB (gr (cN hr)) (bv 2) (ae ax) (bW _)) (aL (Nw T.Qq rfl (by rfl) (aj (ae MQ) aB))) cL)
   (aD (cM (cB (gr (cN hr)) (bv 1) (ae ax) (bW _)) (aL (bc ax)) cL)
   (aL (bc (EB (P:=P) (w:=w) (K:=K) (mg:=mg) (base:=base) (n:=1) (bv 0) (hr.mono (by decide)) (aj (ae (aE jt (bR (nF (K:=K) (bv 0)) (bv 1) (λ_ _=>rfl)) (bR (nF (K:=K) (bv 0)) (bv 2) (λ_ _=>rfl)))) aB)))))),λds Q Ex h=>?_⟩
  obtain⟨m,a,b,rfl,hm,ha,hb,qx,q⟩:=h
  refine aC λU hU=>?_
  walk_at"l3"
  split
  ·rename_i h0
   exact⟨by decide,qx (by omega)⟩
  ·rename_i h0
   have b0:b≠0:=by omega
   refine hU _ ?_
   clear hU U
   refine aC λU hU=>?_
   walk_at"l3"
   split
   ·rename_i h1
    have a0:a=0:=by omega
    subst a0
    exact q b0 0 ha (iV m b (dj m hm))
   ·rename_i h1
    have a0:a≠0:=by omega
    refine hU _ ?_
    clear hU U
    have hF:=dE hm
    obtain⟨r,e,lX,jx⟩:=Oy hm (show 1<=a by omega) ha (show 1<=b by omega) hb
    have qr:=q b0 r lX jx
    obtain⟨k,n⟩:=m
    cases k with
    | true =>
     walk_at"l3"
     have ll:(di (fl (true,n))).length=ag (true,n):=(xm _ _).trans hF.len
     have n0:=iM (lg (true,n) a-lg (true,n) b) (show(ag (true,n):Int)-1≠0 by have:=hF.lo;omega)
     have n1:=iN (lg (true,n) a-lg (true,n) b) (show(0:Int)<(ag (true,n):Int)-1 by have:=hF.lo;omega)
     refine⟨_,_,_,G1 K,rfl,⟨T.gZ,_,_,_,T.uG,G3 T,T.GR⟩,by decide,_,_,_,_,rfl,T.gZ,T.nO,rfl,_,j6 (by omega) (by rw[ll];omega),_,_,_,_,rfl,T.gZ,T.nO,rfl,_,j6 (by omega) (by rw[ll];omega),?_⟩
     refine⟨_,_,_,_,ag (true,n),fl (true,n),r,rfl,T.gZ,T.qe,T.uF,rfl,rfl,hF.lo,?_,qr⟩
     have hk:((lg (true,n) a-lg (true,n) b)%((ag (true,n):Int)-1)).toNat<(fl (true,n)).length:=by have:=hF.len;omega
     show(fl (true,n))[((lg (true,n) a-lg (true,n) b)%((ag (true,n):Int)-1)).toNat]?=some (r:Int)
     rw[<-e]
     unfold pw
     rw[aQ,aP hk];rfl
    | false =>
     walk_at"l3"
     have ll:(di (fl (false,n))).length=ag (false,n):=(xm _ _).trans hF.len
     have n0:=iM (lg (false,n) a-lg (false,n) b) (show(ag (false,n):Int)-1≠0 by have:=hF.lo;omega)
     have n1:=iN (lg (false,n) a-lg (false,n) b) (show(0:Int)<(ag (false,n):Int)-1 by have:=hF.lo;omega)
     refine⟨_,_,_,G1 K,rfl,⟨T.jG,_,_,_,T.uJ,G3 T,T.GR⟩,by decide,_,_,_,_,rfl,T.jG,T.qg,rfl,_,j6 (by omega) (by rw[ll];omega),_,_,_,_,rfl,T.jG,T.qg,rfl,_,j6 (by omega) (by rw[ll];omega),?_⟩
     refine⟨_,_,_,_,ag (false,n),fl (false,n),r,rfl,T.jG,T.uI,T.uH,rfl,rfl,hF.lo,?_,qr⟩
     have hk:((lg (false,n) a-lg (false,n) b)%((ag (false,n):Int)-1)).toNat<(fl (false,n)).length:=by have:=hF.len;omega
     show(fl (false,n))[((lg (false,n) a-lg (false,n) b)%((ag (false,n):Int)-1)).toNat]?=some (r:Int)
     rw[<-e]
     unfold pw
     rw[aQ,aP hk];rfl
theorem bE2(T:Txt K mg t)(m:Bool × Nat):Ad P w K mg base 2 "over" (if m.1 then t.aS else t.aW) (QE t P w K mg base):=by
 obtain⟨k,n⟩:=m
 cases k with
 | true=>exact⟨T.gZ,_,_,_,T.xR,QF T,T.Qg⟩
 | false=>exact⟨T.jG,_,_,_,T.xX,QF T,T.Qg⟩
noncomputable abbrev aL1(t:mT)(P:Program)(w:World)(K:Frag)(mg:Str->Option Value)(base:Heap):bD:=λds Q=>∃(m:Bool × Nat) (G:List (List Nat)),ds=[fD t.aS t.aW m,.lst false (aN false G)]/\m∈aK/\G.length<=900/\RT (ag m) (dv G) G/\dv G<=900/\Q (.lst true (aN true (iH m G)))
theorem yc(T:Txt K mg t):aO P w K mg base aY 3 t.Gw t.Gx ["field","table"] (bG (aL1 t P w K mg base)):=by
 refine cw T.uE nN ?_ ?_
 ·intro ds Q h
  obtain⟨m,G,rfl,hm,hG,hR,hw,q⟩:=h<;>rfl
 ·intro aG A outer s H E hr
  refine⟨_,(aD (bb (i:=2) nN.nd rfl (au rfl) (gQ fv))
   (aD (bb (i:=3) nN.nd rfl (au rfl) (eK (bv 1)))
   (aD (jW ia rfl (kU rfl T.iK (aj (ae (bA ((aK0 T).mono (by decide)) hr rfl T.cJ7 T.Qb.kp T.cJ8 aZ (aj (bv 1) aB))) aB)) (dM (i:=4) nN.nd rfl (au rfl))
    (DK 3 (aD (bb (i:=5) nN.nd rfl (au rfl) (bA ((aG2 T).mono (by decide)) hr rfl T.cJ9 T.Qc.kp T.cK0 aZ (aj (bv 3) (aj (bv 4) aB))))
    (aL (cM (cB XX (bv 5) (ae MP) (bW _)) (aD (bb (i:=6) nN.nd rfl (au rfl) (EB (P:=P) (w:=w) (K:=K) (mg:=mg) (base:=base) (n:=1) (bv 0) (hr.mono (by decide)) (aj (ae (ZQ (P:=P) (w:=w) (K:=K) (mg:=mg) (base:=base) (n:=2) (bv 0) (hr.mono (by decide)) (aj (ae ax) (aj (bR (bR (bv 3) (bv 5) (λ_ _=>rfl)) (bv 4) (λ_ _=>rfl)) aB)))) (aj (bR (bv 3) (bv 5) (λ_ _=>rfl)) aB))))
     (aD (bb (i:=3) nN.nd rfl (au rfl) (bA ((QD T).mono (by decide)) hr rfl T.Qe T.GW.kp T.Qf aZ (aj (bv 0) (aj (ae (aE dD (ae (w4 (bv 3) wc (we (bv 5)))) (ae (w4 (bv 3) (we (ae (aE dD (bv 5) (ae ax)))) wc)))) (aj (bv 6) (aj (bv 4) aB))))))
     (aL (bb (i:=2) nN.nd rfl (au rfl) (η (bA ((QD T).mono (by decide)) hr rfl T.Qe T.GW.kp T.Qf aZ (aj (bv 0) (aj (bv 2) (aj (bv 6) (aj (bv 4) aB))))) (gQ (gP (em 6) fv))))))) cL)))))
   (aL (bc (em 2)))))),λds Q h=>?_⟩
  obtain⟨m,G,rfl,hm,hG,hR,hw,q⟩:=h
  have kG:=(dE hm).lo
  refine aC λU hU=>?_
  walk_at"l3"
  refine⟨by decide,hU _ ?_⟩
  clear hU U
  refine aC λU hU=>?_
  walk_at"l3"
  refine hU _ ?_
  clear hU U
  refine aC λU hU=>?_
  walk_at"l3"
  refine⟨G,rfl,by omega,λr cC=>?_,?_⟩
  ·rw[(hR r cC).1];omega
  refine⟨_,rfl,⟨by omega,by omega⟩,?_⟩
  refine zJ (λk δ=>∃(o:Bool) (o1 o2 o3:Option D),δ=[some (fD t.aS t.aW m),some (D.lst false (aN false G)),some (D.lst true (aN true (iG m G k).1)),some (D.lst o (aN o (iG m G k).2)),o1,o2,o3]) ⟨false,none,none,none,rfl⟩ ?_ ?_
  ·rintro k δ hk ⟨o,o1,o2,o3,rfl⟩
   have I:=Ak hm hR k
   rw[EI]
   generalize iG m G k=s at I ⊢
   simp only[gN,kS,i6,i5,oi,oh,mI,exists_eq_left',dX,fV]
   clear hU
   have il:=I.l
   refine aC λU hU=>?_
   walk_at"l3"
   refine⟨s.2,k,rfl,by omega,λr cC=>by rw[(I.b r cC).1];omega,?_⟩
   cases e:iF s.2 k with
   | none =>
    rw[show fW m s k=s by unfold fW;rw[e]]at hU
    refine hU _ ?_
    walk_at"l3"
    exact⟨false,_,_,_,⟨rfl,rfl⟩,rfl,rfl,rfl⟩
   | some i =>
    obtain⟨hi,h1,h2⟩:=Aj e
    have er:fW m s k=(ff m s.1 (cU m s.2 i k) k++[cU m s.2 i k],ff m (s.2.take i++s.2.drop (i+1)) (cU m s.2 i k) k):=by unfold fW;rw[e]
    rw[er]at hU
    refine hU _ ?_
    clear hU
    walk_at"l3"
    obtain⟨C,ns,xs,sp,e1,e2,e3,e4⟩:=bN3 (P:=P) (w:=w) (base:=base) T hm
    refine aC λU hU=>?_
    walk_at"l3"
    obtain⟨lw,lr⟩:=I.b _ (fi hi)
    have bk:=lr.getD (show 0<ag m by omega) k
    refine⟨C,ns,xs,sp,e1,e2,e3,_,_,_,_,Ae _ _ m,bE2 T m,ZS m _ (by decide),.lst false (aA s.2[i]),Ai false hi,?_⟩
    dsimp only
    refine⟨.int (s.2[i].getD k 0:Nat),by rw[tE (by omega) (by omega),eE],m,1,s.2[i].getD k 0,by rw[Ae];rfl,hm,kG,bk,λz=>absurd z h1,λ_ f hf hfo=>⟨rfl,.lst false (aA s.2[i]),Ai false hi,?_⟩⟩
    have ef:xA m (s.2[i].getD k 0)=f:=ON hm hf hfo
    rw[OB]
    refine e4 _ _ _ hf lr (by omega) ⟨by rw[pW,oj],hU _ ?_⟩
    have el:s.2[i].map (gm m f)=cU m s.2 i k:=by unfold cU;rw[h2,ef]
    rw[el]
    have ll:(cU m s.2 i k).length=dv G:=by rw[<-el,bU];exact lw
    have la:AllLt (ag m) (cU m s.2 i k):=λx hx=>by
     rw[<-el]at hx
     obtain⟨y,_,rfl⟩:=cn.mp hx
     exact eT hm _ _
    generalize cU m s.2 i k=ld at ll la ⊢
    clear hU
    refine aC λU hU=>?_
    walk_at"l3"
    have Hb:∀r∈s.2.take i++s.2.drop (i+1),r.length=dv G/\AllLt (ag m) r:=λr cC=>by
     rcases bP.mp cC with h | h
     ·exact I.b r (yw h)
     ·exact I.b r (Ca h)
    have kj:∀X:List (List Nat),(D.lst true (aN true X)).fr=true:=λX=>by rw[fK,EH];rfl
    rw[Ef,show((i:Int)+1)=((i+1:Nat):Int) by omega,NC,xx,fV]
    refine⟨by rw[mw,my];omega,m,_,ld,k,rfl,hm,by rw[fh,mw,my];omega,la,λr cC=>⟨by rw[(Hb r cC).1];exact hk,by rw[(Hb r cC).1];omega,(Hb r cC).2⟩,kj _,hU _ ?_⟩
    clear hU
    walk_at"l3"
    refine⟨m,s.1,ld,k,rfl,hm,by omega,la,λr cC=>⟨by rw[(I.a r cC).1];exact hk,by rw[(I.a r cC).1];omega,(I.a r cC).2⟩,kj _,by decide,_,_,rfl,rfl,?_,true,_,_,_,xx true _ [ld],⟨rfl,rfl⟩,rfl,rfl,rfl⟩
    rw[lM,bU]
    show s.1.length+1<=_
    omega
  ·rintro δ ⟨o,o1,o2,o3,rfl⟩
   refine hU _ ?_
   walk_at"l3"
   exact q
noncomputable abbrev bQ0:bD:=λds Q=>∃T:List (List Nat),ds=[.lst false (aN false T)]/\T.length<=1000/\(∀r∈T,r.length<=1000/\∃x∈r,x≠0)/\Q (.lst true (aA (T.map eB)))
theorem QG(T:Txt K mg t):aO P w K mg base aY 1 t.Gy t.Gz ["rows"] (bG (bQ0 )):=by
 refine cw T.GX bM1 ?_ ?_
 ·intro ds Q h
  obtain⟨G,rfl,hG,hr,q⟩:=h<;>rfl
 ·intro aG A outer s H E hr
  refine⟨_,(aL (bc (fg [] ["row"] rfl (kT (bv 0)) (λ_ _ _ _=>(dM (i:=0) (show(["row"]:List Str).Nodup by decide +kernel) rfl (au (lookup_relabel_local rfl)) (by decide) (bu (lookup_relabel_local rfl)))) (λ_ _ _ _=>e8) (λ_ _ _ _=>(eK (bR (ae (fg [] ["place","x"] rfl (zL rfl T.AY (aj (bv 0) aB)) (λ_ _ _ _=>(pM (i1:=0) (i2:=1) rfl (show(["place","x"]:List Str).Nodup by decide +kernel) rfl (au (lookup_relabel_local rfl)) rfl (au (lookup_relabel_local rfl)) (by decide) (by decide) (bu (lookup_relabel_local rfl)) (bu (lookup_relabel_local rfl)))) (λ_ _ _ _=>(XJ (cB (gU (cN hr)) (bv 1) (ae ax) (bW _)))) (λ_ _ _ _=>(eK (bv 0))) rfl trivial (λ_=>by repeat' (first | exact trivial | refine⟨.inl rfl,?_⟩ | refine⟨.inr (.inl rfl),?_⟩ | refine⟨.inr (.inr ⟨_,rfl⟩),?_⟩)) (λ_=>trivial) rfl (by decide +kernel))) (ae ax) (λ_ _=>rfl)))) rfl trivial (λ_=>by repeat' (first | exact trivial | refine⟨.inl rfl,?_⟩ | refine⟨.inr (.inl rfl),?_⟩ | refine⟨.inr (.inr ⟨_,rfl⟩),?_⟩)) (λ_=>trivial) rfl (by decide +kernel)))),λds Q h=>?_⟩
  obtain⟨G,rfl,hG,hr,q⟩:=h
  walk_at"l3"
  refine gx G (λr=>D.lst false (aA r)) (λr=>D.int (eB r:Nat)) (by rw[fV];rfl) (λa b h=>xu a b h) (λr cC=>?_) (.inr λr _=>rfl) (by rw[sL];omega) ?_
  ·obtain⟨h1,x,hx,h3⟩:=hr r cC
   walk_at"l3"
   refine χ (aR r.length) (λ(i:Nat)=>D.tup [.int (i:Int),.int ((r.getD i 0:Nat):Int)]) (λ(i:Nat)=>D.int (i:Int)) (λi=>r.getD i 0 != 0) (Δ r) (λa b h=>by injection h with h;simp at h;omega) (λi hi=>?_) (.inr λ_ _ _=>rfl) (by rw[dR,sL];omega) ?_
   ·walk_at"l3"
    refine⟨?_,λ_=>trivial⟩
    by_cases h0:r.getD i 0=0
    ·rw[h0];rfl
    ·rw[decide_eq_false (by omega),bne_iff_ne.mpr h0];rfl
   ·refine⟨.int (eB r:Nat),L3.zb (k:=0) ?_,rfl,rfl⟩
    rw[cY,Θ ⟨x,hx,h3⟩];rfl
  ·rw[fQ,dk]at q
   exact q
noncomputable abbrev b53(t:mT)(P:Program)(w:World)(K:Frag)(mg:Str->Option Value)(base:Heap):bD:=λds Q=>∃(m:Bool × Nat) (G:List (List Nat)),ds=[fD t.aS t.aW m,.lst false (aN false G)]/\m∈aK/\G.length<=900/\RT (ag m) (dv G) G/\dv G<=900/\Q (.int (iH m G).length)
theorem b70(T:Txt K mg t):aO P w K mg base aY 4 t.GA t.GB ["field","table"] (bG (b53 t P w K mg base)):=by
 refine cw T.Qj bZ5 ?_ ?_
 ·intro ds Q h
  obtain⟨m,G,rfl,hm,hG,hR,hw,q⟩:=h<;>rfl
 ·intro aG A outer s H E hr
  refine⟨_,(aL (bc (dZ (fP) (by rfl) T.fY fI (aj (ae (bA ((yc T).mono (by decide)) hr rfl T.xJ T.uE.kp T.xK aZ (aj (bv 0) (aj (bv 1) aB)))) aB)))),λds Q h=>?_⟩
  obtain⟨m,G,rfl,hm,hG,hR,hw,q⟩:=h
  walk_at"l3"
  refine⟨m,G,rfl,hm,hG,hR,hw,?_⟩
  dsimp only
  rw[lM];exact q
theorem bP9{m:Bool × Nat}(hm:m∈aK){w:Nat}{A:List (List Nat)}{H:Nat->Nat}(hA:RT (ag m) w A)(I:RR w A H)(h0:A≠[]):dv A=w/\iH m A=A:=by
 have hw:=EX hA h0
 refine⟨hw,?_⟩
 subst hw
 exact O8 hm hA hA I (λx hx=>bI.of hx) λx hx=>bI.of hx
noncomputable abbrev aK1(t:mT)(P:Program)(w:World)(K:Frag)(mg:Str->Option Value)(base:Heap):bD:=λds Q=>∃(m:Bool × Nat) (A:List (List Nat)) (wi:Nat) (H:Nat->Nat),ds=[fD t.aS t.aW m,.lst false (aN false A)]/\m∈aK/\A.length<=64/\RT (ag m) wi A/\RR wi A H/\1<=wi/\wi<=64/\Q (.bl true)
theorem aK2(T:Txt K mg t):aO P w K mg base aY 4 t.GC t.GD ["_law_field_here","_law_answer_here"] (bG (aK1 t P w K mg base)):=by
 refine cw T.Qk E8 ?_ ?_
 ·intro ds Q h
  obtain⟨m,A',wi,Hd,rfl,hm,hl,hR,I,Hc,hw,q⟩:=h<;>rfl
 ·intro aG A outer s H E hr
  refine⟨_,(aD (cM (cB (gr (cN hr)) (bv 1) (ae (gQ fv)) (bW _)) (aL (bc gO)) cL)
   (aD (bb (i:=2) E8.nd rfl (au rfl) (bA ((Ha T).mono (by decide)) hr rfl T.GU T.AR.kp T.GV aZ (aj (bv 1) aB)))
   (aD (bb (i:=3) E8.nd rfl (au rfl) (bA ((yc T).mono (by decide)) hr rfl T.xJ T.uE.kp T.xK aZ (aj (bv 0) (aj (bv 2) aB))))
   (aD (cM (cB (gU (cN hr)) (bv 3) (bv 1) (bW _)) (aL (bc gO)) cL)
   (aD (bZ7 (i:=3) rfl (by first | exact au rfl | exact bu (au rfl)) (aE dD (bR (bR (bv 3) (ae ax) (λ_ _=>rfl)) (ae ax) (λ_ _=>rfl)) (ae ax)) (ae ax))
   (aL (bc (rA (ae (vS (gr (cN hr)) (bv 2) (bv 1) (bW _))) (qQ (vS (gr (cN hr)) (ae (bA ((yc T).mono (by decide)) hr rfl T.xJ T.uE.kp T.xK aZ (aj (bv 0) (aj (bv 2) aB)))) (bv 1) (bW _))))))))))),λds Q h=>?_⟩
  obtain⟨m,A',wi,Hd,rfl,hm,hl,hR,I,Hc,hw,q⟩:=h
  have kj:∀X:List (List Nat),(D.lst true (aN true X)).fr=true:=λX=>by rw[fK,EH];rfl
  have QH:∀X:List (List Nat),(D.lst true (aN true X)).sh=D.lst false (aN false X):=λX=>by rw[dX,fV]
  refine aC λU hU=>?_
  walk_at"l3"
  refine⟨by decide,⟨fC 4 _ _ _,fC 4 true true []⟩,?_⟩
  have de:=lN false true false true A' []
  rw[show aN true []=[] from rfl]at de
  rw[de]
  by_cases h0:A'=[]
  ·rw[decide_eq_true h0,if_pos rfl]
   exact q
  rw[decide_eq_false h0,if_neg (by decide)]
  obtain⟨QI,QJ⟩:=bP9 hm hR I h0
  refine hU _ ?_
  clear hU U
  refine aC λU hU=>?_
  walk_at"l3"
  refine⟨A',rfl,by omega,hU _ ?_⟩
  clear hU U
  refine aC λU hU=>?_
  walk_at"l3"
  refine⟨m,A',rfl,hm,by omega,by rw[QI];exact hR,by omega,kj _,?_⟩
  rw[QJ]
  refine hU _ ?_
  clear hU U
  refine aC λU hU=>?_
  walk_at"l3"
  refine⟨⟨fC 4 _ _ _,fC 4 _ _ _⟩,?_⟩
  rw[lN,decide_eq_true rfl,if_neg (by decide)]
  refine hU _ ?_
  clear hU U
  obtain⟨x0,r0,Gr,eg⟩:∃x0 r0 Gr,A'=(x0::r0)::Gr:=by
   cases e:A' with
   | nil=>exact absurd e h0
   | cons r Gr =>
    have hl:=(hR r (by rw[e];simp)).1
    cases r with
    | nil=>simp at hl;omega
    | cons x0 r0=>exact⟨x0,r0,Gr,rfl⟩
  refine aC λU hU=>?_
  walk_at"l3"
  refine⟨.lst true (aA (x0::r0)),by rw[eg];exact Ai true (T:=(x0::r0)::Gr) (i:=0) (Nat.succ_pos _),?_⟩
  dsimp only
  refine⟨.int (x0:Nat),by rw[tE (by omega) (by simp)];rfl,?_⟩
  dsimp only
  refine⟨[],aA (x0::r0),aN true Gr,by rw[eg];rfl,rfl,0,by rw[eg];rfl,by rw[Z5 (by omega) (by rw[iB];simp)];rfl,hU _ ?_⟩
  clear hU U
  rw[nY]
  generalize (D.lst true ((aA (x0::r0)).set 0 (D.int ((x0:Int)+1)))::aN true Gr)=dF3
  walk_at"l3"
  refine⟨⟨fC 4 _ _ _,fC 4 _ _ _⟩,?_⟩
  rw[lN,decide_eq_true rfl,if_pos rfl]
  refine⟨m,A',rfl,hm,by omega,by rw[QI];exact hR,by omega,kj _,?_⟩
  rw[QJ]
  refine⟨⟨fC 4 _ _ _,fC 4 _ _ _⟩,?_⟩
  rw[lN,decide_eq_true rfl]
  exact q
noncomputable abbrev aG3:bD:=λds Q=>∃i:Int,ds=[.int i]/\Q (.bl true)
theorem He(T:Txt K mg t):aO P w K mg base aY 1 t.GF t.GG ["_law_x"] (bG (aG3 )):=by
 refine cw T.AS aE9 ?_ ?_
 ·intro ds Q h
  obtain⟨i,rfl,q⟩:=h<;>rfl
 ·intro aG A outer s H E hr
  refine⟨_,(aL (bc (rA (ae (v9 (by rfl) T.xZ (by rfl) T.Qp Ms (bv 0))) (qQ (XA (ae (v9 (by rfl) T.xZ (by rfl) T.cM5 Wu (bv 0)))))))),λds Q h=>?_⟩
  obtain⟨i,rfl,q⟩:=h
  walk_at"l3"
  exact q
noncomputable abbrev aB9:bD:=λds Q=>∃(l:List Nat) (w n:Nat),ds=[.lst false (aA l),.int w,.int n]/\l.length=w/\w<=1000/\AllLt n l/\Q (.bl true)
theorem aC0(T:Txt K mg t):aO P w K mg base aY 2 t.GH t.GI ["_law_row","_law_wide","_law_many_here"] (bG (aB9 )):=by
 refine cw T.Ql aB5 ?_ ?_
 ·intro ds Q h
  obtain⟨l,w,n,rfl,hl,hw,ha,q⟩:=h<;>rfl
 ·intro aG A outer s H E hr
  refine⟨_,(aD (cM (PW.pt (m6 (oV (jV (ae (v9 (by rfl) T.xZ (by rfl) T.AZ ze (bv 0))))) (mM (cB (gU (cN hr)) (ae (dZ (fP) (by rfl) T.fY fI (aj (bv 0) aB))) (bv 1) (bW _))))) (aL (bc gO)) cL)
   (aL (bc (dZ (zE rfl) (by rfl) T.AX zd (aj (ae (fg [("_law_many_here",2)] ["_law_x"] rfl (kT (bv 0)) (λ_ _ _ _=>(dM (i:=1) (show(["_law_many_here","_law_x"]:List Str).Nodup by decide +kernel) rfl (au (lookup_relabel_local rfl)) (by decide) (bu (lookup_relabel_local rfl)))) (λ_ _ _ _=>e8) (λ_ _ _ _=>(rA (ae (bA ((He T).mono (by decide)) hr rfl T.GY T.AS.kp T.GZ aZ (aj (bv 1) aB))) (qQ (DT vZ se (ae ax) (bv 1) (bv 0))))) rfl ⟨rfl,trivial⟩ (λ_=>by repeat' (first | exact trivial | refine⟨.inl rfl,?_⟩ | refine⟨.inr (.inl rfl),?_⟩ | refine⟨.inr (.inr ⟨_,rfl⟩),?_⟩)) (λ_=>⟨⟨rfl,.inl rfl,.inl rfl,_,rfl,rfl⟩,trivial⟩) rfl (by decide +kernel))) aB))))),λds Q h=>?_⟩
  obtain⟨l,w,n,rfl,hl,hw,ha,q⟩:=h
  refine aC λU hU=>?_
  walk_at"l3"
  rw[if_neg (by rw[hl];simp)]
  refine hU _ ?_
  clear hU U
  walk_at"l3"
  refine gx l (λ(i:Nat)=>D.int (i:Int)) (λ_=>D.bl true) (zM l) nt (λi hi=>?_) (.inr λ_ _=>rfl) (by rw[sL];omega) ?_
  ·walk_at"l3"
   have:=ha i hi
   refine⟨i,rfl,true,rfl,?_⟩
   rw[if_pos rfl,if_pos (by omega)]
   omega
  ·refine⟨l.map λ_=>true,by unfold sj;rw[dk];rfl,?_⟩
   have e:(l.map λ_=>true).all id=true:=by simp
   rw[e];exact q
noncomputable abbrev az8:bD:=λds Q=>∃(T:List (List Nat)) (r w n:Nat),ds=[.lst false (aN false T),.int r,.int w,.int n]/\T.length=r/\r<=1000/\w<=1000/\RT n w T/\Q (.bl true)
theorem az9(T:Txt K mg t):aO P w K mg base aY 3 t.GJ t.GK ["_law_table","_law_rows","_law_wide","_law_many_here"] (bG (az8 )):=by
 refine cw T.Qm ay5 ?_ ?_
 ·intro ds Q h
  obtain⟨G,r,w,n,rfl,hG,hr,hw,hR,q⟩:=h<;>rfl
 ·intro aG A outer s H E hr
  refine⟨_,(aD (cM (PW.pt (m6 (oV (jV (ae (v9 (by rfl) T.xZ (by rfl) T.AZ ze (bv 0))))) (mM (cB (gU (cN hr)) (ae (dZ (fP) (by rfl) T.fY fI (aj (bv 0) aB))) (bv 1) (bW _))))) (aL (bc gO)) cL)
   (aL (bc (dZ (zE rfl) (by rfl) T.AX zd (aj (ae (fg [("_law_wide",2),("_law_many_here",3)] ["_law_row"] rfl (kT (bv 0)) (λ_ _ _ _=>(dM (i:=2) (show(["_law_wide","_law_many_here","_law_row"]:List Str).Nodup by decide +kernel) rfl (au (lookup_relabel_local rfl)) (by decide) (bu (lookup_relabel_local rfl)))) (λ_ _ _ _=>e8) (λ_ _ _ _=>(bA ((aC0 T).mono (by decide)) hr rfl T.aC9 T.Ql.kp T.aD0 aZ (aj (bv 2) (aj (bv 0) (aj (bv 1) aB))))) rfl ⟨rfl,⟨rfl,trivial⟩⟩ (λ_=>by repeat' (first | exact trivial | refine⟨.inl rfl,?_⟩ | refine⟨.inr (.inl rfl),?_⟩ | refine⟨.inr (.inr ⟨_,rfl⟩),?_⟩)) (λ_=>⟨⟨rfl,.inl rfl,.inl rfl,_,rfl,rfl⟩,⟨⟨rfl,.inl rfl,.inl rfl,_,rfl,rfl⟩,trivial⟩⟩) rfl (by decide +kernel))) aB))))),λds Q h=>?_⟩
  obtain⟨G,r,w,n,rfl,hG,hr,hw,hR,q⟩:=h
  refine aC λU hU=>?_
  walk_at"l3"
  rw[if_neg (by rw[hG];simp)]
  refine hU _ ?_
  clear hU U
  walk_at"l3"
  refine gx G (λr=>D.lst false (aA r)) (λ_=>D.bl true) (by rw[fV];rfl) (λa b h=>xu a b h) (λl qO=>?_) (.inr λ_ _=>rfl) (by rw[sL];omega) ?_
  ·walk_at"l3"
   exact⟨l,w,n,rfl,(hR l qO).1,hw,(hR l qO).2,rfl⟩
  ·refine⟨G.map λ_=>true,by unfold sj;rw[dk];rfl,?_⟩
   have e:(G.map λ_=>true).all id=true:=by simp
   rw[e];exact q
noncomputable abbrev aI6:bD:=λds Q=>∃(T:List (List Nat)) (w n:Nat),ds=[.lst false (aN false T),.lst false (aN false T),.int w,.int n]/\T.length<=64/\w<=1000/\RT n w T/\Q (.bl true)
theorem aI7(T:Txt K mg t):aO P w K mg base aY 4 t.GL t.GN ["_law_found","_law_due","_law_wide","_law_many_here"] (bG (aI6 )):=by
 refine cw T.Qn aG8 ?_ ?_
 ·intro ds Q h
  obtain⟨G,w,n,rfl,hG,hw,hR,q⟩:=h<;>rfl
 ·intro aG A outer s H E hr
  refine⟨_,(aL (bc (rA (ae (bA ((az9 T).mono (by decide)) hr rfl T.aA8 T.Qm.kp T.aA9 aZ (aj (bv 0) (aj (ae (dZ (fP) (by rfl) T.fY fI (aj (bv 1) aB))) (aj (bv 2) (aj (bv 3) aB)))))) (qQ (vS (gr (cN hr)) (bv 0) (bv 1) (bW _)))))),λds Q h=>?_⟩
  obtain⟨G,w,n,rfl,hG,hw,hR,q⟩:=h
  walk_at"l3"
  refine⟨G,_,w,n,rfl,rfl,by omega,hw,hR,?_⟩
  refine⟨true,rfl,?_⟩
  rw[if_pos rfl]
  refine⟨⟨fC 4 _ _ _,fC 4 _ _ _⟩,?_⟩
  rw[lN,decide_eq_true rfl]
  exact q
theorem cj1(T:Txt K mg t)(hB:Bm mg base):aO P w K mg base aY 11 t.GO t.GP ["_law_script"] (w9 [t.jC,t.jD] (bG (Nh ))):=by
 refine N4 T.cM0 gz ?_ ?_
 ·intro ds Q h
  obtain⟨ns,rfl,hl,q⟩:=h<;>rfl
 ·intro aG A outer s H E hT hr
  refine⟨_,(aD (bb (i:=1) gz.nd rfl (au rfl) (bA ((aH6 T).mono (by decide)) hr rfl T.aI9 T.PL.kp T.aJ0 aZ (aj (ae (bA ((ki T).mono (by decide)) hr rfl T.kb T.jF.kp T.ke aZ (aj (bv 0) (aj (ae ax) aB)))) aB)))
   (aD (bb (i:=2) gz.nd rfl (au rfl) (Zr hT ((aF8 T hB).mono (by decide)) hr rfl T.aH0 T.P4.kp T.aH1 aZ (aj (bv 1) aB)))
   (aD (bb (i:=3) gz.nd rfl (bu rfl) (aE dD (ae ax) (ae (aE dh (ae (bA ((ki T).mono (by decide)) hr rfl T.kb T.jF.kp T.ke aZ (aj (bv 0) (aj (ae ax) aB)))) (ae ax)))))
   (aD (bb (i:=4) gz.nd rfl (au rfl) (aE dh (ae (bA ((ki T).mono (by decide)) hr rfl T.kb T.jF.kp T.ke aZ (aj (bv 0) (aj (ae ax) aB)))) (ae ax)))
   (aD (cM (cB (gr (cN hr)) (ae (aE dh (ae (aE m9 (ae (bA ((ki T).mono (by decide)) hr rfl T.kb T.jF.kp T.ke aZ (aj (bv 0) (aj (ae ax) aB)))) (ae ax))) (ae ax))) (ae ax) (bW _)) (aD (bb (i:=3) gz.nd rfl (bu rfl) (aE dD (ae ax) (ae (aE dh (ae (aE m9 (ae (bA ((ki T).mono (by decide)) hr rfl T.kb T.jF.kp T.ke aZ (aj (bv 0) (aj (ae ax) aB)))) (ae ax))) (ae ax)))))
    (aL (bb (i:=4) gz.nd rfl (au rfl) (aE dh (bv 4) (ae ax))))) cL)
   (aD (bb (i:=5) gz.nd rfl (au rfl) (bD7 rfl (by rfl) T.cM8 (by rfl) T.cM7 (aj (ae (fg [("_law_wide",3),("_law_script",0)] ["_law_k"] rfl (kU rfl T.iK (aj (bv 4) aB)) (λ_ _ _ _=>(dM (i:=2) (show(["_law_wide","_law_script","_law_k"]:List Str).Nodup by decide +kernel) rfl (au (lookup_relabel_local rfl)) (by decide) (bu (lookup_relabel_local rfl)))) (λ_ _ _ _=>e8) (λ_ _ _ _=>(aE dh (ae (bA ((ki T).mono (by decide)) hr rfl T.kb T.jF.kp T.ke aZ (aj (bv 1) (aj (ae (aE dD (ae ax) (bv 2))) aB)))) (bv 0))) rfl ⟨rfl,⟨rfl,trivial⟩⟩ (λ_=>by repeat' (first | exact trivial | refine⟨.inl rfl,?_⟩ | refine⟨.inr (.inl rfl),?_⟩ | refine⟨.inr (.inr ⟨_,rfl⟩),?_⟩)) (λ_=>⟨⟨rfl,.inl rfl,.inl rfl,_,rfl,rfl⟩,⟨⟨rfl,.inl rfl,.inl rfl,_,rfl,rfl⟩,trivial⟩⟩) rfl (by decide +kernel))) aB)))
   (aD (bb (i:=6) gz.nd rfl (au rfl) (bA ((aE3 T).mono (by decide)) hr rfl T.aF0 T.P5.kp T.aF1 aZ (aj (bv 1) (aj (bv 0) (aj (ae ax) (aj (bv 3) (aj (bv 5) aB)))))))
   (DK 6 (aD (bb (i:=7) gz.nd rfl (au rfl) (dZ (Yb rfl) (by rfl) T.cM6 Wt (aj (ae ax) (aj (ae (aE dD (ae (dZ (fP) (by rfl) T.fY fI (aj (bv 5) aB))) (ae (aE dh (ae (aE m9 (ae (bA ((ki T).mono (by decide)) hr rfl T.kb T.jF.kp T.ke aZ (aj (bv 0) (aj (ae ax) aB)))) (ae ax))) (ae ax))))) aB))))
   (aD (bb (i:=8) gz.nd rfl (au rfl) (bA ((aI4 T).mono (by decide)) hr rfl T.aJ3 T.Qa.kp T.aJ4 aZ (aj (bv 1) (aj (bv 0) (aj (bv 6) (aj (bv 7) (aj (bv 3) (aj (ae (aE m9 (ae (bA ((ki T).mono (by decide)) hr rfl T.kb T.jF.kp T.ke aZ (aj (bv 0) (aj (ae ax) aB)))) (ae ax))) aB))))))))
   (aD (bb (i:=9) gz.nd rfl (au rfl) (bA ((Ha T).mono (by decide)) hr rfl T.GU T.AR.kp T.GV aZ (aj (bv 8) aB)))
   (aD (bb (i:=10) gz.nd rfl (au rfl) (bA ((yc T).mono (by decide)) hr rfl T.xJ T.uE.kp T.xK aZ (aj (bv 2) (aj (bv 9) aB))))
   (aD (cM (PW.pt (m6 (oV (jV (ae (bA ((aI7 T).mono (by decide)) hr rfl T.aJ5 T.Qn.kp T.aJ6 aZ (aj (bv 10) (aj (bv 6) (aj (bv 3) (aj (ae (bA ((Ba T).mono (by decide)) hr rfl T.AO T.xI.kp T.AQ aZ (aj (bv 1) aB))) aB)))))))) (mM (cB (gU (cN hr)) (bv 9) (bv 8) (bW _))))) (aL (bc gO)) cL)
   (aD (bb (i:=11) gz.nd rfl (au rfl) (bA ((QG T).mono (by decide)) hr rfl T.Qh T.GX.kp T.Qi aZ (aj (bv 10) aB)))
   (aD (cM (PW.pt (m6 (oV (jV (ae (v9 (by rfl) T.xZ (by rfl) T.AZ ze (bv 11))))) (mM (cB (gU (cN hr)) (bv 11) (bv 5) (bW _))))) (aL (bc gO)) cL)
   (aD (cM (PW.pt (m6 (oV (jV (ae (dZ (zE rfl) (by rfl) T.AX zd (aj (ae (fg [] ["_law_x"] rfl (kT (bv 11)) (λ_ _ _ _=>(dM (i:=0) (show(["_law_x"]:List Str).Nodup by decide +kernel) rfl (au (lookup_relabel_local rfl)) (by decide) (bu (lookup_relabel_local rfl)))) (λ_ _ _ _=>e8) (λ_ _ _ _=>(bA ((He T).mono (by decide)) hr rfl T.GY T.AS.kp T.GZ aZ (aj (bv 0) aB))) rfl trivial (λ_=>by repeat' (first | exact trivial | refine⟨.inl rfl,?_⟩ | refine⟨.inr (.inl rfl),?_⟩ | refine⟨.inr (.inr ⟨_,rfl⟩),?_⟩)) (λ_=>trivial) rfl (by decide +kernel))) aB))))) (mM (cB (gU (cN hr)) (bv 10) (bv 6) (bW _))))) (aL (bc gO)) cL)
   (aD (pF (i:=10) rfl (by first | exact au rfl | exact bu (au rfl)) (fg [] ["_law_k"] rfl (kU rfl T.iK (aj (bv 3) aB)) (λ_ _ _ _=>(dM (i:=0) (show(["_law_k"]:List Str).Nodup by decide +kernel) rfl (au (lookup_relabel_local rfl)) (by decide) (bu (lookup_relabel_local rfl)))) (λ_ _ _ _=>e8) (λ_ _ _ _=>ax) rfl trivial (λ_=>by repeat' (first | exact trivial | refine⟨.inl rfl,?_⟩ | refine⟨.inr (.inl rfl),?_⟩ | refine⟨.inr (.inr ⟨_,rfl⟩),?_⟩)) (λ_=>trivial) rfl (by decide +kernel)))
   (aD (pF (i:=11) rfl (by first | exact au rfl | exact bu (au rfl)) ax)
   (aD (bb (i:=12) gz.nd rfl (au rfl) (bA ((b70 T).mono (by decide)) hr rfl T.cL0 T.Qj.kp T.cL1 aZ (aj (bv 2) (aj (bv 9) aB))))
   (aD (cM (PW.pt (m6 (oV (jV (ae (bA ((He T).mono (by decide)) hr rfl T.GY T.AS.kp T.GZ aZ (aj (bv 12) aB))))) (mM (cB (gU (cN hr)) (bv 12) (ae (dZ (fP) (by rfl) T.fY fI (aj (bv 5) aB))) (bW _))))) (aL (bc gO)) cL)
   (aD (cM (PW.pt (m6 (cB (gU (cN hr)) (ae (bA ((yc T).mono (by decide)) hr rfl T.xJ T.uE.kp T.xK aZ (aj (bv 2) (aj (bv 9) aB)))) (bv 6) (bW _)) (mM (cB (gU (cN hr)) (ae (bA ((QG T).mono (by decide)) hr rfl T.Qh T.GX.kp T.Qi aZ (aj (ae (bA ((Ha T).mono (by decide)) hr rfl T.GU T.AR.kp T.GV aZ (aj (bv 6) aB))) aB))) (bv 5) (bW _))))) (aL (bc gO)) cL)
   (aL (bc (bA ((aK2 T).mono (by decide)) hr rfl T.aK6 T.Qk.kp T.aK7 aZ (aj (bv 2) (aj (bv 6) aB)))))))))))))))))))))))))),λds Q h=>?_⟩
  obtain⟨ns,rfl,hl,q⟩:=h
  refine aC λU hU=>?_
  walk_at"l3"
  refine⟨ns,0,rfl,by decide,by decide,_,rfl,rfl,hU _ ?_⟩
  clear hU U
  generalize hmm:nG (eD ns 0)=m
  have hm:m∈aK:=by rw[<-hmm];exact ZR _
  have hF:=dE hm
  have kG:=hF.lo
  have hhi:=hF.hi
  have Qv:=EC m hm
  have m0:=dj m hm
  refine aC λU hU=>?_
  walk_at"l3"
  refine⟨m,rfl,hm,hU _ ?_⟩
  clear hU U
  refine aC λU hU=>?_
  walk_at"l3"
  refine⟨ns,1,rfl,by decide,by decide,?_⟩
  dsimp only
  obtain⟨wa,QK,QL,QM⟩:∃k:Nat,1+eD ns 1%6=k/\1<=k/\k<=64:=⟨(1+eD ns 1%6).toNat,by omega,by omega,by omega⟩
  rw[QK]
  refine⟨by decide,hU _ ?_⟩
  clear hU U
  refine aC λU hU=>?_
  walk_at"l3"
  refine⟨ns,2,rfl,by decide,by decide,?_⟩
  dsimp only
  obtain⟨ca,QN,sY⟩:∃k:Nat,eD ns 2%7=k/\k<=6:=⟨(eD ns 2%7).toNat,by omega,by omega⟩
  rw[QN]
  refine⟨by decide,hU _ ?_⟩
  clear hU U
  refine aC λU hU=>?_
  walk_at"l3"
  refine⟨ns,1,rfl,by decide,by decide,?_⟩
  dsimp only
  refine⟨m8 (by decide) (by decide),by decide,?_⟩
  have fin:∀wi ct:Nat,1<=wi->wi<=64->ct<=6->U [some (D.fz (nums ns)),some (cF m),some (fD t.aS t.aW m),some (D.int wi),some (D.int ct),none,none,none,none,none,none,none,none]:=by
   clear QK QL QM QN sY wa ca
   intro wi ct Hc hw hc
   refine hU _ ?_
   clear hU U
   have kj:∀X:List (List Nat),(D.lst true (aN true X)).fr=true:=λX=>by rw[fK,EH];rfl
   have QH:∀X:List (List Nat),(D.lst true (aN true X)).sh=D.lst false (aN false X):=λX=>by rw[dX,fV]
   refine aC λU hU=>?_
   walk_at"l3"
   have uM:∀z:Int,z%(wi:Int)=(((z%(wi:Int)).toNat:Nat):Int):=λz=>by
    have n0:=iM z (show(wi:Int)≠0 by omega)
    omega
   have uN:∀z:Int,(z%(wi:Int)).toNat<wi:=λz=>by
    have n1:=iN z (show(0:Int)<(wi:Int) by omega)
    omega
   refine⟨⟨by omega,by omega⟩,gx (aR ct) (λ(i:Nat)=>D.int (i:Int)) (λk=>D.int (((eD ns (3+(k:Int))%(wi:Int)).toNat:Nat):Int)) (Af _ rfl) nt (λk hk=>?_) (.inr λ_ _=>rfl) (by rw[dR,sL];omega) ?_⟩
   ·have hk:=dO.mp hk
    walk_at"l3"
    refine⟨ns,_,rfl,by omega,by omega,?_⟩
    dsimp only
    exact⟨by omega,uM _⟩
   obtain⟨wd,er,QO,lwd⟩:∃wd:List Nat,((aR ct).map λ(k:Nat)=>D.int (((eD ns (3+(k:Int))%(wi:Int)).toNat:Nat):Int))=aA wd/\(∀h∈wd,h<wi)/\wd.length=ct:=by
    refine⟨(aR ct).map λ(k:Nat)=>(eD ns (3+(k:Int))%(wi:Int)).toNat,by rw[fQ,dk];rfl,λa ha=>?_,by simp⟩
    obtain⟨k,_,rfl⟩:=cn.mp ha
    exact uN _
   rw[er]
   clear er uM uN
   refine⟨_,rfl,by rw[bU];omega,λms h1 h2=>?_⟩
   obtain⟨hs,e1,hp,kX,hle⟩:=cp7 h1 h2
   rw[e1]
   have dJ:∀h∈hs,h<wi:=λh hh=>QO h ((kX h).mp hh)
   clear e1 h1 h2 kX QO ms
   refine hU _ ?_
   clear hU U
   refine aC λU hU=>?_
   walk_at"l3"
   refine⟨m,ns,9,wi,hs,rfl,hm,by decide,hw,by omega,hp,dJ,λA' hA hR I=>⟨kj _,hU _ ?_⟩⟩
   clear hU U
   simp only[kS,i6,i5,oi,oh,mI,exists_eq_left',dX,fV]
   refine aC λU hU=>?_
   walk_at"l3"
   refine⟨ns,2,rfl,by decide,by decide,?_⟩
   dsimp only
   refine⟨m8 (by decide) (by decide),by decide,?_⟩
   obtain⟨n,en,G9,qU,hn3⟩:∃n:Nat,(if(hs.length:Int)+eD ns 2/7%3>1 then(hs.length:Int)+eD ns 2/7%3 else 1)=n/\1<=n/\n<=64/\A'.length<=n:=by
    refine⟨(if(hs.length:Int)+eD ns 2/7%3>1 then(hs.length:Int)+eD ns 2/7%3 else 1).toNat,?_⟩
    split<;>omega
   rw[en]
   refine hU _ ?_
   clear hU U en
   refine aC λU hU=>?_
   walk_at"l3"
   refine⟨ns,2,rfl,by decide,by decide,?_⟩
   dsimp only
   refine⟨m8 (by decide) (by decide),m,ns,A',n,wi,_,rfl,hm,by omega,hR,G9,qU,hw,λTa M=>?_⟩
   refine hU _ ?_
   clear hU U
   obtain⟨wT,rT⟩:=M.red hm hR I (by omega) hn3
   have lT:=M.l
   have hT:RT (ag m) (dv Ta) Ta:=by rw[wT];exact M.r
   have eL:A'.map eB=hs:=by
    rw[I.heads hm hR,hA]
    refine qF (by simp) λi h1 h2=>?_
    rw[qG,Cn]
    exact uL h2
   have nz:∀r∈A',r.length<=1000/\∃x∈r,x≠0:=λr cC=>by
    obtain⟨j,hj,rfl⟩:=hV cC
    refine⟨by rw[(hR _ cC).1];omega,?_⟩
    have:=(I.EW hm hR hj).2
    rw[EY hj]at this
    exact this
   refine aC λU hU=>?_
   walk_at"l3"
   refine⟨Ta,rfl,by omega,kj _,hU _ ?_⟩
   clear hU U
   refine aC λU hU=>?_
   walk_at"l3"
   refine⟨m,Ta,rfl,hm,by omega,hT,by omega,kj _,?_⟩
   rw[rT]
   refine hU _ ?_
   clear hU U
   refine aC λU hU=>?_
   walk_at"l3"
   refine⟨m,rfl,by omega,by omega,A',wi,ag m,rfl,by omega,by omega,hR,rfl,true,rfl,?_⟩
   rw[if_neg (by decide)]
   refine⟨⟨fC 4 _ _ _,fC 4 _ _ _⟩,?_⟩
   rw[lN,decide_eq_true rfl,if_neg (by decide)]
   refine hU _ ?_
   clear hU U
   refine aC λU hU=>?_
   walk_at"l3"
   refine⟨A',rfl,by omega,nz,pW _,?_⟩
   rw[eL]
   refine hU _ ?_
   clear hU U
   refine aC λU hU=>?_
   walk_at"l3"
   rw[if_neg (by simp)]
   refine hU _ ?_
   clear hU U
   refine aC λU hU=>?_
   walk_at"l3"
   refine gx hs (λ(i:Nat)=>D.int (i:Int)) (λ_=>D.bl true) (zM _) nt (λh hh=>?_) (.inr λ_ _=>rfl) (by rw[sL];omega) ?_
   ·walk_at"l3"
    exact⟨_,rfl,rfl⟩
   dsimp only
   refine⟨hs.map λ_=>true,by unfold sj;rw[dk (l:=hs)];rfl,?_⟩
   rw[if_neg (by simp)]
   refine⟨⟨fC 4 _ _ _,fC 4 _ _ _⟩,?_⟩
   rw[lN,decide_eq_true rfl,if_neg (by decide)]
   refine hU _ ?_
   clear hU U
   refine aC λU hU=>?_
   walk_at"l3"
   refine⟨⟨_,rfl⟩,⟨by omega,by omega⟩,OA (n:=wi) rfl (by omega) ⟨_,rfl,by rw[lM];omega,hU _ ?_⟩⟩
   clear hU U
   simp only[i6,i5]
   refine aC λU hU=>?_
   walk_at"l3"
   refine⟨⟨_,rfl⟩,by omega,hU _ ?_⟩
   clear hU U
   generalize (D.lst true (aN true A'++[D.lst true (aA (bh wi 0))]))=dF6
   generalize (D.lst true (aA hs++[D.int 0]))=dF7
   refine aC λU hU=>?_
   walk_at"l3"
   refine⟨m,Ta,rfl,hm,by omega,hT,by omega,?_⟩
   rw[rT]
   refine⟨rfl,hU _ ?_⟩
   clear hU U
   rw[hA]
   refine aC λU hU=>?_
   walk_at"l3"
   refine⟨_,rfl,_,rfl,?_⟩
   rw[if_neg (by decide),if_neg (by simp)]
   refine hU _ ?_
   clear hU U
   refine aC λU hU=>?_
   walk_at"l3"
   refine⟨m,Ta,rfl,hm,by omega,hT,by omega,kj _,?_⟩
   rw[rT]
   refine⟨⟨fC 4 _ _ _,fC 4 _ _ _⟩,?_⟩
   rw[lN,decide_eq_true rfl,if_neg (by decide)]
   refine⟨A',rfl,by omega,A',by rw[QH],by omega,nz,by rw[pW,oj],EE 5 true _,?_⟩
   rw[eL,xt,decide_eq_true rfl,if_neg (by decide)]
   refine hU _ ?_
   clear hU U
   walk_at"l3"
   exact⟨m,A',wi,_,rfl,hm,by omega,hR,I,Hc,hw,q⟩
  split
  ·refine aC λU hU=>?_
   walk_at"l3"
   refine⟨ns,1,rfl,by decide,by decide,?_⟩
   dsimp only
   obtain⟨wb,ewb,cV4,cV5⟩:∃k:Nat,1+eD ns 1/48%64=k/\1<=k/\k<=64:=⟨(1+eD ns 1/48%64).toNat,by omega,by omega,by omega⟩
   rw[ewb]
   refine⟨m8 (by decide) (by decide),by decide,hU _ ?_⟩
   walk_at"l3"
   refine⟨by decide,?_⟩
   rw[show((ca:Int)%3)=((ca%3:Nat):Int) by omega]
   exact fin wb (ca%3) cV4 cV5 (by omega)
  ·exact fin wa ca QL QM sY
end
set_option maxHeartbeats 0 in
theorem all_mk{l:PySem.W.OpenLaw}{w:World}{K:Frag}{h:Heap}{mg:Str->Option Value}{fa:Addr}{ts:List Addr}(X:K.In h)(G:h.Ns mainGlobals mg)(hfa:mg "law"=some (.ref fa))
  {od0 an0:Option Addr} {sl0:Array (Option Value)} {oc0 kV0 dc0 pm0 QP ct0:Value} {f0:Addr}
  {od1 an1:Option Addr} {sl1:Array (Option Value)} {oc1 kV1 dc1 pm1 QQ ct1:Value} {f1:Addr}
  {od2 an2:Option Addr} {sl2:Array (Option Value)} {oc2 kV2 dc2 pm2 QR ct2:Value} {f2:Addr}
  {od3 an3:Option Addr} {sl3:Array (Option Value)} {oc3 kV3 dc3 pm3 QS ct3:Value} {f3:Addr}
  {od4 an4:Option Addr} {sl4:Array (Option Value)} {oc4 kV4 dc4 pm4 QT ct4:Value} {f4:Addr}
  {od5 an5:Option Addr} {sl5:Array (Option Value)} {oc5 kV5 dc5 pm5 QU ct5:Value} {f5:Addr}
  {od6 an6:Option Addr} {sl6:Array (Option Value)} {oc6 kV6 dc6 pm6 QV ct6:Value} {f6:Addr}
  {od7 an7:Option Addr} {sl7:Array (Option Value)} {oc7 kV7 dc7 pm7 ct7:Value} {f7:Addr}
  {yd jC:Addr} {aA0:Option Addr} {aA1:Array (Option Value)} {QW:Array Value} {aA2:Value}
  {od8 an8:Option Addr} {sl8:Array (Option Value)} {oc8 kV8 dc8 pm8 QX ct8:Value} {f8:Addr}
  {od9 an9:Option Addr} {sl9:Array (Option Value)} {oc9 kV9 dc9 pm9 QY ct9:Value} {f9:Addr}
  {c71 c72:Option Addr} {c73:Array (Option Value)} {c74 c75 c76 c77 QZ c78:Value} {Bc:Addr}
  {c79 c80:Option Addr} {c81:Array (Option Value)} {c82 c83 c84 c85 Q0 c86:Value} {Bd:Addr}
  {c87 c88:Option Addr} {c89:Array (Option Value)} {c90 c91 c92 c93 Q1 c94:Value} {jX:Addr}
  {c95 c96:Option Addr} {c97:Array (Option Value)} {c98 c99 da0 da1 da2:Value} {uQ:Addr}
  {ye jD:Addr} {aC1:Option Addr} {aC2:Array (Option Value)} {Q2:Array Value} {aC3:Value}
  {da6 da7:Option Addr} {da8:Array (Option Value)} {da9 db0 db1 db2 Q3 db3:Value} {Be:Addr}
  {db4 db5:Option Addr} {db6:Array (Option Value)} {db7 db8 db9 dd0 Q4 dd1:Value} {Bf:Addr}
  {dd2 dd3:Option Addr} {dd4:Array (Option Value)} {dd5 dd6 dd7 dd8 Q5 dd9:Value} {Bg:Addr}
  {de0 de1:Option Addr} {de2:Array (Option Value)} {de3 de4 de5 de6 Q6 de7:Value} {Bh:Addr}
  {de8 de9:Option Addr} {df0:Array (Option Value)} {df1 df2 df3 df4 Q7 df5:Value} {Bi:Addr}
  {df6 df7:Option Addr} {df8:Array (Option Value)} {df9 dg0 dg1 dg2 Q8 dg3:Value} {Bj:Addr}
  {dg4 dg5:Option Addr} {dg6:Array (Option Value)} {dg7 dg8 dg9 dh0 Q9 dh1:Value} {Bk:Addr}
  {dh2 dh3:Option Addr} {dh4:Array (Option Value)} {dh5 dh6 dh7 dh8 Ra dh9:Value} {Bl:Addr}
  {di0 di1:Option Addr} {di2:Array (Option Value)} {di3 di4 di5 di6 Rb di7:Value} {Bo:Addr}
  {di8 di9:Option Addr} {dj0:Array (Option Value)} {dj1 dj2 dj3 dj4 Rc dj5:Value} {Bp:Addr}
  {dj6 dj7:Option Addr} {dj8:Array (Option Value)} {dj9 dk0 dk1 dk2 Rh dk3:Value} {rO:Addr}
  {dk4 dk5:Option Addr} {dk6:Array (Option Value)} {dk7 dk8 dk9 dl0 Ri dl1:Value} {Bq:Addr}
  {dl2 dl3:Option Addr} {dl4:Array (Option Value)} {dl5 dl6 dl7 dl8 Rj dl9:Value} {uR:Addr}
  {dm0 dm1:Option Addr} {dm2:Array (Option Value)} {dm3 dm4 dm5 dm6 Rk dm7:Value} {uS:Addr}
  {dm8 dm9:Option Addr} {dn0:Array (Option Value)} {dn1 dn2 dn3 dn4 Rl dn5:Value} {uT:Addr}
  {dn6 dn7:Option Addr} {dn8:Array (Option Value)} {dn9 do0 do1 do2 Rm do3:Value} {uU:Addr}
  {do4 do5:Option Addr} {do6:Array (Option Value)} {do7 do8 do9 dp0 Rn dp1:Value} {Br:Addr}
  {dp2 dp3:Option Addr} {dp4:Array (Option Value)} {dp5 dp6 dp7 dp8 Ro dp9:Value} {nU:Addr}
  {dq0 dq1:Option Addr} {dq2:Array (Option Value)} {dq3 dq4 dq5 dq6 Rp dq7:Value} {Bt:Addr}
  {dq8 dq9:Option Addr} {dr0:Array (Option Value)} {dr1 dr3 dr4 dr5 Rq dr6:Value} {Bu:Addr}
  {dr7 dr8:Option Addr} {dr9:Array (Option Value)} {ds0 ds1 ds2 ds3 Rt ds4:Value} {Bv:Addr}
  {ds5 ds6:Option Addr} {ds7:Array (Option Value)} {ds8 ds9 dt0 dt1 Ru dt2:Value} {Bw:Addr}
  {dt3 dt4:Option Addr} {dt5:Array (Option Value)} {dt6 dt7 dt8 dt9 Rv du0:Value} {Bz:Addr}
  {du1 du2:Option Addr} {du3:Array (Option Value)} {du4 du5 du6 du7 Rw du8:Value} {BA:Addr}
  {du9 dv0:Option Addr} {dv1:Array (Option Value)} {dv2 dv3 dv4 dv5 Rx dv6:Value} {BB:Addr}
  {dv7 dv8:Option Addr} {dv9:Array (Option Value)} {dw0 dw1 dw2 dw3 Ry dw4:Value} {BC:Addr}
  {dw5 Rz:Option Addr} {dw6:Array (Option Value)} {dw7 RA RB RC Hf RD:Value} {Hg:Addr}
  {aS fX jE aW:Addr}
  (x6:nsIn K mainGlobals "BitField"=some (some (.ref aS)))
  (x8:nsIn K mainGlobals "ByNought"=some (some (.ref fX)))
  (uK:nsIn K mainGlobals "Field"=some (some (.ref jE)))
  (x9:nsIn K mainGlobals "PrimeField"=some (some (.ref aW)))
  (a0:nsIn K mainGlobals "_law_told"=some (some (.ref f0)))
  (l0:K.lookup f0=some ⟨oc0,od0,.func (fnOf "_law_told" "_law_told" (bC tL) (br tL) (az tL) .none kV0 dc0 pm0 an0 QP ct0),sl0⟩)
  (c0:codeIn K QP "_law_told"=true)
  (k0:keepIn K (.ref f0)=true)
  (a1:nsIn K mainGlobals "powers_of"=some (some (.ref f1)))
  (l1:K.lookup f1=some ⟨oc1,od1,.func (fnOf "powers_of" "powers_of" (bC tM) (br tM) (az tM) .none kV1 dc1 pm1 an1 QQ ct1),sl1⟩)
  (c1:codeIn K QQ "powers_of"=true)
  (k1:keepIn K (.ref f1)=true)
  (a2:nsIn K mainGlobals "step_powers"=some (some (.ref f2)))
  (l2:K.lookup f2=some ⟨oc2,od2,.func (fnOf "step_powers" "step_powers" (bC tN) (br tN) (az tN) .none kV2 dc2 pm2 an2 QR ct2),sl2⟩)
  (c2:codeIn K QR "step_powers"=true)
  (k2:keepIn K (.ref f2)=true)
  (a3:nsIn K mainGlobals "logs_of"=some (some (.ref f3)))
  (l3:K.lookup f3=some ⟨oc3,od3,.func (fnOf "logs_of" "logs_of" (bC tO) (br tO) (az tO) .none kV3 dc3 pm3 an3 QS ct3),sl3⟩)
  (c3:codeIn K QS "logs_of"=true)
  (k3:keepIn K (.ref f3)=true)
  (a4:findIn K (.ref jE) "step_power"=some (some (.ref f4)))
  (l4:K.lookup f4=some ⟨oc4,od4,.func (fnOf "step_power" "Field.step_power" (bC tP) (br tP) (az tP) .none kV4 dc4 pm4 an4 QT ct4),sl4⟩)
  (c4:codeIn K QT "Field.step_power"=true)
  (k4:keepIn K (.ref f4)=true)
  (a5:findIn K (.ref jE) "__init__"=some (some (.ref f5)))
  (l5:K.lookup f5=some ⟨oc5,od5,.func (fnOf "__init__" "Field.__init__" (bC tQ) (br tQ) (az tQ) .none kV5 dc5 pm5 an5 QU ct5),sl5⟩)
  (c5:codeIn K QU "Field.__init__"=true)
  (k5:keepIn K (.ref f5)=true)
  (a6:nsIn K mainGlobals "makes_prime_field"=some (some (.ref f6)))
  (l6:K.lookup f6=some ⟨oc6,od6,.func (fnOf "makes_prime_field" "makes_prime_field" (bC tR) (br tR) (az tR) .none kV6 dc6 pm6 an6 QV ct6),sl6⟩)
  (c6:codeIn K QV "makes_prime_field"=true)
  (k6:keepIn K (.ref f6)=true)
  (a7:findIn K (.ref aW) "__init__"=some (some (.ref f7)))
  (l7:K.lookup f7=some ⟨oc7,od7,.func (fnOf "__init__" "PrimeField.__init__" (bC me) (br me) (az me) .none kV7 dc7 pm7 an7 (.ref yd) ct7),sl7⟩)
  (c7:codeIn K (.ref yd) "PrimeField.__init__"=true)
  (k7:keepIn K (.ref f7)=true)
  (RE:K.lookup yd=some ⟨aA2,aA0,.fields QW,aA1⟩)
  (RF:QW[11]?=some (.ref jC))
  (Hh:codeHdIn K yd jC=true)
  (a8:nsIn K mainGlobals "product_rows"=some (some (.ref f8)))
  (l8:K.lookup f8=some ⟨oc8,od8,.func (fnOf "product_rows" "product_rows" (bC tS) (br tS) (az tS) .none kV8 dc8 pm8 an8 QX ct8),sl8⟩)
  (c8:codeIn K QX "product_rows"=true)
  (k8:keepIn K (.ref f8)=true)
  (a9:nsIn K mainGlobals "bits_divided"=some (some (.ref f9)))
  (l9:K.lookup f9=some ⟨oc9,od9,.func (fnOf "bits_divided" "bits_divided" (bC tT) (br tT) (az tT) .none kV9 dc9 pm9 an9 QY ct9),sl9⟩)
  (c9:codeIn K QY "bits_divided"=true)
  (k9:keepIn K (.ref f9)=true)
  (Hi:nsIn K mainGlobals "stands_alone"=some (some (.ref Bc)))
  (Hj:K.lookup Bc=some ⟨c74,c71,.func (fnOf "stands_alone" "stands_alone" (bC tV) (br tV) (az tV) .none c75 c76 c77 c72 QZ c78),c73⟩)
  (Hk:codeIn K QZ "stands_alone"=true)
  (Hl:keepIn K (.ref Bc)=true)
  (Hm:nsIn K mainGlobals "makes_bit_field"=some (some (.ref Bd)))
  (Ho:K.lookup Bd=some ⟨c82,c79,.func (fnOf "makes_bit_field" "makes_bit_field" (bC tW) (br tW) (az tW) .none c83 c84 c85 c80 Q0 c86),c81⟩)
  (Hq:codeIn K Q0 "makes_bit_field"=true)
  (Hr:keepIn K (.ref Bd)=true)
  (Hs:nsIn K mainGlobals "bits_times"=some (some (.ref jX)))
  (Ht:K.lookup jX=some ⟨c90,c87,.func (fnOf "bits_times" "bits_times" (bC tX) (br tX) (az tX) .none c91 c92 c93 c88 Q1 c94),c89⟩)
  (Hu:codeIn K Q1 "bits_times"=true)
  (Hv:keepIn K (.ref jX)=true)
  (RG:findIn K (.ref aS) "__init__"=some (some (.ref uQ)))
  (Hw:K.lookup uQ=some ⟨c98,c95,.func (fnOf "__init__" "BitField.__init__" (bC mf) (br mf) (az mf) .none c99 da0 da1 c96 (.ref ye) da2),c97⟩)
  (Hx:codeIn K (.ref ye) "BitField.__init__"=true)
  (Hy:keepIn K (.ref uQ)=true)
  (RH:K.lookup ye=some ⟨aC3,aC1,.fields Q2,aC2⟩)
  (RI:Q2[11]?=some (.ref jD))
  (Hz:codeHdIn K ye jD=true)
  (HA:nsIn K mainGlobals "_law_field"=some (some (.ref Be)))
  (HB:K.lookup Be=some ⟨da9,da6,.func (fnOf "_law_field" "_law_field" (bC tY) (br tY) (az tY) .none db0 db1 db2 da7 Q3 db3),da8⟩)
  (HC:codeIn K Q3 "_law_field"=true)
  (HD:keepIn K (.ref Be)=true)
  (HE:nsIn K mainGlobals "_law_cell"=some (some (.ref Bf)))
  (HF:K.lookup Bf=some ⟨db7,db4,.func (fnOf "_law_cell" "_law_cell" (bC tZ) (br tZ) (az tZ) .none db8 db9 dd0 db5 Q4 dd1),db6⟩)
  (HG:codeIn K Q4 "_law_cell"=true)
  (HH:keepIn K (.ref Bf)=true)
  (HI:nsIn K mainGlobals "_law_many"=some (some (.ref Bg)))
  (HJ:K.lookup Bg=some ⟨dd5,dd2,.func (fnOf "_law_many" "_law_many" (bC t7) (br t7) (az t7) .none dd6 dd7 dd8 dd3 Q5 dd9),dd4⟩)
  (HK:codeIn K Q5 "_law_many"=true)
  (HL:keepIn K (.ref Bg)=true)
  (HM:nsIn K mainGlobals "_law_answer"=some (some (.ref Bh)))
  (HN:K.lookup Bh=some ⟨de3,de0,.func (fnOf "_law_answer" "_law_answer" (bC t8) (br t8) (az t8) .none de4 de5 de6 de1 Q6 de7),de2⟩)
  (HP:codeIn K Q6 "_law_answer"=true)
  (HQ:keepIn K (.ref Bh)=true)
  (HR:nsIn K mainGlobals "_law_plus"=some (some (.ref Bi)))
  (HS:K.lookup Bi=some ⟨df1,de8,.func (fnOf "_law_plus" "_law_plus" (bC t9) (br t9) (az t9) .none df2 df3 df4 de9 Q7 df5),df0⟩)
  (HU:codeIn K Q7 "_law_plus"=true)
  (HV:keepIn K (.ref Bi)=true)
  (HW:nsIn K mainGlobals "_law_times"=some (some (.ref Bj)))
  (HX:K.lookup Bj=some ⟨df9,df6,.func (fnOf "_law_times" "_law_times" (bC ua) (br ua) (az ua) .none dg0 dg1 dg2 df7 Q8 dg3),df8⟩)
  (HY:codeIn K Q8 "_law_times"=true)
  (HZ:keepIn K (.ref Bj)=true)
  (Ia:nsIn K mainGlobals "_law_dot"=some (some (.ref Bk)))
  (Ib:K.lookup Bk=some ⟨dg7,dg4,.func (fnOf "_law_dot" "_law_dot" (bC ud) (br ud) (az ud) .none dg8 dg9 dh0 dg5 Q9 dh1),dg6⟩)
  (Ic:codeIn K Q9 "_law_dot"=true)
  (Ie:keepIn K (.ref Bk)=true)
  (Ig:nsIn K mainGlobals "_law_by_row"=some (some (.ref Bl)))
  (Ih:K.lookup Bl=some ⟨dh5,dh2,.func (fnOf "_law_by_row" "_law_by_row" (bC ue) (br ue) (az ue) .none dh6 dh7 dh8 dh3 Ra dh9),dh4⟩)
  (Ii:codeIn K Ra "_law_by_row"=true)
  (Ij:keepIn K (.ref Bl)=true)
  (Ik:nsIn K mainGlobals "_law_made"=some (some (.ref Bo)))
  (Il:K.lookup Bo=some ⟨di3,di0,.func (fnOf "_law_made" "_law_made" (bC uf) (br uf) (az uf) .none di4 di5 di6 di1 Rb di7),di2⟩)
  (Im:codeIn K Rb "_law_made"=true)
  (Io:keepIn K (.ref Bo)=true)
  (Ip:nsIn K mainGlobals "_law_copy"=some (some (.ref Bp)))
  (Iq:K.lookup Bp=some ⟨dj1,di8,.func (fnOf "_law_copy" "_law_copy" (bC ug) (br ug) (az ug) .none dj2 dj3 dj4 di9 Rc dj5),dj0⟩)
  (Ir:codeIn K Rc "_law_copy"=true)
  (Iu:keepIn K (.ref Bp)=true)
  (Iw:nsIn K mainGlobals "width_of"=some (some (.ref rO)))
  (Iy:K.lookup rO=some ⟨dj9,dj6,.func (fnOf "width_of" "width_of" (bC uh) (br uh) (az uh) .none dk0 dk1 dk2 dj7 Rh dk3),dj8⟩)
  (Iz:codeIn K Rh "width_of"=true)
  (IA:keepIn K (.ref rO)=true)
  (IB:nsIn K mainGlobals "first_with"=some (some (.ref Bq)))
  (IC:K.lookup Bq=some ⟨dk7,dk4,.func (fnOf "first_with" "first_with" (bC ui) (br ui) (az ui) .none dk8 dk9 dl0 dk5 Ri dl1),dk6⟩)
  (ID:codeIn K Ri "first_with"=true)
  (IE:keepIn K (.ref Bq)=true)
  (RJ:findIn K (.ref aS) "scaled"=some (some (.ref uR)))
  (IF:K.lookup uR=some ⟨dl5,dl2,.func (fnOf "scaled" "BitField.scaled" (bC uj) (br uj) (az uj) .none dl6 dl7 dl8 dl3 Rj dl9),dl4⟩)
  (IG:codeIn K Rj "BitField.scaled"=true)
  (BD:keepIn K (.ref uR)=true)
  (RK:findIn K (.ref aW) "scaled"=some (some (.ref uS)))
  (IH:K.lookup uS=some ⟨dm3,dm0,.func (fnOf "scaled" "PrimeField.scaled" (bC uk) (br uk) (az uk) .none dm4 dm5 dm6 dm1 Rk dm7),dm2⟩)
  (II:codeIn K Rk "PrimeField.scaled"=true)
  (BE:keepIn K (.ref uS)=true)
  (RL:findIn K (.ref aS) "lessened"=some (some (.ref uT)))
  (IJ:K.lookup uT=some ⟨dn1,dm8,.func (fnOf "lessened" "BitField.lessened" (bC um) (br um) (az um) .none dn2 dn3 dn4 dm9 Rl dn5),dn0⟩)
  (IK:codeIn K Rl "BitField.lessened"=true)
  (BF:keepIn K (.ref uT)=true)
  (RM:findIn K (.ref aW) "lessened"=some (some (.ref uU)))
  (IL:K.lookup uU=some ⟨dn9,dn6,.func (fnOf "lessened" "PrimeField.lessened" (bC uo) (br uo) (az uo) .none do0 do1 do2 dn7 Rm do3),dn8⟩)
  (IM:codeIn K Rm "PrimeField.lessened"=true)
  (BG:keepIn K (.ref uU)=true)
  (IQ:nsIn K mainGlobals "cleared"=some (some (.ref Br)))
  (IS:K.lookup Br=some ⟨do7,do4,.func (fnOf "cleared" "cleared" (bC uq) (br uq) (az uq) .none do8 do9 dp0 do5 Rn dp1),do6⟩)
  (IT:codeIn K Rn "cleared"=true)
  (IU:keepIn K (.ref Br)=true)
  (RN:findIn K (.ref jE) "over"=some (some (.ref nU)))
  (IV:K.lookup nU=some ⟨dp5,dp2,.func (fnOf "over" "Field.over" (bC ur) (br ur) (az ur) .none dp6 dp7 dp8 dp3 Ro dp9),dp4⟩)
  (IW:codeIn K Ro "Field.over"=true)
  (yf:keepIn K (.ref nU)=true)
  (IY:nsIn K mainGlobals "reduced"=some (some (.ref Bt)))
  (IZ:K.lookup Bt=some ⟨dq3,dq0,.func (fnOf "reduced" "reduced" (bC uu) (br uu) (az uu) .none dq4 dq5 dq6 dq1 Rp dq7),dq2⟩)
  (Ja:codeIn K Rp "reduced"=true)
  (Jb:keepIn K (.ref Bt)=true)
  (Jc:nsIn K mainGlobals "leads"=some (some (.ref Bu)))
  (Jd:K.lookup Bu=some ⟨dr1,dq8,.func (fnOf "leads" "leads" (bC uv) (br uv) (az uv) .none dr3 dr4 dr5 dq9 Rq dr6),dr0⟩)
  (Je:codeIn K Rq "leads"=true)
  (Jf:keepIn K (.ref Bu)=true)
  (Jg:nsIn K mainGlobals "rank"=some (some (.ref Bv)))
  (Jh:K.lookup Bv=some ⟨ds0,dr7,.func (fnOf "rank" "rank" (bC uw) (br uw) (az uw) .none ds1 ds2 ds3 dr8 Rt ds4),dr9⟩)
  (Ji:codeIn K Rt "rank"=true)
  (Jj:keepIn K (.ref Bv)=true)
  (Jk:nsIn K mainGlobals "_law_own"=some (some (.ref Bw)))
  (Jl:K.lookup Bw=some ⟨ds8,ds5,.func (fnOf "_law_own" "_law_own" (bC uz) (br uz) (az uz) .none ds9 dt0 dt1 ds6 Ru dt2),ds7⟩)
  (Jm:codeIn K Ru "_law_own"=true)
  (Jn:keepIn K (.ref Bw)=true)
  (Jo:nsIn K mainGlobals "_law_whole"=some (some (.ref Bz)))
  (Jp:K.lookup Bz=some ⟨dt6,dt3,.func (fnOf "_law_whole" "_law_whole" (bC uA) (br uA) (az uA) .none dt7 dt8 dt9 dt4 Rv du0),dt5⟩)
  (Jq:codeIn K Rv "_law_whole"=true)
  (Jr:keepIn K (.ref Bz)=true)
  (Js:nsIn K mainGlobals "_law_row_kind"=some (some (.ref BA)))
  (Jt:K.lookup BA=some ⟨du4,du1,.func (fnOf "_law_row_kind" "_law_row_kind" (bC uB) (br uB) (az uB) .none du5 du6 du7 du2 Rw du8),du3⟩)
  (Ju:codeIn K Rw "_law_row_kind"=true)
  (Jv:keepIn K (.ref BA)=true)
  (Jw:nsIn K mainGlobals "_law_table_kind"=some (some (.ref BB)))
  (Jx:K.lookup BB=some ⟨dv2,du9,.func (fnOf "_law_table_kind" "_law_table_kind" (bC uC) (br uC) (az uC) .none dv3 dv4 dv5 dv0 Rx dv6),dv1⟩)
  (Jy:codeIn K Rx "_law_table_kind"=true)
  (Jz:keepIn K (.ref BB)=true)
  (JA:nsIn K mainGlobals "_law_same"=some (some (.ref BC)))
  (JB:K.lookup BC=some ⟨dw0,dv7,.func (fnOf "_law_same" "_law_same" (bC uD) (br uD) (az uD) .none dw1 dw2 dw3 dv8 Ry dw4),dv9⟩)
  (JC:codeIn K Ry "_law_same"=true)
  (JE:keepIn K (.ref BC)=true)
  (BH:nsIn K mainGlobals "law"=some (some (.ref Hg)))
  (JF:K.lookup Hg=some ⟨dw7,dw5,.func (fnOf "law" "law" (bC mh) (br mh) (az mh) .none RA RB RC Rz Hf RD),dw6⟩)
  (JG:codeIn K Hf "law"=true)
  (JH:keepIn K (.ref Hg)=true)
  (BJ:PySem.W.plainGet K aS Str.empty=true)
  (BK:PySem.W.hasDictIn K aS=true)
  (BL:PySem.W.plainOver K aS=true)
  (BM:findIn K (.ref aS) "__setattr__"=some (some (.builtin "object.__setattr__")))
  (xM:PySem.W.makesIn K aS=true)
  (JI:findIn K (.ref aS) "__init__"=some (some (.ref uQ)))
  (JJ:isFn K (.ref uQ)=true)
  (JK:keepIn K (.ref aS)=true)
  (JL:findIn K (.ref aS) "__class__"=some (some (.builtin "object.__class__")))
  (JM:specialIn K (.builtin "object.__class__") "__get__"=some (some (.builtin "getset_descriptor.__get__")))
  (JN:takesIn K (.builtin "object.__class__")=some true)
  (JO:mroIn K aS (.type "object")=some true)
  (xN:findIn K (.ref aS) "bits"=some none)
  (nO:findIn K (.ref aS) "logs"=some none)
  (uF:findIn K (.ref aS) "many"=some none)
  (qe:findIn K (.ref aS) "powers"=some none)
  (AU:findIn K (.ref aS) "prime"=some none)
  (qf:findIn K (.ref aS) "products"=some none)
  (xO:findIn K (.ref aS) "step"=some none)
  (xP:findIn K (.ref aS) "wide"=some none)
  (xQ:findIn K (.ref aS) "lessened"=some (some (.ref uT)))
  (JP:isFn K (.ref uT)=true)
  (xR:findIn K (.ref aS) "over"=some (some (.ref nU)))
  (JQ:isFn K (.ref nU)=true)
  (xS:findIn K (.ref aS) "scaled"=some (some (.ref uR)))
  (JR:isFn K (.ref uR)=true)
  (uG:findIn K (.ref aS) "step_power"=some (some (.ref f4)))
  (JS:isFn K (.ref f4)=true)
  (BN:PySem.W.plainGet K aW Str.empty=true)
  (BO:PySem.W.hasDictIn K aW=true)
  (BP:PySem.W.plainOver K aW=true)
  (BQ:findIn K (.ref aW) "__setattr__"=some (some (.builtin "object.__setattr__")))
  (xT:PySem.W.makesIn K aW=true)
  (JT:findIn K (.ref aW) "__init__"=some (some (.ref f7)))
  (JU:isFn K (.ref f7)=true)
  (JV:keepIn K (.ref aW)=true)
  (JW:findIn K (.ref aW) "__class__"=some (some (.builtin "object.__class__")))
  (JX:specialIn K (.builtin "object.__class__") "__get__"=some (some (.builtin "getset_descriptor.__get__")))
  (JY:takesIn K (.builtin "object.__class__")=some true)
  (JZ:mroIn K aW (.type "object")=some true)
  (AV:findIn K (.ref aW) "bits"=some none)
  (qg:findIn K (.ref aW) "logs"=some none)
  (uH:findIn K (.ref aW) "many"=some none)
  (uI:findIn K (.ref aW) "powers"=some none)
  (qh:findIn K (.ref aW) "prime"=some none)
  (AW:findIn K (.ref aW) "products"=some none)
  (xU:findIn K (.ref aW) "step"=some none)
  (xV:findIn K (.ref aW) "wide"=some none)
  (xW:findIn K (.ref aW) "lessened"=some (some (.ref uU)))
  (J0:isFn K (.ref uU)=true)
  (xX:findIn K (.ref aW) "over"=some (some (.ref nU)))
  (J1:isFn K (.ref nU)=true)
  (xY:findIn K (.ref aW) "scaled"=some (some (.ref uS)))
  (J2:isFn K (.ref uS)=true)
  (uJ:findIn K (.ref aW) "step_power"=some (some (.ref f4)))
  (J3:isFn K (.ref f4)=true)
  (J4:specialIn K (.ref jE) "__getattribute__"=some (some (.builtin "type.__getattribute__")))
  (J5:PySem.W.readsIn K jE (.type "type")=true)
  (J6:PySem.W.findCls K (.ref jE) (.type "type") "__init__"=some (.val (.ref f5)))
  (J7:nsIn K mainGlobals "all"=some none)
  (J8:nsIn K mainGlobals "bool"=some none)
  (J9:nsIn K mainGlobals "enumerate"=some none)
  (Ka:nsIn K mainGlobals "int"=some none)
  (Kb:nsIn K mainGlobals "isinstance"=some none)
  (Kd:nsIn K mainGlobals "len"=some none)
  (Ke:nsIn K mainGlobals "list"=some none)
  (Kf:nsIn K mainGlobals "max"=some none)
  (Kg:nsIn K mainGlobals "range"=some none)
  (Kh:nsIn K mainGlobals "set"=some none)
  (Ki:nsIn K mainGlobals "sorted"=some none)
  (Kj:nsIn K mainGlobals "zip"=some none)
  (Kk:(PySem.W.clsIn K fX).isSome=true)
  (RO:PySem.W.typeIn K (.ref fX)=some (.type "type"))
  (Kl:PySem.W.excIn K fX [.type "ValueError",.type "Exception",.type "BaseException",.type "object"] "ValueError.__new__"=true)
  (Km:findIn K (.ref fX) "__getattribute__"=some (some (.builtin "BaseException.__getattribute__")))
  (Kn:findIn K (.ref fX) "__getattr__"=some none)
  (Ko:findIn K (.ref fX) "__class__"=some (some (.builtin "object.__class__")))
  (at2:specialIn K (.builtin "object.__class__") "__get__"=some (some (.builtin "getset_descriptor.__get__")))
  (Kp:takesIn K (.builtin "object.__class__")=some true)
  (Kq:mroIn K fX (.type "object")=some true)
  (Kr:mroIn K fX (.type "BaseException")=some true)
  (nl:K.all (λp=>DZ p.2)=true)
  (sub:∀P∈[jC,jD],P∈ts) :
  ∃fd:FuncData,(∀(s:Shared) (v:Value),BindsTo s fd ⟨[v],[]⟩ [("_law_script",v)])/\∀base:Heap,K.In base->base.Ns mainGlobals mg->Bm mg base->aO l.prog w K mg base aY 11 fa fd ["_law_script"] (zP ts K):=by
 have e:=hfa.symm.trans (mg_of X G BH)
 cases e
 have F0:=bN (st:=tL) l0 c0 k0
 have b0:=F0.binds (ps:=["_law_cell_here"]) λ_ _ _ _ _ _=>iJ (λ_=>rfl)
 have F1:=bN (st:=tM) l1 c1 k1
 have b1:=F1.binds (ps:=["a","product"]) λ_ _ _ _ _ _=>gY (λ_ _=>rfl)
 have F2:=bN (st:=tN) l2 c2 k2
 have b2:=F2.binds (ps:=["many","product"]) λ_ _ _ _ _ _=>gY (λ_ _=>rfl)
 have F3:=bN (st:=tO) l3 c3 k3
 have b3:=F3.binds (ps:=["powers"]) λ_ _ _ _ _ _=>iJ (λ_=>rfl)
 have F4:=bN (st:=tP) l4 c4 k4
 have b4:=F4.binds (ps:=["self","n"]) λ_ _ _ _ _ _=>gY (λ_ _=>rfl)
 have F5:=bN (st:=tQ) l5 c5 k5
 have b5:=F5.binds (ps:=["self","many","product"]) λ_ _ _ _ _ _=>lY (λ_ _ _=>rfl)
 have F6:=bN (st:=tR) l6 c6 k6
 have b6:=F6.binds (ps:=["prime"]) λ_ _ _ _ _ _=>iJ (λ_=>rfl)
 have F7:=bN (st:=me) l7 c7 k7
 have b7:=F7.binds (ps:=["self","prime"]) λ_ _ _ _ _ _=>gY (λ_ _=>rfl)
 have F8:=bN (st:=tS) l8 c8 k8
 have b8:=F8.binds (ps:=["powers","logs"]) λ_ _ _ _ _ _=>gY (λ_ _=>rfl)
 have F9:=bN (st:=tT) l9 c9 k9
 have b9:=F9.binds (ps:=["a","b"]) λ_ _ _ _ _ _=>gY (λ_ _=>rfl)
 have RP:=bN (st:=tV) Hj Hk Hl
 have b10:=RP.binds (ps:=["a"]) λ_ _ _ _ _ _=>iJ (λ_=>rfl)
 have RQ:=bN (st:=tW) Ho Hq Hr
 have b11:=RQ.binds (ps:=["bits"]) λ_ _ _ _ _ _=>iJ (λ_=>rfl)
 have RU:=bN (st:=tX) Ht Hu Hv
 have b12:=RU.binds (ps:=["a","b"]) λ_ _ _ _ _ _=>gY (λ_ _=>rfl)
 have RV:=bN (st:=mf) Hw Hx Hy
 have b13:=RV.binds (ps:=["self","bits"]) λ_ _ _ _ _ _=>gY (λ_ _=>rfl)
 have RW:=bN (st:=tY) HB HC HD
 have b14:=RW.binds (ps:=["_law_told_here"]) λ_ _ _ _ _ _=>iJ (λ_=>rfl)
 have RX:=bN (st:=tZ) HF HG HH
 have b15:=RX.binds (ps:=["_law_script","_law_k"]) λ_ _ _ _ _ _=>gY (λ_ _=>rfl)
 have RY:=bN (st:=t7) HJ HK HL
 have b16:=RY.binds (ps:=["_law_told_here"]) λ_ _ _ _ _ _=>iJ (λ_=>rfl)
 have RZ:=bN (st:=t8) HN HP HQ
 have b17:=RZ.binds (ps:=["_law_told_here","_law_script","_law_begin","_law_wide","_law_heads"]) λ_ _ _ _ _ _=>O9 (λ_ _ _ _ _=>rfl)
 have R0:=bN (st:=t9) HS HU HV
 have b18:=R0.binds (ps:=["_law_told_here","_law_a","_law_b"]) λ_ _ _ _ _ _=>lY (λ_ _ _=>rfl)
 have R1:=bN (st:=ua) HX HY HZ
 have b19:=R1.binds (ps:=["_law_told_here","_law_a","_law_b"]) λ_ _ _ _ _ _=>lY (λ_ _ _=>rfl)
 have R3:=bN (st:=ud) Ib Ic Ie
 have b20:=R3.binds (ps:=["_law_told_here","_law_xs","_law_ys"]) λ_ _ _ _ _ _=>lY (λ_ _ _=>rfl)
 have R4:=bN (st:=ue) Ih Ii Ij
 have b21:=R4.binds (ps:=["_law_told_here","_law_xs","_law_table","_law_wide"]) λ_ _ _ _ _ _=>pZ (λ_ _ _ _=>rfl)
 have R5:=bN (st:=uf) Il Im Io
 have b22:=R5.binds (ps:=["_law_told_here","_law_script","_law_answer_here","_law_count","_law_wide","_law_turn"]) λ_ _ _ _ _ _=>cj8 (λ_ _ _ _ _ _=>rfl)
 have R6:=bN (st:=ug) Iq Ir Iu
 have b23:=R6.binds (ps:=["_law_table"]) λ_ _ _ _ _ _=>iJ (λ_=>rfl)
 have R7:=bN (st:=uh) Iy Iz IA
 have b24:=R7.binds (ps:=["table"]) λ_ _ _ _ _ _=>iJ (λ_=>rfl)
 have R8:=bN (st:=ui) IC ID IE
 have b25:=R8.binds (ps:=["rows","place"]) λ_ _ _ _ _ _=>gY (λ_ _=>rfl)
 have R9:=bN (st:=uj) IF IG BD
 have b26:=R9.binds (ps:=["self","a","row"]) λ_ _ _ _ _ _=>lY (λ_ _ _=>rfl)
 have Sa:=bN (st:=uk) IH II BE
 have b27:=Sa.binds (ps:=["self","a","row"]) λ_ _ _ _ _ _=>lY (λ_ _ _=>rfl)
 have Sb:=bN (st:=um) IJ IK BF
 have b28:=Sb.binds (ps:=["self","row","a","other"]) λ_ _ _ _ _ _=>pZ (λ_ _ _ _=>rfl)
 have Sd:=bN (st:=uo) IL IM BG
 have b29:=Sd.binds (ps:=["self","row","a","other"]) λ_ _ _ _ _ _=>pZ (λ_ _ _ _=>rfl)
 have Se:=bN (st:=uq) IS IT IU
 have b30:=Se.binds (ps:=["field","rows","lead_row","place"]) λ_ _ _ _ _ _=>pZ (λ_ _ _ _=>rfl)
 have Sf:=bN (st:=ur) IV IW yf
 have b31:=Sf.binds (ps:=["self","a","b"]) λ_ _ _ _ _ _=>lY (λ_ _ _=>rfl)
 have Sg:=bN (st:=uu) IZ Ja Jb
 have b32:=Sg.binds (ps:=["field","table"]) λ_ _ _ _ _ _=>gY (λ_ _=>rfl)
 have Sh:=bN (st:=uv) Jd Je Jf
 have b33:=Sh.binds (ps:=["rows"]) λ_ _ _ _ _ _=>iJ (λ_=>rfl)
 have Si:=bN (st:=uw) Jh Ji Jj
 have b34:=Si.binds (ps:=["field","table"]) λ_ _ _ _ _ _=>gY (λ_ _=>rfl)
 have Sj:=bN (st:=uz) Jl Jm Jn
 have b35:=Sj.binds (ps:=["_law_field_here","_law_answer_here"]) λ_ _ _ _ _ _=>gY (λ_ _=>rfl)
 have Sk:=bN (st:=uA) Jp Jq Jr
 have b36:=Sk.binds (ps:=["_law_x"]) λ_ _ _ _ _ _=>iJ (λ_=>rfl)
 have Sl:=bN (st:=uB) Jt Ju Jv
 have b37:=Sl.binds (ps:=["_law_row","_law_wide","_law_many_here"]) λ_ _ _ _ _ _=>lY (λ_ _ _=>rfl)
 have Sm:=bN (st:=uC) Jx Jy Jz
 have b38:=Sm.binds (ps:=["_law_table","_law_rows","_law_wide","_law_many_here"]) λ_ _ _ _ _ _=>pZ (λ_ _ _ _=>rfl)
 have Sn:=bN (st:=uD) JB JC JE
 have b39:=Sn.binds (ps:=["_law_found","_law_due","_law_wide","_law_many_here"]) λ_ _ _ _ _ _=>pZ (λ_ _ _ _=>rfl)
 have So:=bN (st:=mh) JF JG JH
 have b40:=So.binds (ps:=["_law_script"]) λ_ _ _ _ _ _=>iJ (λ_=>rfl)
 have T:Txt K mg ⟨f0,_,f1,_,f2,_,f3,_,f4,_,f5,_,f6,_,f7,_,f8,_,f9,_,Bc,_,Bd,_,jX,_,uQ,_,Be,_,Bf,_,Bg,_,Bh,_,Bi,_,Bj,_,Bk,_,Bl,_,Bo,_,Bp,_,rO,_,Bq,_,uR,_,uS,_,uT,_,uU,_,Br,_,nU,_,Bt,_,Bu,_,Bv,_,Bw,_,Bz,_,BA,_,BB,_,BC,_,fa,_,yd,jC,ye,jD,aS,fX,jE,aW⟩:=⟨F0,mg_of X G a0,b0,F1,mg_of X G a1,b1,F2,mg_of X G a2,b2,F3,mg_of X G a3,b3,F4,b4,F5,b5,F6,mg_of X G a6,b6,F7,b7,F8,mg_of X G a8,b8,F9,mg_of X G a9,b9,RP,mg_of X G Hi,b10,RQ,mg_of X G Hm,b11,RU,mg_of X G Hs,b12,RV,b13,RW,mg_of X G HA,b14,RX,mg_of X G HE,b15,RY,mg_of X G HI,b16,RZ,mg_of X G HM,b17,R0,mg_of X G HR,b18,R1,mg_of X G HW,b19,R3,mg_of X G Ia,b20,R4,mg_of X G Ig,b21,R5,mg_of X G Ik,b22,R6,mg_of X G Ip,b23,R7,mg_of X G Iw,b24,R8,mg_of X G IB,b25,R9,b26,Sa,b27,Sb,b28,Sd,b29,Se,mg_of X G IQ,b30,Sf,b31,Sg,mg_of X G IY,b32,Sh,mg_of X G Jc,b33,Si,mg_of X G Jg,b34,Sj,mg_of X G Jk,b35,Sk,mg_of X G Jo,b36,Sl,mg_of X G Js,b37,Sm,mg_of X G Jw,b38,Sn,mg_of X G JA,b39,So,mg_of X G BH,b40,rfl,Hh,rfl,Hz,⟨BJ,BK,BL,BM⟩,⟨xM,JI,JJ,JK⟩,⟨⟨BJ,BK,BL,BM⟩,JL,JM,JN,JO⟩,xN,nO,uF,qe,AU,qf,xO,xP,⟨xQ,JP,BF⟩,⟨xR,JQ,yf⟩,⟨xS,JR,BD⟩,⟨uG,JS,k4⟩,⟨BN,BO,BP,BQ⟩,⟨xT,JT,JU,JV⟩,⟨⟨BN,BO,BP,BQ⟩,JW,JX,JY,JZ⟩,AV,qg,uH,uI,qh,AW,xU,xV,⟨xW,J0,BG⟩,⟨xX,J1,yf⟩,⟨xY,J2,BE⟩,⟨uJ,J3,k4⟩,⟨J4,J5,J6,k5⟩,mg_none_of X G J7,mg_none_of X G J8,mg_none_of X G J9,mg_none_of X G Ka,mg_none_of X G Kb,mg_none_of X G Kd,mg_none_of X G Ke,mg_none_of X G Kf,mg_none_of X G Kg,mg_none_of X G Kh,mg_none_of X G Ki,mg_none_of X G Kj,mg_of X G x6,mg_of X G x8,mg_of X G uK,mg_of X G x9,YE (mg_of X G x8) Kl,⟨Kk,Km,Kn,Ko,at2,Kp,Kq,Kr⟩⟩
 exact⟨fnOf "law" "law" (bC mh) (br mh) (az mh) .none RA RB RC Rz Hf RD,λs v=>.of_eq rfl,λbase _ _ hB=>(cj1 T hB).imp λvs H Q E h=>let z:=YW nl h;⟨λP hP=>z.1 P (sub P hP),z.2⟩⟩
theorem aA3{K:Frag}{h:Heap}{c f k P:Addr}{od an:Option Addr}{sl:Array (Option Value)}{oc kV dc pm ct kt:Value}{ko:Option Addr}{ks:Array (Option Value)}{kf:Array Value}(X:K.In h)(a:nsIn K mainGlobals "PrimeField"=some (some (.ref c)))(b:findIn K (.ref c) "__init__"=some (some (.ref f)))
  (l:K.lookup f=some ⟨oc,od,.func (fnOf "__init__" "PrimeField.__init__" (bC me) (br me) (az me) .none kV dc pm an (.ref k) ct),sl⟩) (lk:K.lookup k=some ⟨kt,ko,.fields kf,ks⟩) (lp:kf[11]?=some (.ref P)) (n:K.lookup P=none) (e:codeHdIn K k P=true):K.lookup P=none/\∃c,CodeHd h c P:=⟨n,k,PySem.W.codeHd_of_K X e⟩
theorem aC4{K:Frag}{h:Heap}{c f k P:Addr}{od an:Option Addr}{sl:Array (Option Value)}{oc kV dc pm ct kt:Value}{ko:Option Addr}{ks:Array (Option Value)}{kf:Array Value}(X:K.In h)(a:nsIn K mainGlobals "BitField"=some (some (.ref c)))(b:findIn K (.ref c) "__init__"=some (some (.ref f)))
  (l:K.lookup f=some ⟨oc,od,.func (fnOf "__init__" "BitField.__init__" (bC mf) (br mf) (az mf) .none kV dc pm an (.ref k) ct),sl⟩) (lk:K.lookup k=some ⟨kt,ko,.fields kf,ks⟩) (lp:kf[11]?=some (.ref P)) (n:K.lookup P=none) (e:codeHdIn K k P=true):K.lookup P=none/\∃c,CodeHd h c P:=⟨n,k,PySem.W.codeHd_of_K X e⟩
theorem walk{l:PySem.W.OpenLaw}{q:Program}{loose:List Str}{XP:(Str->Option Value)->Heap->Prop}{YP:World->Heap->Prop}{d:DefRec}{K:Params->Frag}{ts:List Addr}(hn:l.most=some 63)(vF:d.params.defaults=[])
  (hY:∀(w:World) (h:Heap),YP w h->(K w.params).In h/\∀P∈ts,h.get? P=some (PySem.W.tabObj #[]))
  (hC:∀(w:World) (h:Heap),(K w.params).In h->∀P∈ts,(K w.params).lookup P=none/\∃c,CodeHd h c P)
  (F:∀(w:World) (mg:Str->Option Value) (fa:Addr) (h:Heap),(K w.params).In h->h.Ns mainGlobals mg->mg d.name=some (.ref fa) ->
   ∃fd:FuncData,(∀(s:Shared) (u:Value),BindsTo s fd ⟨[u],[]⟩ [("_law_script",u)])/\∀base:Heap,(K w.params).In base->base.Ns mainGlobals mg->Bm mg base->aO l.prog w (K w.params) mg base aY 11 fa fd ["_law_script"] (zP ts (K w.params))) :
  PySem.W.WalkO q loose XP YP l.row.toRowW d [] (λf vs=>PySem.call f vs) :=
 L2.YV (n:=63) (k:=11) (x:="_law_script") (CX:=λ_=>aY) (sp:=λw=>zP ts (K w.params)) hn (by decide) vF ⟨rfl,by decide,by decide⟩ hY hC F (λ_ _ a ns hl hO hS=>⟨a,ns,rfl,hO,hS,hl,λ_=>rfl⟩) λ_ _ _ _ _ z=>z
end HK15
set_option genInjectivity false in
set_option genSizeOf false in
structure PySem.W.Fast:Prop where
 (tw16002919638785315904 tw3410303068760307808 tw3091191482996810880 tw9443287943956080800 tw4087276668476765344 tw10190891471770525888 tw14564425573477828992 tw4780135259273778560 tw3407811710026278272 tw12959928847699611040 tw16306656914996265440 tw12933502904515001824 tw3101949773495954944 tw18111506369679295008 tw14459679165407865376 tw11513554034875971104 tw10865244690738511488 tw11434955176652060320 tw15737856998251554528 tw6741048317986582304 tw5402637406193876768 tw9065499798030964576 tw4107280762578166656 tw7415018292166336448 tw17132753534853564352 tw18433648641138885665 tw6696661795189740609 tw10949276259313275009 tw16843816651078226049 tw10575404062276103329 tw16705964887900198081 tw10447603560684031329 tw6890273926845494689 tw4569373139260074593 tw3521836601622520449 tw4362031783191202561 tw11119840168783730497 tw13612134870894491489 tw10765495616194247585 tw953629815379156929:True)
 (tw15933107148154598337 tw8759201678948648962 tw17999924111987172386 tw11527857705447993474 tw1720968018127400066 tw12712870184708541602 tw8372101205596633250 tw13569040640284599586 tw1013446460654832930 tw2219539241119101282 tw17607696074428771714 tw5488857507732789666 tw17856916448449633762 tw16029281812993418754 tw5299527881452033698 tw1730178107715367618 tw5843810391090576162 tw10720631509531548450 tw11956049545410793314 tw2840008061988493218 tw6774966739550451715 tw8429030560943882243 tw16791310271849004099 tw1338658611578810563 tw13382962049267412227 tw11096164913185116451 tw1644415661726474563 tw9055510896778428739 tw12904604240133633379 tw5370323896612526467 tw16985651531989165443 tw8514059994301492643 tw6098282946415858115 tw7715087826019751363 tw2368436928431678915 tw3410561975979205155 tw5581179929923213091 tw8059520982938216259 tw12745057692926767939 tw6624083787401723715:True)
 (tw9152541157349539683 tw11392687657425269603 tw14557358386180625283 tw11228603564634195875 tw13777812269204541444 tw18246674532394539012 tw10430459640573641764 tw3398266918206315588 tw8109970025993880676 tw2849927865237409924 tw1836292853269418180 tw16809151589068618116 tw2127096311284195780 tw2439578108525094340 tw8593938949149565412 tw13769399361289228804 tw16270441549605572164 tw2317727080524076644 tw3869459310828041892 tw10411223755645839076 tw12720249959445784356 tw17345932423358612324 tw10856571563981114212 tw11087720104868903812 tw9687746675428585444 tw16312936201536069669 tw3105584391913087077 tw14798405398255986917 tw4768403381503193317 tw7291180247678772485 tw11482993769734488357 tw14142100943612437797 tw296560454217221509 tw15916132743154276805 tw9765085164662220261 tw17364115339181151781 tw6801756247752244869 tw14878928613913464517 tw14653375187637231429 tw12333299403852263269:True)
 (tw9515196093511659558 tw14634899298096382022 tw15693653549250949190 tw4842322209428754598 tw13142803733998900390 tw16938616553470814374 tw9562598798692058342 tw5498713541863542022 tw12077915919463311622 tw2388506739887479078 tw282794586533011750 tw15099586681203820870 tw5574249187762161030 tw13895291902916112006 tw8630929402900073126 tw11146402338071433894 tw8415134982266899142 tw9939827154531065638 tw9741244215501853606 tw8570405810796118023 tw8060306153823370279 tw2545877638014227591 tw8857764794554921191 tw11152046230733457767 tw10154319905693103495 tw2281242904763610535 tw9159687903777711623 tw1794327364200378919 tw3026414607197876775 tw927358731442772519 tw2610765036092650023 tw6948510617514510919 tw10607803226565328519 tw7084388625785159303 tw97827050213348071 tw16550148303355381511 tw4870069336970657543 tw13655577513815753543 tw5634518956909435719 tw13145375839823306599:True)
 (tw784226396141175719 tw13557555664576043975 tw9471481110950013960 tw18254871385735602216 tw2572555923801812072 tw4562677852178899048 tw16104114262766135496 tw10733531134095227144 tw17006107839221891432 tw9457481370290364808 tw2823414210159768968 tw7067202687987618216 tw14281855672903673256 tw12171514669303457320 tw3014156574595720808 tw3240683578794502760 tw12592868104430627464 tw11155706014467394216 tw17248540666069498536 tw11988393208624553768 tw4941338497650173864 tw2937720708206427048 tw5611290448173535241 tw12459951899705010217 tw14618579168231266377 tw1183794166838257865 tw8774019083879004425 tw14936105735219121481 tw6410576555064807753 tw11726779548974311753 tw13037221940072282505 tw12008836858939973033 tw5908770294392369577 tw2971145895833788873 tw11416699648586183113 tw15847959721464131145 tw10007729784725265033 tw6745558021280792201 tw6832428576329924265 tw5984726438795108105:True)
 (tw7335106650985494313 tw9681604856489539401 tw6699041091168725897 tw11697337391858415497 tw1126848347332275145 tw4679342959040473098 tw13392601263178620970 tw5334848245041695818 tw13675466273105770602 tw13362751788434519242 tw2006197235348864234 tw17302927024564602122 tw6607728265324816650 tw4313566692334841130 tw7234533262546666826 tw14595441093322809674 tw10480674162950749514 tw10085470337394471242 tw882321491407293802 tw3395318682745687402 tw7937588025198320042 tw12401772823582434730 tw4272115742160415146 tw3570499621775601066 tw16040168582476787370 tw3762949523449803434 tw574314812587780010 tw13312022340725490634 tw9779995044031202282 tw10625383742929076395 tw16989197111074552139 tw13993590469766900075 tw2677806412188176779 tw15974612832802956683 tw10617071799510939051 tw14982976785752683947 tw3731160453842751979 tw13950882329202235947 tw16381720766735335179 tw9012318103400701739:True)
 (tw17503467686934899595 tw1953182345868679115 tw7646429090177066987 tw9674428656619154572 tw10440040011178550508 tw9635518295003558156 tw1077484309887850796 tw5617308981073897772 tw14637039074551860588 tw6111302660170574252 tw2069900499670974956 tw86378954217055788 tw14899008525438724812 tw11301098700205534924 tw7491565210166858476 tw12124777065636564812 tw17444638455198853100 tw3435313565562656845 tw6661080209462799501 tw5668139007113587885 tw6905198952118751501 tw15713521496295486797 tw9548536179302152525 tw3406764132177957229 tw16190264905009613229 tw8304150635858060749 tw17465079554889503277 tw16408861814694810253 tw13639678987771486893 tw4550946298559379245 tw14566736912712821549 tw6240398978526706477 tw296401478607733709 tw199542525330085966 tw17569873992482960526 tw6671860937181584526 tw11282977475191046382 tw9053641404563287342 tw13871976302634081614 tw5598232123749257550:True)
 (tw2513927375624286574 tw5027856595866082702 tw17466877081571803566 tw2272205713855988238 tw14948814268989606542 tw11901538858712730254 tw4290218779322782350 tw18129869547105462926 tw14420567433380754158 tw13031071808937632526 tw11650787118388417326 tw9549217263217231694 tw4283067135779119982 tw15458698511404421006 tw9294000045160226702 tw6832925490805808046 tw675101182873721838 tw11935812527059664878 tw11344133770523920399 tw17433331189900273679 tw1295053645194823759 tw4394601490184118415 tw2071364571821262063 tw912797422620216591 tw2199869101070578959 tw12005096427602685231 tw3933686909982524751 tw10064266044740983119 tw10855826096154702159 tw9554233974859067727 tw1170527626261988719 tw14056304522715502959 tw14278058176862135663 tw4050442977323760047 tw17748485843322667439 tw5952008475369101775 tw5081711923196351023 tw17656104825147337295 tw18041620969255567 tw9453443408754822799:True)
 (tw6851636834213250735 tw14921393803458694831 tw11314296743991366319 tw2499937600839525167 tw6262623578770776879 tw4014267850435802927 tw432034724144286543 tw16341465783602799535 tw12309217097421660143 tw5325891744601241776 tw12347069141464504528 tw2094811000074409232 tw4848679265823089936 tw5777160591644105136 tw11596060708162328016 tw14656486616930644432 tw12658011551839966768 tw7211800703643076176 tw2778002370080112432 tw5566798484795558864 tw14773558451115366352 tw1178174319580758000 tw18297714157254943761 tw8972549090944205937 tw1236573206882046065 tw9460622594759370001 tw9049161297706799409 tw2233341560458246545 tw6179324468637602225 tw18205478179506166193 tw9694023726804239825 tw779742240435318257 tw4938694561251650129 tw10415726245544064625 tw4199409833733391121 tw812862940143764273 tw13292144789013230385 tw11213889857166214065 tw6132522926405770161 tw2344666522707390417:True)
 (tw12534356509809314866 tw10458678072818535506 tw12487765143134984402 tw13382105406707569906 tw8749321987318802706 tw12454059453376617778 tw7442205517281088946 tw1191408618450184690 tw3395678499162340882 tw13637013557509627442 tw12014611965614510834 tw4573601425439047442 tw2304948387733450546 tw10849737247384766290 tw5484413822644993874 tw928280868035803122 tw4764318702666126355 tw11848118563807102003 tw4447627153338388627 tw7524472203952283827 tw1238356033794007315 tw5064244574461748595 tw10810663672931469747 tw4772469287261662643 tw1384864619446286835 tw12398704021780550195 tw11645457606463717075 tw5940933921151110067 tw1221602025276109747 tw1976619238578771988 tw17235305689617787956 tw9518736526445093972 tw6866724992910533748 tw14792598929378815252 tw13531010121817537812 tw4565809469011740948 tw17550787334967287092 tw17979881426685947188 tw4760772320220589428 tw15385064954931887540:True)
 (tw17991654844076511700 tw8541171778582026740 tw10547578325698141748 tw12942482248443210356 tw7751747130254726836 tw10776792261958035220 tw6321709840463737652 tw3352815917223126964 tw777033250906997716 tw1216412450654585812 tw15658200159298466837 tw17829581555728941141 tw4643623510121265237 tw12923586413705217141 tw6933522389406684405 tw13167860972771910901 tw12041634824883417365 tw2043897703870486869 tw18392257510186517909 tw15980191487335068085 tw2884209358141366997 tw16045020346435295989 tw11517495217386440501 tw657292873910853493 tw5121550307680240501 tw9317203532842247061 tw6431499157935240214 tw2251952933331193878 tw12019284099614910518 tw452409911730040918 tw8954989731778873558 tw7218663252589910262 tw10568553739886491926 tw12991025003244510582 tw9854284459630157238 tw8706310524700818902 tw17773146154427249142 tw18357070948501615222 tw14002289624514208406 tw2220953109976695446:True)
 (tw3652264196092406486 tw16308049182044207862 tw4222832689134450486 tw2090318026077357910 tw6365900050673203094 tw17826553980141980630 tw16850303358128097303 tw3325277778309896215 tw16886865125913405495 tw16389302501361900663 tw9469246135337372887 tw5402300708523436247 tw798341721698455799 tw16983604904501204215 tw4387838658703956343 tw4967453348240109943 tw12309519927240287607 tw11356076511062477207 tw15697588506941554199 tw11862922331823597111 tw8185171800485227095 tw10863256686306676343 tw1219788688493717175 tw1946272945891603127 tw13014467901620183799 tw9768544424059045751 tw17264255772547232663 tw13864386968335010743 tw11411374409756504023 tw2758492710836198391 tw1508589524793120824 tw7733886259416685624 tw14001545678445077624 tw11412212370278813848 tw15970587761659530424 tw11391018490825401528 tw5116508470140274904 tw11567301908594408696 tw5772657860954341688 tw2897378256433202520:True)
 (tw13161803021213263480 tw2889449254490748600 tw3412536318562026168 tw15455852931983829688 tw12355675599700103896 tw16448249123803747032 tw2222074512554852056 tw8388565594581898040 tw873945684573835064 tw16732627871506813752 tw1149863855018512344 tw14190451129830005785 tw7349691924884593721 tw5830906741787441209 tw1324430680663549049 tw12430802344322072761 tw8873212259412386009 tw1575302853400324345 tw5225076741192649049 tw14802355719571105113 tw7441621054759948665 tw18384176674293537177 tw2496746825665768857 tw4032844166370425369 tw11809548461211851353 tw3517219880278006361 tw17980673690921638521 tw16508097625403083513 tw17031244609375565625 tw4018889399172584281 tw15264284380543769433 tw1145194475368054617 tw8775901608623019961 tw15786094263190980569 tw11835197725028622394 tw12709088742675601530 tw5720323225693905050 tw13018730250496854298 tw14287767925676956954 tw12271522663754259738:True)
 (tw4956315171939659066 tw3275570950456132922 tw14897616505198839194 tw15330001835607726490 tw1320220247482939802 tw12251367869120000442 tw163819856261201338 tw287999581791988346 tw11927432446626354810 tw18376017963783408282 tw12490373866087634650 tw3822579495792187130 tw15536357883979753210 tw2210845147561359098 tw1435992553110636314 tw9511805613593339674 tw2901398794969962298 tw10083512451149030234 tw18041457768577928058 tw9401474821606173594 tw2006255165639632826 tw12642761006685149114 tw7573745455587512282 tw10884462898370485435 tw5258245957583421659 tw16083382653147177179 tw17219543866539126011 tw6790967091580629307 tw16185310866988757339 tw6434966514116613531 tw13975170371015400859 tw183130339404355099 tw11878543713620082203 tw18067411576388126299 tw2404035340404831835 tw5090980202870525595 tw17956460705824397115 tw1621084033594826747 tw1313088970084969660 tw15199614873783546108:True)
 (tw15024297434934633724 tw4857871184523740444 tw9221725303783830940 tw15376112000946012572 tw17407963821938392508 tw16195354532916677052 tw3603749567416394204 tw10184516453678745116 tw13378767637906464380 tw8741752546027080476 tw4247678832290913084 tw14632474150328671068 tw1153987295018044284 tw15175290803387732956 tw13889360403312548828 tw12812146680644742108 tw6925431709031254012 tw13354854369598437405 tw9079549876041237661 tw2300707690329032893 tw9540710030010512573 tw14805399914511712477 tw10606380602465138941 tw5068645934462595389 tw15332775620909652317 tw13099401680607573373 tw6897800890872410589 tw4973197304838045181 tw6554814088204819005 tw8433801780313682557 tw8560679843930445469 tw12208159676701939453 tw14837717490838973181 tw9759596927501713181 tw13784225618831535901 tw1532469658340320093 tw16539646414093173629 tw2708061892867193757 tw15261505931285526461 tw18003084814340105181:True)
 (tw2293726633307184222 tw5159674348873591966 tw14340526829846100126 tw9345736182549100862 tw11358259033674114398 tw13996574589484791198 tw15938947039824011710 tw6377199995741771262 tw1758101435975675422 tw10398358359683741214 tw4174477892086196830 tw12050643419813080766 tw17541631885983897374 tw13533670593767357246 tw4682908093444646782 tw14500781590463281054 tw12215058691969319902 tw3539664125240765406 tw12077372133377915902 tw17854517932738843679 tw3010197640205007999 tw3162602578055012639 tw13822186628523713919 tw7654548889448125887 tw9225815460498596319 tw9314273264016934431 tw15224733993570671199 tw16645951017259997887 tw3238246001299114687 tw3645746108819024671 tw18268756721532386079 tw6699775507564349279 tw2669201745033330527 tw14750490577253315519 tw5936186579362362303 tw11293485865871030207 tw18402100399753724906:True)
open PySem PySem.W PyProof.Rows
set_option maxRecDepth 100000 in
set_option maxHeartbeats 0 in
theorem PySem.Challenge.cw_mendfield_k15_reduced_rows_found_holds : PySem.Challenge.rw_mendfield_k15_reduced_rows_found.Holds := by
 w_on;o_law;k_head;(case hw=>w_witness2)
 k_fill
 refine HK15.walk (l:=PySem.Challenge.rw_mendfield_k15_reduced_rows_found) rfl rfl (λw h Y=>⟨PySem.W.km_in_of Y,PySem.W.km_tabs_of Y⟩) ?C ?F
 case C =>
  intro w h hX
  repeat' (first | exact List.forall_mem_nil _ | refine List.forall_mem_cons.mpr ⟨?_,?_⟩)
  all_goals first | (refine' HK15.aA3 hX ?a ?b ?l ?lk ?lp ?n ?e;(case a=>k_is);(case b=>k_is);(case l=>k_is);(case lk=>k_is);(case lp=>first | rfl | with_unfolding_all rfl);(case n=>kernel_rfl);(case e=>kernel_rfl)) | (refine' HK15.aC4 hX ?a ?b ?l ?lk ?lp ?n ?e;(case a=>k_is);(case b=>k_is);(case l=>k_is);(case lk=>k_is);(case lp=>first | rfl | with_unfolding_all rfl);(case n=>kernel_rfl);(case e=>kernel_rfl))
 case F =>
  intro w mg fa h KX G vG
  refine' HK15.all_mk KX G vG ?x6 ?x8 ?uK ?x9 ?a0 ?l0 ?c0 ?k0 ?a1 ?l1 ?c1 ?k1 ?a2 ?l2 ?c2 ?k2 ?a3 ?l3 ?c3 ?k3 ?a4 ?l4 ?c4 ?k4 ?a5 ?l5 ?c5 ?k5 ?a6 ?l6 ?c6 ?k6 ?a7 ?l7 ?c7 ?k7 ?RE ?RF ?Hh ?a8 ?l8 ?c8 ?k8 ?a9 ?l9 ?c9 ?k9 ?Hi ?Hj ?Hk ?Hl ?Hm ?Ho ?Hq ?Hr ?Hs ?Ht ?Hu ?Hv ?RG ?Hw ?Hx ?Hy ?RH ?RI ?Hz ?HA ?HB ?HC ?HD ?HE ?HF ?HG ?HH ?HI ?HJ ?HK ?HL ?HM ?HN ?HP ?HQ ?HR ?HS ?HU ?HV ?HW ?HX ?HY ?HZ ?Ia ?Ib ?Ic ?Ie ?Ig ?Ih ?Ii ?Ij ?Ik ?Il ?Im ?Io ?Ip ?Iq ?Ir ?Iu ?Iw ?Iy ?Iz ?IA ?IB ?IC ?ID ?IE ?RJ ?IF ?IG ?BD ?RK ?IH ?II ?BE ?RL ?IJ ?IK ?BF ?RM ?IL ?IM ?BG ?IQ ?IS ?IT ?IU ?RN ?IV ?IW ?yf ?IY ?IZ ?Ja ?Jb ?Jc ?Jd ?Je ?Jf ?Jg ?Jh ?Ji ?Jj ?Jk ?Jl ?Jm ?Jn ?Jo ?Jp ?Jq ?Jr ?Js ?Jt ?Ju ?Jv ?Jw ?Jx ?Jy ?Jz ?JA ?JB ?JC ?JE ?BH ?JF ?JG ?JH ?BJ ?BK ?BL ?BM ?xM ?JI ?JJ ?JK ?JL ?JM ?JN ?JO ?xN ?nO ?uF ?qe ?AU ?qf ?xO ?xP ?xQ ?JP ?xR ?JQ ?xS ?JR ?uG ?JS ?BN ?BO ?BP ?BQ ?xT ?JT ?JU ?JV ?JW ?JX ?JY ?JZ ?AV ?qg ?uH ?uI ?qh ?AW ?xU ?xV ?xW ?J0 ?xX ?J1 ?xY ?J2 ?uJ ?J3 ?J4 ?J5 ?J6 ?J7 ?J8 ?J9 ?Ka ?Kb ?Kd ?Ke ?Kf ?Kg ?Kh ?Ki ?Kj ?Kk ?RO ?Kl ?Km ?Kn ?Ko ?at2 ?Kp ?Kq ?Kr ?nl ?sub
  (case x6=>k_is)
  (case x8=>k_is)
  (case uK=>k_is)
  (case x9=>k_is)
  (case a0=>k_is)
  (case l0=>k_is)
  (case c0=>k_is)
  (case k0=>k_is)
  (case a1=>k_is)
  (case l1=>k_is)
  (case c1=>k_is)
  (case k1=>k_is)
  (case a2=>k_is)
  (case l2=>k_is)
  (case c2=>k_is)
  (case k2=>k_is)
  (case a3=>k_is)
  (case l3=>k_is)
  (case c3=>k_is)
  (case k3=>k_is)
  (case a4=>k_is)
  (case l4=>k_is)
  (case c4=>k_is)
  (case k4=>k_is)
  (case a5=>k_is)
  (case l5=>k_is)
  (case c5=>k_is)
  (case k5=>k_is)
  (case a6=>k_is)
  (case l6=>k_is)
  (case c6=>k_is)
  (case k6=>k_is)
  (case a7=>k_is)
  (case l7=>k_is)
  (case c7=>k_is)
  (case k7=>k_is)
  (case RE=>k_is)
  (case RF=>first | rfl | with_unfolding_all rfl)
  (case Hh=>kernel_rfl)
  (case a8=>k_is)
  (case l8=>k_is)
  (case c8=>k_is)
  (case k8=>k_is)
  (case a9=>k_is)
  (case l9=>k_is)
  (case c9=>k_is)
  (case k9=>k_is)
  (case Hi=>k_is)
  (case Hj=>k_is)
  (case Hk=>k_is)
  (case Hl=>k_is)
  (case Hm=>k_is)
  (case Ho=>k_is)
  (case Hq=>k_is)
  (case Hr=>k_is)
  (case Hs=>k_is)
  (case Ht=>k_is)
  (case Hu=>k_is)
  (case Hv=>k_is)
  (case RG=>k_is)
  (case Hw=>k_is)
  (case Hx=>k_is)
  (case Hy=>k_is)
  (case RH=>k_is)
  (case RI=>first | rfl | with_unfolding_all rfl)
  (case Hz=>kernel_rfl)
  (case HA=>k_is)
  (case HB=>k_is)
  (case HC=>k_is)
  (case HD=>k_is)
  (case HE=>k_is)
  (case HF=>k_is)
  (case HG=>k_is)
  (case HH=>k_is)
  (case HI=>k_is)
  (case HJ=>k_is)
  (case HK=>k_is)
  (case HL=>k_is)
  (case HM=>k_is)
  (case HN=>k_is)
  (case HP=>k_is)
  (case HQ=>k_is)
  (case HR=>k_is)
  (case HS=>k_is)
  (case HU=>k_is)
  (case HV=>k_is)
  (case HW=>k_is)
  (case HX=>k_is)
  (case HY=>k_is)
  (case HZ=>k_is)
  (case Ia=>k_is)
  (case Ib=>k_is)
  (case Ic=>k_is)
  (case Ie=>k_is)
  (case Ig=>k_is)
  (case Ih=>k_is)
  (case Ii=>k_is)
  (case Ij=>k_is)
  (case Ik=>k_is)
  (case Il=>k_is)
  (case Im=>k_is)
  (case Io=>k_is)
  (case Ip=>k_is)
  (case Iq=>k_is)
  (case Ir=>k_is)
  (case Iu=>k_is)
  (case Iw=>k_is)
  (case Iy=>k_is)
  (case Iz=>k_is)
  (case IA=>k_is)
  (case IB=>k_is)
  (case IC=>k_is)
  (case ID=>k_is)
  (case IE=>k_is)
  (case RJ=>k_is)
  (case IF=>k_is)
  (case IG=>k_is)
  (case BD=>k_is)
  (case RK=>k_is)
  (case IH=>k_is)
  (case II=>k_is)
  (case BE=>k_is)
  (case RL=>k_is)
  (case IJ=>k_is)
  (case IK=>k_is)
  (case BF=>k_is)
  (case RM=>k_is)
  (case IL=>k_is)
  (case IM=>k_is)
  (case BG=>k_is)
  (case IQ=>k_is)
  (case IS=>k_is)
  (case IT=>k_is)
  (case IU=>k_is)
  (case RN=>k_is)
  (case IV=>k_is)
  (case IW=>k_is)
  (case yf=>k_is)
  (case IY=>k_is)
  (case IZ=>k_is)
  (case Ja=>k_is)
  (case Jb=>k_is)
  (case Jc=>k_is)
  (case Jd=>k_is)
  (case Je=>k_is)
  (case Jf=>k_is)
  (case Jg=>k_is)
  (case Jh=>k_is)
  (case Ji=>k_is)
  (case Jj=>k_is)
  (case Jk=>k_is)
  (case Jl=>k_is)
  (case Jm=>k_is)
  (case Jn=>k_is)
  (case Jo=>k_is)
  (case Jp=>k_is)
  (case Jq=>k_is)
  (case Jr=>k_is)
  (case Js=>k_is)
  (case Jt=>k_is)
  (case Ju=>k_is)
  (case Jv=>k_is)
  (case Jw=>k_is)
  (case Jx=>k_is)
  (case Jy=>k_is)
  (case Jz=>k_is)
  (case JA=>k_is)
  (case JB=>k_is)
  (case JC=>k_is)
  (case JE=>k_is)
  (case BH=>k_is)
  (case JF=>k_is)
  (case JG=>k_is)
  (case JH=>k_is)
  (case BJ=>k_is)
  (case BK=>k_is)
  (case BL=>k_is)
  (case BM=>k_is)
  (case xM=>k_is)
  (case JI=>k_is)
  (case JJ=>k_is)
  (case JK=>k_is)
  (case JL=>k_is)
  (case JM=>k_is)
  (case JN=>k_is)
  (case JO=>k_is)
  (case xN=>k_is)
  (case nO=>k_is)
  (case uF=>k_is)
  (case qe=>k_is)
  (case AU=>k_is)
  (case qf=>k_is)
  (case xO=>k_is)
  (case xP=>k_is)
  (case xQ=>k_is)
  (case JP=>k_is)
  (case xR=>k_is)
  (case JQ=>k_is)
  (case xS=>k_is)
  (case JR=>k_is)
  (case uG=>k_is)
  (case JS=>k_is)
  (case BN=>k_is)
  (case BO=>k_is)
  (case BP=>k_is)
  (case BQ=>k_is)
  (case xT=>k_is)
  (case JT=>k_is)
  (case JU=>k_is)
  (case JV=>k_is)
  (case JW=>k_is)
  (case JX=>k_is)
  (case JY=>k_is)
  (case JZ=>k_is)
  (case AV=>k_is)
  (case qg=>k_is)
  (case uH=>k_is)
  (case uI=>k_is)
  (case qh=>k_is)
  (case AW=>k_is)
  (case xU=>k_is)
  (case xV=>k_is)
  (case xW=>k_is)
  (case J0=>k_is)
  (case xX=>k_is)
  (case J1=>k_is)
  (case xY=>k_is)
  (case J2=>k_is)
  (case uJ=>k_is)
  (case J3=>k_is)
  (case J4=>k_is)
  (case J5=>k_is)
  (case J6=>k_is)
  (case J7=>k_is)
  (case J8=>k_is)
  (case J9=>k_is)
  (case Ka=>k_is)
  (case Kb=>k_is)
  (case Kd=>k_is)
  (case Ke=>k_is)
  (case Kf=>k_is)
  (case Kg=>k_is)
  (case Kh=>k_is)
  (case Ki=>k_is)
  (case Kj=>k_is)
  (case Kk=>first | k_is | rfl | decide)
  (case RO=>k_is)
  (case Kl=>k_exc)
  (case Km=>k_is)
  (case Kn=>k_is)
  (case Ko=>k_is)
  (case at2=>k_is)
  (case Kp=>k_is)
  (case Kq=>k_is)
  (case Kr=>k_is)
  (case nl=>first | k_is | rfl | decide)
  (case sub=>decide)
