import PyProof.Rows.All
import Wide.All
import OpenK.AllK
import Wide.FinOn
import Lean
import PyProof.EqAt
import PyProof.EqKinds
import PyProof.TupleCall
import PyProof.NeKinds
import PyProof.Rows.Range3
import PyProof.FitsBits
import PyProof.StationsW
import PyProof.NsDelKeeps
import PyProof.Rows.CatchOwn
import KE.KTryMore
import PyProof.ExcArgsOwn
import PyProof.ExcAttrAll.ValueError
import OpenK.KOwn
import PyProof.ZipIter
import PyProof.WalksEnum
import PyProof.EnumMake
import KE.KIntText
import PyProof.Conv_int
import PyProof.StrWalks
import PyProof.StrLawsFirst
import KE.KLam
import KE.KNestM
import KE.KRevIter
import PyProof.ListRange
import PyProof.Rows.SortWalk
import PySem.Challenge.RW_mendfield_k28_first_bound_set
open Array renaming length_toList→uR,append_assoc→yf,getElem?_eq_some_iff→Pr,toList_append→YY
open Bool renaming and_eq_true→eD,or_true→iE,and_true→kz,false_ne_true→lJ,true_and→mW,false_and→su,or_false→sD,eq_iff_iff→sH,not_false→u9,not_true→vb,true_or→vd,false_or→ve,false_eq_true→vf
open Classical renaming byContradiction→yl
open False renaming elim→fE
open ForInStep renaming yield→Ew
open Int renaming toNat_natCast→dQ,natAbs_natCast→i9,emod_nonneg→jZ,emod_lt_of_pos→j5,natCast_emod→sI,natCast_mul→yx,toNat_of_nonneg→A6,natCast_nonneg→Ph,zero_add→PC,natCast_add→PH,fdiv_eq_ediv_of_nonneg→YK
open List renaming getD_eq_getElem?_getD→aK,getElem?_eq_getElem→aL,range→aM,replicate→br,length_map→bG,mem_map→bO,getElem?_map→bZ,mem_cons→cA,map_map→cH,mem_append→cJ,length_range→cK,mem_range→cV,all_eq_true→du,getElem_mem→dv,map_cons→dB,all_cons→dM,mem_append_right→dY,append_assoc→dZ,size_toArray→eC,zipWith→eE,mem_cons_of_mem→eJ,length_take→eZ,mem_singleton→e5,getElem?_eq_none→fF,length_append→fN,mem_append_left→fW,getElem_of_mem→fX,map_append→fY,lookup_cons→gD,mem_cons_self→gS,getElem?_range→gU,length_cons→ia,append_nil→iC,length_drop→iD,length_set→i7,not_mem_nil→i8,nodup_cons→jy,set_cons_zero→jz,set_cons_succ→jA,getElem?_eq_some_iff→jW,map_nil→jY,mem_filter→ku,length_zipWith→kA,take_add_one→lM,lookup→mS,all_map→mX,getElem?_cons_zero→mY,getElem?_cons_succ→mZ,nil_append→pj,take_length→pE,cons.inj→pG,perm_append_comm→pH,mem_of_mem_drop→pI,mem_of_mem_take→pJ,all_nil→pK,cons_append→pL,cons.injEq→pM,getElem?_append_right→sA,length_replicate→sC,replicate_succ→sF,getElem?_zipWith→sJ,filterMap_cons→uP,getElem?_set_ne→uQ,getElem?_append_left→uU,mem_of_getElem?→uV,flatten_cons→uW,getElem?_mapIdx→uY,map_congr_left→uZ,mem_or_eq_of_mem_set→u3,pairwise_cons→u4,pairwise_append→u5,length_nil→u7,foldl_cons→yi,take_of_length_le→ym,ext_getElem?→yo,take_append_drop→yv,of_mem_zip→AN,length→AO,getElem?_replicate→AQ,append_inj→AX,getElem?_take→AY,foldl_append→A7,getElem_map→A9,getElem?_set_self→Ek,any_eq_true→Ey,append_eq_nil_iff→EC,mem_replicate→EE,getElem?_drop→EG,drop_eq_nil_of_le→EH,map→EI,map_zipWith→EJ,zipWith_map→EK,mem_map_of_mem→EN,ext_getElem→EO,zip→ER,length_zip→ES,contains_iff_mem→ET,length_eq_zero_iff→EV,pairwise_singleton→EW,getElem?_eq_none_iff→Pf,Pairwise.nil→Pm,Sublist.refl→Pu,set_set→Pw,eq_nil_iff_forall_not_mem→Px,mem_of_find?_eq_some→Py,map_drop→Pz,map_take→PB,any_map→PD,findIdx_lt_length_of_exists→PK,find?_eq_none→PL,range_succ→PM,getElem_range→PN,pairwise_iff_getElem→PQ,map_eq_nil_iff→PR,map_replicate→PU,mem_filterMap→YJ,getElem?_take_of_lt→YM,length_singleton→YN,set_eq_of_length_le→YU,filter_eq_self→YV,filter_append→YW,range_succ_eq_map→YX,zip_cons_cons→YZ,sublist_cons_self→Y0,findIdx_getElem→Y2,findIdx?_eq_some_iff_getElem→Y3,findIdx?_eq_none_iff→Y4,perm_ext_iff_of_nodup→Y5,Pairwise.filter→Y6,countP_eq_length_filter→Y7,pairwise_lt_range→Y8,find?_eq_some_iff_append→Y9,length_eraseIdx_of_lt→Za,flatMap_append→Zc,singleton_append→Zd,take_succ_cons→Ze
open Nat renaming le_refl→bP,lt_of_lt_of_le→cS,ne_of_lt→eI,le_trans→fi,lt_irrefl→fV,zero_le→jX,shiftLeft_eq→ky,xor_zero→lL,mul_comm→mT,pow_succ→mU,testBit_xor→mV,zero_xor→pk,lt_of_le_of_lt→pq,xor_assoc→sG,le_of_lt→uO,mul_assoc→uX,lt_succ_self→yh,two_pow_pos→yj,pow_le_pow_right→yk,min_self→yn,not_lt→yp,mul_mod→yq,mod_lt→yr,add_sub_cancel_left→yt,lt_or_ge→yu,succ.inj→yw,le_of_eq→AM,le_of_not_lt→AS,eq_of_testBit_eq→AU,testBit_zero→AV,xor_self→AW,mod_eq_of_lt→AZ,le_of_succ_le→A8,add_comm→Eo,testBit_lt_two_pow→Er,testBit_succ→Es,strongRecOn→Et,sub_self→EL,mod_add_mod→EM,one_shiftLeft→EX,ne_of_gt→Pg,log2_lt→Pn,xor_comm→Po,testBit_and→Pp,mod_mod→PF,not_lt_zero→PJ,testBit_eq_decide_div_mod_eq→YO,shiftLeft_xor_distrib→YQ,mul_lt_mul_right→YR,testBit_shiftLeft→YS,shiftRight_eq_div_pow→YT,exists_eq_add_of_le→Y1,mul_le_mul_right→Zb,lt_of_succ_lt_succ→Zf
open Ne renaming symm→eK
open Option renaming some.inj→cW,getD_none→ph,getD_some→pz,map_some→sM,some.injEq→sN,map_none→u6,none→Ep,toList_some→ED,map_eq_some_iff→EF,isSome_iff_exists→YL
open Or renaming inl→aq,inr→aY
open PyProof renaming Rows.callWith_type1→uS
open PySem renaming Heap.lt_size→bX,Heap.get?_push_of_some→fj,PassesOwn.never→fk,Value.ref→fC,Heap.get?_push_size→hW,Builtin.bitAnd→lK,Value.int→pd,Builtin.bitXor→pf,Value.none→sr,Heap.get?_update_other→sE,Heap.size_push→yg,Obj.mapSeq→AR,Value.bool→Ej,Heap.get?_update_self→El,SeqAt.EqAt→Em,Builtin.Int.intBits→Eu,Obj.data_mapFields→Ez,Value.type.inj→EA,Builtin.Str.strSliceIndices→EB,NameKind.cell→EU,Calls.spliced_nil→Pj,Calls.spliced_cons→Pk,Builtin.List.listTooLong→Pl,Obj.isFreed_of_fields→Pq,Heap.MadeExcOf→Pt,Calls.Name_function_global→YI
open Sum renaming inl→uM,inr→uN
open True renaming intro→uT
set_option Elab.async false
set_option linter.all false
set_option maxRecDepth 100000
namespace L2
open PySem PySem.Spec PyProof.Rows
noncomputable abbrev Key:=Sum Int Str
noncomputable def PV:Key->Value->Bool
 | .inl k,v=>Value.isInt k v
 | .inr x,v=>Value.isStrOf x v
noncomputable def Zg(w:World):Key->Int
 | .inl k=>hashInt k
 | .inr x=>hashStr w x
theorem m3:∀{k:Key} {v:Value},PV k v=true->(∃i t,k=uM i/\v=pd i t)\/(∃x t,k=uN x/\v=Value.str x t)
 | .inl i,v,h=>by
  obtain⟨t,e⟩:=Value.isInt_shape (k:=i) (v:=v) h
  exact .inl ⟨i,t,rfl,e⟩
 | .inr x,v,h=>by
  obtain⟨t,e⟩:=Value.isStrOf_shape (x:=x) (v:=v) h
  exact .inr ⟨x,t,rfl,e⟩
theorem Zh(a b:Int):decide ((uM a:Key)=uM b)=(a==b):=by
 by_cases e:a=b
 ·subst e;simp
 ·have h:¬ (uM a:Key)=uM b:=λq=>e (Sum.inl.inj q)
  rw[decide_eq_false h]
  exact(beq_eq_false_iff_ne.mpr e).symm
theorem Zi(a b:Str):decide ((uN a:Key)=uN b)=decide (a=b):=by
 by_cases e:a=b
 ·subst e;simp
 ·have h:¬ (uN a:Key)=uN b:=λq=>e (Sum.inr.inj q)
  rw[decide_eq_false h,decide_eq_false e]
theorem Zj(a:Int)(b:Str):decide ((uM a:Key)=uN b)=false:=decide_eq_false (λq=>nomatch q)
theorem Zk(a:Str)(b:Int):decide ((uN a:Key)=uM b)=false:=decide_eq_false (λq=>nomatch q)
noncomputable def PX(prog:Program)(w:World):PySem.KeyKind prog w Key where
 is:=PV
 hash:=Zg w
 inj:=λv a b ha hb=>by
  rcases m3 ha with⟨i,t,rfl,rfl⟩ | ⟨x,t,rfl,rfl⟩
  ·rcases m3 hb with⟨j,u,rfl,e⟩ | ⟨y,u,rfl,e⟩
   ·injection e with e1 _;rw[e1]
   ·exact nomatch e
  ·rcases m3 hb with⟨j,u,rfl,e⟩ | ⟨y,u,rfl,e⟩
   ·exact nomatch e
   ·injection e with e1 _;rw[e1]
 byValue:=λk v h=>by
  rcases m3 h with⟨i,t,rfl,rfl⟩ | ⟨x,t,rfl,rfl⟩<;>rfl
 pyHash:=λhv h=>by
  rcases m3 hv with⟨i,t,rfl,rfl⟩ | ⟨x,t,rfl,rfl⟩
  ·exact wpAny_pyHash_int h
  ·exact wpAny_pyHash_str h
 eqBool:=λhu hv h=>by
  rcases m3 hu with⟨i,t,rfl,rfl⟩ | ⟨x,t,rfl,rfl⟩
  ·rcases m3 hv with⟨j,u,rfl,rfl⟩ | ⟨y,u,rfl,rfl⟩
   ·rw[Zh]at h;exact wpAny_eqBool_int h
   ·rw[Zj]at h;exact SeqAt.EqAt.int_str i t y u _ _ _ _ h
  ·rcases m3 hv with⟨j,u,rfl,rfl⟩ | ⟨y,u,rfl,rfl⟩
   ·rw[Zk]at h;exact SeqAt.EqAt.str_int x t j u _ _ _ _ h
   ·rw[Zi]at h;exact wpAny_eqBool_str h
 «strs»:=λk x t v h=>by
  rcases m3 h with⟨i,u,rfl,e⟩ | ⟨y,u,rfl,e⟩
  ·exact nomatch e
  ·injection e with e1 _
   subst e1
   cases v<;>rfl
end L2
namespace L2
open PySem PySem.Spec PyProof.Rows
inductive V where
 | au | bl (b:Bool) | int (i:Int) | str (x:Str) | Ba (b:Array UInt8) | sO (b:UInt64) | ref (a:Addr) | ty (n:String)
 deriving DecidableEq
noncomputable def RelV:V->Value->Prop
 | .au,u=>u=sr
 | .bl b,u=>u=Ej b
 | .int i,u=>∃t,u=pd i t
 | .str x,u=>∃t,u=Value.str x t
 | .Ba b,u=>∃t,u=Value.bytes b t
 | .sO b,u=>∃t,u=Value.float b t
 | .ref a,u=>u=fC a
 | .ty n,u=>u=Value.type n
noncomputable abbrev Vals:List V->List Value->Prop:=Paired RelV
theorem Vals.length{xs:List V}{us:List Value}(r:Vals xs us):xs.length=us.length:=Paired.length r
theorem Vals.get:∀{xs:List V} {us:List Value} {i:Nat} {x:V},Vals xs us->xs[i]?=some x->∃u,us[i]?=some u/\RelV x u
 | _,_,_,_,.nil,e=>by simp at e
 | _,_,0,_,.cons r _,e=>by simp at e;subst e;exact⟨_,rfl,r⟩
 | _,_,i+1,x,.cons _ t,e=>by
  obtain⟨u,h1,h2⟩:=Vals.get (i:=i) (x:=x) t (by simpa using e)
  exact⟨u,by simpa using h1,h2⟩
theorem Vals.set{x:V}{u:Value}(r:RelV x u):∀{xs:List V} {us:List Value} (i:Nat),Vals xs us->Vals (xs.set i x) (us.set i u)
 | _,_,_,.nil=>.nil
 | _,_,0,.cons _ t=>.cons r t
 | _,_,i+1,.cons q t=>.cons q (Vals.set r i t)
theorem Vals.append:∀{xs ys:List V} {us ws:List Value},Vals xs us->Vals ys ws->Vals (xs++ys) (us++ws)
 | _,_,_,_,.nil,s=>s
 | _,_,_,_,.cons r t,s=>.cons r (Vals.append t s)
theorem Vals.take:∀{xs:List V} {us:List Value} (n:Nat),Vals xs us->Vals (xs.take n) (us.take n)
 | _,_,0,_=>.nil
 | _,_,_+1,.nil=>.nil
 | _,_,n+1,.cons r t=>.cons r (Vals.take n t)
theorem Vals.drop:∀{xs:List V} {us:List Value} (n:Nat),Vals xs us->Vals (xs.drop n) (us.drop n)
 | _,_,0,r=>r
 | _,_,_+1,.nil=>.nil
 | _,_,n+1,.cons _ t=>Vals.drop n t
theorem Vals.none_of:∀{xs:List V} {us:List Value} {i:Nat},Vals xs us->xs[i]?=none->us[i]?=none:=λ{xs us i} r e=>by
 have h1:=r.length
 have h2:xs.length<=i:=Pf.mp e
 exact Pf.mpr (by omega)
noncomputable def lN:Option V->Option Value->Prop
 | some v,some u=>RelV v u
 | none,none=>True
 | _,_=>False
noncomputable def KV{κ:Type}:List (κ × V)->List (κ × Value)->Prop:=Paired λ(p:κ × V) (q:κ × Value)=>p.1=q.1/\RelV p.2 q.2
noncomputable def kV:Key->V
 | .inl i=>.int i
 | .inr x=>.str x
inductive HO where
 | lst (xs:List V)
 | tup (xs:List V)
 | dK (dD:List (Key × V)) | dT (dD:List (List Key × V))
 | set (S:Int->Bool) (n:Nat)
 | ins (C dx:Addr) (fs:List (Str × V))
 | own (x:Addr)
 | xd (fs:List (Str × V))
 | met (f x:Addr)
 | yy (lo hi:Int)
 | cq (o:Obj) (u:HO)
 | dw (ps:Array Value)
 | ext (φ:Heap->Prop)
noncomputable abbrev Hp:=Addr->Option HO
noncomputable def upd(H:Hp)(a:Addr)(o:HO):Hp:=λb=>if b=a then some o else H b
theorem cB{H:Hp}{a:Addr}{o:HO}:upd H a o a=some o:=by unfold upd;rw[if_pos rfl]
theorem bb{H:Hp}{a b:Addr}{o:HO}(h:b≠a):upd H a o b=H b:=by unfold upd;rw[if_neg h]
theorem fq{H:Hp}{a b:Addr}{o:HO}(h:H a=some o)(h':H b=none):a≠b:=by
 intro e;subst e;rw[h]at h';cases h'
section
variable(P:Program)(w:World)
noncomputable def dR(H:Hp)(h:Heap)(a:Addr):HO->Prop
 | .lst xs=>xs.length<=sizeLine/\∃(its:List Value) (n:Nat),Vals xs its/\h.get? a=some { cls:=.type "list",data:=.seq its.toArray n }
 | .tup xs=>xs.length<=sizeLine/\∃its:List Value,Vals xs its/\IsTup h a its.toArray
 | .dK dD=>dD.length<=sizeLine/\(a==sysModules)=false/\∃vs,KV dD vs/\h.DictOf (PX P w) a vs
 | .dT dD=>dD.length<=sizeLine/\(a==sysModules)=false/\∃xs:List (List Key × Addr × Value),
   Paired (λ(p:List Key × V) (q:List Key × Addr × Value)=>p.1=q.1/\H q.2.1=some (.tup (p.1.map kV))/\RelV p.2 q.2.2) dD xs /\
   ∃o es ep,h.get? a=some o/\o.ExactDict/\o.data=.dict es ep/\es.toList=xs.map (entryOfKey (tupleKind (PX P w)))/\(xs.map (·.1)).Nodup
 | .set S n=>h.SetOf (intKind P w) a S n
 | .ins C dx fs=>H dx=some (.own a)/\fs.length<=1000/\dx≠a/\h.get? a=some (PySem.W.instObj C dx) /\
   ∃mA,h.Ns1 dx mA/\(∀f,lN (fs.lookup f) (mA f))/\PySem.Within mA (fs.map (·.1))
 | .own _=>∃o,h.get? a=some o
 | .xd fs=>∃mA,h.Ns1 a mA/\∀f,lN (fs.lookup f) (mA f)
 | .yy lo hi=>∃t u v,h.get? a=some { cls:=.type "range",data:=.fields #[.int lo t,.int hi u,.int 1 v] }
 | .cq o u=>h.get? a=some o/\dR H h a u
 | .dw ps=>h.get? a=some { cls:=.none,data:=.fields ps }/\TriplesOk ps.toList/\∀pos cv,codeAmong pos ps.toList=some cv->∃c φ,cv=.ref c/\H c=some (.ext φ)/\∀h',φ h'->∃q,h'.CodeRec (.ref c) q
 | .met f x=>h.get? a=some (PySem.W.methodObj (.ref f) (.ref x))
 | .ext φ=>φ h/\(∃o,h.get? a=some o)/\∀h1 h2:Heap,φ h1->(∀b o,(b=a\/H b=some (.own a))->h1.get? b=some o->h2.get? b=some o)->φ h2
noncomputable def cT(H:Hp)(h:Heap):Prop:=∀a o,H a=some o->dR P w H h a o
end
section
variable{P:Program}{w:World}{H H':Hp}{h h':Heap}{a:Addr}{o:HO}
theorem dR.lt(x:dR P w H h a o):a<h.objs.size:=by
 cases o with
 | lst xs=>obtain⟨_,_,_,_,e⟩:=x;exact bX e
 | tup xs=>obtain⟨_,_,_,p⟩:=x;exact p.lt
 | dK dD=>obtain⟨_,_,_,_,o,_,_,e,_⟩:=x;exact bX e
 | dT dD=>obtain⟨_,_,_,_,o,_,_,e,_⟩:=x;exact bX e
 | set S n=>obtain⟨o,_,_,_,e,_⟩:=x;exact bX e
 | ins C dx fs=>obtain⟨_,_,_,e,_⟩:=x;exact bX e
 | own y=>obtain⟨_,e⟩:=x;exact bX e
 | xd fs=>obtain⟨_,⟨_,_,_,e,_⟩,_⟩:=x;exact bX e
 | yy lo hi=>obtain⟨_,_,_,e⟩:=x;exact bX e
 | cq ob u=>obtain⟨e,_⟩:=x;exact bX e
 | dw ps=>exact bX (show h.get? a=some _ from x.1)
 | met f y=>exact bX (show h.get? a=some _ from x)
 | ext φ=>obtain⟨_,⟨_,e⟩,_⟩:=x;exact bX e
theorem Paired.EY{α β:Type}{F G:α->β->Prop}:∀{l₁:List α} {l₂:List β},Paired F l₁ l₂->(∀a b,F a b->G a b)->Paired G l₁ l₂
 | _,_,.nil,_=>.nil
 | _,_,.cons r t,f=>.cons (f _ _ r) (Paired.EY t f)
theorem dR.j6(x:dR P w H h a o)(k:∀b u,(b=a\/H b=some (.own a))->h.get? b=some u->h'.get? b=some u)
  (ho:∀b,H b=some (.own a)->H' b=some (.own a)) (ht:∀b xs,H b=some (.tup xs)->H' b=some (.tup xs)) (hx:∀b φ,H b=some (.ext φ)->H' b=some (.ext φ)):dR P w H' h' a o:=by
 induction o with
 | lst xs=>obtain⟨z,its,n,r,e⟩:=x;exact⟨z,its,n,r,k _ _ (.inl rfl) e⟩
 | tup xs=>obtain⟨z,its,r,ob,e,c⟩:=x;exact⟨z,its,r,ob,k _ _ (.inl rfl) e,c⟩
 | dK dD=>obtain⟨z,y,vs,r,ob,es,ep,e,c⟩:=x;exact⟨z,y,vs,r,ob,es,ep,k _ _ (.inl rfl) e,c⟩
 | dT dD =>
  obtain⟨z,y,xs,r,ob,es,ep,e,c⟩:=x
  exact⟨z,y,xs,Paired.EY r λp q z=>⟨z.1,ht _ _ z.2.1,z.2.2⟩,ob,es,ep,k _ _ (.inl rfl) e,c⟩
 | set S n=>obtain⟨ob,es,ep,t,e,c⟩:=x;exact⟨ob,es,ep,t,k _ _ (.inl rfl) e,c⟩
 | ins C dx fs =>
  obtain⟨d,z,ne,e,mA,⟨od,es,ep,e2,c⟩,r⟩:=x
  exact⟨ho _ d,z,ne,k _ _ (.inl rfl) e,mA,⟨od,es,ep,k _ _ (.inr d) e2,c⟩,r⟩
 | own y=>obtain⟨ob,e⟩:=x;exact⟨ob,k _ _ (.inl rfl) e⟩
 | xd fs=>obtain⟨mA,⟨od,es,ep,e,c⟩,r⟩:=x;exact⟨mA,⟨od,es,ep,k _ _ (.inl rfl) e,c⟩,r⟩
 | yy lo hi=>obtain⟨t,u,v,e⟩:=x;exact⟨t,u,v,k _ _ (.inl rfl) e⟩
 | cq ob u ih=>obtain⟨e,q⟩:=x;exact⟨k _ _ (.inl rfl) e,ih q⟩
 | dw ps =>
  obtain⟨e,t,c⟩:=x
  refine⟨k a _ (.inl rfl) e,t,λpos cv q=>?_⟩
  obtain⟨d,φ,e1,e2,e3⟩:=c pos cv q
  exact⟨d,φ,e1,hx _ _ e2,e3⟩
 | met f y =>
  have e:h.get? a=some (PySem.W.methodObj (.ref f) (.ref y)):=x
  show h'.get? a=some (PySem.W.methodObj (.ref f) (.ref y))
  exact k a _ (.inl rfl) e
 | ext φ=>obtain⟨p,⟨o,e⟩,st⟩:=x;exact⟨st _ _ p λb o hb q=>k _ _ hb q,⟨o,k _ _ (.inl rfl) e⟩,λh1 h2 p1 kk=>st h1 h2 p1 λb o hb q=>kk b o (hb.imp id (ho b)) q⟩
theorem cT.lt(x:cT P w H h)(e:H a=some o):a<h.objs.size:=(x a o e).lt
theorem cT.fresh(x:cT P w H h)(e:h.objs.size<=a):H a=none:=by
 cases q:H a with
 | none=>rfl
 | some u=>exact absurd (cS (x.lt q) e) (fV _)
theorem cT.kept(x:cT P w H h)(k:∀b u,h.get? b=some u->h'.get? b=some u):cT P w H h':=λa o e =>
 (x a o e).j6 (λb u _ q=>k b u q) (λ_ q=>q) (λ_ _ q=>q) λ_ _ q=>q
theorem cT.laid(x:cT P w H h)(k:∀b u,h.get? b=some u->h'.get? b=some u)(hp:h.objs.size<=a)(new:dR P w (upd H a o) h' a o):cT P w (upd H a o) h':=λb u e=>by
 have hn:=x.fresh hp
 by_cases hb:b=a
 ·subst hb;rw[cB]at e;cases e;exact new
 ·rw[bb hb]at e
  exact(x b u e).j6 (λc v _ q=>k c v q) (λc q=>by rw[bb (fq q hn)];exact q) (λc xs q=>by rw[bb (fq q hn)];exact q) λc xs q=>by rw[bb (fq q hn)];exact q
end
noncomputable def Rd(H:Hp)(a:Addr)(u:HO):Prop:=H a=some u\/∃o,H a=some (.cq o u)
theorem Rd.of{H:Hp}{a:Addr}{u:HO}(h:H a=some u):Rd H a u:=.inl h
theorem Rd.ok{P:Program}{w:World}{H:Hp}{h:Heap}{a:Addr}{u:HO}(r:Rd H a u)(x:cT P w H h):dR P w H h a u:=by
 rcases r with r | ⟨o,r⟩
 ·exact x a u r
 ·obtain⟨_,q⟩:=x a _ r
  exact q
noncomputable def Bb:Option HO->Prop
 | some (.lst _)=>True
 | some (.dK _)=>True
 | some (.dT _)=>True
 | some (.set _ _)=>True
 | some (.ins _ _ _)=>True
 | _=>False
section
variable{P:Program}{w:World}{H:Hp}{h h':Heap}{x e:Addr}{o':HO}
theorem cT.write(ok:cT P w H h)(mu:Bb (H x))(he:e=x\/H e=some (.own x))(k:∀b u,b≠e->h.get? b=some u->h'.get? b=some u)(vg:∃u,h'.get? e=some u)
  (new:dR P w (upd H x o') h' x o'):cT P w (upd H x o') h':=λb u q=>by
 have PY:∀c y,H c=some (.own y)->c≠x:=λc y r z=>by subst z;rw[r]at mu;exact mu
 have Zl:∀c xs,H c=some (.tup xs)->c≠x:=λc xs r z=>by subst z;rw[r]at mu;exact mu
 by_cases hb:b=x
 ·subst hb;rw[cB]at q;cases q;exact new
 ·rw[bb hb]at q
  by_cases sP:b=e
  ·have q':H b=some (.own x):=by
    rcases he with z | z
    ·exact absurd (sP.trans z) hb
    ·rw[sP];exact z
   rw[q]at q';cases q'
   obtain⟨v,hv⟩:=vg
   exact⟨v,by rw[sP];exact hv⟩
  ·refine(ok b u q).j6 (λc v hc r=>k c v ?_ r) (λc r=>by rw[bb (PY c b r)];exact r) (λc xs r=>by rw[bb (Zl c xs r)];exact r) λc φ r=>by rw[bb (λz=>by rw[z]at r;rw[r]at mu;exact mu)];exact r
   rcases hc with rfl | hc
   ·exact sP
   ·rintro rfl
    rcases he with z | z
    ·exact PY c b hc z
    ·rw[hc]at z;cases z;exact hb rfl
end
structure Un(fs ex:List Addr)(H H':Hp)(h h':Heap):Prop where
 keep:∀b o,h.get? b=some o->H b=none->b ∉ fs->b ∉ ex->h'.get? b=some o
 slot:∀b o,h.get? b=some o->H b=none->b∈fs->b ∉ ex->∃sl,h'.get? b=some { o with slots:=sl }
 free:∀b o,h.get? b=some o->H b=none->b ∉ ex->H' b=none
 there:∀b o,h.get? b=some o->b ∉ ex->∃o',h'.get? b=some o'
 gW:∀b xs,H b=some (.tup xs)->H' b=some (.tup xs)
 gE:∀b o u,H b=some (.cq o u)->H' b=some (.cq o u)
 fO:∀b ps,H b=some (.dw ps)->∃more,H' b=some (.dw (ps++more))
section
variable{fs EZ ex PZ:List Addr}{H H1 H2:Hp}{h h1 h2 h':Heap}{a x e:Addr}{o:HO}
theorem Un.any(u:Un fs ex H H1 h h1){b:Addr}{ob:Obj}(q:h.get? b=some ob)(n:H b=none)(hx:b ∉ ex):∃sl,h1.get? b=some { ob with slots:=sl }:=by
 by_cases hb:b∈fs
 ·exact u.slot b ob q n hb hx
 ·exact⟨ob.slots,u.keep b ob q n hb hx⟩
theorem Un.trans(a:Un fs ex H H1 h h1)(b:Un fs ex H1 H2 h1 h2):Un fs ex H H2 h h2 where
 keep:=λc ob q n hc hx=>b.keep c ob (a.keep c ob q n hc hx) (a.free c ob q n hx) hc hx
 slot:=λc ob q n hc hx=>by
  obtain⟨sl,e1⟩:=a.slot c ob q n hc hx
  obtain⟨sQ,e2⟩:=b.slot c _ e1 (a.free c ob q n hx) hc hx
  exact⟨sQ,e2⟩
 free:=λc ob q n hx=>by
  obtain⟨o',e1⟩:=a.there c ob q hx
  exact b.free c o' e1 (a.free c ob q n hx) hx
 there:=λc ob q hx=>by
  obtain⟨o',e1⟩:=a.there c ob q hx
  exact b.there c o' e1 hx
 gW:=λc xs q=>b.gW c xs (a.gW c xs q)
 gE:=λc ob xs q=>b.gE c ob xs (a.gE c ob xs q)
 fO:=λc ps q=>by
  obtain⟨m1,e1⟩:=a.fO c ps q
  obtain⟨m2,e2⟩:=b.fO c _ e1
  exact⟨m1++m2,by rw[e2,yf]⟩
theorem Un.kept(k:∀b u,h.get? b=some u->h'.get? b=some u):Un fs ex H H h h' :=
 ⟨λb ob q _ _ _=>k b ob q,λb ob q _ _ _=>⟨ob.slots,k b ob q⟩,λ_ _ _ n _=>n,λb ob q _=>⟨ob,k b ob q⟩,λ_ _ q=>q,λ_ _ _ q=>q,λ_ ps q=>⟨#[],by rw[q];simp⟩⟩
theorem Un.refl:Un fs ex H H h h:=Un.kept λ_ _ q=>q
theorem Un.laid(k:∀b u,h.get? b=some u->h'.get? b=some u)(hp:h.objs.size<=a)(hn:H a=none):Un fs ex H (upd H a o) h h' where
 keep:=λb u q _ _ _=>k b u q
 slot:=λb u q _ _ _=>⟨u.slots,k b u q⟩
 free:=λb u q n _=>by rw[bb (eI (cS (bX q) hp))];exact n
 there:=λb u q _=>⟨u,k b u q⟩
 gW:=λb xs q=>by rw[bb (fq q hn)];exact q
 gE:=λb u xs q=>by rw[bb (fq q hn)];exact q
 fO:=λb ps q=>⟨#[],by rw[bb (fq q hn),q];simp⟩
theorem Un.write(mu:Bb (H x))(he:e=x\/H e=some (.own x))(k:∀b u,b≠e->h.get? b=some u->h'.get? b=some u)(vg:∃u,h'.get? e=some u):Un fs ex H (upd H x o) h h':=by
 have hx:∀b,H b=none->b≠x:=λb n z=>by subst z;rw[n]at mu;exact mu
 have hb:∀b,H b=none->b≠e:=λb n z=>by
  subst z
  rcases he with r | r
  ·exact hx b n r
  ·rw[n]at r;cases r
 have hm:∀b u,H b=some u->¬ Bb (some u)->b≠x:=λb u q nm z=>by subst z;rw[q]at mu;exact nm mu
 refine⟨λb u q n _ _=>k b u (hb b n) q,λb u q n _ _=>⟨u.slots,k b u (hb b n) q⟩,λb u q n _=>by rw[bb (hx b n)];exact n,λb u q _=>?_,
  λb xs q=>by rw[bb (hm b _ q λz=>z)];exact q,λb u xs q=>by rw[bb (hm b _ q λz=>z)];exact q,λb ps q=>⟨#[],by rw[bb (hm b _ q λz=>z),q];simp⟩⟩
 by_cases sP:b=e
 ·subst sP;exact vg
 ·exact⟨u,k b u sP q⟩
theorem Un.mono(u:Un fs ex H H1 h h1)(hs:∀b∈fs,b∈EZ)(hx:∀b∈ex,b∈PZ):Un EZ PZ H H1 h h1 :=
 ⟨λb ob q n hb he=>u.keep b ob q n (λz=>hb (hs b z)) λz=>he (hx b z),λ_ _ q n _ he=>u.any q n λz=>he (hx _ z),λb ob q n he=>u.free b ob q n λz=>he (hx b z),λb ob q he=>u.there b ob q λz=>he (hx b z),u.gW,u.gE,u.fO⟩
end
noncomputable def Bc(h:Heap)(H:Hp):List Addr:=(aM h.objs.size).filter λa=>(H a).isSome
noncomputable def lQ(h:Heap)(H:Hp):Heap:=PySem.W.hideAll h (Bc h H)
theorem Zm(h:Heap)(H:Hp):(lQ h H).objs.size=h.objs.size:=PySem.W.hideAll_size _ _
theorem Zn{h:Heap}{H:Hp}{b:Addr}{o:Obj}(e:h.get? b=some o)(n:H b=none):(lQ h H).get? b=some o :=
 PySem.W.hideAll_get _ e λhm=>by
  have q:(H b).isSome=true:=(ku.mp hm).2
  rw[n]at q;simp at q
theorem Zo{h:Heap}{H:Hp}{b:Addr}{o:Obj}(e:(lQ h H).get? b=some o):h.get? b=some o/\H b=none:=by
 have e':h.get? b=some o:=PySem.W.of_hideAll (Bc h H) e
 refine⟨e',?_⟩
 cases q:H b with
 | none=>rfl
 | some x =>
  have hm:b∈Bc h H:=ku.mpr ⟨cV.mpr (bX e'),by simp[q]⟩
  have z:(lQ h H).get? b=none:=PySem.W.hideAll_none (Bc h H) hm
  rw[z]at e;cases e
noncomputable def Zp(g h:Heap)(L:Addr):List (Addr × Obj):=(aM h.objs.size).filterMap λa=>if a=L\/(g.get? a).isSome=true then none else(h.get? a).map λo=>(a,o)
noncomputable def eM(g h:Heap)(L d:Addr):List (Addr × Obj):=(Zp g h L).filter λp=>decide (p.1≠d)
end L2
namespace L2
open PySem PySem.Spec PyProof.Rows
structure Mod(K:PySem.W.Frag)(mg:Str->Option Value)(base:Heap):Prop where
 m4:K.In base
 glob:base.Ns mainGlobals mg
 blt:∃mb,base.Ns builtinsNs mb/\∀x:Str,x≠"__name__"->mb x=bootBuiltins x
 nolimit:base.NoLimit
structure Cx where
 prog:Program
 w:World
 K:PySem.W.Frag
 mg:Str->Option Value
 base:Heap
 A:Around
 N:List Str
 cL:Shared
 kB:Hp
 env:Env
 outer:List Env
 stack:List Env
 ex:List Addr
 fn:Str->Bool
 calm:Bool
 pn:List (Addr × Obj)
 xe:Value->Shared->Prop
noncomputable def dE(l:List Env):List Addr:=l.filterMap (·.frame)
noncomputable abbrev Cx.fs(X:Cx):List Addr:=dE X.outer
noncomputable def m5(sc:Scope)(x:Str):Prop:=sc.names.lookup x=some .local\/sc.names.lookup x=some .cell\/sc.names.lookup x=some .free
noncomputable def Loc(sc:Scope)(x:Str):Prop:=sc.names.lookup x=some .local\/sc.names.lookup x=some .cell
noncomputable def Zq(env:Env)(h:Heap)(m:Str->Option Value)(x:Str)(u:Value):Prop :=
 (env.kindOf x=some .local/\m x=some u)\/((env.kindOf x=some .cell\/env.kindOf x=some .free)/\∃c,env.cells.lookup x=some c/\h.IsCell c (some u))
structure Cx.Ok(X:Cx):Prop where
 mod:Mod X.K X.mg X.base
 kind:X.env.scope.kind=.function
 glob:X.env.globals=mainGlobals
 blt:X.env.builtins=builtinsNs
 above:X.cL.heap.objs.size<=X.env.locals
 inj:∀x y c,X.env.cells.lookup x=some c->X.env.cells.lookup y=some c->x=y
 has:∀x,(X.env.kindOf x=some .cell\/X.env.kindOf x=some .free)->∃c,X.env.cells.lookup x=some c
 sR:∀x c,X.fn x=true->X.env.cells.lookup x=some c->X.cL.heap.objs.size<=c
 hd:X.calm=true->X.A.handled=none
 frames:X.A.frames=some X.stack
 yz:X.stack=X.outer\/(X.stack=X.env::X.outer/\X.env.frame=some X.env.locals)
 yA:∀b∈X.ex,b≠X.env.locals/\∀x c,X.env.cells.lookup x=some c->c≠b
 bs:∀b o,X.base.get? b=some o->X.cL.heap.get? b=some o/\X.kB b=none
 jc:X.base.objs.size<=X.cL.heap.objs.size
 vh:∀b o,X.base.get? b=some o->b ∉ X.ex
 vi:∀b∈X.ex,b ∉ X.fs
 gF:X.cL.heap.FunFrames X.base X.outer
 jB:∀b∈X.fs,X.kB b=none
structure Inv(X:Cx)(pins:List (Addr × Obj))(σ:List (Option V))(H:Hp)(s:Shared):Prop where
 ok:X.Ok
 os:s.os=X.cL.os
 bare:AllBare s.gens
 base:Un X.fs X.ex X.kB H X.cL.heap s.heap
 loc:∃m,s.heap.Ns X.env.locals m/\∀(i:Nat) (x:Str) (v:V),X.N[i]?=some x->σ[i]?=some (some v)->m5 X.env.scope x->∃u,RelV v u/\Zq X.env s.heap m x u
 cell:∀x c,X.env.cells.lookup x=some c->∃v,s.heap.IsCell c v
 free:H X.env.locals=none
 je:∀x c,X.env.cells.lookup x=some c->H c=none
 pin:∀p∈X.pn++pins,s.heap.get? p.1=some p.2/\H p.1=none/\p.1≠X.env.locals/\p.1 ∉ X.fs/\∀v,p.2.data≠.cell v
 aH:cT X.prog X.w H s.heap
 len:σ.length=X.N.length
section
variable{X:Cx}{pins:List (Addr × Obj)}{σ:List (Option V)}{H H':Hp}{s:Shared}{h':Heap}
theorem Cx.Ok.Zr(ok:X.Ok){b:Addr}{o:Obj}(e:X.base.get? b=some o):b ∉ X.fs:=λhb=>by
 have:=(ok.gF.mem hb).1
 rw[e]at this;cases this
theorem Inv.bs(I:Inv X pins σ H s):∀b o,X.base.get? b=some o->s.heap.get? b=some o/\H b=none:=λb o e =>
 ⟨I.base.keep b o (I.ok.bs b o e).1 (I.ok.bs b o e).2 (I.ok.Zr e) (I.ok.vh b o e),I.base.free b o (I.ok.bs b o e).1 (I.ok.bs b o e).2 (I.ok.vh b o e)⟩
theorem Inv.bk(I:Inv X pins σ H s):∀b o,X.base.get? b=some o->s.heap.get? b=some o:=λb o e=>(I.bs b o e).1
theorem Inv.mod(I:Inv X pins σ H s):Mod X.K X.mg X.base:=I.ok.mod
theorem Inv.dj(I:Inv X pins σ H s):X.K.In s.heap:=I.ok.mod.m4.keeps I.bk
theorem Inv.nolimit(I:Inv X pins σ H s):s.heap.NoLimit:=I.ok.mod.nolimit.keeps I.bk
theorem Inv.fr(I:Inv X pins σ H s):∃m,Fr X.base X.env.locals s.heap m :=
 let⟨m,hn,_⟩:=I.loc
 ⟨m,hn,I.bk,fi I.ok.jc I.ok.above⟩
theorem Inv.lt(I:Inv X pins σ H s):X.env.locals<s.heap.objs.size:=let⟨_,hn,_⟩:=I.loc;hn.lt
theorem Inv.sz(I:Inv X pins σ H s):X.cL.heap.objs.size<=s.heap.objs.size:=fi I.ok.above (uO I.lt)
theorem Inv.P0(I:Inv X pins σ H s){a:Addr}(h:s.heap.objs.size<=a):a ∉ X.fs:=λhb=>by
 obtain⟨_,o,ho,_⟩:=I.ok.gF.mem hb
 exact absurd (cS (bX ho) (fi I.sz h)) (fV _)
theorem Inv.pO(I:Inv X pins σ H s):∀x c,X.env.cells.lookup x=some c->c≠X.env.locals:=λx c e z=>by
 obtain⟨v,o,ho,hd⟩:=I.cell x c e
 obtain⟨m,⟨o',es,ep,kC,yB,_⟩,_⟩:=I.loc
 rw[z,kC]at ho;cases ho;rw[yB]at hd;cases hd
theorem Inv.gF(I:Inv X pins σ H s):s.heap.FunFrames X.base X.outer:=by
 have all:∀(l:List Env),(∀b∈dE l,b∈X.fs)->X.cL.heap.FunFrames X.base l->s.heap.FunFrames X.base l:=by
  intro l
  induction l with
  | nil=>intro _ _;trivial
  | cons env r ih =>
   intro hs hl
   obtain⟨hk,⟨L,o,hf,hn,ho,hd⟩,hr⟩:=hl
   have hL:L∈X.fs:=hs L (by unfold dE;rw[uP,hf];exact gS)
   obtain⟨sl,e⟩:=I.base.slot L o ho (I.ok.jB L hL) hL λz=>I.ok.vi L z hL
   exact⟨hk,⟨L,_,hf,hn,e,hd⟩,ih (λb hb=>hs b (by unfold dE;rw[uP,hf];exact eJ _ hb)) hr⟩
 exact all X.outer (λ_ hb=>hb) I.ok.gF
theorem Inv.stack(I:Inv X pins σ H s):s.heap.FunFrames X.base X.stack:=by
 rcases I.ok.yz with e | ⟨e,hf⟩
 ·rw[e];exact I.gF
 ·rw[e]
  obtain⟨m,hn,_⟩:=I.loc
  refine .cons (by rw[I.ok.kind];decide) hf hn ?_ I.gF
  exact Heap.get?_none_of_le (fi I.ok.jc I.ok.above)
theorem Inv.yC(I:Inv X pins σ H s):∀b∈dE X.stack,b∈X.env.locals::X.fs:=λb hb=>by
 rcases I.ok.yz with e | ⟨e,hf⟩
 ·rw[e]at hb;exact eJ _ hb
 ·rw[e]at hb
  unfold dE at hb
  rw[uP,hf]at hb
  exact hb
theorem Inv.Bd(I:Inv X pins σ H s):∀b∈dE X.stack,H b=none:=λb hb=>by
 rcases cA.mp (I.yC b hb)with e | hb
 ·rw[e];exact I.free
 ·obtain⟨_,o,ho,_⟩:=I.ok.gF.mem hb
  exact I.base.free b o ho (I.ok.jB b hb) λz=>I.ok.vi b z hb
theorem Inv.step{g':Array GenState}{t':Nat}{d':Drawn}{ch:List Addr}(I:Inv X pins σ H s)
  (lU:∀b∈ch,(b∈X.ex\/X.cL.heap.objs.size<=b)/\b≠X.env.locals/\(∀x c,X.env.cells.lookup x=some c->c≠b)/\∀p∈X.pn++pins,p.1≠b)
  (keep:∀b o,b≠X.env.locals->b ∉ X.fs->b ∉ ch->s.heap.get? b=some o->H b=none->h'.get? b=some o)
  (slot:∀b o,b≠X.env.locals->b∈X.fs->b ∉ ch->s.heap.get? b=some o->H b=none->∃sl,h'.get? b=some { o with slots:=sl }) (free:∀b o,b ∉ ch->s.heap.get? b=some o->H b=none->H' b=none)
  (there:∀b o,b ∉ ch->s.heap.get? b=some o->∃o',h'.get? b=some o')
  (gW:∀b xs,H b=some (.tup xs)->H' b=some (.tup xs)) (gE:∀b o u,H b=some (.cq o u)->H' b=some (.cq o u)) (fO:∀b ps,H b=some (.dw ps)->∃more,H' b=some (.dw (ps++more)))
  (ns:∀m,s.heap.Ns X.env.locals m->h'.Ns X.env.locals m) (aH:cT X.prog X.w H' h') (hg:AllBare g') :
  Inv X pins σ H' { s with heap:=h',gens:=g',drawn:=d',toks:=t' }:=by
 have vj:∀b o,X.cL.heap.get? b=some o->b≠X.env.locals:=λb o e=>eI (cS (bX e) I.ok.above)
 have vk:∀b o,X.cL.heap.get? b=some o->b ∉ X.ex->b ∉ ch:=λb o e hx hb=>by
  rcases(lU b hb).1 with z | z
  ·exact hx z
  ·exact absurd (cS (bX e) z) (fV _)
 have cellK:∀x c,X.env.cells.lookup x=some c->∀v,s.heap.IsCell c v->h'.IsCell c v:=λx c e v ⟨o,ho,hd⟩=>by
  have yD:c ∉ ch:=λz=>(lU c z).2.2.1 x c e rfl
  by_cases hc:c∈X.fs
  ·obtain⟨sl,q⟩:=slot c o (I.pO x c e) hc yD ho (I.je x c e)
   exact⟨_,q,hd⟩
  ·exact⟨o,keep c o (I.pO x c e) hc yD ho (I.je x c e),hd⟩
 refine⟨I.ok,I.os,hg,⟨λb o e n hb hx=>?_,λb o e n hb hx=>?_,λb o e n hx=>?_,λb o e hx=>?_,λb xs e=>gW b xs (I.base.gW b xs e),λb o xs e=>gE b o xs (I.base.gE b o xs e),λb ps e=>?_⟩,?_,λx c e=>?_,?_,λx c e=>?_,λp hp=>?_,aH,I.len⟩
 ·exact keep b o (vj b o e) hb (vk b o e hx) (I.base.keep b o e n hb hx) (I.base.free b o e n hx)
 ·obtain⟨sl,e1⟩:=I.base.slot b o e n hb hx
  obtain⟨sQ,e2⟩:=slot b _ (vj b o e) hb (vk b o e hx) e1 (I.base.free b o e n hx)
  exact⟨sQ,e2⟩
 ·obtain⟨o',e1⟩:=I.base.there b o e hx
  exact free b o' (vk b o e hx) e1 (I.base.free b o e n hx)
 ·obtain⟨o',e1⟩:=I.base.there b o e hx
  exact there b o' (vk b o e hx) e1
 ·obtain⟨m1,e1⟩:=I.base.fO b ps e
  obtain⟨m2,e2⟩:=fO b _ e1
  exact⟨m1++m2,by rw[e2,yf]⟩
 ·obtain⟨m,hn,hl⟩:=I.loc
  refine⟨m,ns m hn,λi x v e1 e2 e3=>?_⟩
  obtain⟨u,r,l⟩:=hl i x v e1 e2 e3
  refine⟨u,r,?_⟩
  rcases l with l | ⟨k,c,e,z⟩
  ·exact .inl l
  ·exact .inr ⟨k,c,e,cellK x c e _ z⟩
 ·obtain⟨v,z⟩:=I.cell x c e
  exact⟨v,cellK x c e v z⟩
 ·obtain⟨m,⟨o,_,_,ho,_⟩,_⟩:=I.loc
  exact free _ o (λz=>(lU _ z).2.1 rfl) ho I.free
 ·obtain⟨v,o,ho,hd⟩:=I.cell x c e
  exact free c o (λz=>(lU c z).2.2.1 x c e rfl) ho (I.je x c e)
 ·obtain⟨e,n,ne,nf,d⟩:=I.pin p hp
  have yD:p.1 ∉ ch:=λz=>(lU p.1 z).2.2.2 p hp rfl
  exact⟨keep p.1 p.2 ne nf yD e n,free p.1 p.2 yD e n,ne,nf,d⟩
theorem Inv.un{t':Nat}(I:Inv X pins σ H s)(u:Un X.fs [] H H' s.heap h')(aH:cT X.prog X.w H' h'):Inv X pins σ H' { s with heap:=h',toks:=t' }:=by
 obtain⟨m,⟨o,es,ep,ho,r⟩,_⟩:=id I.loc
 obtain⟨sl,hL⟩:=u.any ho I.free (by simp)
 exact I.step (g':=s.gens) (d':=s.drawn) (ch:=[]) (λ_ z=>nomatch z) (λb o _ hb _ e n=>u.keep b o e n hb (by simp)) (λb o _ hb _ e n=>u.slot b o e n hb (by simp)) (λb o _ e n=>u.free b o e n (by simp)) (λb o _ e=>u.there b o e (by simp)) u.gW u.gE u.fO (λm' hm=>by
  obtain⟨o',E1,E2,kC,r'⟩:=hm
  rw[ho]at kC;cases kC
  exact⟨_,E1,E2,hL,r'⟩) aH I.bare
theorem Inv.call{g':Array GenState}{t':Nat}{d':Drawn}{ch:List Addr}(I:Inv X pins σ H s)(u:Un (dE X.stack) ch H H' s.heap h')(aH:cT X.prog X.w H' h')(hg:AllBare g')
  (lU:∀b∈ch,(b∈X.ex\/X.cL.heap.objs.size<=b)/\b≠X.env.locals/\(∀x c,X.env.cells.lookup x=some c->c≠b)/\∀p∈X.pn++pins,p.1≠b) :
  Inv X pins σ H' { s with heap:=h',gens:=g',drawn:=d',toks:=t' }:=by
 obtain⟨m,⟨o,es,ep,ho,r⟩,_⟩:=id I.loc
 obtain⟨sl,hL⟩:=u.any ho I.free λz=>(lU _ z).2.1 rfl
 exact I.step (ch:=ch) lU (λb o hL hb hc e n=>u.keep b o e n (λz=>(cA.mp (I.yC b z)).elim hL hb) hc) (λb o _ _ hc e n=>u.any e n hc) (λb o hc e n=>u.free b o e n hc) (λb o hc e=>u.there b o e hc) u.gW u.gE u.fO (λm' hm=>by
  obtain⟨o',E1,E2,kC,r'⟩:=hm
  rw[ho]at kC;cases kC
  exact⟨_,E1,E2,hL,r'⟩) aH hg
theorem Inv.turned{t':Nat}{it:Addr}(I:Inv X pins σ H s)(k:∀b o,b≠it->s.heap.get? b=some o->h'.get? b=some o)(hn:H it=none)(hL:it≠X.env.locals)
  (h1:it∈X.ex\/X.cL.heap.objs.size<=it) (h2:∀x c,X.env.cells.lookup x=some c->c≠it) (h3:∀p∈X.pn++pins,p.1≠it):Inv X pins σ H { s with heap:=h',toks:=t' }:=by
 have pP:∀b u,H b=some u->b≠it:=λb u e z=>by rw[z,hn]at e;cases e
 refine I.step (g':=s.gens) (d':=s.drawn) (ch:=[it]) (λb hb=>?_) (λb o _ _ hc e _=>k b o (λz=>hc (by simp[z])) e) (λb o _ _ hc e _=>⟨o.slots,k b o (λz=>hc (by simp[z])) e⟩) (λ_ _ _ _ n=>n)
  (λb o hc e=>⟨o,k b o (λz=>hc (by simp[z])) e⟩) (λ_ _ e=>e) (λ_ _ _ e=>e) (λb ps e=>⟨#[],by rw[e];simp⟩) (λm hm=>?_) (λb u e=>?_) I.bare
 ·have e:b=it:=by simpa using hb
  subst e
  exact⟨h1,hL,h2,h3⟩
 ·obtain⟨o,es,ep,ho,r⟩:=hm
  exact⟨o,es,ep,k _ o (eK hL) ho,r⟩
 ·refine(I.aH b u e).j6 (λc v hc q=>k c v ?_ q) (λ_ q=>q) (λ_ _ q=>q) λ_ _ q=>q
  rcases hc with z | z
  ·rw[z];exact pP b u e
  ·exact pP c _ z
theorem Inv.tok(I:Inv X pins σ H s)(t:Nat):Inv X pins σ H { s with toks:=t }:=I.un (h':=s.heap) (t':=t) Un.refl I.aH
theorem Inv.kept{t':Nat}(I:Inv X pins σ H s)(k:∀b u,s.heap.get? b=some u->h'.get? b=some u):Inv X pins σ H { s with heap:=h',toks:=t' }:=I.un (Un.kept k) (I.aH.kept k)
theorem Inv.laid{a:Addr}{o:HO}{t':Nat}(I:Inv X pins σ H s)(k:∀b u,s.heap.get? b=some u->h'.get? b=some u)(hp:s.heap.objs.size<=a)(new:dR X.prog X.w (upd H a o) h' a o) :
  Inv X pins σ (upd H a o) { s with heap:=h',toks:=t' }:=I.un (Un.laid k hp (I.aH.fresh hp)) (I.aH.laid k hp new)
theorem Inv.write{x e:Addr}{o:HO}{t':Nat}(I:Inv X pins σ H s)(mu:Bb (H x))(he:e=x\/H e=some (.own x))(k:∀b u,b≠e->s.heap.get? b=some u->h'.get? b=some u)(vg:∃u,h'.get? e=some u)
  (new:dR X.prog X.w (upd H x o) h' x o):Inv X pins σ (upd H x o) { s with heap:=h',toks:=t' }:=I.un (Un.write mu he k vg) (I.aH.write mu he k vg new)
theorem Inv.weak{aF:List (Option V)}(I:Inv X pins σ H s)(hl:aF.length=σ.length)(w:∀(i:Nat) v,aF[i]?=some (some v)->σ[i]?=some (some v)):Inv X pins aF H s :=
 ⟨I.ok,I.os,I.bare,I.base,let⟨m,hn,vm⟩:=I.loc;⟨m,hn,λi x v e1 e2 e3=>vm i x v e1 (w i v e2) e3⟩,I.cell,I.free,I.je,I.pin,I.aH,hl.trans I.len⟩
theorem Inv.P1{E3:List (Addr × Obj)}(I:Inv X pins σ H s)(h:∀p∈E3,s.heap.get? p.1=some p.2/\H p.1=none/\p.1≠X.env.locals/\p.1 ∉ X.fs/\∀v,p.2.data≠.cell v):Inv X E3 σ H s :=
 ⟨I.ok,I.os,I.bare,I.base,I.loc,I.cell,I.free,I.je,λp hp=>(cJ.mp hp).elim (λz=>I.pin p (fW _ z)) (h p),I.aH,I.len⟩
theorem P2{N:List Str}(hN:N.Nodup){i j:Nat}{x:Str}(a:N[i]?=some x)(b:N[j]?=some x):i=j:=by
 obtain⟨h1,e1⟩:=jW.mp a
 obtain⟨h2,e2⟩:=jW.mp b
 exact(List.getElem_inj hN).mp (e1.trans e2.symm)
theorem Zs{M:Model}{A:Around}{E:Value->Shared->Prop}{i:Nat}{x:Str}{v:V}{u:Value}{Q:Unit->Shared->Prop}(I:Inv X pins σ H s)(hN:X.N.Nodup)(hi:X.N[i]?=some x)(hx:Loc X.env.scope x)(r:RelV v u)
  (h:∀s',Inv X pins (σ.set i (some v)) H s'->(∃a,Heap.SameBut a s.heap s'.heap/\(a=X.env.locals\/X.env.cells.lookup x=some a))->Q () s') (hf:X.fn x=true\/X.env.scope.names.lookup x=some .local:=by first | exact .inl rfl | exact .inr rfl | assumption):wpAny M A (storeName X.env x u) Q E s:=by
 obtain⟨m,hn,hl⟩:=id I.loc
 have Zt:(X.env.scope.kind==.class||(X.env.scope.kind==.module&&X.env.locals != X.env.globals))=false:=by rw[I.ok.kind];rfl
 have P4:i<σ.length:=by rw[I.len];exact(jW.mp hi).1
 have pO:=I.pO
 have tracked:∀{a:Addr} {h':Heap},(∃o,s.heap.get? a=some o/\H a=none)->Heap.SameBut a s.heap h'->cT X.prog X.w H h':=λ{a h'} ha hs b ob e=>by
  obtain⟨_,_,P5⟩:=ha
  refine(I.aH b ob e).j6 (λc w' hc q=>(hs.2 c ?_).trans q) (λ_ q=>q) (λ_ _ q=>q) λ_ _ q=>q
  rintro rfl
  rcases hc with rfl | hc
  ·rw[P5]at e;cases e
  ·rw[P5]at hc;cases hc
 rcases hx with hk | hk
 ·refine wpAny_storeName_local hk hn (λh' Zu hs=>?_) Zt
  obtain⟨oL,_,_,Zv,_⟩:=id hn
  refine h _ ⟨I.ok,I.os,I.bare,⟨λb o e n hb hx=>?_,λb o e n hb hx=>?_,I.base.free,λb o e hx=>?_,I.base.gW,I.base.gE,I.base.fO⟩,⟨_,Zu,λj y v' e1 e2 e3=>?_⟩,λy c e=>?_,I.free,I.je,λp hp=>?_,tracked ⟨oL,Zv,I.free⟩ hs,by simpa using I.len⟩ ⟨_,hs,.inl rfl⟩
  ·exact(hs.2 b (eI (cS (bX e) I.ok.above))).trans (I.base.keep b o e n hb hx)
  ·obtain⟨sl,e1⟩:=I.base.slot b o e n hb hx
   exact⟨sl,(hs.2 b (eI (cS (bX e) I.ok.above))).trans e1⟩
  ·obtain⟨o',e1⟩:=I.base.there b o e hx
   exact⟨o',(hs.2 b (eI (cS (bX e) I.ok.above))).trans e1⟩
  ·by_cases hj:j=i
   ·subst hj
    rw[hi]at e1;cases e1
    rw[Ek P4]at e2
    cases e2
    exact⟨u,r,.inl ⟨hk,by simp⟩⟩
   ·rw[uQ (eK hj)]at e2
    obtain⟨u',r',q⟩:=hl j y v' e1 e2 e3
    refine⟨u',r',?_⟩
    rcases q with⟨k,e⟩ | ⟨k,c,e,z⟩
    ·refine .inl ⟨k,?_⟩
     have:y≠x:=λe=>hj (P2 hN e1 (e ▸ hi))
     simp[this,e]
    ·exact .inr ⟨k,c,e,z.sameBut hs (pO y c e)⟩
  ·obtain⟨w',z⟩:=I.cell y c e
   exact⟨w',z.sameBut hs (pO y c e)⟩
  ·obtain⟨e,n,ne,nf,d⟩:=I.pin p hp
   exact⟨(hs.2 p.1 ne).trans e,n,ne,nf,d⟩
 ·have yE:X.fn x=true:=by
   rcases hf with z | z
   ·exact z
   ·rw[z]at hk;cases hk
  obtain⟨c,hc⟩:=I.ok.has x (.inl hk)
  obtain⟨w',z⟩:=I.cell x c hc
  refine wpAny_storeName_cell I.ok.kind hk hc z (λh' yF hs=>?_)
  obtain⟨oc,jf,Zw⟩:=id z
  refine h { s with heap:=h' } ⟨I.ok,I.os,I.bare,⟨λb o e n hb hx=>?_,λb o e n hb hx=>?_,I.base.free,λb o e hx=>?_,I.base.gW,I.base.gE,I.base.fO⟩,⟨m,hn.sameBut hs (eK (pO x c hc)),λj y v' e1 e2 e3=>?_⟩,λy c' e=>?_,I.free,I.je,λp hp=>?_,tracked ⟨oc,jf,I.je x c hc⟩ hs,by simpa using I.len⟩ ⟨c,hs,.inr hc⟩
  ·exact(hs.2 b (eI (cS (bX e) (I.ok.sR x c yE hc)))).trans (I.base.keep b o e n hb hx)
  ·obtain⟨sl,e1⟩:=I.base.slot b o e n hb hx
   exact⟨sl,(hs.2 b (eI (cS (bX e) (I.ok.sR x c yE hc)))).trans e1⟩
  ·obtain⟨o',e1⟩:=I.base.there b o e hx
   exact⟨o',(hs.2 b (eI (cS (bX e) (I.ok.sR x c yE hc)))).trans e1⟩
  ·by_cases hj:j=i
   ·subst hj
    rw[hi]at e1;cases e1
    rw[Ek P4]at e2
    cases e2
    exact⟨u,r,.inr ⟨.inl hk,c,hc,yF⟩⟩
   ·rw[uQ (eK hj)]at e2
    obtain⟨u',r',q⟩:=hl j y v' e1 e2 e3
    refine⟨u',r',?_⟩
    rcases q with q | ⟨k,c',e,z'⟩
    ·exact .inl q
    ·refine .inr ⟨k,c',e,z'.sameBut hs ?_⟩
     rintro rfl
     exact hj (P2 hN e1 (I.ok.inj _ _ _ e hc ▸ hi))
  ·by_cases P6:c'=c
   ·subst P6;exact⟨_,yF⟩
   ·obtain⟨w2,z2⟩:=I.cell y c' e
    exact⟨w2,z2.sameBut hs P6⟩
  ·obtain⟨e,n,ne,nf,d⟩:=I.pin p hp
   refine⟨(hs.2 p.1 ?_).trans e,n,ne,nf,d⟩
   intro q
   rw[q,jf]at e
   have q':oc=p.2:=cW e
   exact d w' (by rw[<-q'];exact Zw)
theorem E4{M:Model}{A:Around}{E:Value->Shared->Prop}{i:Nat}{x:Str}{v:V}{u:Value}{Q:Unit->Shared->Prop}(I:Inv X pins σ H s)(hN:X.N.Nodup)(hi:X.N[i]?=some x)(hx:Loc X.env.scope x)(r:RelV v u)
  (h:∀s',Inv X pins (σ.set i (some v)) H s'->Q () s') (hf:X.fn x=true\/X.env.scope.names.lookup x=some .local:=by first | exact .inl rfl | exact .inr rfl | assumption):wpAny M A (storeName X.env x u) Q E s :=
 Zs I hN hi hx r (λs' I' _=>h s' I') hf
theorem Inv.Zx{s':Shared}{ch:List Addr}(I:Inv X pins σ H s)(ho:s'.os=s.os)(u:Un (dE X.stack) ch H H' s.heap s'.heap)(aH:cT X.prog X.w H' s'.heap)(hg:AllBare s'.gens)
  (lU:∀b∈ch,(b∈X.ex\/X.cL.heap.objs.size<=b)/\b≠X.env.locals/\(∀x c,X.env.cells.lookup x=some c->c≠b)/\∀p∈X.pn++pins,p.1≠b):Inv X pins σ H' s':=by
 obtain⟨h',g',d',t',o'⟩:=s'
 have e:o'=s.os:=ho
 subst e
 exact I.call (g':=g') (t':=t') (d':=d') u aH hg lU
end
noncomputable abbrev XK:=Value->Option Addr->Hp->Prop
noncomputable abbrev St:=List (Option V)
noncomputable abbrev VK:=V->Hp->Prop
noncomputable abbrev TE:=St->Hp->VK->Prop
noncomputable abbrev TT:=St->Hp->(Bool->Hp->Prop)->Prop
noncomputable abbrev TA:=St->Hp->(List V->Hp->Prop)->Prop
structure Ends where
 nx:St->Hp->Prop
 rt:VK
 bk:St->Hp->Prop:=λ_ _=>False
 ct:St->Hp->Prop:=λ_ _=>False
noncomputable abbrev TS:=Ends->St->Hp->Prop
noncomputable def EP(X:Cx)(pins:List (Addr × Obj))(σ:St)(Q:VK)(u:Value)(s':Shared):Prop:=∃v H',Inv X pins σ H' s'/\RelV v u/\Q v H'
noncomputable def TP(X:Cx)(pins:List (Addr × Obj))(σ:St)(Q:Bool->Hp->Prop)(b:Bool)(s':Shared):Prop:=∃H',Inv X pins σ H' s'/\Q b H'
noncomputable def AP(X:Cx)(pins:List (Addr × Obj))(σ:St)(Q:List V->Hp->Prop)(us:List Value)(s':Shared):Prop:=∃vs H',Inv X pins σ H' s'/\Vals vs us/\Q vs H'
noncomputable def SP(X:Cx)(pins:List (Addr × Obj))(D:Ends)(f:Flow)(s':Shared):Prop :=
 match f with
 | .next=>∃aF H',Inv X pins aF H' s'/\D.nx aF H'
 | .brk=>∃aF H',Inv X pins aF H' s'/\D.bk aF H'
 | .cont=>∃aF H',Inv X pins aF H' s'/\D.ct aF H'
 | .ret u=>∃v aF H',Inv X pins aF H' s'/\RelV v u/\D.rt v H'
noncomputable def PE(X:Cx)(e:Expr)(t:TE):Prop :=
 ∀(pins:List (Addr × Obj)) (s:Shared) (σ:St) (H:Hp) (Q:VK),Inv X pins σ H s->t σ H Q->wpAny (model X.prog X.w) X.A (eval e X.env) (EP X pins σ Q) X.xe s
noncomputable def PT(X:Cx)(e:Expr)(t:TT):Prop :=
 ∀(pins:List (Addr × Obj)) (s:Shared) (σ:St) (H:Hp) (Q:Bool->Hp->Prop),Inv X pins σ H s->t σ H Q->wpAny (model X.prog X.w) X.A (isTrue e X.env (eval e X.env)) (TP X pins σ Q) X.xe s
noncomputable def PW(X:Cx)(e:Expr)(t:TT):Prop :=
 ∀(whole:Sem Value) (pins:List (Addr × Obj)) (s:Shared) (σ:St) (H:Hp) (Q:Bool->Hp->Prop),Inv X pins σ H s->t σ H Q->wpAny (model X.prog X.w) X.A (isTrue e X.env whole) (TP X pins σ Q) X.xe s
theorem PW.pt{X:Cx}{e:Expr}{t:TT}(h:PW X e t):PT X e t:=h _
noncomputable def PA(X:Cx)(es:List Expr)(t:TA):Prop :=
 ∀(pos:Pos) (pins:List (Addr × Obj)) (s:Shared) (σ:St) (H:Hp) (Q:List V->Hp->Prop),Inv X pins σ H s->t σ H Q->wpAny (model X.prog X.w) X.A (spliced (backTo pos (starEach es X.env))) (AP X pins σ Q) X.xe s
noncomputable def PS(X:Cx)(st:Stmt)(t:TS):Prop :=
 ∀(pins:List (Addr × Obj)) (s:Shared) (σ:St) (H:Hp) (D:Ends),Inv X pins σ H s->t D σ H->wpAny (model X.prog X.w) X.A (exec st X.env) (SP X pins D) X.xe s
noncomputable def PSs(X:Cx)(st:List Stmt)(t:TS):Prop :=
 ∀(pins:List (Addr × Obj)) (s:Shared) (σ:St) (H:Hp) (D:Ends),Inv X pins σ H s->t D σ H->wpAny (model X.prog X.w) X.A (execs st X.env) (SP X pins D) X.xe s
theorem aO{α:Type}{t:Sem α}{Q Q':α->Shared->Prop}{M:Model}{A:Around}{E:Value->Shared->Prop}{s:Shared}(h:wpAny M A t Q E s)(hQ:∀a s,Q a s->Q' a s):wpAny M A t Q' E s:=wpAny_mono h hQ λ_ _ x=>x
end L2
namespace L2
open PySem PySem.Spec PyProof.Rows
section
variable{X:Cx}
noncomputable def P7(i:Nat):TE:=λσ H Q=>∃v,σ[i]?=some (some v)/\Q v H
noncomputable def tC(v:V):TE:=λ_ H Q=>Q v H
theorem vn{i:Nat}{x:Str}{pos:Pos}(hN:X.N[i]?=some x)(hv:m5 X.env.scope x)(hd:(x==("__debug__":Str))=false:=by decide)(de:(x==("__classdict__":Str))=false:=by decide):PE X (.Name x pos) (P7 i):=by
 intro pins s σ H Q I h
 obtain⟨v,e,h⟩:=h
 obtain⟨m,hn,hl⟩:=I.loc
 obtain⟨u,r,l⟩:=hl i x v hN e hv
 have fin:EP X pins σ Q u s:=⟨v,H,I,r,h⟩
 rcases l with⟨hk,hm⟩ | ⟨hk,c,hc,Be⟩
 ·exact wpAny_Name (wpAny_loadName_local I.ok.kind hk hn hm fin) hd
 ·rcases hk with hk | hk
  ·exact wpAny_Name (wpAny_loadName_cell I.ok.kind hk hc Be fin) hd
  ·exact wpAny_Name (wpAny_loadName_free I.ok.kind hk hc Be fin de) hd
theorem vo{i j pos}:PE X (.Constant (.int i) j pos) (tC (.int i)):=λ_ _ _ H _ I h=>wpAny_Constant_int ⟨.int i,H,I.tok _,⟨_,rfl⟩,h⟩
theorem Zy{b j pos}:PE X (.Constant (.bool b) j pos) (tC (.bl b)):=λ_ _ _ H _ I h=>Constant_bool ⟨.bl b,H,I,rfl,h⟩
theorem Zz{j pos}:PE X (.Constant .none j pos) (tC .au):=λ_ _ _ H _ I h=>Constant_none ⟨.au,H,I,rfl,h⟩
theorem ZA{x j pos}:PE X (.Constant (.str x) j pos) (tC (.str x)):=λ_ _ _ H _ I h=>Calls.Constant_str ⟨.str x,H,I.tok _,⟨_,rfl⟩,h⟩
noncomputable def Gl(X:Cx)(x:Str):Prop:=X.env.kindOf x=some .globalImplicit
theorem Bf{E:Value->Shared->Prop}{pins:List (Addr × Obj)}{s:Shared}{σ:St}{H:Hp}{x:Str}{u:Value}{pos:Pos}{Q:Value->Shared->Prop}(I:Inv X pins σ H s)(hg:Gl X x)(hm:X.mg x=some u)(h:Q u s)
  (hd:(x==("__debug__":Str))=false:=by decide):wpAny (model X.prog X.w) X.A (eval (.Name x pos) X.env) Q E s :=
 YI I.ok.kind hg (Calls.loadGlobal_global (by rw[I.ok.glob];exact I.mod.glob.keeps I.bk) hm h) hd
theorem m6{E:Value->Shared->Prop}{pins:List (Addr × Obj)}{s:Shared}{σ:St}{H:Hp}{x:Str}{u:Value}{pos:Pos}{Q:Value->Shared->Prop}(I:Inv X pins σ H s)(hg:Gl X x)(hm:X.mg x=none)(hv:bootBuiltins x=some u)(h:Q u s)
  (hn:x≠"__name__":=by decide) (hd:(x==("__debug__":Str))=false:=by decide):wpAny (model X.prog X.w) X.A (eval (.Name x pos) X.env) Q E s:=by
 obtain⟨mb,h1,h2⟩:=I.mod.blt
 exact YI I.ok.kind hg (Calls.loadGlobal_builtin (by rw[I.ok.glob];exact I.mod.glob.keeps I.bk) hm (by rw[I.ok.blt];exact h1.keeps I.bk) ((h2 x hn).trans hv) h) hd
theorem ZC{x:Str}{v:V}{u:Value}{pos:Pos}(hg:Gl X x)(hm:X.mg x=none)(hv:bootBuiltins x=some u)(r:RelV v u)(hn:x≠"__name__":=by decide)(hd:(x==("__debug__":Str))=false:=by decide):PE X (.Name x pos) (tC v) :=
 λ_ _ _ H _ I h=>m6 I hg hm hv ⟨v,H,I,r,h⟩ hn hd
variable{a b:Expr}{ta tb:TE}{pos:Pos}
noncomputable def tB(t:TE):TT:=λσ H Q=>t σ H λx H1=>∃c,x=.bl c/\Q c H1
theorem E5{e:Expr}{t:TE}(h:PE X e t)(he:∀whole,isTrue e X.env whole=(do let v<-whole;standAt e.pos;holding [v] (truthy v)):=by intro _;rfl):PT X e (tB t):=by
 intro pins s σ H Q I hw
 refine isTrue_plain (aO (h pins s σ H _ I hw) λv s1 ⟨x,H1,I1,r1,q1⟩=>?_) (he _)
 obtain⟨d,rfl,q⟩:=q1
 cases r1
 exact wpAny_truthy_bool ⟨H1,I1,q⟩
variable{tA Bg:TT}{eM:List Expr}
noncomputable def ZD(t u:TT):TT:=λσ H Q=>t σ H λc H1=>if c=true then u σ H1 Q else Q false H1
noncomputable def ZE(t u:TT):TT:=λσ H Q=>t σ H λc H1=>if c=true then Q true H1 else u σ H1 Q
noncomputable def ZF(t:TT):TT:=λσ H Q=>t σ H λc H1=>Q (!c) H1
theorem E6(ha:PT X a tA):PW X (.BoolOp .And [a] pos) tA:=by
 intro wh pins s σ H Q I h
 refine isTrue_and (aO (ha pins s σ H Q I h) λc s1 e=>?_)
 cases c with
 | true=>exact isTrue_and_nil e
 | false=>exact e
theorem m8(ha:PT X a tA):PW X (.BoolOp .Or [a] pos) tA:=by
 intro wh pins s σ H Q I h
 refine isTrue_or (aO (ha pins s σ H Q I h) λc s1 e=>?_)
 cases c with
 | false=>exact isTrue_or_nil e
 | true=>exact e
theorem ZG(ha:PT X a tA)(hb:PW X (.BoolOp .And (b::eM) pos) Bg):PW X (.BoolOp .And (a::b::eM) pos) (ZD tA Bg):=by
 intro wh pins s σ H Q I h
 refine isTrue_and (aO (ha pins s σ H _ I h) λc s1 ⟨H1,I1,q1⟩=>?_)
 cases c with
 | true=>exact hb wh pins s1 σ H1 Q I1 q1
 | false=>exact⟨H1,I1,q1⟩
theorem ZH(ha:PT X a tA)(hb:PW X (.BoolOp .Or (b::eM) pos) Bg):PW X (.BoolOp .Or (a::b::eM) pos) (ZE tA Bg):=by
 intro wh pins s σ H Q I h
 refine isTrue_or (aO (ha pins s σ H _ I h) λc s1 ⟨H1,I1,q1⟩=>?_)
 cases c with
 | true=>exact⟨H1,I1,q1⟩
 | false=>exact hb wh pins s1 σ H1 Q I1 q1
theorem E7(ha:PT X a tA):PT X (.UnaryOp .Not a pos) (ZF tA):=by
 intro pins s σ H Q I h
 exact isTrue_not (ha pins s σ H (λc H1=>Q (!c) H1) I h)
noncomputable def ZI(ta tb:TE):TE:=λσ H Q=>ta σ H λx H1=>∃c,x=.bl c/\if c=true then tb σ H1 Q else Q (.bl false) H1
noncomputable def ZJ(ta:TE):TE:=λσ H Q=>ta σ H λx H1=>∃c,x=.bl c/\Q (.bl (!c)) H1
theorem vp{op}{t:TE}(h:PE X a t):PE X (.BoolOp op [a] pos) t:=λpins s σ H Q I hw=>BoolOp_one (h pins s σ H Q I hw)
theorem ZK(ha:PE X a ta)(hb:PE X (.BoolOp .And (b::eM) pos) tb):PE X (.BoolOp .And (a::b::eM) pos) (ZI ta tb):=by
 intro pins s σ H Q I h
 refine BoolOp_and (aO (ha pins s σ H _ I h) λv s1 ⟨x,H1,I1,r1,q1⟩=>?_)
 obtain⟨c,rfl,q1⟩:=q1
 cases r1
 refine wpAny_truthy_bool ?_
 cases c with
 | true=>exact hb pins s1 σ H1 Q I1 q1
 | false=>exact⟨.bl false,H1,I1,rfl,q1⟩
theorem ZL(ha:PE X a ta):PE X (.UnaryOp .Not a pos) (ZJ ta):=by
 intro pins s σ H Q I h
 refine UnaryOp_ (aO (ha pins s σ H _ I h) λv s1 ⟨x,H1,I1,r1,q1⟩=>?_)
 obtain⟨c,rfl,q1⟩:=q1
 cases r1
 exact not_of (wpAny_truthy_bool ⟨.bl (!c),H1,I1,rfl,q1⟩)
noncomputable def ZM(t:TT)(ta tb:TE):TE:=λσ H Q=>t σ H λc H1=>if c=true then ta σ H1 Q else tb σ H1 Q
theorem ZN{c:Expr}(hc:PT X c tA)(ha:PE X a ta)(hb:PE X b tb):PE X (.IfExp c a b pos) (ZM tA ta tb):=by
 intro pins s σ H Q I h
 refine wpAny_IfExp (aO (hc pins s σ H _ I h) λd s1 ⟨H1,I1,q1⟩=>?_)
 cases d with
 | true=>exact ha pins s1 σ H1 Q I1 q1
 | false=>exact hb pins s1 σ H1 Q I1 q1
end
end L2
namespace L2
open PySem PySem.Spec PyProof.Rows
noncomputable def bJ(K:PySem.W.Frag)(H:Hp)(a:Addr)(xs:List V):Prop :=
 Rd H a (.lst xs) \/
  ∃(o:Obj) (its:Array Value) (n:Nat),K.lookup a=some o/\o.cls=.type "list"/\o.dict=none/\o.data=.seq its n/\its.size<=sizeLine/\Vals xs its.toList
noncomputable def fZ(K:PySem.W.Frag)(H:Hp)(a:Addr)(xs:List V):Prop :=
 Rd H a (.tup xs) \/
  ∃(o:Obj) (its:Array Value) (n:Nat),K.lookup a=some o/\o.cls=.type "tuple"/\o.data=.seq its n/\its.size<=sizeLine/\Vals xs its.toList
noncomputable def ZO:Value->Option V
 | .none=>some .au
 | .bool b=>some (.bl b)
 | .int i _=>some (.int i)
 | .str x _=>some (.str x)
 | .bytes b _=>some (.Ba b)
 | .float b _=>some (.sO b)
 | .ref a=>some (.ref a)
 | .type n=>some (.ty n)
 | _=>none
theorem RelV.abs{x:V}{u:Value}(r:RelV x u):ZO u=some x:=by
 cases x with
 | au=>cases r;rfl
 | bl _=>cases r;rfl
 | int _=>obtain⟨t,rfl⟩:=r;rfl
 | str _=>obtain⟨t,rfl⟩:=r;rfl
 | Ba _=>obtain⟨t,rfl⟩:=r;rfl
 | sO _=>obtain⟨t,rfl⟩:=r;rfl
 | ref _=>cases r;rfl
 | ty _=>cases r;rfl
theorem RelV.inj{x y:V}{u:Value}(r:RelV x u)(q:RelV y u):x=y:=cW (r.abs.symm.trans q.abs)
theorem Vals.inj:∀{xs ys:List V} {us:List Value},Vals xs us->Vals ys us->xs=ys
 | _,_,_,.nil,.nil=>rfl
 | _,_,_,.cons r t,.cons r' t'=>by rw[r.inj r',Vals.inj t t']
section
variable{X:Cx}{pins:List (Addr × Obj)}{σ:St}{H:Hp}{s:Shared}{a:Addr}{xs ys:List V}
theorem bJ.of{K:PySem.W.Frag}(h:H a=some (.lst xs)):bJ K H a xs:=.inl (.inl h)
theorem fZ.of{K:PySem.W.Frag}(h:H a=some (.tup xs)):fZ K H a xs:=.inl (.inl h)
theorem Inv.list(I:Inv X pins σ H s)(h:bJ X.K H a xs):∃its:List Value,Vals xs its/\PlainL s.heap a its.toArray/\xs.length<=sizeLine:=by
 rcases h with h | ⟨o,its,n,hk,hc,hd,hs,hz,r⟩
 ·obtain⟨z,its,n,r,e⟩:=h.ok I.aH
  exact⟨its,r,⟨_,n,e,rfl,rfl,rfl⟩,z⟩
 ·refine⟨its.toList,r,⟨o,n,I.dj a o hk,hc,hd,by simpa using hs⟩,?_⟩
  have e:=r.length
  simp only[uR]at e
  omega
theorem Inv.tuple(I:Inv X pins σ H s)(h:fZ X.K H a xs):∃its:List Value,Vals xs its/\IsTup s.heap a its.toArray/\xs.length<=sizeLine:=by
 rcases h with h | ⟨o,its,n,hk,hc,hs,hz,r⟩
 ·obtain⟨z,its,r,p⟩:=h.ok I.aH
  exact⟨its,r,p,z⟩
 ·refine⟨its.toList,r,⟨o,I.dj a o hk,hc,n,by simpa using hs⟩,?_⟩
  have e:=r.length
  simp only[uR]at e
  omega
theorem Inv.Bh(I:Inv X pins σ H s)(h:bJ X.K H a xs)(h':bJ X.K H a ys):xs=ys:=by
 obtain⟨its,r,⟨o,n,e,_,_,d⟩,_⟩:=I.list h
 obtain⟨its',r',⟨o',n',e',_,_,d'⟩,_⟩:=I.list h'
 rw[e]at e';cases e'
 rw[d]at d'
 injection d' with d1 _
 have:its=its':=by simpa using congrArg Array.toList d1
 subst this
 exact r.inj r'
end
noncomputable abbrev Cx.jC(X:Cx)(E:Value->Shared->Prop):Cx:={ X with xe:=E }
noncomputable abbrev Cx.gb(X:Cx):Cx:=X.jC λ_ _=>False
theorem Cx.Ok.jC{X:Cx}(ok:X.Ok)(E:Value->Shared->Prop):(X.jC E).Ok :=
 ⟨ok.mod,ok.kind,ok.glob,ok.blt,ok.above,ok.inj,ok.has,ok.sR,ok.hd,ok.frames,ok.yz,ok.yA,ok.bs,ok.jc,ok.vh,ok.vi,ok.gF,ok.jB⟩
theorem Cx.Ok.kD{X:Cx}{E:Value->Shared->Prop}(ok:(X.jC E).Ok):X.Ok :=
 ⟨ok.mod,ok.kind,ok.glob,ok.blt,ok.above,ok.inj,ok.has,ok.sR,ok.hd,ok.frames,ok.yz,ok.yA,ok.bs,ok.jc,ok.vh,ok.vi,ok.gF,ok.jB⟩
section
variable{X:Cx}{pins:List (Addr × Obj)}{σ:St}{H:Hp}{s:Shared}{E:Value->Shared->Prop}
theorem Inv.jC(I:Inv X pins σ H s)(E:Value->Shared->Prop):Inv (X.jC E) pins σ H s:=⟨I.ok.jC E,I.os,I.bare,I.base,I.loc,I.cell,I.free,I.je,I.pin,I.aH,I.len⟩
theorem Inv.kD(I:Inv (X.jC E) pins σ H s):Inv X pins σ H s:=⟨I.ok.kD,I.os,I.bare,I.base,I.loc,I.cell,I.free,I.je,I.pin,I.aH,I.len⟩
theorem SP.kD{D:Ends}{f:Flow}{s':Shared}(h:SP (X.jC E) pins D f s'):SP X pins D f s':=by
 cases f with
 | next=>obtain⟨aF,H',I,q⟩:=h;exact⟨aF,H',I.kD,q⟩
 | brk=>obtain⟨aF,H',I,q⟩:=h;exact⟨aF,H',I.kD,q⟩
 | cont=>obtain⟨aF,H',I,q⟩:=h;exact⟨aF,H',I.kD,q⟩
 | ret u=>obtain⟨v,aF,H',I,r,q⟩:=h;exact⟨v,aF,H',I.kD,r,q⟩
theorem PE.gb{e:Expr}{t:TE}(h:PE X.gb e t):PE X e t:=λpins s σ H Q I hw =>
 wpAny_mono (h pins s σ H Q (I.jC _) hw) (λ_ _ ⟨v,H',I',r,q⟩=>⟨v,H',I'.kD,r,q⟩) λ_ _ z=>fE z
theorem PT.gb{e:Expr}{t:TT}(h:PT X.gb e t):PT X e t:=λpins s σ H Q I hw =>
 wpAny_mono (h pins s σ H Q (I.jC _) hw) (λ_ _ ⟨H',I',q⟩=>⟨H',I'.kD,q⟩) λ_ _ z=>fE z
theorem PSs.gb{st:List Stmt}{t:TS}(h:PSs X.gb st t):PSs X st t:=λpins s σ H D I hw =>
 wpAny_mono (h pins s σ H D (I.jC _) hw) (λ_ _ q=>q.kD) λ_ _ z=>fE z
end
section
variable{X:Cx}{st:Stmt}{eM:List Stmt}{t u:TS}{e:Expr}{te:TE}{pos:Pos}
noncomputable def ZP:TS:=λD σ H=>D.nx σ H
noncomputable def ZQ(t u:TS):TS:=λD σ H=>t { D with nx:=u D } σ H
theorem E8:PSs X [] ZP:=λ_ _ σ H _ I h=>wpAny_execs_nil ⟨σ,H,I,h⟩
theorem kE(h1:PS X st t)(h2:PSs X eM u):PSs X (st::eM) (ZQ t u):=by
 intro pins s σ H D I h
 refine wpAny_execs_cons (aO (h1 pins s σ H { D with nx:=u D } I h) λf s1 q=>?_)
 cases f with
 | next =>
  obtain⟨aF,H',I',q⟩:=q
  exact h2 pins s1 aF H' D I' q
 | ret v=>exact q
 | brk=>exact q
 | cont=>exact q
theorem vq(h1:PS X st t):PSs X [st] t:=by
 intro pins s σ H D I h
 refine wpAny_execs_cons (aO (h1 pins s σ H D I h) λf s1 q=>?_)
 cases f with
 | next=>exact wpAny_execs_nil q
 | ret v=>exact q
 | brk=>exact q
 | cont=>exact q
theorem Inv.quiet{pins:List (Addr × Obj)}{σ:St}{H:Hp}{s:Shared}(I:Inv X pins σ H s):interactive X.env=false:=by simp[interactive,I.ok.kind]
noncomputable def ZR(te:TE):TS:=λD σ H=>te σ H λ_ H1=>D.nx σ H1
theorem E9(he:PE X e te)(hs:swapsWith e none pos.line X.env=pure false:=by rfl):PS X (.Expr e pos) (ZR te):=by
 intro pins s σ H D I h
 exact wpAny_Expr_any (aO (he pins s σ H _ I h) λv s1 ⟨x,H1,I1,r1,q1⟩=>⟨σ,H1,I1,q1⟩) I.quiet hs
noncomputable def ZS(te:TE):TS:=λD σ H=>te σ H D.rt
theorem ZT(he:PE X e te):PS X (.Return (some e) pos) (ZS te):=by
 intro pins s σ H D I h
 exact wpAny_Return_some (aO (he pins s σ H _ I h) λv s1 ⟨x,H1,I1,r1,q1⟩=>⟨x,σ,H1,I1,r1,q1⟩)
noncomputable def ZU(c:TT)(t u:TS):TS:=λD σ H=>c σ H λb H1=>if b=true then t D σ H1 else u D σ H1
theorem Fb{c:Expr}{a b:List Stmt}{tc:TT}(hc:PT X c tc)(ha:PSs X a t)(hb:PSs X b u):PS X (.If c a b pos) (ZU tc t u):=by
 intro pins s σ H D I h
 refine wpAny_If (aO (hc pins s σ H _ I h) λd s1 ⟨H1,I1,q1⟩=>?_)
 cases d with
 | true=>exact ha pins s1 σ H1 D I1 q1
 | false=>exact hb pins s1 σ H1 D I1 q1
noncomputable def ZV:TS:=λ_ _ _=>False
theorem P8:PS X st ZV:=λ_ _ _ _ _ _ h=>h.elim
end
noncomputable abbrev TG:=V->St->Hp->(St->Hp->Prop)->Prop
noncomputable abbrev sS:=List V->St->Hp->(St->Hp->Prop)->Prop
noncomputable def PG(X:Cx)(target:Expr)(t:TG):Prop :=
 ∀(pins:List (Addr × Obj)) (s:Shared) (σ:St) (H:Hp) (v:V) (u:Value) (Q:St->Hp->Prop),Inv X pins σ H s->RelV v u->t v σ H Q ->
  wpAny (model X.prog X.w) X.A (assign target X.env u) (λ_ s'=>∃aF H',Inv X pins aF H' s'/\Q aF H') X.xe s
noncomputable def Bi(X:Cx)(ts:List Expr)(t:sS):Prop :=
 ∀(pins:List (Addr × Obj)) (s:Shared) (σ:St) (H:Hp) (vs:List V) (us:List Value) (Q:St->Hp->Prop),Inv X pins σ H s->Vals vs us->t vs σ H Q ->
  wpAny (model X.prog X.w) X.A (assignInOrder ((assignEach ts X.env).map (·.2)) us) (λ_ s'=>∃aF H',Inv X pins aF H' s'/\Q aF H') X.xe s
noncomputable abbrev Fc:=V->V->V->Hp->(Hp->Prop)->Prop
noncomputable def P9(X:Cx)(t:Fc):Prop :=
 ∀(pins:List (Addr × Obj)) (s:Shared) (σ:St) (H:Hp) (o i v:V) (ov iv u:Value) (Q:Hp->Prop),Inv X pins σ H s->RelV o ov->RelV i iv->RelV v u->t o i v H Q ->
  wpAny (model X.prog X.w) X.A (setItem ov iv u) (λ_ s'=>∃H',Inv X pins σ H' s'/\Q H') X.xe s
noncomputable abbrev Fd:=V->V->Hp->VK->Prop
noncomputable def ZW(X:Cx)(op:Operator)(t:Fd):Prop :=
 ∀(pins:List (Addr × Obj)) (s:Shared) (σ:St) (H:Hp) (x y:V) (v u:Value) (Q:VK),Inv X pins σ H s->RelV x v->RelV y u->t x y H Q ->
  wpAny (model X.prog X.w) X.A (inplaceOp op v u) (EP X pins σ Q) X.xe s
section
variable{X:Cx}{pos:Pos}
noncomputable def Bj(i:Nat):TG:=λv σ H Q=>Q (σ.set i (some v)) H
theorem Bk{i:Nat}{x:Str}(hN:X.N.Nodup)(hi:X.N[i]?=some x)(hx:Loc X.env.scope x)(hf:X.fn x=true\/X.env.scope.names.lookup x=some .local:=by first | exact .inl rfl | exact .inr rfl | assumption):PG X (.Name x pos) (Bj i):=by
 intro pins s σ H v u Q I r h
 exact wpAny_assign_Name (E4 I hN hi hx r (λs' I'=>⟨_,H,I',h⟩) hf)
noncomputable def ZX:sS:=λvs σ H Q=>vs=[]/\Q σ H
noncomputable def ZY(t:TG)(u:sS):sS:=λvs σ H Q=>∃v r,vs=v::r/\t v σ H λaF H'=>u r aF H' Q
theorem ZZ:Bi X [] ZX:=by
 intro pins s σ H vs us Q I r h
 obtain⟨e,h⟩:=h
 subst e
 cases r
 exact assignInOrder_nil ⟨σ,H,I,h⟩
theorem Qa{e:Expr}{es:List Expr}{t:TG}{u:sS}(h1:PG X e t)(h2:Bi X es u)
  (hs:(assignEach (e::es) X.env).map (·.2)=assign e X.env::(assignEach es X.env).map (·.2):=by rfl):Bi X (e::es) (ZY t u):=by
 intro pins s σ H vs us Q I r h
 obtain⟨v,vr,e1,h⟩:=h
 subst e1
 cases r with
 | cons r rr =>
  rw[hs]
  refine assignInOrder_cons (aO (h1 pins s σ H _ _ _ I r h) λ_ s1 ⟨gX,H1,I1,q1⟩=>?_)
  exact h2 pins s1 gX H1 _ _ Q I1 rr q1
noncomputable def Z0(K:PySem.W.Frag)(n:Nat)(t:sS):TG:=λv σ H Q=>∃a xs,v=.ref a/\fZ K H a xs/\xs.length=n/\t xs σ H Q
theorem Z1{es:List Expr}{k:Nat}{t:sS}{n:Nat}(hc:X.calm=true)(h:Bi X es t)
  (hn:(assignEach es X.env).length=n:=by rfl) (dm:(assignEach es X.env).findIdx? (·.1)=none:=by rfl):PG X (.Tuple es k pos) (Z0 X.K n t):=by
 intro pins s σ H v u Q I r hw
 obtain⟨a,xs,e1,hq,hl,hw⟩:=hw
 subst e1
 cases r
 obtain⟨its,rv,ht,hz⟩:=I.tuple hq
 refine assign_Tuple_tuple (I.ok.hd hc) ht (by simp[hn,<- hl,rv.length]) dm λh' hx=>?_
 have I1:Inv X pins σ H { s with heap:=h' }:=I.kept (t':=s.toks) λb o e=>hx b o (eI (bX e)) e
 exact h pins _ σ H xs _ Q I1 (by simpa using rv) hw
noncomputable def Z2(to ti:TE)(t:Fc):TG:=λv σ H Q=>to σ H λo H1=>ti σ H1 λi H2=>t o i v H2 λH3=>Q σ H3
theorem Z3{o i:Expr}{to ti:TE}{t:Fc}(ho:PE X o to)(hi:PE X i ti)(hs:P9 X t)
  (ha:∀v,assign (.Subscript o i pos) X.env v=(do
   let ov<-holding [v] (eval o X.env)
   let iv<-holding [v,ov] (eval i X.env)
   standAt pos
   holding [v,ov,iv] (setItem ov iv v)
   release [v,ov,iv] []):=by intro _;rfl):PG X (.Subscript o i pos) (Z2 to ti t):=by
 intro pins s σ H v u Q I r h
 rw[ha]
 refine wpAny_bind (wpAny_holding (aO (ho pins s σ H _ I h) λov s1 ⟨x,H1,I1,r1,q1⟩=>?_))
 refine wpAny_bind (wpAny_holding (aO (hi pins s1 σ H1 _ I1 q1) λiv s2 ⟨y,H2,I2,r2,q2⟩=>?_))
 refine wpAny_bind (wpAny_standAt (wpAny_bind (wpAny_holding (aO (hs pins s2 σ H2 x y v ov iv u _ I2 r1 r2 r q2) λ_ s3 ⟨H3,I3,q3⟩=>?_))))
 exact wpAny_release ⟨σ,H3,I3,q3⟩
noncomputable def Fe(te:TE)(g:TG):TS:=λD σ H=>te σ H λx H1=>g x σ H1 D.nx
theorem Z4{tg e:Expr}{te:TE}{g:TG}(he:PE X e te)(hg:PG X tg g)(hs:swapsWithSole [tg] e pos.line X.env=pure false:=by rfl)(hw:swappedStores [tg] e X.env=pure none:=by rfl)
  (h1:(assignEach [tg] X.env).map (·.2)=[assign tg X.env]:=by rfl):PS X (.Assign [tg] e pos) (Fe te g):=by
 intro pins s σ H D I h
 refine wpAny_Assign_stores (aO (he pins s σ H _ I h) λv s1 ⟨x,H1,I1,r1,q1⟩=>?_) hs hw
 rw[h1]
 exact aO (hg pins s1 σ H1 x v _ I1 r1 q1) λ_ s2 q=>q
theorem Qb{i:Nat}{x:Str}{e:Expr}{te:TE}{pos':Pos}(hN:X.N.Nodup)(hi:X.N[i]?=some x)(hx:Loc X.env.scope x)(he:PE X e te)(hs:swapsWith e (some (.Name x pos')) pos.line X.env=pure false:=by rfl)(hf:X.fn x=true\/X.env.scope.names.lookup x=some .local:=by first | exact .inl rfl | exact .inr rfl | assumption) :
  PS X (.Assign [.Name x pos'] e pos) (Fe te (Bj i)):=by
 intro pins s σ H D I h
 refine wpAny_Assign_Name (aO (he pins s σ H _ I h) λv s1 ⟨y,H1,I1,r1,q1⟩=>?_) hs
 exact E4 I1 hN hi hx r1 (λs2 I2=>⟨_,H1,I2,q1⟩) hf
noncomputable def Z5(i:Nat)(te:TE)(ti:Fd):TS:=λD σ H=>∃x,σ[i]?=some (some x)/\te σ H λy H1=>ti x y H1 λz H2=>D.nx (σ.set i (some z)) H2
theorem Z6{i:Nat}{x:Str}{e:Expr}{te:TE}{op:Operator}{ti:Fd}{pos':Pos}(hN:X.N.Nodup)(hi:X.N[i]?=some x)(hx:Loc X.env.scope x)(he:PE X e te)(ho:ZW X op ti)(hf:X.fn x=true\/X.env.scope.names.lookup x=some .local:=by first | exact .inl rfl | exact .inr rfl | assumption) :
  PS X (.AugAssign (.Name x pos') op e pos) (Z5 i te ti):=by
 intro pins s σ H D I h
 obtain⟨v,e1,h⟩:=h
 obtain⟨m,hn,hl⟩:=I.loc
 have Z7:m5 X.env.scope x:=by rcases hx with k | k;exact .inl k;exact .inr (.inl k)
 obtain⟨u,r,l⟩:=hl i x v hi e1 Z7
 refine wpAny_AugAssign_Name ?_
 have go:wpAny (model X.prog X.w) X.A (eval e X.env) (λw kF=>wpAny (model X.prog X.w) X.A (inplaceOp op u w) (λr Z8=>wpAny (model X.prog X.w) X.A (storeName X.env x r) (λ_=>SP X pins D .next) X.xe Z8) X.xe kF) X.xe s:=by
  refine aO (he pins s σ H _ I h) λw s1 ⟨y,H1,I1,r1,q1⟩=>?_
  refine aO (ho pins s1 σ H1 v y u w _ I1 r r1 q1) λz s2 ⟨zv,H2,I2,r2,q2⟩=>?_
  exact E4 I2 hN hi hx r2 (λs3 I3=>⟨_,H2,I3,q2⟩) hf
 rcases l with⟨hk,hm⟩ | ⟨hk,c,hc,Be⟩
 ·exact wpAny_loadName_local I.ok.kind hk hn hm go
 ·rcases hk with hk | hk
  ·exact wpAny_loadName_cell I.ok.kind hk hc Be go
  ·rcases hx with k | k
   ·have:X.env.scope.names.lookup x=some .free:=hk
    rw[k]at this;cases this
   ·have:X.env.scope.names.lookup x=some .free:=hk
    rw[k]at this;cases this
end
section
variable{X:Cx}{pos:Pos}
noncomputable def Z9(c:TT)(tb:TS):TS:=λD σ H=>∃W:Nat->St->Hp->Prop,(∃m,W m σ H)/\∀m σ H,W m σ H ->
 c σ H λb H1=>if b=true then ∃N:St->Hp->Prop,(∀aF H',N aF H'->∃m',m'<m/\W m' aF H')/\tb { D with nx:=N,ct:=N,bk:=D.nx } σ H1 else D.nx σ H1
theorem γ{c:Expr}{body:List Stmt}{tc:TT}{tb:TS}(hp:PassesOwn (model X.prog X.w) X.A X.env X.xe)(hc:PT X c tc)(hb:PSs X body tb):PS X (.While c body [] pos) (Z9 tc tb):=by
 intro pins s σ H D I h
 obtain⟨W,⟨m0,w0⟩,turn⟩:=h
 refine wpAny_While (codeAny_whileLoop (λn s'=>∃aF H',Inv X pins aF H' s'/\W n aF H') ?_ m0 ⟨σ,H,I,w0⟩)
 rintro n s1 ⟨gX,H1,I1,w1⟩
 refine wpAny_passesOwn hp (aO (hc pins s1 gX H1 _ I1 (turn n gX H1 w1)) λb s2 ⟨H2,I2,q2⟩=>?_)
 cases b with
 | true =>
  obtain⟨N,hN,q2⟩:=q2
  rw[if_pos rfl]
  refine wpAny_passesOwn hp (aO (hb pins s2 gX H2 _ I2 q2) λf s3 q3=>?_)
  cases f with
  | next =>
   obtain⟨kG,H3,I3,n3⟩:=q3
   obtain⟨m',hm,w3⟩:=hN kG H3 n3
   exact⟨m',hm,kG,H3,I3,w3⟩
  | cont =>
   obtain⟨kG,H3,I3,n3⟩:=q3
   obtain⟨m',hm,w3⟩:=hN kG H3 n3
   exact⟨m',hm,kG,H3,I3,w3⟩
  | brk=>exact q3
  | ret v=>exact q3
 | false =>
  rw[if_neg lJ]
  exact wpAny_execs_nil ⟨gX,H2,I2,q2⟩
end
structure It where
 go:Nat->Hp->Prop
 j7:Nat->Hp->V->Hp->Prop
 stop:Nat->Hp->Prop
noncomputable def jg(X:Cx)(pins:List (Addr × Obj))(H:Hp)(b:Addr):Prop :=
 H b=none/\b≠X.env.locals/\b ∉ X.fs/\(b∈X.ex\/X.cL.heap.objs.size<=b)/\(∀x c,X.env.cells.lookup x=some c->c≠b)/\∀p∈X.pn++pins,p.1≠b
theorem Inv.Bl{X:Cx}{pins:List (Addr × Obj)}{σ:St}{H H':Hp}{s:Shared}{b:Addr}(I:Inv X pins σ H s)(hb:s.heap.objs.size<=b)(hn:H' b=none):jg X pins H' b:=by
 refine⟨hn,Pg (cS I.lt hb),I.P0 hb,.inr (fi I.sz hb),λx c e z=>?_,λp hp z=>?_⟩
 ·obtain⟨v,q⟩:=I.cell x c e
  exact absurd (cS q.lt (by rw[z];exact hb)) (fV _)
 ·exact absurd (cS (bX (I.pin p hp).1) (by rw[z];exact hb)) (fV _)
structure Turn(P:Program)(w:World)(K:PySem.W.Frag)(tg:Expr)(J:It)(fp:List Addr)(it:Addr)(tn:Nat->Heap->Prop):Prop where
 mem:it∈fp
 obj:∀i h,tn i h->∀b∈fp,∃o,h.get? b=some o/\∀v,o.data≠.cell v
 keep:∀i h h',tn i h->(∀b∈fp,∀o,h.get? b=some o->h'.get? b=some o)->tn i h'
 item:∀(X:Cx),X.prog=P->X.w=w->X.K=K->X.calm=true->∀(i:Nat) (pins:List (Addr × Obj)) (s:Shared) (σ:St) (H:Hp) (E:Value->Shared->Prop),Inv X pins σ H s->(∀b∈fp,jg X pins H b)->tn i s.heap->J.go i H ->
  wpAny (model P w) X.A (pyNext (.ref it)) (λr s1=>∃u,r=some u /\
   wpAny (model P w) X.A (letOwnedTupleGo tg (.ref it) u) (λ_ s2=>∃x H',Inv X pins σ H' s2/\RelV x u/\J.j7 i H x H'/\tn (i+1) s2.heap/\∀b∈fp,H' b=none) E s1) E s
 done:∀(X:Cx),X.prog=P->X.w=w->X.K=K->X.calm=true->∀(i:Nat) (pins:List (Addr × Obj)) (s:Shared) (σ:St) (H:Hp) (E:Value->Shared->Prop),Inv X pins σ H s->(∀b∈fp,jg X pins H b)->tn i s.heap->J.stop i H ->
  wpAny (model P w) X.A (pyNext (.ref it)) (λr s1=>r=none/\Inv X pins σ H s1) E s
 self:∀(A:Around) (i:Nat) (s:Shared) (Q:Value->Shared->Prop) (E:Value->Shared->Prop),tn i s.heap->Q (.ref it) s->wpAny (model P w) A (pyIter (.ref it)) Q E s
noncomputable abbrev TI:=St->Hp->(It->Hp->Prop)->Prop
noncomputable def Qc(X:Cx)(pins:List (Addr × Obj))(σ:St)(tg:Expr)(R:It->Hp->Prop)(Ff:Value)(s2:Shared):Prop :=
 ∃(it:Addr) (fp:List Addr) (tn:Nat->Heap->Prop) (J:It) (H':Hp),Ff=.ref it/\Inv X pins σ H' s2/\Turn X.prog X.w X.K tg J fp it tn/\tn 0 s2.heap/\(∀b∈fp,jg X pins H' b)/\R J H'
noncomputable def PI(X:Cx)(tg iter:Expr)(wi:TI):Prop :=
 ∀(pins:List (Addr × Obj)) (s:Shared) (σ:St) (H:Hp) (R:It->Hp->Prop),Inv X pins σ H s->wi σ H R ->
  wpAny (model X.prog X.w) X.A (eval iter X.env) (λv s1=>wpAny (model X.prog X.w) X.A (pyIter v) (Qc X pins σ tg R) X.xe s1) X.xe s
theorem Qe{M:Model}{A:Around}{E:Value->Shared->Prop}{s:Shared}{tg:Expr}{it:Addr}{u:Value}{o:Obj}{n:String}{vs:Array Value}{Q:Unit->Shared->Prop}(ho:s.heap.get? it=some o)(hc:o.cls=.type n)(hd:o.data=.fields vs)
  (hn:["enumerate","zip","dict_itemiterator","dict_reverseitemiterator","odict_iterator","itertools.zip_longest","itertools.pairwise"].contains n=false) (hQ:Q () s):wpAny M A (letOwnedTupleGo tg (.ref it) u) Q E s:=by
 unfold letOwnedTupleGo
 cases tg<;>first
  | exact wpAny_pure hQ
  | (cases u<;>first
    | exact wpAny_pure hQ
    | (refine wpAny_bind (wpAny_load ho ?_)
       rw[hc,hd]
       show wpAny M A (if(["enumerate","zip","dict_itemiterator","dict_reverseitemiterator","odict_iterator","itertools.zip_longest","itertools.pairwise"].contains n&&vs[0]?==some (rawInt _))=true then _ else _) Q E s
       rw[if_neg (by intro h;rw[hn,su]at h;cases h)]
       exact wpAny_pure hQ))
noncomputable def Fg(K:PySem.W.Frag)(a:Addr):It :=
 ⟨λi H=>∃xs x,bJ K H a xs/\xs[i]?=some x,λi H x H'=>H'=H/\∀xs,bJ K H a xs->xs[i]?=some x,λi H=>∃xs,bJ K H a xs/\xs.length<=i⟩
noncomputable def yG(lo:Int)(n:Nat):It:=⟨λi _=>i<n,λi H x H'=>H'=H/\x=.int (lo+i),λi _=>n<=i⟩
theorem ε{P:Program}{w:World}{K:PySem.W.Frag}{tg:Expr}(a it:Addr):Turn P w K tg (Fg K a) [it] it (λi h=>h.IsListIter it a i) where
 mem:=by simp
 obj:=λi h st b hb=>by
  have e:b=it:=by simpa using hb
  subst e
  obtain⟨o,e,c,d⟩:=st
  exact⟨o,e,λv z=>by rw[d]at z;cases z⟩
 keep:=λi h h' st k=>st.at λo e=>k it (by simp) o e
 item:=by
  intro X hP hw hK hc i pins s σ H E I hf st hg
  subst hP hw hK
  obtain⟨xs,x,hq,hx⟩:=hg
  obtain⟨its,rv,p,hz⟩:=I.list hq
  obtain⟨u,hu,ru⟩:=rv.get hx
  obtain⟨f0,f1,f2,f3,f4,f5⟩:=hf it (by simp)
  refine wpAny_pyNext_list_item st p.isList (x:=u) (by simpa using hu) λh' pQ sb=>?_
  have I1:Inv X pins σ H { s with heap:=h' }:=I.turned (t':=s.toks) (λb o hb e=>(sb.2 b hb).trans e) f0 f1 f3 f4 f5
  obtain⟨o,e,c,d⟩:=id pQ
  exact⟨u,rfl,Qe (s:={ s with heap:=h' }) e c d (by decide) ⟨x,H,I1,ru,⟨rfl,λys hy=>by rw[I.Bh hy hq];exact hx⟩,pQ,λb hb=>(hf b hb).1⟩⟩
 done:=by
  intro X hP hw hK hc i pins s σ H E I hf st hg
  subst hP hw hK
  obtain⟨xs,hq,hx⟩:=hg
  obtain⟨its,rv,p,hz⟩:=I.list hq
  obtain⟨f0,f1,f2,f3,f4,f5⟩:=hf it (by simp)
  have hl:=rv.length
  exact wpAny_pyNext_list_end (I.ok.hd hc) st p.isList (by simp;omega) λh' eb=>⟨rfl,I.turned (t':=s.toks) (λb o hb e=>eb b o hb e) f0 f1 f3 f4 f5⟩
 self:=λ_ _ _ _ _ st h=>wpAny_pyIter_listiter st h
theorem ζ{P:Program}{w:World}{K:PySem.W.Frag}{tg:Expr}(it:Addr)(lo:Int)(n:Nat):Turn P w K tg (yG lo n) [it] it (λi h=>IsRangeIter h it (lo+(i:Nat)*1) ((n:Int)-(i:Nat)) 1) where
 mem:=by simp
 obj:=λi h st b hb=>by
  have e:b=it:=by simpa using hb
  subst e
  exact⟨_,st,λv z=>by
   have z':Data.fields _=Data.cell v:=z
   cases z'⟩
 keep:=λi h h' st k=>k it (by simp) _ st
 item:=by
  intro X hP hw hK hc i pins s σ H E I hf st hg
  subst hP hw hK
  obtain⟨f0,f1,f2,f3,f4,f5⟩:=hf it (by simp)
  have W:=Walks.range (prog:=X.prog) (w:=X.w) (I.ok.hd hc) it lo 1 n
  refine W.item i s _ _ hg st λv h' tk hv pQ kk=>?_
  obtain⟨t,rfl⟩:=hv
  have I1:Inv X pins σ H { s with heap:=h',toks:=tk }:=I.turned (λb o hb e=>kk b o (by simpa using hb) e) f0 f1 f3 f4 f5
  refine⟨_,rfl,Qe (s:={ s with heap:=h',toks:=tk }) (n:="range_iterator") pQ rfl rfl (by decide) ⟨.int (lo+i),H,I1,⟨t,?_⟩,⟨rfl,rfl⟩,pQ,λb hb=>(hf b hb).1⟩⟩
  rw[Int.mul_one]
 done:=by
  intro X hP hw hK hc i pins s σ H E I hf st hg
  subst hP hw hK
  obtain⟨f0,f1,f2,f3,f4,f5⟩:=hf it (by simp)
  exact wpAny_pyNext_range_end (I.ok.hd hc) st (by have:n<=i:=hg;omega) λh' eb=>⟨rfl,I.turned (t':=s.toks) (λb o hb e=>eb b o hb e) f0 f1 f3 f4 f5⟩
 self:=λ_ _ _ _ _ st h=>wpAny_pyIter_rangeiter st h
end L2
namespace L2
open PySem PySem.Spec PyProof.Rows
section
variable{X:Cx}{tg:Expr}
noncomputable def η(K:PySem.W.Frag)(tl:TE):TI:=λσ H R=>tl σ H λx H1=>∃a,x=.ref a/\(∃xs,bJ K H1 a xs)/\R (Fg K a) H1
theorem Qf{l:Expr}{tl:TE}(hl:PE X l tl):PI X tg l (η X.K tl):=by
 intro pins s σ H R I h
 refine aO (hl pins s σ H _ I h) λv s1 ⟨x,H1,I1,r1,q1⟩=>?_
 obtain⟨a,e,⟨xs,hq⟩,q⟩:=q1
 subst e
 cases r1
 obtain⟨its,rv,p,hz⟩:=I1.list hq
 refine wpAny_pyIter_list p.isList ?_
 refine⟨s1.heap.objs.size,[s1.heap.objs.size],_,_,H1,rfl,I1.kept (t':=s1.toks) λb o e=>fj _ e,ε a _,⟨_,hW _ rfl,rfl,rfl⟩,λb hb=>?_,q⟩
 have e:b=s1.heap.objs.size:=by simpa using hb
 subst e
 exact I1.Bl (bP _) (I1.aH.fresh (bP _))
theorem Qg{pins:List (Addr × Obj)}{σ:St}{H:Hp}{s:Shared}{R:It->Hp->Prop}{E:Value->Shared->Prop}{lo hi:Int}{t u v:Tok}{tk:Nat}(I:Inv X pins σ H s)(h1:-(2 ^ 62)<=lo)(h2:lo<2 ^ 62)(h3:-(2 ^ 62)<=hi)(h4:hi<2 ^ 62)
  (q:R (yG lo (hi-lo).toNat) H):wpAny (model X.prog X.w) X.A (pyIter (.ref s.heap.objs.size)) (Qc X pins σ tg R) E { s with heap:=s.heap.push { cls:=.type "range",data:=.fields #[.int lo t,.int hi u,.int 1 v] },toks:=tk }:=by
 refine wpAny_pyIter_range (IsRange.new ..) (small_one h1 h2 h3 h4) ?_
 have I1:Inv X pins σ H { s with heap:=s.heap.push { cls:=.type "range",data:=.fields #[.int lo t,.int hi u,.int 1 v] },toks:=tk }:=I.kept λb o e=>fj _ e
 refine⟨(s.heap.push { cls:=.type "range",data:=.fields #[.int lo t,.int hi u,.int 1 v] }).objs.size,[(s.heap.push { cls:=.type "range",data:=.fields #[.int lo t,.int hi u,.int 1 v] }).objs.size],_,_,H,rfl,
  I1.kept (t':=tk) λb o e=>fj _ e,ζ _ lo (hi-lo).toNat,?_,λb hb=>?_,q⟩
 ·have e1:lo+((0:Nat):Int)*1=lo:=by simp
  have e2:(((hi-lo).toNat:Nat):Int)-((0:Nat):Int)=Builtin.Range.rangeSize lo hi 1:=by rw[rangeSize_one];split<;>omega
  show IsRangeIter _ _ (lo+((0:Nat):Int)*1) ((((hi-lo).toNat:Nat):Int)-((0:Nat):Int)) 1
  rw[e1,e2]
  exact hW _ rfl
 ·have e:b=(s.heap.push { cls:=.type "range",data:=.fields #[.int lo t,.int hi u,.int 1 v] }).objs.size:=by simpa using hb
  subst e
  exact I1.Bl (bP _) (I1.aH.fresh (bP _))
noncomputable def θ(ta:TA):TI:=λσ H R=>ta σ H λvs H1=>∃j:Int,vs=[.int j]/\-(2 ^ 62)<=j/\j<2 ^ 62/\R (yG 0 j.toNat) H1
noncomputable def ι(ta:TA):TI:=λσ H R=>ta σ H λvs H1=>∃i j:Int,vs=[.int i,.int j]/\(-(2 ^ 62)<=i/\i<2 ^ 62/\-(2 ^ 62)<=j/\j<2 ^ 62)/\R (yG i (j-i).toNat) H1
theorem μ{a:Expr}{ta:TA}{p pos:Pos}(hg:Gl X "range")(hm:X.mg "range"=none)(ha:PA X [a] ta)(hs:starEach [a] X.env=[(false,eval a X.env)]:=by rfl):PI X tg (.Call (.Name "range" p) [a] [] pos) (θ ta):=by
 intro pins s σ H R I h
 refine Call_ (m6 I hg hm boot_range (uS (aO (ha pos pins s σ H _ I h) λus s1 ⟨vs,H1,I1,r1,q1⟩=>?_) hs rfl))
 obtain⟨j,e,q1,q2,q⟩:=q1
 subst e
 cases r1 with
 | cons r rr =>
  cases rr
  obtain⟨t,rfl⟩:=r
  exact call_range_1 (Qg I1 (by omega) (by omega) q1 q2 (by simpa using q))
theorem ν{a b:Expr}{ta:TA}{p pos:Pos}(hg:Gl X "range")(hm:X.mg "range"=none)(ha:PA X [a,b] ta)(hs:starEach [a,b] X.env=[(false,eval a X.env),(false,eval b X.env)]:=by rfl)(fG:starEach [b] X.env=[(false,eval b X.env)]:=by rfl) :
  PI X tg (.Call (.Name "range" p) [a,b] [] pos) (ι ta):=by
 intro pins s σ H R I h
 refine Call_ (m6 I hg hm boot_range (uS (aO (ha pos pins s σ H _ I h) λus s1 ⟨vs,H1,I1,r1,q1⟩=>?_) (by rw[hs,fG]) (by rw[fG];rfl)))
 obtain⟨i,j,e,⟨q1,q2,q3,q4⟩,q⟩:=q1
 subst e
 cases r1 with
 | cons r rr =>
  cases rr with
  | cons r' rr =>
   cases rr
   obtain⟨t,rfl⟩:=r
   obtain⟨t',rfl⟩:=r'
   exact call_range_2 (Qg I1 q1 q2 q3 q4 q)
noncomputable def ξ(wi:TI)(g:TG)(tb:TS):TS:=λD σ H=>wi σ H λJ H1=>∃W:Nat->Nat->St->Hp->Prop,(∃m,W 0 m σ H1)/\∀i m σ H,W i m σ H ->
 (J.stop i H/\D.nx σ H)\/(J.go i H/\∃N:St->Hp->Prop,(∀aF H',N aF H'->∃m',m'<m/\W (i+1) m' aF H')/\∀x H',J.j7 i H x H'->g x σ H' λlW H2=>tb { D with nx:=N,ct:=N,bk:=D.nx } lW H2)
noncomputable def yH(fp:List Addr)(h:Heap):List (Addr × Obj):=fp.filterMap λb=>(h.get? b).map λo=>(b,o)
theorem Bo{fp:List Addr}{h:Heap}{b:Addr}{o:Obj}(hb:b∈fp)(e:h.get? b=some o):(b,o)∈yH fp h:=YJ.mpr ⟨b,hb,by rw[e];rfl⟩
theorem ο{fp:List Addr}{h:Heap}{p:Addr × Obj}(hp:p∈yH fp h):p.1∈fp/\h.get? p.1=some p.2:=by
 obtain⟨b,hb,e⟩:=YJ.mp hp
 cases q:h.get? b with
 | none=>rw[q]at e;cases e
 | some o =>
  rw[q]at e
  have e':(b,o)=p:=cW e
  subst e'
  exact⟨hb,q⟩
theorem Inv.pinned{pins:List (Addr × Obj)}{σ:St}{H:Hp}{s:Shared}{fp:List Addr}(I:Inv X pins σ H s)(hf:∀b∈fp,jg X pins H b)(ho:∀b∈fp,∃o,s.heap.get? b=some o/\∀v,o.data≠.cell v):Inv X (pins++yH fp s.heap) σ H s :=
 I.P1 λp hp=>(cJ.mp hp).elim (λz=>I.pin p (dY _ z)) λz=>by
  obtain⟨hb,e⟩:=ο z
  obtain⟨f0,f1,f2,_⟩:=hf p.1 hb
  obtain⟨o,e',d⟩:=ho p.1 hb
  rw[e]at e';cases e'
  exact⟨e,f0,f1,f2,d⟩
theorem Inv.yI{pins pl:List (Addr × Obj)}{σ:St}{H:Hp}{s:Shared}(I:Inv X (pins++pl) σ H s):Inv X pins σ H s:=I.P1 λp hp=>I.pin p (dY _ (fW _ hp))
theorem π{iter:Expr}{body:List Stmt}{wi:TI}{g:TG}{tb:TS}{pos:Pos}(hp:PassesOwn (model X.prog X.w) X.A X.env X.xe)(hc:X.calm=true)(hi:PI X tg iter wi)(hg:PG X tg g)(hb:PSs X body tb)
  (hs:∀x,foldedSetIterable iter X.env x=pure x:=by intro _;rfl):PS X (.For tg iter body [] pos) (ξ wi g tb):=by
 intro pins s σ H D I h
 refine wpAny_For (aO (hi pins s σ H _ I h) λv s1 h1=>aO h1 λFf s2 h2=>?_) hs
 obtain⟨it,fp,tn,J,H2,e,I2,T,yJ,f2,W,⟨m0,w0⟩,turn⟩:=h2
 subst e
 have Fh:∀{H':Hp},(∀b∈fp,H' b=none)->∀b∈fp,jg X pins H' b:=λhn b hb=>⟨hn b hb,(f2 b hb).2⟩
 refine codeAny_forLoop_any (λn s'=>∃i aF H',Inv X pins aF H' s'/\tn i s'.heap/\(∀b∈fp,H' b=none)/\W i n aF H') ?_ m0 ⟨0,σ,H2,I2,yJ,λb hb=>(f2 b hb).1,w0⟩
 rintro n s3 ⟨i,kG,H3,I3,Qh,Qi,w3⟩
 rcases turn i n kG H3 w3 with⟨stop,qn⟩ | ⟨go,N,hN,step⟩
 ·refine wpAny_passesOwn hp (aO (T.done X rfl rfl rfl hc i pins s3 kG H3 X.xe I3 (Fh Qi) Qh stop) λr s4 ⟨hr,I4⟩=>?_)
  subst hr
  exact wpAny_execs_nil ⟨kG,H3,I4,qn⟩
 ·refine wpAny_passesOwn hp (aO (T.item X rfl rfl rfl hc i pins s3 kG H3 X.xe I3 (Fh Qi) Qh go) λr s4 ⟨u,hr,h4⟩=>?_)
  subst hr
  refine wpAny_passesOwn hp (aO h4 λ_ s5 ⟨x,H5,I5,r5,y5,sT,Fj⟩=>?_)
  have Fl:=I5.pinned (Fh Fj) (T.obj _ _ sT)
  refine wpAny_passesOwn hp (aO (hg _ s5 kG H5 x u _ Fl r5 (step x H5 y5)) λ_ s6 ⟨Fm,H6,I6,q6⟩=>?_)
  refine wpAny_passesOwn hp (aO (hb _ s6 Fm H6 _ I6 q6) λf s7 q7=>?_)
  have again:∀{kH:St} {H7:Hp},Inv X (pins++yH fp s5.heap) kH H7 s7->N kH H7->∃m,m<n/\∃i aF H',Inv X pins aF H' s7/\tn i s7.heap/\(∀b∈fp,H' b=none)/\W i m aF H':=λ{kH H7} I7 n7=>by
   obtain⟨m',hm,w7⟩:=hN kH H7 n7
   refine⟨m',hm,i+1,kH,H7,I7.yI,T.keep _ _ _ sT λb hb o e=>(I7.pin (b,o) (dY _ (dY _ (Bo hb e)))).1,λb hb=>?_,w7⟩
   obtain⟨o,e,d⟩:=T.obj _ _ sT b hb
   exact(I7.pin (b,o) (dY _ (dY _ (Bo hb e)))).2.1
  cases f with
  | next=>obtain⟨kH,H7,I7,n7⟩:=q7;exact again I7 n7
  | cont=>obtain⟨kH,H7,I7,n7⟩:=q7;exact again I7 n7
  | brk=>obtain⟨kH,H7,I7,q7⟩:=q7;exact⟨kH,H7,I7.yI,q7⟩
  | ret v=>obtain⟨x7,kH,H7,I7,r7,q7⟩:=q7;exact⟨x7,kH,H7,I7.yI,r7,q7⟩
end
end L2
namespace L2
open PySem PySem.Spec PyProof.Rows
noncomputable abbrev R2:=V->V->Hp->VK->Prop
noncomputable def cM(X:Cx)(f:Value->Value->Sem Value)(r:R2):Prop :=
 ∀(pins:List (Addr × Obj)) (s:Shared) (σ:St) (H:Hp) (x y:V) (v u:Value) (Q:VK),Inv X pins σ H s->RelV x v->RelV y u->r x y H Q ->
  wpAny (model X.prog X.w) X.A (f v u) (EP X pins σ Q) X.xe s
noncomputable def iF(X:Cx)(f:Value)(r:List V->Hp->VK->Prop):Prop :=
 ∀(pins:List (Addr × Obj)) (s:Shared) (σ:St) (H:Hp) (xs:List V) (us:List Value) (Q:VK),Inv X pins σ H s->Vals xs us->r xs H Q ->
  wpAny (model X.prog X.w) X.A (call f us) (EP X pins σ Q) X.xe s
noncomputable def yK(r:R2)(ta tb:TE):TE:=λσ H Q=>ta σ H λx H1=>tb σ H1 λy H2=>r x y H2 Q
noncomputable def rI(C:Int->Int->Prop)(g:Int->Int->V):R2:=λx y H Q=>∃i j,x=.int i/\y=.int j/\C i j/\Q (g i j) H
noncomputable def jD(g:Int->Int->V):R2:=λx y H Q=>∃i j,x=.int i/\y=.int j/\Q (g i j) H
section
variable{X:Cx}{a b c:Expr}{ta tb tc:TE}{pos:Pos}
theorem Fo(ha:PE X a ta)(hb:PE X b tb){pins:List (Addr × Obj)}{s:Shared}{σ:St}{H:Hp}{R:V->V->Hp->Prop}(I:Inv X pins σ H s)
  (h:ta σ H λx H1=>tb σ H1 λy H2=>R x y H2) {Q:Value->Shared->Prop} {f:Value->Value->Sem Value}
  (hf:∀v u s2 x y H2,Inv X pins σ H2 s2->RelV x v->RelV y u->R x y H2->wpAny (model X.prog X.w) X.A (f v u) Q X.xe s2) :
  wpAny (model X.prog X.w) X.A (eval a X.env) (λv bI=>wpAny (model X.prog X.w) X.A (eval b X.env) (λu kF=>wpAny (model X.prog X.w) X.A (f v u) Q X.xe kF) X.xe bI) X.xe s:=by
 refine aO (ha pins s σ H _ I h) λv s1 ⟨x,H1,I1,r1,q1⟩=>?_
 refine aO (hb pins s1 σ H1 _ I1 q1) λu s2 ⟨y,H2,I2,r2,q2⟩=>?_
 exact hf v u s2 x y H2 I2 r1 r2 q2
theorem yL{op:Operator}{r:R2}(ho:cM X (binaryOp op) r)(ha:PE X a ta)(hb:PE X b tb):PE X (.BinOp a op b pos) (yK r ta tb):=by
 intro pins s σ H Q I h
 exact wpAny_BinOp (Fo ha hb I h λv u s2 x y H2 I2 rx ry q=>ho pins s2 σ H2 x y v u Q I2 rx ry q)
theorem yM{f:Value->Value->Sem Value}{C:Int->Int->Prop}{g:Int->Int->Int}
  (rule:∀(i j:Int) (t u:Tok) (s:Shared) (Q:Value->Shared->Prop) (E:Value->Shared->Prop),C i j->Q (.int (g i j) s.toks) { s with toks:=s.toks+1 }->wpAny (model X.prog X.w) X.A (f (.int i t) (.int j u)) Q E s) :
  cM X f (rI C λi j=>.int (g i j)):=by
 intro pins s σ H x y v u Q I rx ry h
 obtain⟨i,j,rfl,rfl,hc,q⟩:=h
 obtain⟨t,rfl⟩:=rx
 obtain⟨t',rfl⟩:=ry
 exact rule i j t t' s _ _ hc ⟨.int (g i j),H,I.tok _,⟨_,rfl⟩,q⟩
theorem vt{f:Value->Value->Sem Value}{g:Int->Int->Int}
  (rule:∀(i j:Int) (t u:Tok) (s:Shared) (Q:Value->Shared->Prop) (E:Value->Shared->Prop),Q (.int (g i j) s.toks) { s with toks:=s.toks+1 }->wpAny (model X.prog X.w) X.A (f (.int i t) (.int j u)) Q E s) :
  cM X f (jD λi j=>.int (g i j)):=by
 intro pins s σ H x y v u Q I rx ry h
 obtain⟨i,j,rfl,rfl,q⟩:=h
 obtain⟨t,rfl⟩:=rx
 obtain⟨t',rfl⟩:=ry
 exact rule i j t t' s _ _ ⟨.int (g i j),H,I.tok _,⟨_,rfl⟩,q⟩
theorem Bp{f:Value->Value->Sem Value}{g:Int->Int->Bool}
  (rule:∀(i j:Int) (t u:Tok) (s:Shared) (Q:Value->Shared->Prop) (E:Value->Shared->Prop),Q (.bool (g i j)) s->wpAny (model X.prog X.w) X.A (f (.int i t) (.int j u)) Q E s) :
  cM X f (jD λi j=>.bl (g i j)):=by
 intro pins s σ H x y v u Q I rx ry h
 obtain⟨i,j,rfl,rfl,q⟩:=h
 obtain⟨t,rfl⟩:=rx
 obtain⟨t',rfl⟩:=ry
 exact rule i j t t' s _ _ ⟨.bl (g i j),H,I,rfl,q⟩
noncomputable def j8(i j:Int):Prop:=(-(2 ^ 64)<i/\i<2 ^ 64)\/(-(2 ^ 64)<j/\j<2 ^ 64)
theorem j8.ok{i j:Int}(h:j8 i j):IntMulOk i j:=by
 rcases h with⟨h1,h2⟩ | ⟨h1,h2⟩
 ·exact .of_left (intBits_le_64 h1 h2)
 ·exact .of_right (intBits_le_64 h1 h2)
theorem ρ(k:Nat):(0:Int)<=2 ^ k:=by
 rw[two_pow_cast]
 exact Ph _
theorem τ:cM X (binaryOp .Add) (jD λi j=>.int (i+j)):=vt λ_ _ _ _ _ _ _ q=>add_int q
theorem Fp:cM X (binaryOp .Sub) (jD λi j=>.int (i-j)):=vt λ_ _ _ _ _ _ _ q=>sub_int q
theorem υ:cM X (binaryOp .Mod) (rI (λ_ j=>0<j) λi j=>.int (i%j)):=yM λi j _ _ _ _ _ hc q=>by
 have h1:(0:Int)<j:=hc
 exact mod_int' (by omega) (by rw[Int.fmod_eq_emod_of_nonneg i (by omega)];exact q)
theorem χ:cM X (binaryOp .RShift) (rI (λ_ j=>0<=j) λi j=>.int (i/2 ^ j.toNat)):=yM λi j _ _ _ _ _ hc q =>
 rshift_int hc (by rw[YK i (ρ _)];exact q)
theorem ω:cM X (binaryOp .BitAnd) (jD λi j=>.int (lK i j)):=vt λ_ _ _ _ _ _ _ q=>and_int q
theorem Γ:cM X (binaryOp .BitXor) (jD λi j=>.int (pf i j)):=vt λ_ _ _ _ _ _ _ q=>xor_int q
theorem Δ:cM X (inplaceOp .Add) (jD λi j=>.int (i+j)):=vt λ_ _ _ _ _ _ _ q=>iadd_int q
theorem Θ:cM X (inplaceOp .BitXor) (jD λi j=>.int (pf i j)):=vt λ_ _ _ _ _ _ _ q=>ixor_int q
end
section
variable{X:Cx}{a b c:Expr}{ta tb tc:TE}{pos:Pos}
theorem Qj{pins:List (Addr × Obj)}{σ:St}{H:Hp}{s:Shared}{Q:VK}{k k':Bool}(I:Inv X pins σ H s)(q:Q (.bl k) H)(e:k=k'):EP X pins σ Q (.bool k') s:=by
 subst e
 exact⟨.bl k,H,I,rfl,q⟩
theorem Λ:cM X (compareOp .Lt) (jD λi j=>.bl (decide (i<j))):=Bp λ_ _ _ _ _ _ _ q=>lt_int q
theorem Ξ:cM X (compareOp .LtE) (jD λi j=>.bl (decide (i<=j))):=Bp λ_ _ _ _ _ _ _ q=>le_int q
theorem Φ:cM X (compareOp .Gt) (jD λi j=>.bl (decide (j<i))):=Bp λ_ _ _ _ _ _ _ q=>gt_int q
theorem Ψ:cM X (compareOp .GtE) (jD λi j=>.bl (decide (j<=i))):=Bp λ_ _ _ _ _ _ _ q=>ge_int q
theorem Ω:cM X (compareOp .Is) (λx y H Q=>y=.au/\Q (.bl (decide (x=.au))) H):=by
 intro pins s σ H x y v u Q I rx ry h
 obtain⟨rfl,q⟩:=h
 cases ry
 refine is_none_gen (Qj I q ?_)
 cases x<;>first
  | (cases rx;rfl)
  | (obtain⟨t,rfl⟩:=rx;rfl)
theorem cs9:cM X (compareOp .IsNot) (λx y H Q=>y=.au/\Q (.bl (!decide (x=.au))) H):=by
 intro pins s σ H x y v u Q I rx ry h
 obtain⟨rfl,q⟩:=h
 cases ry
 refine isnot_none_gen (Qj I q ?_)
 cases x<;>first
  | (cases rx;rfl)
  | (obtain⟨t,rfl⟩:=rx;rfl)
theorem cM.or{f:Value->Value->Sem Value}{r r':R2}(h:cM X f r)(h':cM X f r'):cM X f (λx y H Q=>r x y H Q\/r' x y H Q):=by
 intro pins s σ H x y v u Q I rx ry q
 rcases q with q | q
 ·exact h pins s σ H x y v u Q I rx ry q
 ·exact h' pins s σ H x y v u Q I rx ry q
theorem bK(b:Expr){op:CmpOp}(h:op≠.In:=by decide)(h2:op≠.NotIn:=by decide):behindInMarks op b=false:=by
 have e1:(op==CmpOp.In)=false:=by cases op<;>first | rfl | exact absurd rfl h
 have e2:(op==CmpOp.NotIn)=false:=by cases op<;>first | rfl | exact absurd rfl h2
 cases b<;>simp[behindInMarks,e1,e2]
theorem cr9{op:CmpOp}{r:R2}(ho:cM X (compareOp op) r)(ha:PE X a ta)(hb:PE X b tb)(hm:behindInMarks op b=false):PE X (.Compare a [op] [b] pos) (yK r ta tb):=by
 intro pins s σ H Q I h
 exact wpAny_Compare1 (Fo ha hb I h λv u s2 x y H2 I2 rx ry q=>ho pins s2 σ H2 x y v u Q I2 rx ry q) hm
noncomputable def Qk(t:TE):TT:=λσ H Q=>t σ H λx H'=>∃k,x=.bl k/\Q k H'
theorem cu1{op:CmpOp}{r:R2}(ho:cM X (compareOp op) r)(ha:PE X a ta)(hb:PE X b tb)(hm:behindInMarks op b=false):PT X (.Compare a [op] [b] pos) (Qk (yK r ta tb)):=by
 intro pins s σ H Q I h
 refine wpAny_isTrue_Compare1 (aO (ha pins s σ H _ I h) λv s1 ⟨x,H1,I1,r1,q1⟩=>aO (hb pins s1 σ H1 _ I1 q1) λu s2 ⟨y,H2,I2,r2,q2⟩ =>
  aO (ho pins s2 σ H2 x y v u _ I2 r1 r2 q2) λc s3 ⟨z,H3,I3,r3,k,e,q3⟩=>?_) hm
 subst e
 cases r3
 exact wpAny_truthy_bool ⟨H3,I3,q3⟩
noncomputable def Ql(r r':R2)(ta tb tc:TE):TE:=λσ H Q=>ta σ H λx H1=>tb σ H1 λy H2=>r x y H2 λz H3=>∃k,z=.bl k /\
 (if k=true then tc σ H3 λw' H4=>r' y w' H4 Q else Q (.bl false) H3)
theorem ce3{op sU:CmpOp}{r r':R2}(ho:cM X (compareOp op) r)(kC:cM X (compareOp sU) r')(ha:PE X a ta)(hb:PE X b tb)(hc:PE X c tc)
  (hm:lastMarks [op,sU] [b,c]=false:=by with_unfolding_all rfl):PE X (.Compare a [op,sU] [b,c] pos) (Ql r r' ta tb tc):=by
 intro pins s σ H Q I h
 refine Compare_chain (aO (ha pins s σ H _ I h) λv s1 ⟨x,H1,I1,r1,q1⟩=>chain_link (aO (hb pins s1 σ H1 _ I1 q1) λu s2 ⟨y,H2,I2,r2,q2⟩ =>
  aO (ho pins s2 σ H2 x y v u _ I2 r1 r2 q2) λd s3 ⟨z,H3,I3,r3,k,e,q3⟩=>?_)) hm
 subst e
 cases r3
 refine wpAny_truthy_bool ?_
 cases k with
 | false=>exact ite_ff ⟨.bl false,H3,I3,rfl,q3⟩
 | true=>exact ite_tt (chain_last (aO (hc pins s3 σ H3 _ I3 q3) λw' s4 ⟨z',H4,I4,r4,q4⟩=>kC pins s4 σ H4 y z' u w' Q I4 r2 r4 q4))
theorem sV:(sizeLine:Nat)<2 ^ 63:=by rw[sizeLine_eq];decide
theorem bQ9:cM X (binaryOp .Add) (λx y H Q=>∃i j,x=.str i/\y=.str j/\i.length+j.length<=sizeLine/\Q (.str (i++j)) H):=by
 intro pins s σ H x y v u Q I rx ry h
 obtain⟨i,j,rfl,rfl,hz,q⟩:=h
 obtain⟨t,rfl⟩:=rx
 obtain⟨t',rfl⟩:=ry
 exact add_str (λt' tk=>⟨.str (i++j),H,I.tok _,⟨_,rfl⟩,q⟩) hz
theorem yN{x:V}{us:List Value}(r:Vals [x] us):∃u,us=[u]/\RelV x u:=by
 cases r with
 | cons r1 r2=>cases r2;exact⟨_,rfl,r1⟩
theorem bZ5:iF X (.type "int") (λxs H Q=>(∃i,xs=[.int i]/\Q (.int i) H)\/∃k,xs=[.bl k]/\Q (.int (if k then 1 else 0)) H):=by
 intro pins s σ H xs us Q I r h
 rcases h with⟨i,rfl,q⟩ | ⟨k,rfl,q⟩
 ·obtain⟨u,rfl,t,rfl⟩:=yN r
  exact call_int_int ⟨.int i,H,I,⟨_,rfl⟩,q⟩
 ·obtain⟨u,rfl,r1⟩:=yN r
  cases r1
  exact call_int_bool ⟨.int (if k then 1 else 0),H,I.tok _,⟨_,rfl⟩,q⟩
end
end L2
namespace L2
open PySem PySem.Spec PyProof.Rows
structure sW(h:Heap)(x dx C:Addr)(mA:Str->Option Value):Prop where
 obj:h.get? x=some (PySem.W.instObj C dx)
 ns:h.Ns1 dx mA
 ne:dx≠x
theorem b03{h:Heap}{dx:Addr}{mA:Str->Option Value}(n:h.Ns1 dx mA):∃od,h.get? dx=some od/\∀name,PySem.W.lookIn name od=some (mA name):=by
 obtain⟨o,es,ep,ho,hd,hk,_,hm⟩:=n
 refine⟨o,ho,λname=>?_⟩
 have e:=hm name
 unfold nsFind findBy at e
 rw[<-Array.find?_toList]at e
 unfold PySem.W.lookIn
 rw[hd]
 dsimp only
 split
 ·rename_i y q
  rw[q]at e
  exact congrArg some e
 ·rename_i q
  rw[q]at e
  have a:es.toList.any (·.refKey)=false:=by
   rw[List.any_eq_false]
   intro y hy
   obtain⟨z,t,cQ9⟩:=hk y (Array.mem_toList_iff.mp hy)
   simp[DictEntry.refKey,cQ9]
  have a':¬ es.toList.any (·.refKey)=true:=by rw[a];exact lJ
  rw[if_neg a']
  exact congrArg some e
theorem sW.look{h:Heap}{x dx C:Addr}{mA:Str->Option Value}(I:sW h x dx C mA):∃od,PySem.W.InstAt h x (PySem.W.instObj C dx) C (some od)/\∀name,PySem.W.lookIn name od=some (mA name) :=
 let⟨od,ho,hl⟩:=b03 I.ns
 ⟨od,⟨I.obj,rfl,rfl,ho⟩,hl⟩
section
variable{prog:Program}{w:World}{A:Around}{E:Value->Shared->Prop}{s:Shared}{K:PySem.W.Frag}{x dx C f:Addr}{mA:Str->Option Value}{name:Str}{v:Value}
theorem cw6{expr:Bool}{Q:Value->Shared->Prop}(X:K.In s.heap)(I:sW s.heap x dx C mA)(hg:PySem.W.plainGet K C name=true)(hh:PySem.W.hasDictIn K C=true)
  (ha:PySem.W.findIn K (.ref C) name=some none) (hv:mA name=some v) (hv':PySem.W.handedIn v=true) (h:Q v { s with toks:=s.toks+1 }) :
  wpAny (model prog w) A (getAttr (.ref x) name expr) Q E s:=by
 obtain⟨od,J,hl⟩:=I.look
 exact PySem.W.get_value X J (PySem.W.plainGet_of hg).1 (PySem.W.findObj_own hh ha rfl (by rw[hl,hv])) hv' h
theorem cc5{pl:Sem Bool}{Q:Value × List Value->Shared->Prop}(X:K.In s.heap)(I:sW s.heap x dx C mA)(hg:PySem.W.plainGet K C name=true)
  (hf:PySem.W.findIn K (.ref C) name=some (some (.ref f))) (ht:PySem.W.isFn K (.ref f)=true) (hv:mA name=none) (h:Q (.ref f,[.ref x]) s) :
  wpAny (model prog w) A (getMethod (.ref x) name pl) Q E s:=by
 obtain⟨od,J,hl⟩:=I.look
 exact PySem.W.method_fn X J (PySem.W.plainGet_of hg).1 (PySem.W.plainGet_of hg).2 hf (beq_iff_eq.mp ht) (by show(PySem.W.lookIn name od).map (·.isSome)=some false;rw[hl,hv];rfl) h
theorem cr8{ns:List Str}{Q:Unit->Shared->Prop}(X:K.In s.heap)(I:sW s.heap x dx C mA)
  (hs:PySem.W.findIn K (.ref C) "__setattr__"=some (some (.builtin "object.__setattr__"))) (hp:PySem.W.plainOver K C=true) (ht:PySem.W.takerIn K C name=some none) (hh:PySem.W.hasDictIn K C=true)
  (hw:PySem.Within mA ns) (lX:ns.length<=sizeLine)
  (h:∀h',sW h' x dx C (λy=>if y=name then some v else mA y)->Heap.SameBut dx s.heap h'->Q () { s with heap:=h',toks:=s.toks+2 }) :
  wpAny (model prog w) A (setAttr (.ref x) name v) Q E s:=by
 obtain⟨od,J,hl⟩:=I.look
 refine PySem.W.set_plain X J hs (PySem.W.osa_open (s:={ s with toks:=s.toks+1 }) (r:=none) X J hp ht λb=>?_)
 obtain⟨cd,hc,yB⟩:=PySem.W.any_some hh
 have hx:s.heap.get? x=some ⟨.ref C,some dx,.plain,#[]⟩:=I.obj
 refine wpAny_bind (wpAny_pure (wpAny_bind (wpAny_bind (wpAny_loadPart hx (wpAny_bind (PySem.W.Looks.here (s:={ s with toks:=s.toks+1 }) (PySem.W.looks_clsIn X hc) ?_))))))
 rw[yB]
 refine wpAny_pure (a:=some dx) (wpAny_bind (wpAny_pure (wpAny_bind ?_)))
 refine wpAny_nsSet1 (s:={ s with toks:=s.toks+1 }) I.ns λh' Bq fG=>?_
 obtain⟨oD,esD,epD,hoD,hdD,hcD⟩:=Bq.count (PySem.Within.cons name v hw)
 refine wpAny_bind (wpAny_lookBehind hoD (by rw[hdD];exact pastItsLine_dict (fi hcD (by rw[ia];omega))) ?_)
 exact wpAny_pure (h _ ⟨(fG.2 _ (eK I.ne)).trans I.obj,Bq,I.ne⟩ fG)
theorem cg3{R:Result->Shared->Prop}{vs:List Value}{kw:List (Str × Value)}(X:K.In s.heap)(hm:PySem.W.makesIn K C=true)
  (hi:PySem.W.findIn K (.ref C) "__init__"=some (some (.ref f))) (hf:PySem.W.typeIn K (.ref f)=some (.type "function"))
  (h:codeAny (model prog w) (A.under (.builtin "type.__call__" ⟨.ref C::vs,kw⟩)) (.call (.ref f) ⟨.ref (s.heap.objs.size+1)::vs,kw⟩) (PySem.W.InitBack (s.heap.objs.size+1) R)
   { s with heap:=(s.heap.push PySem.W.emptyDict).push (PySem.W.instObj C s.heap.objs.size) }) :
  codeAny (model prog w) A (.call (.ref C) ⟨vs,kw⟩) R s:=by
 obtain⟨hh,g,d,t,os⟩:=s
 exact PySem.W.make_core (PySem.W.makes_of X hm) (PySem.W.looks_findIn X hi) (λself=>PySem.W.bind_fn X self hf) (.inl rfl) h
end
noncomputable def fP(f:Str)(v:V):List (Str × V)->List (Str × V)
 | []=>[(f,v)]
 | (g,x)::r=>if g=f then(g,v)::r else(g,x)::fP f v r
theorem Qm(f g:Str)(v:V):∀fs:List (Str × V),(fP f v fs).lookup g=if g=f then some v else fs.lookup g
 | []=>by
  show mS g [(f,v)]=_
  by_cases h:g=f
  ·have hb:(g==f)=true:=beq_iff_eq.mpr h
   simp only[mS,hb,if_pos h]
  ·have hb:(g==f)=false:=beq_eq_false_iff_ne.mpr h
   simp only[mS,hb,if_neg h]
 | (k,x)::r=>by
  have ih:=Qm f g v r
  rw[show fP f v ((k,x)::r)=(if k=f then(k,v)::r else(k,x)::fP f v r) from rfl]
  by_cases hk:k=f
  ·rw[if_pos hk]
   by_cases h:g=k
   ·have hb:(g==k)=true:=beq_iff_eq.mpr h
    simp only[mS,hb,if_pos (h.trans hk)]
   ·have hb:(g==k)=false:=beq_eq_false_iff_ne.mpr h
    simp only[mS,hb,if_neg (λe:g=f=>h (e.trans hk.symm))]
  ·rw[if_neg hk]
   by_cases h:g=k
   ·have hb:(g==k)=true:=beq_iff_eq.mpr h
    simp only[mS,hb,if_neg (λe:g=f=>hk (h.symm.trans e))]
   ·have hb:(g==k)=false:=beq_eq_false_iff_ne.mpr h
    simp only[mS,hb]
    exact ih
theorem Fq(f:Str)(v:V):∀fs:List (Str × V),f∈(fP f v fs).map (·.1)/\∀g,g∈fs.map (·.1)->g∈(fP f v fs).map (·.1)
 | []=>⟨by simp[fP],λg h=>by simp at h⟩
 | (k,x)::r=>by
  obtain⟨i1,i2⟩:=Fq f v r
  rw[show fP f v ((k,x)::r)=(if k=f then(k,v)::r else(k,x)::fP f v r) from rfl]
  by_cases hk:k=f
  ·rw[if_pos hk]
   subst hk
   exact⟨by simp,λg h=>by simpa using h⟩
  ·rw[if_neg hk]
   refine⟨?_,λg h=>?_⟩
   ·rw[dB]
    exact eJ _ i1
   ·rw[dB]at h ⊢
    rcases cA.mp h with e | e
    ·exact cA.mpr (.inl e)
    ·exact eJ _ (i2 g e)
theorem Qn(f:Str)(v:V):∀fs:List (Str × V),(fP f v fs).length<=fs.length+1
 | []=>by simp[fP]
 | (k,x)::r=>by
  have ih:=Qn f v r
  rw[show fP f v ((k,x)::r)=(if k=f then(k,v)::r else(k,x)::fP f v r) from rfl]
  by_cases hk:k=f
  ·rw[if_pos hk,ia,ia];omega
  ·rw[if_neg hk,ia,ia];omega
theorem lN.some_of{v:V}{o:Option Value}(r:lN (some v) o):∃u,o=some u/\RelV v u:=by
 cases o with
 | none=>exact(show False from r).elim
 | some u=>exact⟨u,rfl,r⟩
theorem lN.none_of{o:Option Value}(r:lN none o):o=none:=by
 cases o with
 | none=>rfl
 | some u=>exact(show False from r).elim
theorem bR5{v:V}{u:Value}(r:RelV v u):PySem.W.handedIn u=true:=by
 cases v with
 | au=>cases(show u=sr from r);rfl
 | bl b=>cases(show u=Ej b from r);rfl
 | int i=>obtain⟨t,e⟩:=(show ∃t,u=pd i t from r);cases e;rfl
 | str x=>obtain⟨t,e⟩:=(show ∃t,u=Value.str x t from r);cases e;rfl
 | Ba b=>obtain⟨t,e⟩:=(show ∃t,u=Value.bytes b t from r);cases e;rfl
 | sO b=>obtain⟨t,e⟩:=(show ∃t,u=Value.float b t from r);cases e;rfl
 | ref a=>cases(show u=fC a from r);rfl
 | ty n=>cases(show u=Value.type n from r);rfl
section
variable{P:Program}{w:World}{H H':Hp}{h h':Heap}{a C dx:Addr}{fs EZ:List (Str × V)}
theorem Br(aH:cT P w H h)(e:H a=some (.ins C dx fs)):∃mA,sW h a dx C mA/\(∀f,lN (fs.lookup f) (mA f))/\PySem.Within mA (fs.map (·.1))/\fs.length<=1000/\H dx=some (.own a):=by
 obtain⟨d,z,ne,ob,mA,n,r,q⟩:=(show dR P w H h a (.ins C dx fs) from aH a _ e)
 exact⟨mA,⟨ob,n,ne⟩,r,q,z,d⟩
end
structure eN(K:PySem.W.Frag)(C:Addr):Prop where
 pg:PySem.W.plainGet K C Str.empty=true
 hd:PySem.W.hasDictIn K C=true
 po:PySem.W.plainOver K C=true
 sa:PySem.W.findIn K (.ref C) "__setattr__"=some (some (.builtin "object.__setattr__"))
theorem eN.get{K:PySem.W.Frag}{C:Addr}(c:eN K C)(f:Str):PySem.W.plainGet K C f=true:=c.pg
noncomputable def cP(K:PySem.W.Frag)(C:Addr)(f:Str):Prop:=PySem.W.findIn K (.ref C) f=some none
theorem cP.cR9{K:PySem.W.Frag}{C:Addr}{f:Str}(n:cP K C f):PySem.W.takerIn K C f=some none:=by
 unfold PySem.W.takerIn
 rw[show PySem.W.findIn K (.ref C) f=some none from n]
 rfl
structure Meth(K:PySem.W.Frag)(C:Addr)(m:Str)(f:Addr):Prop where
 at_:PySem.W.findIn K (.ref C) m=some (some (.ref f))
 fn:PySem.W.isFn K (.ref f)=true
 kp:PySem.W.keepIn K (.ref f)=true
section
variable{X:Cx}{pins:List (Addr × Obj)}{σ:St}{H:Hp}{s:Shared}{a C dx:Addr}{fs:List (Str × V)}{f:Str}{v:V}{A:Around}{E:Value->Shared->Prop}
theorem bP1{b:Bool}{Q:Value->Shared->Prop}(I:Inv X pins σ H s)(e:H a=some (.ins C dx fs))(c:eN X.K C)(n:cP X.K C f)(l:fs.lookup f=some v)
  (h:∀u s',Inv X pins σ H s'->RelV v u->Q u s'):wpAny (model X.prog X.w) A (getAttr (.ref a) f b) Q E s:=by
 obtain⟨mA,O,r,_,_,_⟩:=Br I.aH e
 obtain⟨u,hu,ru⟩:=lN.some_of (v:=v) (o:=mA f) (by rw[<-l];exact r f)
 exact cw6 I.dj O (c.get f) c.hd n hu (bR5 ru) (h u _ (I.tok _) ru)
theorem Fs{m:Str}{g:Addr}{pl:Sem Bool}{Q:Value × List Value->Shared->Prop}(I:Inv X pins σ H s)(e:H a=some (.ins C dx fs))(c:eN X.K C)(k:Meth X.K C m g)(l:fs.lookup m=none)
  (h:Q (.ref g,[.ref a]) s):wpAny (model X.prog X.w) A (getMethod (.ref a) m pl) Q E s:=by
 obtain⟨mA,O,r,_,_,_⟩:=Br I.aH e
 have hn:mA m=none:=lN.none_of (by rw[<-l];exact r m)
 exact cc5 I.dj O (c.get m) k.at_ k.fn hn h
theorem bQ3{y:V}{u:Value}{Q:Unit->Shared->Prop}(I:Inv X pins σ H s)(e:H a=some (.ins C dx fs))(c:eN X.K C)(n:cP X.K C f)(hl:fs.length<1000)(ry:RelV y u)
  (h:∀s',Inv X pins σ (upd H a (.ins C dx (fP f y fs))) s'->Q () s'):wpAny (model X.prog X.w) A (setAttr (.ref a) f u) Q E s:=by
 obtain⟨mA,O,r,wi,_,ho⟩:=Br I.aH e
 have hz:(fs.map (·.1)).length<=sizeLine:=by rw[bG,sizeLine_eq];omega
 refine cr8 I.dj O c.sa c.po n.cR9 c.hd wi hz λh' O' sb=>h _ ?_
 have hd:∃o,h'.get? dx=some o:=let⟨o,_,_,e',_⟩:=O'.ns;⟨o,e'⟩
 refine I.write (x:=a) (e:=dx) (by rw[e];exact uT) (.inr ho) (λb q hb z=>(sb.2 b hb).trans z) hd ?_
 refine⟨by rw[bb O.ne];exact ho,?_,O.ne,O'.obj,_,O'.ns,λg=>?_,λg hg=>?_⟩
 ·have:=Qn f y fs;omega
 ·show lN ((fP f y fs).lookup g) (if g=f then some u else mA g)
  rw[Qm]
  by_cases q:g=f
  ·rw[if_pos q,if_pos q];exact ry
  ·rw[if_neg q,if_neg q];exact r g
 ·by_cases q:g=f
  ·rw[q];exact(Fq f y fs).1
  ·refine(Fq f y fs).2 g (wi g λz=>hg ?_)
   show(if g=f then some u else mA g)=none
   rw[if_neg q];exact z
theorem Inv.made(I:Inv X pins σ H s):Inv X pins σ (upd (upd H s.heap.objs.size (.own (s.heap.objs.size+1))) (s.heap.objs.size+1) (.ins C s.heap.objs.size []))
  { s with heap:=(s.heap.push PySem.W.emptyDict).push (PySem.W.instObj C s.heap.objs.size) }:=by
 have e1:(s.heap.push PySem.W.emptyDict).get? s.heap.objs.size=some PySem.W.emptyDict:=hW s.heap rfl
 have e2:((s.heap.push PySem.W.emptyDict).push (PySem.W.instObj C s.heap.objs.size)).get? (s.heap.objs.size+1)=some (PySem.W.instObj C s.heap.objs.size):=by
  have:=hW (s.heap.push PySem.W.emptyDict) (o:=PySem.W.instObj C s.heap.objs.size) rfl
  rwa [yg]at this
 have e3:(s.heap.push PySem.W.emptyDict).Ns s.heap.objs.size (λ_=>none):=⟨PySem.W.emptyDict,#[],_,e1,rfl,(λe he=>absurd he (by simp)),λ_=>rfl⟩
 have I1:=I.laid (a:=s.heap.objs.size) (o:=.own (s.heap.objs.size+1)) (h':=s.heap.push PySem.W.emptyDict) (t':=s.toks) (λb u q=>fj _ q) (bP _) ⟨_,e1⟩
 refine I1.laid (a:=s.heap.objs.size+1) (o:=.ins C s.heap.objs.size []) (t':=s.toks) (λb u q=>fj _ q) (AM (yg _ _)) ?_
 have ne:s.heap.objs.size≠s.heap.objs.size+1:=eI (yh _)
 refine⟨by rw[bb ne,cB],jX _,ne,e2,λ_=>none,(Heap.Ns1.of_empty e3).at λo q=>fj _ q,λ_=>uT,λy hy=>absurd rfl hy⟩
theorem cp8{prog:Program}{w:World}{env:Env}{e:Expr}{f:Str}{pos:Pos}{s:Shared}{Q:Value->Shared->Prop}(hb:attributeBase e f env (eval e env)=eval e env)
  (h:wpAny (model prog w) A (eval e env) (λo bI=>wpAny (model prog w) A (getAttr o f true) Q E bI) E s):wpAny (model prog w) A (eval (.Attribute e f pos) env) Q E s :=
 Attribute_any_ h (by rw[arm_eval_Attribute,hb])
end
noncomputable def cP2(K:PySem.W.Frag)(ta:TE)(f:Str):TE:=λσ H Q=>ta σ H λx H1=>∃a C dx fs v,x=.ref a/\H1 a=some (.ins C dx fs)/\eN K C/\cP K C f/\fs.lookup f=some v/\Q v H1
noncomputable def cO8(K:PySem.W.Frag)(ta tv:TE)(f:Str):TS:=λD σ H=>tv σ H λy H1=>ta σ H1 λx H2=>∃a C dx fs,x=.ref a/\H2 a=some (.ins C dx fs)/\eN K C/\cP K C f/\fs.length<1000 /\
 D.nx σ (upd H2 a (.ins C dx (fP f y fs)))
section
variable{X:Cx}{o e value:Expr}{f:Str}{pos pos' pS:Pos}{ta tv:TE}
theorem Bt(he:PE X e ta)(hb:attributeBase e f X.env (eval e X.env)=eval e X.env):PE X (.Attribute e f pos) (cP2 X.K ta f):=by
 intro pins s σ H Q I h
 refine cp8 hb (aO (he pins s σ H _ I h) λu s1 ⟨x,H1,I1,rx,a,C,dx,fs,v,ex,ea,c,n,l,q⟩=>?_)
 subst ex
 obtain rfl:u=fC a:=rx
 exact bP1 I1 ea c n l λu' s2 I2 ru=>⟨v,H1,I2,ru,q⟩
theorem pU(ha:PE X o ta)(hv:PE X value tv)(hs:swapsWith value (some (.Attribute o f pos')) pos.line X.env=pure false):PS X (.Assign [.Attribute o f pos'] value pos) (cO8 X.K ta tv f):=by
 intro pins s σ H D I h
 refine plainObj_wpAny_Assign_Attribute (aO (hv pins s σ H _ I h) λu s1 ⟨y,H1,I1,ry,q⟩=>aO (ha pins s1 σ H1 _ I1 q) λov s2 ⟨x,H2,I2,rx,a,C,dx,fs,ex,ea,c,n,l,q2⟩=>?_) hs
 subst ex
 obtain rfl:ov=fC a:=rx
 exact bQ3 I2 ea c n l ry λs3 I3=>⟨σ,_,I3,q2⟩
end
section
variable{X:Cx}{pins:List (Addr × Obj)}{σ:St}{H:Hp}{s:Shared}{A:Around}{E:Value->Shared->Prop}{Q:Value->Shared->Prop}{c:Value}{b:Bool}
inductive iG(K:PySem.W.Frag)(H:Hp):V->Value->Prop where
 | au:iG K H .au (.type "NoneType")
 | bl (x:Bool):iG K H (.bl x) (.type "bool")
 | int (i:Int):iG K H (.int i) (.type "int")
 | str (x:Str):iG K H (.str x) (.type "str")
 | sO (x:UInt64):iG K H (.sO x) (.type "float")
 | lst {a:Addr} {xs:List V} (e:H a=some (.lst xs)):iG K H (.ref a) (.type "list")
 | cq {a:Addr} {o:Obj} {xs:List V} (e:H a=some (.cq o (.lst xs))):iG K H (.ref a) (.type "list")
 | tup {a:Addr} {xs:List V} (e:H a=some (.tup xs)):iG K H (.ref a) (.type "tuple")
 | dK {a:Addr} {dD:List (Key × V)} (e:H a=some (.dK dD)):iG K H (.ref a) (.type "dict")
 | dT {a:Addr} {dD:List (List Key × V)} (e:H a=some (.dT dD)):iG K H (.ref a) (.type "dict")
 | ins {a C dx:Addr} {fs:List (Str × V)} (e:H a=some (.ins C dx fs)) (cl:eN K C) (ha:PySem.W.findIn K (.ref C) "__class__"=some (some (.builtin "object.__class__")))
   (hn:PySem.W.specialIn K (.builtin "object.__class__") "__get__"=some (some (.builtin "getset_descriptor.__get__"))) (Ft:PySem.W.takesIn K (.builtin "object.__class__")=some true)
   (hm:PySem.W.mroIn K C (.type "object")=some true):iG K H (.ref a) (.ref C)
theorem bX4{x:V}{u t:Value}(I:Inv X pins σ H s)(rx:RelV x u)(ty:iG X.K H x t)(e:PySem.W.kitOne X.K t c=some b)(h:∀tk,Q (.bool b) { s with toks:=tk }) :
  wpAny (model X.prog X.w) A (call (.builtin "isinstance") [u,c]) Q E s:=by
 cases ty with
 | au=>cases(show u=sr from rx);exact PySem.W.kia_one PySem.W.kitx_none I.dj uT e (λz=>nomatch z) h
 | bl y=>cases(show u=Ej y from rx);exact PySem.W.kia_one PySem.W.kitx_bool I.dj uT e (λz=>nomatch z) h
 | int i=>obtain⟨t,q⟩:=(show ∃t,u=pd i t from rx);cases q;exact PySem.W.kia_one PySem.W.kitx_int I.dj uT e (λz=>nomatch z) h
 | str y=>obtain⟨t,q⟩:=(show ∃t,u=Value.str y t from rx);cases q;exact PySem.W.kia_one PySem.W.kitx_str I.dj uT e (λz=>nomatch z) h
 | sO y=>obtain⟨t,q⟩:=(show ∃t,u=Value.float y t from rx);cases q;exact PySem.W.kia_one PySem.W.kitx_float I.dj uT e (λz=>nomatch z) h
 | @lst a xs ea =>
  cases(show u=fC a from rx)
  obtain⟨_,_,n,_,h1⟩:=(show dR X.prog X.w H s.heap a (.lst xs) from I.aH a _ ea)
  exact PySem.W.kia_one PySem.W.kitx_list I.dj ⟨_,h1,rfl⟩ e (λz=>nomatch z) h
 | @cq a ob xs ea =>
  cases(show u=fC a from rx)
  obtain⟨_,_,_,n,_,h1⟩:=(show dR X.prog X.w H s.heap a (.cq ob (.lst xs)) from I.aH a _ ea)
  exact PySem.W.kia_one PySem.W.kitx_list I.dj ⟨_,h1,rfl⟩ e (λz=>nomatch z) h
 | @tup a xs ea =>
  cases(show u=fC a from rx)
  obtain⟨_,_,_,p⟩:=(show dR X.prog X.w H s.heap a (.tup xs) from I.aH a _ ea)
  obtain⟨o,h1,h2,_⟩:=p
  exact PySem.W.kia_one PySem.W.kitx_tuple I.dj ⟨o,h1,h2⟩ e (λz=>nomatch z) h
 | @dK a dD ea =>
  cases(show u=fC a from rx)
  obtain⟨_,_,vs,_,p⟩:=(show dR X.prog X.w H s.heap a (.dK dD) from I.aH a _ ea)
  obtain⟨o,es,ep,h1,h2,_⟩:=p
  exact PySem.W.kia_one PySem.W.kitx_dict I.dj ⟨o,h1,h2.1⟩ e (λz=>nomatch z) h
 | @dT a dD ea =>
  cases(show u=fC a from rx)
  obtain⟨_,_,xs,_,o,es,ep,h1,h2,_⟩:=(show dR X.prog X.w H s.heap a (.dT dD) from I.aH a _ ea)
  exact PySem.W.kia_one PySem.W.kitx_dict I.dj ⟨o,h1,h2.1⟩ e (λz=>nomatch z) h
 | @ins a C dx fs ea cl ha hn Ft hm =>
  cases(show u=fC a from rx)
  obtain⟨mA,O,_⟩:=Br I.aH ea
  obtain⟨od,J,_⟩:=O.look
  exact PySem.W.kia_one (PySem.W.kitx_own (cl.get _) cl.hd ha hn Ft hm) I.dj J e (λz=>nomatch z) h
end
end L2
namespace L2
open PySem PySem.Spec PyProof.Rows
structure cm(k:Nat)(A:Around):Prop where
 hd:A.handled=none
 dp:A.depth+3*k+5<recursionLimit
 un:A.units+16*k+200<cLine
theorem cm.mono{j k:Nat}{A:Around}(r:cm k A)(h:j<=k):cm j A:=⟨r.hd,by have:=r.dp;omega,by have:=r.un;omega⟩
theorem cm.deeper{k:Nat}{A:Around}(r:cm (k+1) A)(env:Env):cm k (A.deeper env) :=
 ⟨r.hd,by have:=r.dp;show A.depth+1+3*k+5<_;omega,by have:=r.un;show A.units+3+16*k+200<_;omega⟩
theorem cm.in1{k:Nat}{A:Around}(r:cm (k+1) A):cm k A.in1 :=
 ⟨r.hd,by have:=r.dp;show A.depth+3*k+5<_;omega,by have:=r.un;show A.units+1+16*k+200<_;omega⟩
theorem bO8{A:Around}{C:Addr}{us:List Value}{kw:List (Str × Value)}:(A.under (.builtin "type.__call__" ⟨.ref C::us,kw⟩)).depth=A.depth+1:=by
 first | rfl | simp[Around.under,Code.weight,Code.isCreation,Code.isGuard,Code.isCaller,Code.frames,Code.isFrame,guardIds]
theorem bP8{A:Around}{C:Addr}{us:List Value}{kw:List (Str × Value)}:(A.under (.builtin "type.__call__" ⟨.ref C::us,kw⟩)).units=A.units+1:=by
 first | rfl | simp[Around.under,Code.cUnits,Code.frames,Code.isFrame]
theorem cm.make{k:Nat}{A:Around}(r:cm (k+1) A)(C:Addr)(us:List Value)(kw:List (Str × Value)):cm k (A.under (.builtin "type.__call__" ⟨.ref C::us,kw⟩)) :=
 ⟨r.hd,by have:=r.dp;rw[bO8];omega,by have:=r.un;rw[bP8];omega⟩
theorem cm.depth{k:Nat}{A:Around}(r:cm k A):A.depth<recursionLimit:=by have:=r.dp;omega
theorem cm.units{k:Nat}{A:Around}(r:cm k A):A.units+64<cLine:=by have:=r.un;omega
noncomputable def cN4:TA:=λ_ H Q=>Q [] H
noncomputable def cG3(ta:TE)(tr:TA):TA:=λσ H Q=>ta σ H λx H1=>tr σ H1 λxs H2=>Q (x::xs) H2
section
variable{X:Cx}{e:Expr}{es:List Expr}{te:TE}{t:TA}{pos:Pos}
theorem jE:PA X [] cN4:=λ_ _ _ _ H Q I h=>Pj ⟨[],H,I,.nil,h⟩
theorem fH(ha:PE X e te)(hr:PA X es t)(hs:starEach (e::es) X.env=(false,eval e X.env)::starEach es X.env:=by rfl):PA X (e::es) (cG3 te t):=by
 intro pos pins s σ H Q I h
 rw[hs]
 show wpAny _ _ (spliced ((false,eval e X.env)::backTo pos (starEach es X.env))) _ _ s
 refine Pk (aO (ha pins s σ H _ I h) λu s1 ⟨x,H1,I1,r1,q1⟩=>?_)
 exact aO (hr pos pins s1 σ H1 _ I1 q1) λus s2 ⟨xs,H2,I2,r2,q2⟩=>⟨x::xs,H2,I2,.cons r1 r2,q2⟩
noncomputable def cP1(t:TA):TE:=λσ H Q=>t σ H λxs H1=>xs.length<=sizeLine/\∀p,H1 p=none->Q (.ref p) (upd H1 p (.tup xs))
noncomputable def cO4(t:TA):TE:=λσ H Q=>t σ H λxs H1=>xs.length<=sizeLine/\∀p,H1 p=none->Q (.ref p) (upd H1 p (.lst xs))
theorem cz7{x1}(h:PA X es t):PE X (.Tuple es x1 pos) (cP1 t):=by
 intro pins s σ H Q I hq
 refine wpAny_Tuple_spliced (aO (h pos pins s σ H _ I hq) λus s1 ⟨xs,H1,I1,r,z,q⟩=>⟨by rw[<-r.length];exact z,?_⟩)
 have hf:H1 s1.heap.objs.size=none:=I1.aH.fresh (bP _)
 refine⟨.ref s1.heap.objs.size,upd H1 s1.heap.objs.size (.tup xs),I1.laid (t':=s1.toks) (λb u e=>fj _ e) (bP _) ?_,rfl,q _ hf⟩
 exact⟨z,us,r,⟨_,hW _ rfl,rfl,_,rfl⟩⟩
theorem Qo(h:PA X es t):PE X (.List es pos) (cO4 t):=by
 intro pins s σ H Q I hq
 refine wpAny_List_spliced (aO (h pos pins s σ H _ I hq) λus s1 ⟨xs,H1,I1,r,z,q⟩=>⟨by rw[<-r.length];exact z,?_⟩)
 have hf:H1 s1.heap.objs.size=none:=I1.aH.fresh (bP _)
 refine⟨.ref s1.heap.objs.size,upd H1 s1.heap.objs.size (.lst xs),I1.laid (t':=s1.toks) (λb u e=>fj _ e) (bP _) ?_,rfl,q _ hf⟩
 exact⟨z,us,0,r,hW _ rfl⟩
end
noncomputable abbrev Sp:=List V->Hp->VK->XK->Prop
noncomputable abbrev e7:=List Env->Hp->Shared->XK->Value->Shared->Prop
structure gY(P:Program)(w:World)(K:PySem.W.Frag)(mg:Str->Option Value)(base:Heap)(A:Around)(outer:List Env)(s:Shared)(H:Hp):Prop where
 frames:A.frames=some outer
 mod:Mod K mg base
 bs:∀b o,base.get? b=some o->s.heap.get? b=some o/\H b=none
 jc:base.objs.size<=s.heap.objs.size
 gF:s.heap.FunFrames base outer
 jB:∀b∈dE outer,H b=none
 aH:cT P w H s.heap
 bare:AllBare s.gens
noncomputable def CE(outer:List Env)(P:Program)(w:World)(H:Hp)(s:Shared)(Q:VK)(u:Value)(s':Shared):Prop :=
 ∃v H',s'.os=s.os/\AllBare s'.gens/\Un (dE outer) [] H H' s.heap s'.heap/\cT P w H' s'.heap/\RelV v u/\Q v H'
noncomputable def CR(CX:e7)(outer:List Env)(P:Program)(w:World)(H:Hp)(s:Shared)(Q:VK)(E:XK)(r:Result)(s':Shared):Prop :=
 match r with
 | .ok (.ret u)=>CE outer P w H s Q u s'
 | .ok _=>False
 | .error e=>CX outer H s E e s'
structure aP(P:Program)(w:World)(K:PySem.W.Frag)(mg:Str->Option Value)(base:Heap)(CX:e7)(k:Nat)(f:Addr)(fd:FuncData)(ps:List Str)(sp:Sp):Prop where
 len:∀vs H Q E,sp vs H Q E->vs.length=ps.length
 run:∀(A:Around) (outer:List Env) (s:Shared) (H:Hp) (args:Args) (us:List Value) (vs:List V) (Q:VK) (E:XK),cm k A->gY P w K mg base A outer s H->BindsTo s fd args (ps.zip us)->Vals vs us->sp vs H Q E ->
  codeAny (model P w) A (.call (.ref f) args) (CR CX outer P w H s Q E) s
theorem aP.mono{P:Program}{w:World}{K:PySem.W.Frag}{mg:Str->Option Value}{base:Heap}{CX:e7}{j k:Nat}{f:Addr}{fd:FuncData}{ps:List Str}{sp:Sp}(F:aP P w K mg base CX j f fd ps sp)(h:j<=k) :
  aP P w K mg base CX k f fd ps sp:=⟨F.len,λA outer s H args us vs Q E hr=>F.run A outer s H args us vs Q E (hr.mono h)⟩
theorem aP.imp{P:Program}{w:World}{K:PySem.W.Frag}{mg:Str->Option Value}{base:Heap}{CX:e7}{k:Nat}{f:Addr}{fd:FuncData}{ps:List Str}{sp Qp:Sp}(F:aP P w K mg base CX k f fd ps sp)
  (h:∀vs H Q E,Qp vs H Q E->sp vs H Q E):aP P w K mg base CX k f fd ps Qp :=
 ⟨λvs H Q E q=>F.len vs H Q E (h _ _ _ _ q),λA outer s H args us vs Q E hr he hb hv hs=>F.run A outer s H args us vs Q E hr he hb hv (h _ _ _ _ hs)⟩
theorem gY.make{P:Program}{w:World}{K:PySem.W.Frag}{mg:Str->Option Value}{base:Heap}{A:Around}{outer:List Env}{s:Shared}{H:Hp}(e:gY P w K mg base A outer s H)(C:Addr)(us:List Value)(kw:List (Str × Value)) :
  gY P w K mg base (A.under (.builtin "type.__call__" ⟨.ref C::us,kw⟩)) outer s H:=⟨by first | exact e.frames | (simpa[Around.under,Code.envs,Code.isFrame,pushEnvs]using e.frames),e.mod,e.bs,e.jc,e.gF,e.jB,e.aH,e.bare⟩
theorem gY.in1{P:Program}{w:World}{K:PySem.W.Frag}{mg:Str->Option Value}{base:Heap}{A:Around}{outer:List Env}{s:Shared}{H:Hp}(e:gY P w K mg base A outer s H) :
  gY P w K mg base A.in1 outer s H:=⟨e.frames,e.mod,e.bs,e.jc,e.gF,e.jB,e.aH,e.bare⟩
section
variable{X:Cx}{pins:List (Addr × Obj)}{σ:St}{H:Hp}{s s':Shared}
theorem Inv.yO(I:Inv X pins σ H s):gY X.prog X.w X.K X.mg X.base X.A X.stack s H :=
 ⟨I.ok.frames,I.ok.mod,I.bs,fi I.ok.jc I.sz,I.stack,I.Bd,I.aH,I.bare⟩
theorem Inv.after{Q:VK}{u:Value}(I:Inv X pins σ H s)(h:CE X.stack X.prog X.w H s Q u s'):EP X pins σ Q u s':=by
 obtain⟨v,H',os,bare,un,aH,r,q⟩:=h
 obtain⟨hh,g,d,t,os'⟩:=s'
 obtain rfl:os'=s.os:=os
 exact⟨v,H',I.call (h':=hh) (g':=g) (d':=d) (t':=t) (ch:=[]) un aH bare (λb z=>absurd z (by simp)),r,q⟩
end
noncomputable def cI5(sp:Sp)(fI:List V)(E:XK)(t:TA):TE:=λσ H Q=>t σ H λvs H1=>sp (vs++fI) H1 Q E
noncomputable def cL5(C:Addr)(m:Str)(sp:Sp)(fI:List V)(E:XK)(ta:TE)(t:TA):TE:=λσ H Q=>ta σ H λx H1=>∃a dx fs,x=.ref a/\H1 a=some (.ins C dx fs)/\fs.lookup m=none /\
 t σ H1 λvs H2=>sp (x::(vs++fI)) H2 Q E
noncomputable def cI6(C:Addr)(sp:Sp)(fI:List V)(E:XK)(t:TA):TE:=λσ H Q=>t σ H λvs H1=>∀x dx,H1 x=none->H1 dx=none->dx≠x ->
 sp (.ref x::(vs++fI)) (upd (upd H1 dx (.own x)) x (.ins C dx [])) (λv H2=>v=.au/\Q (.ref x) H2) E
noncomputable def Binds(K:PySem.W.Frag)(fd:FuncData)(ps:List Str)(ds:List Value):Prop :=
 ∀(s:Shared) (us:List Value),K.In s.heap->(us++ds).length=ps.length->BindsTo s fd ⟨us,[]⟩ (ps.zip (us++ds))
theorem Binds.all{K:PySem.W.Frag}{fd:FuncData}{ps:List Str}(h:∀us:List Value,us.length=ps.length->bindArgs fd ⟨us,[]⟩=pure (ps.zip us)):Binds K fd ps []:=λs us _ hl=>by
 rw[iC]at hl ⊢
 exact .of_eq (h us hl)
noncomputable def lY(CX:e7)(X:Cx)(E:XK):Prop:=∀(pins:List (Addr × Obj)) (σ:St) (H:Hp) (s:Shared) (e:Value) (s':Shared),Inv X pins σ H s->CX X.stack H s E e s'->X.xe e s'
section
variable{X:Cx}{CX:e7}{k:Nat}{f C:Addr}{fd:FuncData}{ps:List Str}{sp:Sp}{fI:List V}{ds:List Value}{E:XK}{x m:Str}{p pos apos:Pos}{e o:Expr}{es:List Expr}{ta:TE}{t:TA}
theorem Bu{pins:List (Addr × Obj)}{σ:St}{H:Hp}{s:Shared}{Q:VK}{us:List Value}{vs:List V}(F:aP X.prog X.w X.K X.mg X.base CX k f fd ps sp)(hr:cm k X.A)(hb:Binds X.K fd ps ds)(hd:Vals fI ds)(hx:lY CX X E)
  (I:Inv X pins σ H s) (r:Vals vs us) (h:sp (vs++fI) H Q E):wpAny (model X.prog X.w) X.A (call (.ref f) us) (EP X pins σ Q) X.xe s:=by
 have r2:Vals (vs++fI) (us++ds):=r.append hd
 have hl:(us++ds).length=ps.length:=by rw[<-r2.length];exact F.len _ _ _ _ h
 refine wpAny_call (codeAny_mono (F.run X.A X.stack s H ⟨us,[]⟩ (us++ds) (vs++fI) Q E hr I.yO (hb s us I.dj hl) r2 h) λr s' hq=>?_)
 cases r with
 | error e=>exact hx pins σ H s e s' I hq
 | ok fl =>
  cases fl with
  | ret u=>exact I.after hq
  | next=>exact fE hq
  | brk=>exact fE hq
  | cont=>exact fE hq
theorem sX(F:aP X.prog X.w X.K X.mg X.base CX k f fd ps sp)(hr:cm k X.A)(hg:Gl X x)(hm:X.mg x=some (.ref f))(hk:PySem.W.keepIn X.K (.ref f)=true)(hb:Binds X.K fd ps ds)(hd:Vals fI ds)(hx:lY CX X E)
  (ha:PA X (e::es) t) (e8:(x==("__debug__":Str))=false:=by decide) (he:starEach (e::es) X.env=(false,eval e X.env)::starEach es X.env:=by rfl) (bU:(backTo pos (starEach es X.env)).any (·.1)=false:=by rfl) :
  PE X (.Call (.Name x p) (e::es) [] pos) (cI5 sp fI E t):=by
 intro pins s σ H Q I h
 refine wpAny_Call_Name_kw (Bf I hg hm ?_ e8)
 refine PySem.W.callWith_K (h₀:=X.base) I.ok.mod.m4 hk (aO (ha pos pins s σ H _ I h) λus s1 ⟨vs,H1,I1,r,q⟩=>⟨I1.dj,?_⟩) he bU
 exact Bu F hr hb hd hx I1 r q
theorem cv1{pl:Sem Bool}(he:PE X o ta)(c:eN X.K C)(hm:Meth X.K C m f)(F:aP X.prog X.w X.K X.mg X.base CX k f fd ps sp)(hr:cm k X.A)(hb:Binds X.K fd ps ds)(hd:Vals fI ds)(hx:lY CX X E)(ha:PA X (e::es) t)
  (dm:starEach (e::es) X.env=(false,eval e X.env)::starEach es X.env:=by rfl) (bU:(backTo pos (starEach es X.env)).any (·.1)=false:=by rfl)
  (ht:eval (.Call (.Attribute o m apos) (e::es) [] pos) X.env=(do
   let ov<-eval o X.env
   standAt apos.atName
   let (f,first)<-holding [ov] (getMethod ov m pl)
   callWith pos f first (backTo pos (starEach (e::es) X.env)) (backToKw pos (keywordEach [] X.env))):=by rfl) :
  PE X (.Call (.Attribute o m apos) (e::es) [] pos) (cL5 C m sp fI E ta t):=by
 intro pins s σ H Q I h
 refine PySem.W.methodCall_KW (pl:=pl) (aO (he pins s σ H _ I h) λu s1 ⟨x,H1,I1,rx,a,dx,fs,ex,ea,l,q⟩=>?_) ht
 subst ex
 obtain rfl:u=fC a:=rx
 refine Fs I1 ea c hm l ?_
 refine PySem.W.callWith_K (first:=[.ref a]) (h₀:=X.base) I.ok.mod.m4 hm.kp (aO (ha pos pins s1 σ H1 _ I1 q) λus s2 ⟨vs,H2,I2,r,q2⟩=>⟨I2.dj,?_⟩) dm bU
 exact Bu (us:=.ref a::us) (vs:=.ref a::vs) F hr hb hd hx I2 (.cons rfl r) q2
structure Mk(K:PySem.W.Frag)(C f:Addr):Prop where
 makes:PySem.W.makesIn K C=true
 init:PySem.W.findIn K (.ref C) "__init__"=some (some (.ref f))
 fn:PySem.W.isFn K (.ref f)=true
 kp:PySem.W.keepIn K (.ref C)=true
theorem ce7{pins:List (Addr × Obj)}{σ:St}{H:Hp}{s:Shared}{Q:VK}{us:List Value}{vs:List V}(M:Mk X.K C f)(F:aP X.prog X.w X.K X.mg X.base CX k f fd ps sp)(hr:cm (k+1) X.A)(hb:Binds X.K fd ps ds)(hd:Vals fI ds)
  (hx:lY CX X E) (I:Inv X pins σ H s) (r:Vals vs us)
  (h:∀x dx,H x=none->H dx=none->dx≠x->sp (.ref x::(vs++fI)) (upd (upd H dx (.own x)) x (.ins C dx [])) (λv H2=>v=.au/\Q (.ref x) H2) E) :
  wpAny (model X.prog X.w) X.A (call (.ref C) us) (EP X pins σ Q) X.xe s:=by
 have hq:=h (s.heap.objs.size+1) s.heap.objs.size (I.aH.fresh (Nat.le_succ _)) (I.aH.fresh (bP _)) (eI (yh _))
 have I2:=Inv.made (C:=C) I
 have r2:Vals (V.ref (s.heap.objs.size+1)::(vs++fI)) (fC (s.heap.objs.size+1)::(us++ds)):=.cons rfl (r.append hd)
 have hl:(fC (s.heap.objs.size+1)::us++ds).length=ps.length:=by
  have e:=r2.length
  rw[F.len _ _ _ _ hq]at e
  exact e.symm
 refine wpAny_call (cg3 (f:=f) I.dj M.makes M.init (beq_iff_eq.mp M.fn) (codeAny_mono (F.run _ X.stack _ _ ⟨fC (s.heap.objs.size+1)::us,[]⟩ (fC (s.heap.objs.size+1)::(us++ds)) _ _ E (hr.make C us [])
  (I2.yO.make C us []) (hb _ (fC (s.heap.objs.size+1)::us) I2.dj hl) r2 hq) λr s' m9=>?_))
 cases r with
 | error e=>exact hx pins σ _ _ e s' I2 m9
 | ok fl =>
  cases fl with
  | ret u =>
   obtain⟨v,H',I3,rv,ev,q3⟩:=I2.after m9
   subst ev
   exact⟨rv,⟨V.ref (s.heap.objs.size+1),H',I3,rfl,q3⟩⟩
  | next=>exact fE m9
  | brk=>exact fE m9
  | cont=>exact fE m9
theorem cw4(M:Mk X.K C f)(F:aP X.prog X.w X.K X.mg X.base CX k f fd ps sp)(hr:cm (k+1) X.A)(hg:Gl X x)(hm:X.mg x=some (.ref C))(hb:Binds X.K fd ps ds)(hd:Vals fI ds)(hx:lY CX X E)
  (ha:PA X (e::es) t) (e8:(x==("__debug__":Str))=false:=by decide) (he:starEach (e::es) X.env=(false,eval e X.env)::starEach es X.env:=by rfl) (bU:(backTo pos (starEach es X.env)).any (·.1)=false:=by rfl) :
  PE X (.Call (.Name x p) (e::es) [] pos) (cI6 C sp fI E t):=by
 intro pins s σ H Q I h
 refine wpAny_Call_Name_kw (Bf I hg hm ?_ e8)
 refine PySem.W.callWith_K (h₀:=X.base) I.ok.mod.m4 M.kp (aO (ha pos pins s σ H _ I h) λus s1 ⟨vs,H1,I1,r,q⟩=>⟨I1.dj,?_⟩) he bU
 exact ce7 M F hr hb hd hx I1 r q
end
section
variable{X:Cx}{CX:e7}{k:Nat}{f C:Addr}{fd:FuncData}{ps ks:List Str}{sp:Sp}{E:XK}{x m:Str}{p pos apos eO8:Pos}{e o:Expr}{es:List Expr}{kws:List Keyword}{te ta:TE}{t tk:TA}{nm:Option Str}
variable{g:List Value->List Value->List Value}{gV:List V->List V->List V}
end
structure bu(N P:List Str)(sc:Scope):Prop where
 kind:sc.kind=.function
 co:sc.isCoroutine=false
 gen:sc.isGenerator=false
 nd:N.Nodup
 pre:N.take P.length=P
 par:∀x∈P,sc.names.lookup x=some .local\/sc.names.lookup x=some .cell
 cU0:∀y∈sc.names,y.2≠.free
theorem Qq{kindOf:Str->Option NameKind}{x:Str}:∀{binds:List (Str × Value)} {m:Str->Option Value},(∀v,(x,v) ∉ binds)->bindL kindOf binds m x=m x
 | [],_,_=>rfl
 | (n,v)::r,m,h=>by
  unfold bindL
  rw[Qq λw hw=>h w (eJ _ hw)]
  split
  ·have:x≠n:=by rintro rfl;exact h v gS
   simp[this]
  ·rfl
theorem Qr{kindOf:Str->Option NameKind}{x:Str}:∀{binds:List (Str × Value)} {m:Str->Option Value},(∀v,(x,v) ∉ binds)->bindC kindOf binds m x=m x
 | [],_,_=>rfl
 | (n,v)::r,m,h=>by
  unfold bindC
  rw[Qr λw hw=>h w (eJ _ hw)]
  split
  ·rfl
  ·have:x≠n:=by rintro rfl;exact h v gS
   simp[this]
theorem Qs{kindOf:Str->Option NameKind}{x:Str}{v:Value}:∀{P:List Str} {vs:List Value} {i:Nat} {m:Str->Option Value},P.Nodup->P[i]?=some x->vs[i]?=some v->kindOf x=some .local ->
  bindL kindOf (P.zip vs) m x=some v
 | [],_,_,_,_,h,_,_=>by simp at h
 | _::_,[],_,_,_,_,h,_=>by simp at h
 | p::P,w::vs,0,m,nd,h1,h2,hk=>by
  simp at h1 h2;subst h1;subst h2
  show bindL kindOf ((p,w)::P.zip vs) m p=_
  unfold bindL
  rw[Qq λv hv=>(jy.mp nd).1 (AN hv).1,if_pos hk]
  simp
 | p::P,w::vs,i+1,m,nd,h1,h2,hk=>by
  show bindL kindOf ((p,w)::P.zip vs) m x=_
  unfold bindL
  exact Qs (i:=i) (jy.mp nd).2 (by simpa using h1) (by simpa using h2) hk
theorem Qt{kindOf:Str->Option NameKind}{x:Str}{v:Value}:∀{P:List Str} {vs:List Value} {i:Nat} {m:Str->Option Value},P.Nodup->P[i]?=some x->vs[i]?=some v->kindOf x≠some .local ->
  bindC kindOf (P.zip vs) m x=some v
 | [],_,_,_,_,h,_,_=>by simp at h
 | _::_,[],_,_,_,_,h,_=>by simp at h
 | p::P,w::vs,0,m,nd,h1,h2,hk=>by
  simp at h1 h2;subst h1;subst h2
  show bindC kindOf ((p,w)::P.zip vs) m p=_
  unfold bindC
  rw[Qr λv hv=>(jy.mp nd).1 (AN hv).1,if_neg hk]
  simp
 | p::P,w::vs,i+1,m,nd,h1,h2,hk=>by
  show bindC kindOf ((p,w)::P.zip vs) m x=_
  unfold bindC
  exact Qt (i:=i) (jy.mp nd).2 (by simpa using h1) (by simpa using h2) hk
noncomputable def start(N:List Str)(vs:List V):St:=vs.map some++br (N.length-vs.length) none
noncomputable def jh(CX:e7)(P:Program)(w:World)(K:PySem.W.Frag)(mg:Str->Option Value)(base:Heap)(N:List Str)(qual:Str)(scope:Scope)(f:Addr)(cd:Value)(A:Around)(outer:List Env)(s:Shared)(H:Hp)(E:XK):Cx where
 prog:=P
 w:=w
 K:=K
 mg:=mg
 base:=base
 A:=A.deeper (envOfC qual scope s.heap.objs.size f cd)
 N:=N
 cL:=s
 kB:=H
 env:=envOfC qual scope s.heap.objs.size f cd
 outer:=outer
 stack:=envOfC qual scope s.heap.objs.size f cd::outer
 ex:=[]
 calm:=true
 fn:=λ_=>true
 pn:=[]
 xe:=λe s'=>wpAny (model P w) (A.deeper (envOfC qual scope s.heap.objs.size f cd)) (leaving (envOfC qual scope s.heap.objs.size f cd) e) (λ_ sY=>CX outer H s E e sY) (λe' sY=>CX outer H s E e' sY) s'
theorem Qu{sc:Scope}{n:Nat}{x:Str}(h:sc.names.lookup x=some .cell):∃c,(cellsFrom n sc.names []).lookup x=some c:=by
 have q:=PySem.W.cellsFrom_some sc.names n [] (.inl h)
 exact YL.mp q
theorem b02{CX:e7}{P:Program}{w:World}{K:PySem.W.Frag}{mg:Str->Option Value}{base:Heap}{N ps:List Str}{qual:Str}{scope:Scope}{f:Addr}{cd:Value}{A:Around}{outer:List Env}{s s1:Shared}{H:Hp}{E:XK}{us:List Value}{vs:List V}
  (S:bu N ps scope) (hd:A.handled=none) (e0:gY P w K mg base A outer s H) (hl:vs.length=ps.length) (r:Vals vs us)
  (x:InCallC s s.heap.objs.size (bindL (envOfC qual scope s.heap.objs.size f cd).kindOf (ps.zip us) λ_=>none) (cellsFrom (s.heap.objs.size+1) scope.names []) (bindC (envOfC qual scope s.heap.objs.size f cd).kindOf (ps.zip us) λ_=>none) s1) :
  Inv (jh CX P w K mg base N qual scope f cd A outer s H E) [] (start N vs) H s1:=by
 have bU:ps.length<=N.length:=by have:=congrArg AO S.pre;rw[eZ]at this;omega
 obtain⟨h1,tk,rfl,hk⟩:=x.done
 have yP:∀b:Addr,b ∉ (jh CX P w K mg base N qual scope f cd A outer s H E).ex:=λb z=>absurd (show b∈([]:List Addr) from z) (by simp)
 refine⟨⟨e0.mod,S.kind,rfl,rfl,bP _,λy z c h1 h2=>?_,λy hy=>?_,λy c _ h=>?_,λ_=>hd,Around.frames_deeper e0.frames,.inr ⟨rfl,rfl⟩,λb z=>absurd z (yP b),e0.bs,e0.jc,λb _ _=>yP b,λb z=>absurd z (yP b),e0.gF,e0.jB⟩,
  rfl,e0.bare,Un.kept hk,⟨_,x.toInCall.ns,λi y v h1 h2 h3=>?_⟩,λy c h=>⟨_,x.cell y c h⟩,e0.aH.fresh (bP _),λy c h=>?_,λp hp=>absurd (show p∈([]:List (Addr × Obj)) from hp) (by simp),e0.aH.kept hk,?_⟩
 ·exact name_of_addr x.apart (PySem.mem_of_lookup h1) (PySem.mem_of_lookup h2)
 ·have hy:scope.names.lookup y=some .cell\/scope.names.lookup y=some .free:=hy
  rcases hy with hy | hy
  ·exact Qu hy
  ·exact absurd rfl (S.cU0 _ (PySem.mem_of_lookup hy))
 ·exact uO (x.above y c (PySem.mem_of_lookup h))
 ·have hi:i<vs.length:=by
   unfold start at h2
   by_cases hi:i<vs.length
   ·exact hi
   ·rw[sA (by simpa using hi)]at h2
    rw[AQ]at h2
    split at h2<;>cases h2
  have ha:vs[i]?=some v:=by
   unfold start at h2
   rw[uU (by simpa using hi),bZ]at h2
   cases e:vs[i]? with
   | none=>rw[e]at h2;cases h2
   | some a=>rw[e]at h2;cases h2;rfl
  obtain⟨u,hu,rv⟩:=r.get ha
  have hp:ps[i]?=some y:=by
   rw[<-S.pre,YM (by omega)];exact h1
  have Qv:ps.Nodup:=by rw[<-S.pre];exact S.nd.sublist (List.take_sublist _ _)
  refine⟨u,rv,?_⟩
  rcases S.par y (uV hp)with k | k
  ·exact .inl ⟨k,Qs Qv hp hu k⟩
  ·obtain⟨c,e⟩:=Qu (n:=s.heap.objs.size+1) k
   refine .inr ⟨.inl k,c,e,?_⟩
   have q:=x.cell y c e
   rw[Qt Qv hp hu (by show scope.names.lookup y≠_;rw[k];decide)]at q
   exact q
 ·exact e0.aH.fresh (uO (x.above y c (PySem.mem_of_lookup h)))
 ·unfold start
  show _=N.length
  rw[fN,bG,sC]
  omega
theorem Fu{CX:e7}{P:Program}{w:World}{K:PySem.W.Frag}{mg:Str->Option Value}{base:Heap}{k:Nat}{f:Addr}{name qual:Str}{params:Arguments}{body:List Stmt}{scope:Scope}{dV kV doc pm aI ct oc:Value}{an od:Option Addr}
  {lZ:Array (Option Value)} {N ps:List Str} {sp:Sp} (lk:K.lookup f=some ⟨oc,od,.func (PySem.W.fnOf name qual params body scope dV kV doc pm an aI ct),lZ⟩) (de:PySem.W.codeIn K aI qual=true) (S:bu N ps scope)
  (len:∀vs H Q E,sp vs H Q E->vs.length=ps.length)
  (iH:∀(A:Around) (outer:List Env) (s:Shared) (H:Hp) (vs:List V) (Q:VK) (E:XK),cm k (A.deeper (envOfC qual scope s.heap.objs.size f aI))->sp vs H Q E ->
   ∃t,PSs (jh CX P w K mg base N qual scope f aI A outer s H E) body t/\t { nx:=λ_ H'=>Q .au H',rt:=Q } (start N vs) H) :
  aP P w K mg base CX (k+1) f (PySem.W.fnOf name qual params body scope dV kV doc pm an aI ct) ps sp:=by
 refine⟨len,λA outer s H args us vs Q E hr e0 hb r ji=>?_⟩
 have hl:=len _ _ _ _ ji
 have KX:K.In s.heap:=e0.mod.m4.keeps λb o e=>(e0.bs b o e).1
 have lim:s.heap.NoLimit:=e0.mod.nolimit.keeps λb o e=>(e0.bs b o e).1
 have jj:∀y∈ps.zip us,scope.names.lookup y.1=some .local\/(scope.names.lookup y.1=some .cell/\((cellsFrom (s.heap.objs.size+1) scope.names []).lookup y.1).isSome=true):=λ⟨n,v⟩ hy=>by
  rcases S.par n (AN hy).1 with q | q
  ·exact .inl q
  ·exact .inr ⟨q,PySem.W.cellsFrom_some _ _ _ (.inl q)⟩
 refine codeAny_call_function hr.depth (KX _ _ lk) rfl S.co S.gen rfl (PySem.W.codeRec_of KX de) (hb _ _ _ _ ?_)
 refine wpAny_newFunctionEnv_cells S.kind jj λenv he s1 x=>?_
 subst he
 refine⟨lim.keeps x.toInCall.keep,codeAny_func ?_⟩
 obtain⟨t,ht,hq⟩:=iH A outer s H vs Q E (hr.deeper _) ji
 have I:Inv (jh CX P w K mg base N qual scope f aI A outer s H E) [] (start N vs) H s1:=b02 S hr.hd e0 hl r x
 refine wpAny_mono (ht [] s1 (start N vs) H _ I hq) (λfl s' hs=>?_) λe s' hs=>hs
 have fin:∀{aF:St} {H':Hp} {v:V} {u:Value},Inv (jh CX P w K mg base N qual scope f aI A outer s H E) [] aF H' s'->RelV v u->Q v H'->CE outer P w H s Q u s' :=
  λ{aF H' v u} J rv q=>⟨v,H',J.os,J.bare,J.base,J.aH,rv,q⟩
 cases fl with
 | ret u =>
  obtain⟨v,aF,H',J,rv,q⟩:=hs
  exact fin J rv q
 | next =>
  obtain⟨aF,H',J,q⟩:=hs
  exact fin (v:=V.au) (u:=sr) J rfl q
 | brk =>
  obtain⟨_,_,_,q⟩:=hs
  exact fE q
 | cont =>
  obtain⟨_,_,_,q⟩:=hs
  exact fE q
end L2
namespace L2
open PySem PySem.Spec PyProof.Rows
section
variable{X:Cx}{x:Str}{p pos:Pos}{e:Expr}{es:List Expr}{t:TA}{id T:String}{r:List V->Hp->VK->Prop}
noncomputable def Fv(r:List V->Hp->VK->Prop)(t:TA):TE:=λσ H Q=>t σ H λvs H1=>r vs H1 Q
theorem Qw(hc:iF X (.builtin id) r)(hg:Gl X x)(hm:X.mg x=none)(hv:bootBuiltins x=some (.builtin id))(ha:PA X (e::es) t)(hn:x≠"__name__":=by decide)(e8:(x==("__debug__":Str))=false:=by decide)
  (he:starEach (e::es) X.env=(false,eval e X.env)::starEach es X.env:=by rfl) (bU:(backTo pos (starEach es X.env)).any (·.1)=false:=by rfl):PE X (.Call (.Name x p) (e::es) [] pos) (Fv r t):=by
 intro pins s σ H Q I h
 refine wpAny_Call_Name_kw (m6 I hg hm hv ?_ hn e8)
 exact PyProof.Rows.callWith_builtin1 (aO (ha pos pins s σ H _ I h) λus s1 ⟨vs,H1,I1,r1,q1⟩=>hc pins s1 σ H1 vs us Q I1 r1 q1) he bU
theorem bZ8(hc:iF X (.type T) r)(hg:Gl X x)(hm:X.mg x=none)(hv:bootBuiltins x=some (.type T))(ha:PA X (e::es) t)(hn:x≠"__name__":=by decide)(e8:(x==("__debug__":Str))=false:=by decide)
  (he:starEach (e::es) X.env=(false,eval e X.env)::starEach es X.env:=by rfl) (bU:(backTo pos (starEach es X.env)).any (·.1)=false:=by rfl):PE X (.Call (.Name x p) (e::es) [] pos) (Fv r t):=by
 intro pins s σ H Q I h
 refine wpAny_Call_Name_kw (m6 I hg hm hv ?_ hn e8)
 exact uS (aO (ha pos pins s σ H _ I h) λus s1 ⟨vs,H1,I1,r1,q1⟩=>hc pins s1 σ H1 vs us Q I1 r1 q1) he bU
end
end L2
namespace HT
open PySem PyProof.Rows
section
open PySem.SeqAt
open PySem.AutoSeq1 (wpAny_loadPart')
open PySem.MeetsSeq PySem.MeetsSeq2 PySem.MeetsSeq3
end
section
variable{prog:Program}{w:World}{A:Around}{E:Value->Shared->Prop}{s:Shared}
noncomputable def cU(n d:Nat):Option Int->Nat
 | none=>d
 | some v=>if v<0 then(v+(n:Int)).toNat else min v.toNat n
theorem Fw(n d k:Nat):cU n d (some (k:Int))=min k n:=by
 show(if(k:Int)<0 then((k:Int)+(n:Int)).toNat else min (k:Int).toNat n)=min k n
 rw[if_neg (by omega),dQ]
end
end HT
namespace L2
open PySem PySem.Spec PyProof.Rows
noncomputable abbrev TO:=St->Hp->(Option Int->Hp->Prop)->Prop
noncomputable def PO(X:Cx)(e:Option Expr)(t:TO):Prop :=
 ∀(pins:List (Addr × Obj)) (s:Shared) (σ:St) (H:Hp) (Q:Option Int->Hp->Prop),Inv X pins σ H s->t σ H Q ->
  wpAny (model X.prog X.w) X.A (evalPart e X.env) (λu s'=>∃o H',Inv X pins σ H' s'/\IsPart u o/\Q o H') X.xe s
noncomputable def cq6:TO:=λ_ H Q=>Q none H
noncomputable def cG9(t:TE):TO:=λσ H Q=>t σ H λx H1=>∃i,x=.int i/\Q (some i) H1
section
variable{X:Cx}{e:Expr}{te:TE}{lo hi:Option Expr}{tl th:TO}{pos p2:Pos}
theorem cx3:PO X none cq6:=by
 intro pins s σ H Q I h
 rw[evalPart_none]
 exact wpAny_pure ⟨none,H,I,.none,h⟩
theorem cv9(h:PE X e te):PO X (some e) (cG9 te):=by
 intro pins s σ H Q I hw
 rw[evalPart_some]
 refine aO (h pins s σ H _ I hw) λu s1 ⟨x,H1,I1,r1,q1⟩=>?_
 obtain⟨i,rfl,q⟩:=q1
 obtain⟨t,rfl⟩:=r1
 exact⟨some i,H1,I1,.int i t,q⟩
noncomputable def sZ(X:Cx)(r:V->Option Int->Option Int->Hp->VK->Prop):Prop :=
 ∀(pins:List (Addr × Obj)) (s:Shared) (σ:St) (H:Hp) (x:V) (v vl vu:Value) (lo hi:Option Int) (sl:Addr) (Q:VK),Inv X pins σ H s->RelV x v->s.heap.IsSliceOf sl vl vu .none->IsPart vl lo->IsPart vu hi->r x lo hi H Q ->
  ∃T id,typeLookup (.type T) "__getitem__"=pure (some (.builtin id))/\s.TypeIs v T/\wpAny (model X.prog X.w) X.A (getItem v (.ref sl)) (EP X pins σ Q) X.xe s
theorem sZ.or{r r':V->Option Int->Option Int->Hp->VK->Prop}(h:sZ X r)(h':sZ X r'):sZ X (λx lo hi H Q=>r x lo hi H Q\/r' x lo hi H Q):=by
 intro pins s σ H x v vl vu lo hi sl Q I rx hs pl pu q
 rcases q with q | q
 ·exact h pins s σ H x v vl vu lo hi sl Q I rx hs pl pu q
 ·exact h' pins s σ H x v vl vu lo hi sl Q I rx hs pl pu q
noncomputable def tSl(r:V->Option Int->Option Int->Hp->VK->Prop)(te:TE)(tl th:TO):TE:=λσ H Q=>te σ H λx H1=>tl σ H1 λl H2=>th σ H2 λu H3=>r x l u H3 Q
theorem Qx{r:V->Option Int->Option Int->Hp->VK->Prop}(hr:sZ X r)(he:PE X e te)(hl:PO X lo tl)(hu:PO X hi th):PE X (.Subscript e (.Slice lo hi none p2) pos) (tSl r te tl th):=by
 intro pins s σ H Q I h
 refine Subscript_ (aO (he pins s σ H _ I h) λv s1 ⟨x,H1,I1,r1,q1⟩=>?_)
 refine wpAny_Slice (aO (hl pins s1 σ H1 _ I1 q1) λvl s2 ⟨l,H2,I2,pl,q2⟩=>aO (hu pins s2 σ H2 _ I2 q2) λvu s3 ⟨u,H3,I3,pu,q3⟩=>?_)
 rw[evalPart_none]
 refine wpAny_pure ?_
 have I4:Inv X pins σ H3 { s3 with heap:=s3.heap.push { cls:=.type "slice",data:=.fields #[vl,vu,.none] } }:=I3.kept (t':=s3.toks) λb ob q=>fj _ q
 obtain⟨T,id,hT,ht,hg⟩:=hr pins { s3 with heap:=s3.heap.push { cls:=.type "slice",data:=.fields #[vl,vu,.none] } } σ H3 x v vl vu l u s3.heap.objs.size Q I4 r1 (Heap.IsSliceOf.new ..) pl pu q3
 show wpAny (model X.prog X.w) X.A (subscriptTail e (.Slice lo hi none p2) v (.ref s3.heap.objs.size)) (EP X pins σ Q) X.xe { s3 with heap:=s3.heap.push { cls:=.type "slice",data:=.fields #[vl,vu,.none] } }
 exact tail_any (ops:=[.ref s3.heap.objs.size,v]) ht hT hg (by with_unfolding_all rfl)
noncomputable def kI(xs:List V)(lo hi:Option Int):List V:=(xs.drop (HT.cU xs.length 0 lo)).take (HT.cU xs.length xs.length hi-HT.cU xs.length 0 lo)
theorem bJ3(xs:List V)(lo hi:Option Int):(kI xs lo hi).length<=xs.length:=by
 unfold kI
 rw[eZ,iD]
 omega
end
end L2
namespace L2
open PySem PySem.Spec PyProof.Rows
noncomputable def iJ(n:Nat)(i:Int):Option Nat:=if 0<=i then(if i<n then some i.toNat else none)else if -(n:Int)<=i then some (i+n).toNat else none
noncomputable def eo{α:Type}(xs:List α)(i:Int):Option α:=(iJ xs.length i).bind λj=>xs[j]?
theorem Qy{n:Nat}{i:Int}{j:Nat}(h:iJ n i=some j):seqIndex? i n=some j/\j<n/\-(n:Int)<=i/\i<n:=by
 unfold iJ at h
 by_cases h0:0<=i
 ·rw[if_pos h0]at h
  by_cases h1:i<n
  ·rw[if_pos h1]at h
   have e:i.toNat=j:=cW h
   exact⟨by rw[seqIndex_of h0 h1,e],by omega,by omega,h1⟩
  ·rw[if_neg h1]at h;cases h
 ·rw[if_neg h0]at h
  by_cases h1:-(n:Int)<=i
  ·rw[if_pos h1]at h
   have e:(i+n).toNat=j:=cW h
   exact⟨by rw[seqIndex_neg (by omega) h1,e],by omega,h1,by omega⟩
  ·rw[if_neg h1]at h;cases h
theorem pV{α:Type}{xs:List α}{i:Int}{v:α}(h:eo xs i=some v):∃j,seqIndex? i xs.length=some j/\xs[j]?=some v/\j<xs.length/\-(xs.length:Int)<=i/\i<xs.length:=by
 unfold eo at h
 cases e:iJ xs.length i with
 | none=>rw[e]at h;cases h
 | some j =>
  rw[e]at h
  obtain⟨h1,h2,h3,h4⟩:=Qy e
  exact⟨j,h1,h,h2,h3,h4⟩
theorem Bv{α:Type}{xs:List α}{j:Nat}{v:α}(h:xs[j]?=some v):eo xs (j:Int)=some v:=by
 have hj:j<xs.length:=(jW.mp h).1
 have e:iJ xs.length (j:Int)=some j:=by
  unfold iJ
  rw[if_pos (by omega),if_pos (by omega)];simp
 unfold eo;rw[e];exact h
noncomputable def Fx(b:Expr):Prop:=∀o i,subscripted b false o i=operate [o,i] (getItem o i)
noncomputable def nh(X:Cx)(r:R2):Prop :=
 ∀(value slice:Expr) (pins:List (Addr × Obj)) (s:Shared) (σ:St) (H:Hp) (x y:V) (v u:Value) (Q:VK),Inv X pins σ H s->RelV x v->RelV y u->r x y H Q ->
  subscripted slice false v u=operate [v,u] (getItem v u)->wpAny (model X.prog X.w) X.A (subscriptTail value slice v u) (EP X pins σ Q) X.xe s
noncomputable def pW(X:Cx)(id:String)(r:V->List V->Hp->VK->Prop):Prop :=
 ∀(pins:List (Addr × Obj)) (s:Shared) (σ:St) (H:Hp) (x:V) (xs:List V) (v:Value) (us:List Value) (Q:VK),Inv X pins σ H s->RelV x v->Vals xs us->r x xs H Q ->
  wpAny (model X.prog X.w) X.A (call (.builtin id) (v::us)) (EP X pins σ Q) X.xe s
section
variable{X:Cx}{a b:Expr}{ta tb:TE}{pos:Pos}
theorem nh.or{r r':R2}(h:nh X r)(h':nh X r'):nh X (λx y H Q=>r x y H Q\/r' x y H Q):=by
 intro value slice pins s σ H x y v u Q I rx ry q hs
 rcases q with q | q
 ·exact h value slice pins s σ H x y v u Q I rx ry q hs
 ·exact h' value slice pins s σ H x y v u Q I rx ry q hs
theorem pW.or{id:String}{r r':V->List V->Hp->VK->Prop}(h:pW X id r)(h':pW X id r'):pW X id (λx xs H Q=>r x xs H Q\/r' x xs H Q):=by
 intro pins s σ H x xs v us Q I rx rs q
 rcases q with q | q
 ·exact h pins s σ H x xs v us Q I rx rs q
 ·exact h' pins s σ H x xs v us Q I rx rs q
theorem Qz{r:R2}(hr:nh X r)(ha:PE X a ta)(hb:PE X b tb)(hs:Fx b):PE X (.Subscript a b pos) (yK r ta tb):=by
 intro pins s σ H Q I h
 exact Subscript_ (Fo ha hb I h λv u s2 x y H2 I2 rx ry q=>hr a b pins s2 σ H2 x y v u Q I2 rx ry q (hs _ _))
noncomputable def QB(K:PySem.W.Frag):R2:=λx y H Q=>∃p xs i v,x=.ref p/\y=.int i/\bJ K H p xs/\eo xs i=some v/\Q v H
noncomputable def QC(K:PySem.W.Frag):R2:=λx y H Q=>∃p xs i v,x=.ref p/\y=.int i/\fZ K H p xs/\eo xs i=some v/\Q v H
noncomputable def QD:R2:=λx y H Q=>∃z i c,x=.str z/\y=.int i/\z.length<=sizeLine/\eo z.cps.toList i=some c/\Q (.str ⟨#[c]⟩) H
theorem QE:nh X (QB X.K):=by
 intro value slice pins s σ H x y v u Q I rx ry h hs
 obtain⟨p,xs,i,z,rfl,rfl,hq,he,q⟩:=h
 cases rx
 obtain⟨t,rfl⟩:=ry
 obtain⟨its,r,pl,hz⟩:=I.list hq
 obtain⟨j,h1,h2,h3,h4,h5⟩:=pV he
 obtain⟨w,ew,bC⟩:=r.get h2
 have hl:=r.length
 have hn:=sV
 have fin:EP X pins σ Q w s:=⟨z,H,I,bC,q⟩
 by_cases h0:0<=i
 ·have hj:i.toNat=j:=by
   rw[seqIndex_of h0 h5]at h1
   exact cW h1
  exact item_listR pl.isList h0 (by omega) (by rw[hj];simpa using ew) fin hs
 ·have hj:(i+(its.toArray.size:Int)).toNat=j:=by
   rw[seqIndex_neg (by omega) h4]at h1
   rw[eC,<- hl]
   exact cW h1
  exact subscriptTail_builtinR (x:=w) pl.isList.typeIs slot_list_getitem.lookup
   (wpAny_getItem_list_neg (Q:=λr s'=>r=w/\EP X pins σ Q r s') pl.isList (by omega) (by rw[eC]<;>omega) (by omega) (by rw[hj];simpa using ew) ⟨rfl,fin⟩) hs
theorem cU9:nh X (QC X.K):=by
 intro value slice pins s σ H x y v u Q I rx ry h hs
 obtain⟨p,xs,i,z,rfl,rfl,hq,he,q⟩:=h
 cases rx
 obtain⟨t,rfl⟩:=ry
 obtain⟨its,r,pl,hz⟩:=I.tuple hq
 obtain⟨j,h1,h2,h3,h4,h5⟩:=pV he
 obtain⟨w,ew,bC⟩:=r.get h2
 have hl:=r.length
 have hn:=sV
 have fin:EP X pins σ Q w s:=⟨z,H,I,bC,q⟩
 exact subscriptTail_builtinR (x:=w) pl.typeIs slot_tuple_getitem.lookup
  (getItem_tuple (j:=j) (Q:=λr s'=>r=w/\EP X pins σ Q r s') pl (by omega) (by omega) (by rw[eC,<- hl];exact h1) (by simpa using ew) ⟨rfl,fin⟩) hs
theorem cy4:nh X QD:=by
 intro value slice pins s σ H x y v u Q I rx ry h hs
 obtain⟨z,i,c,rfl,rfl,hz,he,q⟩:=h
 obtain⟨t,rfl⟩:=rx
 obtain⟨t',rfl⟩:=ry
 obtain⟨j,h1,h2,h3,h4,h5⟩:=pV he
 have hl:z.cps.toList.length=z.length:=by simp[Str.length]
 rw[hl]at h1 h4 h5
 have hn:=sV
 exact tail_any (typeIs_str s z t) slot_str_getitem.lookup (getItem_str (c:=c) (by
  have e1:decide (i < -(2 ^ 63:Int))=false:=decide_eq_false (by omega)
  have e2:decide (i ≥ 2 ^ 63)=false:=decide_eq_false (by omega)
  rw[e1,e2,sD]) (by rw[h1];simpa using h2) ⟨.str ⟨#[c]⟩,H,I.tok _,⟨_,rfl⟩,q⟩) hs
noncomputable def rIx(K:PySem.W.Frag):R2:=λx y H Q=>QB K x y H Q\/QC K x y H Q\/QD x y H Q
theorem cD3:nh X (rIx X.K):=QE.or (cU9.or cy4)
theorem bO9(its:List Value)(n j:Nat)(u:Value):AR (·.setIfInBounds j u) { cls:=.type "list",data:=.seq its.toArray n }={ cls:=.type "list",data:=.seq (its.set j u).toArray n }:=by
 simp[AR]
theorem Inv.lst{pins:List (Addr × Obj)}{σ:St}{H:Hp}{s:Shared}{p:Addr}{xs:List V}(I:Inv X pins σ H s)(h:H p=some (.lst xs)) :
  ∃(its:List Value) (n:Nat),Vals xs its/\s.heap.get? p=some { cls:=.type "list",data:=.seq its.toArray n }/\xs.length<=sizeLine:=by
 obtain⟨z,its,n,r,e⟩:=I.aH p _ h
 exact⟨its,n,r,e,z⟩
theorem Inv.cV4{pins:List (Addr × Obj)}{σ:St}{H:Hp}{s:Shared}{p:Addr}{xs ys:List V}{its its':List Value}{n n':Nat}{f:Obj->Obj}(I:Inv X pins σ H s)(h:H p=some (.lst xs))
  (ho:s.heap.get? p=some { cls:=.type "list",data:=.seq its.toArray n }) (hf:f { cls:=.type "list",data:=.seq its.toArray n }={ cls:=.type "list",data:=.seq its'.toArray n' }) (r:Vals ys its') (hz:ys.length<=sizeLine) (t:Nat) :
  Inv X pins σ (upd H p (.lst ys)) { s with heap:=s.heap.update p f,toks:=t }:=by
 have e:(s.heap.update p f).get? p=some { cls:=.type "list",data:=.seq its'.toArray n' }:=by
  rw[El f ho (by rw[hf]<;>rfl),hf]
 refine I.write (x:=p) (e:=p) (by rw[h];trivial) (.inl rfl) (λb u hb q=>(sE _ _ (eK hb)).trans q) ⟨_,e⟩ ?_
 exact⟨hz,its',n',r,e⟩
noncomputable def cK6:V->V->V->Hp->(Hp->Prop)->Prop:=λo i v H Q=>∃p xs k j,o=.ref p/\i=.int k/\H p=some (.lst xs)/\iJ xs.length k=some j/\Q (upd H p (.lst (xs.set j v)))
theorem ca2:P9 X cK6:=by
 intro pins s σ H o i v ov iv u Q I ro ri rv h
 obtain⟨p,xs,k,j,rfl,rfl,hp,hj,q⟩:=h
 cases ro
 obtain⟨t,rfl⟩:=ri
 obtain⟨its,n,r,ho,hz⟩:=I.lst hp
 obtain⟨h1,h2,h3,h4⟩:=Qy hj
 have hl:=r.length
 have hn:=sV
 have I':Inv X pins σ (upd H p (.lst (xs.set j v))) { s with heap:=s.heap.update p (AR (·.setIfInBounds j u)) } :=
  I.cV4 hp ho (bO9 its n j u) (r.set rv j) (by rw[i7];exact hz) s.toks
 by_cases h0:0<=k
 ·have hk:k.toNat=j:=by
   rw[seqIndex_of h0 h4]at h1
   exact cW h1
  exact PySem.W.ki_setAt ho h0 (by omega) (by rw[eC,<- hl];exact h4) (by rw[hk];exact⟨_,I',q⟩)
 ·have hk:(k+(its.toArray.size:Int)).toNat=j:=by
   rw[seqIndex_neg (by omega) h3]at h1
   rw[eC,<- hl]
   exact cW h1
  exact PySem.W.ki_setBack ho (by omega) (by rw[eC,<- hl];exact h3) (by omega) (by rw[hk];exact⟨_,I',q⟩)
theorem Fy(lo hi:Option Int)(n:Nat):(sliceBounds lo hi none n).1=((HT.cU n 0 lo:Nat):Int)/\(sliceBounds lo hi none n).2.1=((HT.cU n n hi:Nat):Int)/\(sliceBounds lo hi none n).2.2=1:=by
 refine⟨?_,?_,rfl⟩
 ·cases lo with
  | none=>simp[sliceBounds,HT.cU]
  | some i =>
   simp only[sliceBounds,HT.cU,ph,show(1:Int)>0 by decide,if_true]
   by_cases h:i<0
   ·simp only[h,if_true]<;>omega
   ·simp only[h,if_false]<;>omega
 ·cases hi with
  | none=>simp[sliceBounds,HT.cU]
  | some i =>
   simp only[sliceBounds,HT.cU,ph,show(1:Int)>0 by decide,if_true]
   by_cases h:i<0
   ·simp only[h,if_true]<;>omega
   ·simp only[h,if_false]<;>omega
theorem bA4(its:List Value)(lo hi:Option Int):slicePick its.toArray lo hi none=((its.drop (HT.cU its.length 0 lo)).take (HT.cU its.length its.length hi-HT.cU its.length 0 lo)).toArray:=by
 obtain⟨h1,h2,h3⟩:=Fy lo hi its.toArray.size
 unfold slicePick
 rw[h1,h2,h3]
 simp only[sliceRange_one,pick_run,eC]<;>rfl
noncomputable def cO6(K:PySem.W.Frag):V->Option Int->Option Int->Hp->VK->Prop:=λx lo hi H Q=>∃a xs,x=.ref a/\bJ K H a xs/\∀p,H p=none->Q (.ref p) (upd H p (.lst (kI xs lo hi)))
theorem QF:sZ X (cO6 X.K):=by
 intro pins s σ H x v vl vu lo hi sl Q I rx hs pl pu h
 obtain⟨a,xs,rfl,hx,q⟩:=h
 cases rx
 obtain⟨its,r,ht,hz⟩:=I.list hx
 have hlen:=r.length
 refine⟨"list",_,slot_list_getitem.lookup,ht.isList.typeIs,?_⟩
 refine wpAny_getItem_list_slice ht.isList hs pl pu .none (by simp) ?_ (by rw[eC]<;>omega)
 rw[bA4,<- hlen]
 refine⟨.ref s.heap.objs.size,_,I.laid (t':=s.toks) (o:=.lst (kI xs lo hi)) (λb ob q=>fj _ q) (bP _) ?_,rfl,q _ (I.aH.fresh (bP _))⟩
 exact⟨fi (bJ3 xs lo hi) hz,_,0,(r.drop (HT.cU xs.length 0 lo)).take (HT.cU xs.length xs.length hi-HT.cU xs.length 0 lo),hW _ rfl⟩
noncomputable def me:V->Bool
 | .au=>true
 | .bl _=>true
 | .int _=>true
 | .str _=>true
 | _=>false
noncomputable def j9:V->V->Bool
 | .au,.au=>true
 | .bl a,.bl b=>a==b
 | .bl a,.int b=>(if a then 1 else 0)==b
 | .int a,.bl b=>a==(if b then 1 else 0)
 | .int a,.int b=>a==b
 | .str a,.str b=>a==b
 | _,_=>false
theorem cE2{A:Around}{s:Shared}{y x:V}{u v:Value}(ry:RelV y u)(rx:RelV x v)(fy:me y=true)(fx:me x=true):Em A s u v (j9 y x):=by
 cases y with
 | au =>
  cases ry
  cases x with
  | au=>cases rx;exact SeqAt.EqAt.same _
  | bl b=>cases rx;exact SeqAt.EqAt.none_bool b
  | int b=>obtain⟨t,rfl⟩:=rx;exact SeqAt.EqAt.none_int b t
  | str b=>obtain⟨t,rfl⟩:=rx;exact SeqAt.EqAt.none_str b t
  | _=>exact absurd (show false=true from fx) lJ
 | bl a =>
  cases ry
  cases x with
  | au=>cases rx;exact SeqAt.EqAt.bool_none a
  | bl b=>cases rx;exact SeqAt.EqAt.bool_bool a b
  | int b=>obtain⟨t,rfl⟩:=rx;exact SeqAt.EqAt.bool_int a b t
  | str b=>obtain⟨t,rfl⟩:=rx;exact SeqAt.EqAt.bool_str a b t
  | _=>exact absurd (show false=true from fx) lJ
 | int a =>
  obtain⟨t',rfl⟩:=ry
  cases x with
  | au=>cases rx;exact SeqAt.EqAt.int_none a t'
  | bl b=>cases rx;exact SeqAt.EqAt.int_bool a t' b
  | int b=>obtain⟨t,rfl⟩:=rx;exact SeqAt.EqAt.int_int a t' b t
  | str b=>obtain⟨t,rfl⟩:=rx;exact SeqAt.EqAt.int_str a t' b t
  | _=>exact absurd (show false=true from fx) lJ
 | str a =>
  obtain⟨t',rfl⟩:=ry
  cases x with
  | au=>cases rx;exact SeqAt.EqAt.str_none a t'
  | bl b=>cases rx;exact SeqAt.EqAt.str_bool a t' b
  | int b=>obtain⟨t,rfl⟩:=rx;exact SeqAt.EqAt.str_int a t' b t
  | str b=>obtain⟨t,rfl⟩:=rx;exact SeqAt.EqAt.str_str a t' b t
  | _=>exact absurd (show false=true from fx) lJ
 | _=>exact absurd (show false=true from fy) lJ
noncomputable def iK(x:V)(u:Value):Bool:=match u with
 | .none=>j9 .au x
 | .bool b=>j9 (.bl b) x
 | .int i _=>j9 (.int i) x
 | .str z _=>j9 (.str z) x
 | _=>false
theorem QG{x y:V}{u:Value}(r:RelV y u)(f:me y=true):iK x u=j9 y x:=by
 cases y with
 | au=>cases r;rfl
 | bl b=>cases r;rfl
 | int i=>obtain⟨t,rfl⟩:=r;rfl
 | str z=>obtain⟨t,rfl⟩:=r;rfl
 | _=>exact absurd (show false=true from f) lJ
theorem yQ{x:V}:∀{xs:List V} {us:List Value},Vals xs us->xs.all me=true->us.any (iK x)=xs.any λy=>j9 y x
 | _,_,.nil,_=>rfl
 | y::xs,u::us,.cons r t,f=>by
  rw[dM,eD]at f
  rw[List.any_cons,List.any_cons,QG r f.1,yQ t f.2]
theorem yR{A:Around}{s:Shared}{x:V}{v:Value}(rx:RelV x v)(fx:me x=true):∀{xs:List V} {us:List Value},Vals xs us->xs.all me=true->∀u∈us,Em A s u v (iK x u)
 | _,_,.nil,_=>λu hu=>by cases hu
 | y::xs,u::us,.cons r t,f=>λu' hu=>by
  rw[dM,eD]at f
  rcases cA.mp hu with rfl | hu
  ·rw[QG r f.1];exact cE2 r rx f.1 fx
  ·exact yR rx fx t f.2 u' hu
noncomputable def s8(x:V)(xs:List V):Bool:=xs.any λy=>j9 y x
noncomputable def QH(K:PySem.W.Frag)(neg:Bool):R2:=λx y H Q=>∃p xs,y=.ref p/\(bJ K H p xs\/fZ K H p xs)/\me x=true/\xs.all me=true/\Q (.bl (if neg then !s8 x xs else s8 x xs)) H
theorem bS7:cM X (compareOp .In) (QH X.K false):=by
 intro pins s σ H x y v u Q I rx ry h
 obtain⟨p,xs,rfl,hq,fx,fs,q⟩:=h
 cases ry
 rcases hq with hq | hq
 ·obtain⟨its,r,pl,hz⟩:=I.list hq
  refine SeqAt.in_listAt (iK x) pl.isList (λw hw=>yR rx fx r fs w (by simpa using hw)) ⟨.bl _,H,I,rfl,?_⟩
  rw[show its.toArray.any (iK x)=its.any (iK x) by simp,yQ r fs]
  exact q
 ·obtain⟨its,r,pl,hz⟩:=I.tuple hq
  refine SeqAt.in_tupleAt (iK x) pl (λw hw=>yR rx fx r fs w (by simpa using hw)) ⟨.bl _,H,I,rfl,?_⟩
  rw[show its.toArray.any (iK x)=its.any (iK x) by simp,yQ r fs]
  exact q
theorem bF0:cM X (compareOp .NotIn) (QH X.K true):=by
 intro pins s σ H x y v u Q I rx ry h
 obtain⟨p,xs,rfl,hq,fx,fs,q⟩:=h
 cases ry
 rcases hq with hq | hq
 ·obtain⟨its,r,pl,hz⟩:=I.list hq
  refine SeqAt.notIn_listAt (iK x) pl.isList (λw hw=>yR rx fx r fs w (by simpa using hw)) ⟨.bl _,H,I,rfl,?_⟩
  rw[show its.toArray.any (iK x)=its.any (iK x) by simp,yQ r fs]
  exact q
 ·obtain⟨its,r,pl,hz⟩:=I.tuple hq
  refine SeqAt.notIn_tupleAt (iK x) pl (λw hw=>yR rx fx r fs w (by simpa using hw)) ⟨.bl _,H,I,rfl,?_⟩
  rw[show its.toArray.any (iK x)=its.any (iK x) by simp,yQ r fs]
  exact q
theorem cW2:iF X (.builtin "len") (λxs H Q=>∃p ys,xs=[.ref p]/\(bJ X.K H p ys\/fZ X.K H p ys)/\Q (.int ys.length) H):=by
 intro pins s σ H xs us Q I r h
 obtain⟨p,ys,rfl,hq,q⟩:=h
 obtain⟨u,rfl,rx⟩:=yN r
 cases rx
 have hn:=sV
 rcases hq with hq | hq
 ·obtain⟨its,r',pl,hz⟩:=I.list hq
  have hlen:=r'.length
  exact Calls.call_len_list pl.isList (by simp only[eC]<;>omega) ⟨.int ys.length,H,I.tok _,⟨s.toks+1,by rw[eC,hlen]⟩,q⟩
 ·obtain⟨its,r',pl,hz⟩:=I.tuple hq
  have hlen:=r'.length
  exact len_tuple pl (by simp only[eC]<;>omega) ⟨.int ys.length,H,I.tok _,⟨s.toks+1,by rw[eC,hlen]⟩,q⟩
theorem bF9:iF X (.builtin "len") (λxs H Q=>∃z,xs=[.str z]/\z.length<=sizeLine/\Q (.int z.length) H):=by
 intro pins s σ H xs us Q I r h
 obtain⟨z,rfl,hz,q⟩:=h
 obtain⟨u,rfl,t,rfl⟩:=yN r
 have hn:=sV
 exact len_str (by omega) ⟨.int z.length,H,I.tok _,⟨_,rfl⟩,q⟩
theorem iF.or{f:Value}{r r':List V->Hp->VK->Prop}(h:iF X f r)(h':iF X f r'):iF X f (λxs H Q=>r xs H Q\/r' xs H Q):=by
 intro pins s σ H xs us Q I rs q
 rcases q with q | q
 ·exact h pins s σ H xs us Q I rs q
 ·exact h' pins s σ H xs us Q I rs q
theorem bG8:iF X (.type "list") (λxs H Q=>∃p ys,xs=[.ref p]/\(bJ X.K H p ys\/fZ X.K H p ys)/\∀l,H l=none->Q (.ref l) (upd H l (.lst ys))):=by
 intro pins s σ H xs us Q I r h
 obtain⟨p,ys,rfl,hq,q⟩:=h
 obtain⟨u,rfl,rx⟩:=yN r
 cases rx
 have fin:∀(its:List Value),Vals ys its->ys.length<=sizeLine->∀(h':Heap) (c':Nat),(∀b o',s.heap.get? b=some o'->h'.get? b=some o') ->
   h'.get? s.heap.objs.size=some { cls:=.type "list",dict:=none,data:=.seq its.toArray c',slots:=#[] }->EP X pins σ Q (.ref s.heap.objs.size) { s with heap:=h' }:=λits r' hz h' c' kp e =>
  ⟨.ref s.heap.objs.size,_,I.laid (t':=s.toks) kp (bP _) (show dR X.prog X.w _ h' _ (.lst ys) from⟨hz,its,c',r',e⟩),rfl,q _ (I.aH.fresh (bP _))⟩
 rcases hq with hq | hq
 ·obtain⟨its,r',pl,hz⟩:=I.list hq
  have hlen:=r'.length
  obtain⟨o,ho,hc,n,hd⟩:=pl.isList
  exact call_list_seq p (.inl rfl) ho hc hd (λh' c' kp e=>fin its r' hz h' c' kp e) (by simp only[eC]<;>omega)
 ·obtain⟨its,r',pl,hz⟩:=I.tuple hq
  have hlen:=r'.length
  obtain⟨o,ho,hc,n,hd⟩:=pl
  exact call_list_seq p (.inr rfl) ho hc hd (λh' c' kp e=>fin its r' hz h' c' kp e) (by simp only[eC]<;>omega)
noncomputable def Fz(K:PySem.W.Frag)(T:String)(x:V)(H:Hp):Prop:=match x with
 | .str _=>T="str"
 | .int _=>T="int"
 | .ref p=>(T="list"/\∃xs,bJ K H p xs)\/(T="tuple"/\∃o,K.lookup p=some o/\o.cls=.type "tuple"/\o.dict=none) \/
   (T="dict"/\((∃dD,H p=some (.dK dD))\/∃dD,H p=some (.dT dD)))\/(T="set"/\∃S n,H p=some (.set S n))
 | _=>False
theorem QI{pins:List (Addr × Obj)}{σ:St}{H:Hp}{s:Shared}{T:String}{x:V}{v:Value}(I:Inv X pins σ H s)(r:RelV x v)(ty:Fz X.K T x H) :
  s.TypeIs v T/\∀a,v=.ref a->∃ob,s.heap.get? a=some ob/\ob.dict=none:=by
 cases x with
 | str z =>
  obtain⟨t,rfl⟩:=r
  cases(show T="str" from ty)
  exact⟨typeIs_str s z t,λ_ e=>nomatch e⟩
 | int i =>
  obtain⟨t,rfl⟩:=r
  cases(show T="int" from ty)
  exact⟨typeIs_int s i t,λ_ e=>nomatch e⟩
 | ref p =>
  cases r
  rcases ty with⟨rfl,xs,hq⟩ | ⟨rfl,o,hk,hc,hd⟩ | ⟨rfl,hk⟩ | ⟨rfl,S,n,hk⟩
  ·obtain⟨its,_,pl,_⟩:=I.list hq
   refine⟨pl.isList.typeIs,λa e=>?_⟩
   cases e
   obtain⟨o,n,e,c,hd,_⟩:=pl
   exact⟨o,e,hd⟩
  ·refine⟨⟨o,I.dj p o hk,hc⟩,λa e=>?_⟩
   cases e
   exact⟨o,I.dj _ o hk,hd⟩
  ·have z:∃o,s.heap.get? p=some o/\o.ExactDict:=by
    rcases hk with⟨dD,hk⟩ | ⟨dD,hk⟩
    ·obtain⟨_,_,_,_,o,_,_,e,ex,_⟩:=I.aH p _ hk
     exact⟨o,e,ex⟩
    ·obtain⟨_,_,_,_,o,_,_,e,ex,_⟩:=I.aH p _ hk
     exact⟨o,e,ex⟩
   obtain⟨o,e,ex⟩:=z
   refine⟨⟨o,e,ex.1⟩,λa e2=>?_⟩
   cases e2
   exact⟨o,e,ex.2.1⟩
  ·obtain⟨o,_,_,_,e,ex,_⟩:=I.aH p _ hk
   refine⟨⟨o,e,ex.1⟩,λa e2=>?_⟩
   cases e2
   exact⟨o,e,ex.2.1⟩
 | _=>exact fE ty
noncomputable def QJ(K:PySem.W.Frag)(T:String)(r:V->List V->Hp->VK->Prop)(to:TE):TE:=λσ H Q=>to σ H λx H1=>Fz K T x H1/\r x [] H1 Q
noncomputable def tBM(K:PySem.W.Frag)(T:String)(r:V->List V->Hp->VK->Prop)(to:TE)(t:TA):TE:=λσ H Q=>to σ H λx H1=>Fz K T x H1/\t σ H1 λxs H2=>r x xs H2 Q
variable{o e:Expr}{es:List Expr}{to:TE}{t:TA}{name:Str}{apos cN:Pos}{T id:String}{r:V->List V->Hp->VK->Prop}
theorem cA8(pa:PlainAttrs T)(slot:Slot T name id)(FA:typeOf (.builtin id)=pure (.type "method_descriptor"))(hm:pW X id r)(ho:PE X o to)
  (nj:attributeBase o name X.env (eval o X.env)=eval o X.env:=by rfl) (nk:(apos.endLine==cN.line)=true:=by rfl):PE X (.Call (.Attribute o name apos) [] [] cN) (QJ X.K T r to):=by
 intro pins s σ H Q I h
 refine wpAny_Call_method0_late nj nk (aO (ho pins s σ H _ I h) λv s1 ⟨x,H1,I1,r1,ty,q1⟩=>?_)
 obtain⟨h1,h2⟩:=QI I1 r1 ty
 exact⟨T,id,pa,slot,FA,h1,h2,Calls.callWith_builtin rfl (PySem.evalArgs_none (hm pins s1 σ H1 x [] v [] Q I1 r1 .nil q1))⟩
theorem cI8(pa:PlainAttrs T)(slot:Slot T name id)(FA:typeOf (.builtin id)=pure (.type "method_descriptor"))(hm:pW X id r)(ho:PE X o to)(ha:PA X (e::es) t)
  (nj:attributeBase o name X.env (eval o X.env)=eval o X.env:=by rfl)
  (FC:((backTo cN (starEach (e::es) X.env)).all (λx=>!x.1)&&(backToKw cN (keywordEach [] X.env)).all (λx=>x.1.isSome)
   && decide ((e::es).length+([]:List Keyword).length+(if([]:List Keyword).isEmpty then 0 else 1)<30))=true:=by rfl)
  (nk:(apos.endLine==cN.line)=true:=by rfl) (hs:starEach (e::es) X.env=(false,eval e X.env)::starEach es X.env:=by rfl) (FD:(backTo cN (starEach es X.env)).any (·.1)=false:=by rfl) :
  PE X (.Call (.Attribute o name apos) (e::es) [] cN) (tBM X.K T r to t):=by
 intro pins s σ H Q I h
 refine wpAny_Call_method_late nj FC nk rfl (aO (ho pins s σ H _ I h) λv s1 ⟨x,H1,I1,r1,ty,q1⟩=>?_)
 obtain⟨h1,h2⟩:=QI I1 r1 ty
 refine⟨T,id,pa,slot,FA,h1,h2,?_⟩
 have hA:=ha cN pins s1 σ H1 _ I1 q1
 rw[hs]at hA ⊢
 refine Calls.callWith_builtin (by show(false||(backTo cN (starEach es X.env)).any (·.1))=false;rw[FD]<;>rfl) (Calls.evalArgs_plain ?_)
 exact aO hA λus s2 ⟨vs,H2,I2,r2,q2⟩=>hm pins s2 σ H2 x vs v us Q I2 r1 r2 q2
/- xs.append(e),list.index on a eP0 tuple .. are pW facts of 06m -/
end
end L2
namespace L2
open PySem PySem.Spec PyProof.Rows
noncomputable def MtM(X:Cx)(id:String)(r:V->List V->Hp->VK->Prop):Prop :=
 ∀(pins:List (Addr × Obj)) (s:Shared) (σ:St) (H:Hp) (x:V) (xs:List V) (v:Value) (us:List Value) (Q:VK),Inv X pins σ H s->RelV x v->Vals xs us->r x xs H Q ->
  wpAny (model X.prog X.w) X.A (call (.builtin id) (v::us)) (EP X pins σ Q) X.xe s
theorem Vals.one:∀{x:V} {us:List Value},Vals [x] us->∃u,us=[u]/\RelV x u
 | _,_,.cons r .nil=>⟨_,rfl,r⟩
theorem Vals.two:∀{x y:V} {us:List Value},Vals [x,y] us->∃u v,us=[u,v]/\RelV x u/\RelV y v
 | _,_,_,.cons r (.cons q .nil)=>⟨_,_,rfl,r,q⟩
theorem Vals.zero:∀{us:List Value},Vals [] us->us=[]
 | _,.nil=>rfl
theorem Vals.eraseIdx:∀{xs:List V} {us:List Value} (i:Nat),Vals xs us->Vals (xs.eraseIdx i) (us.eraseIdx i)
 | _,_,_,.nil=>.nil
 | _,_,0,.cons _ t=>t
 | _,_,i+1,.cons r t=>.cons r (Vals.eraseIdx i t)
theorem Vals.reverse{xs:List V}{us:List Value}(h:Vals xs us):Vals xs.reverse us.reverse:=by
 induction h with
 | nil=>exact .nil
 | cons r t ih=>rw[List.reverse_cons,List.reverse_cons];exact Vals.append ih (.cons r .nil)
theorem Vals.rep{xs:List V}{us:List Value}(h:Vals xs us):∀k:Nat,Vals (br k xs).flatten (br k us).flatten
 | 0=>.nil
 | k+1=>by
  rw[sF,sF,uW,uW]
  exact Vals.append h (Vals.rep h k)
theorem QK(its:List Value):∀(k:Nat) (acc:List Value),
  List.foldl (λx1 x2=>x1++x2) acc.toArray (br k its.toArray)=(acc++(br k its).flatten).toArray
 | 0,acc=>by simp
 | k+1,acc=>by
  have e:acc.toArray++its.toArray=(acc++its).toArray:=by simp
  have e2:(acc++its)++(br k its).flatten=acc++(br (k+1) its).flatten:=by
   rw[sF,uW,dZ]
  rw[<-e2,<- QK its k (acc++its),<- e,sF,yi]
section
variable{X:Cx}{pins:List (Addr × Obj)}{σ:St}{H:Hp}{s:Shared}{l b:Addr}{xs ys zs:List V}
theorem Inv.cW9{its its':List Value}{n:Nat}{f:Array Value->Array Value}{t':Nat}(I:Inv X pins σ H s)(hH:H l=some (.lst xs))
  (e:s.heap.get? l=some { cls:=.type "list",data:=.seq its.toArray n }) (hf:f its.toArray=its'.toArray) (hv:Vals ys its') (hz:ys.length<=sizeLine) :
  Inv X pins σ (upd H l (.lst ys)) { s with heap:=s.heap.update l (AR f),toks:=t' }:=by
 have q:=PySem.IsL.update e f
 rw[hf]at q
 refine I.write (x:=l) (e:=l) (by rw[hH];exact trivial) (.inl rfl) (λb' u hb hu=>(sE s.heap (AR f) (eK hb)).trans hu) ⟨_,q⟩ ?_
 exact⟨hz,its',_,hv,q⟩
theorem Inv.QL{its:List Value}{t':Nat}(I:Inv X pins σ H s)(hv:Vals ys its)(hz:ys.length<=sizeLine) :
  Inv X pins σ (upd H s.heap.objs.size (.lst ys)) { s with heap:=s.heap.push { cls:=.type "list",data:=.seq its.toArray },toks:=t' } :=
 I.laid (λ_ _ q=>fj _ q) (bP _) ⟨hz,its,0,hv,hW _ rfl⟩
theorem Inv.fresh(I:Inv X pins σ H s):H s.heap.objs.size=none:=I.aH.fresh (bP _)
theorem Inv.Bw(I:Inv X pins σ H s)(hH:H l=some (.lst xs)):xs.length<=sizeLine/\∃(its:List Value) (n:Nat),Vals xs its/\xs.length=its.length/\s.heap.get? l=some { cls:=.type "list",data:=.seq its.toArray n }:=by
 obtain⟨z,its,n,r,e⟩:=I.aH l _ hH
 exact⟨z,its,n,r,r.length,e⟩
theorem cg0{n:Nat}(h:n<=sizeLine):Pl n=false:=by
 unfold Pl
 exact decide_eq_false (by omega)
end
section
variable{X:Cx}
noncomputable def cw1:V->List V->Hp->VK->Prop:=λx vs H Q=>∃l xs y,x=.ref l/\vs=[y]/\H l=some (.lst xs)/\xs.length<sizeLine/\Q .au (upd H l (.lst (xs++[y])))
theorem QM:MtM X "list.append" cw1:=by
 intro pins s σ H x vs v us Q I rx rv h
 obtain⟨l,xs,y,rfl,rfl,hH,hz,q⟩:=h
 cases rx
 obtain⟨u,rfl,ru⟩:=rv.one
 obtain⟨z,its,n,r,hl,e⟩:=I.Bw hH
 refine call_meets F.slot_list_append ⟨_,e,rfl⟩ F.entry_list_append (F.args_list_append_2 _ _) (PySem.list_append l its.toArray n u (by rw[eC];omega)) ⟨e,?_⟩
 refine⟨.au,_,I.cW9 (its':=its++[u]) hH e (by simp) (r.append (.cons ru .nil)) ?_,rfl,q⟩
 rw[fN,YN]
 omega
noncomputable def cP4:R2:=λx y H Q=>∃l b xs zs,x=.ref l/\y=.ref b/\H l=some (.lst xs)/\H b=some (.lst zs)/\xs.length+zs.length<=sizeLine/\∀p,H p=none->Q (.ref p) (upd H p (.lst (xs++zs)))
theorem QN:cM X (binaryOp .Add) cP4:=by
 intro pins s σ H x y v u Q I rx ry h
 obtain⟨l,b,xs,zs,rfl,rfl,hH,hB,hz,q⟩:=h
 cases rx
 cases ry
 obtain⟨z,its,n,r,hl,e⟩:=I.Bw hH
 obtain⟨z2,QO,n2,r2,yS,e2⟩:=I.Bw hB
 refine PySem.P.add_list e e2 ?_ (by rw[eC,eC];omega)
 have ea:its.toArray++QO.toArray=(its++QO).toArray:=by simp
 rw[ea]
 exact⟨.ref _,_,I.QL (t':=s.toks) (r.append r2) (by rw[fN];omega),rfl,q _ I.fresh⟩
noncomputable def cO9:R2:=λx y H Q=>∃l k xs,x=.ref l/\y=.int k/\H l=some (.lst xs)/\-(2 ^ 63)<=k/\k<2 ^ 63/\xs.length*k.toNat<=sizeLine /\
 ∀p,H p=none->Q (.ref p) (upd H p (.lst (br k.toNat xs).flatten))
theorem cs4{α:Type}(xs:List α)(k:Nat):(br k xs).flatten.length=k*xs.length:=by
 induction k with
 | zero=>simp
 | succ k ih=>rw[sF,uW,fN,ih,Nat.succ_mul,Eo]
theorem cF2:cM X (binaryOp .Mult) cO9:=by
 intro pins s σ H x y v u Q I rx ry h
 obtain⟨l,k,xs,rfl,rfl,hH,h1,h2,hz,q⟩:=h
 cases rx
 obtain⟨t,rfl⟩:=ry
 obtain⟨z,its,n,r,hl,e⟩:=I.Bw hH
 have hlen:its.toArray.size*k.toNat<=sizeLine:=by rw[eC,<- hl];exact hz
 have cX6:¬ its.toArray.size*k.toNat>(2 ^ 63-1)/8:=by
  have:(sizeLine:Nat)<=(2 ^ 63-1)/8:=by decide
  omega
 have cX7:¬ (!Builtin.List.listFitsIndex k)=true:=by
  rw[fitsIndex_both h1 h2]
  exact lJ
 have cX8:¬ Pl (its.toArray.size*k.toNat)=true:=by
  rw[cg0 hlen]
  exact lJ
 have cX9:List.foldl (λx1 x2=>x1++x2) #[] (br (if its.toArray.isEmpty=true then 0 else k.toNat) its.toArray)=(br k.toNat its).flatten.toArray:=by
  have f0:∀m:Nat,List.foldl (λx1 x2=>x1++x2) #[] (br m its.toArray)=(br m its).flatten.toArray:=λm=>by
   have:=QK its m []
   rw[pj]at this
   exact this
  rw[f0]
  cases its with
  | nil=>simp
  | cons a r'=>rw[if_neg (by simp)]
 refine wpAny_binaryOp_repeat_ref (T:="list") (U:="int") (by decide) ⟨_,e,rfl⟩ (λs'=>typeIs_int s' k t) noFill_list_mul F.fills_int_mul F.slot_int_rmul repeat_list F.slot_int_index.lookup
  (call_meets F.slot_int_rmul (typeIs_int s k t) F.entry_int_rmul (F.args_int_rmul_2 _ _) (int___rmul___int_list k t l its.toArray n)
   ⟨e,rfl,⟨_,e,rfl⟩,call_meets F.slot_list_mul ⟨_,e,rfl⟩ F.entry_list_mul (F.args_list_mul_2 _ _) (AutoListH.list___mul___list_int_3 l its.toArray n k t cX7 cX6 cX8) ⟨e,?_⟩⟩)
 rw[cX9]
 exact⟨.ref _,_,I.QL (t':=s.toks) (r.rep k.toNat) (by rw[cs4,mT];exact hz),rfl,q _ I.fresh⟩
end
section
variable{prog:Program}{w:World}{A:Around}{E:Value->Shared->Prop}{s:Shared}
end
section
variable{X:Cx}
end
end L2
namespace Att
open PySem PySem.W PySem.Calls PyProof.Rows
theorem bs4{P:Params}{h:Heap}:∀(ns:List Int) (vs:List Value),WellAll P h vs (ns.map WData.int)->IntsAre vs ns:=by
 intro ns
 induction ns with
 | nil =>
  intro vs w
  rw[jY]at w
  cases w
  exact .nil
 | cons n ns ih =>
  intro vs w
  rw[dB]at w
  cases w with
  | cons a b =>
   cases a
   exact .cons _ _ (ih _ b)
theorem bS0{l:OpenLaw}{n:Nat}(hn:l.most=some n){P:Params}{h:Heap}{args:List WData}{vals:List Value}
  (Bz:l.row.toRowW.claim.pre args=true) (FE:WellAll P h vals args) :
  ∃a vs ns,vals=[fC a]/\args=[WData.list (ns.map WData.int)]/\h.get? a=some { cls:=.type "list",data:=.seq vs.toArray }/\IntsAre vs ns/\ns.length<=n:=by
 have pX:WShape.hasAll [] args [.list .int]=true:=(pre_splitW Bz).1
 have hc:l.pre.holds [] { args:=args }=true:=(pre_splitW Bz).2
 obtain⟨d,r,rfl,h1,h2⟩:=hasAllW_cons pX
 obtain rfl:=hasAllW_nil h2
 obtain⟨xs,rfl,h3⟩:=hasW_list h1
 obtain⟨ns,rfl⟩:=items_int h3
 have hlen:ns.length<=n:=by
  unfold OpenLaw.pre at hc
  have h4:(WTm.not (.lt (.lit (.int (n:Int))) (.len (.arg 0)))).holds [] { args:=[.list (ns.map .int)] }=true:=by
   have h4:=(holds_andW hc).1
   rw[hn]at h4
   exact h4
  have h5:=condW_of h4 (w_not (w_lt w_lit (w_len_list (w_arg rfl))))
  rw[bG]at h5
  refine AS λq=>?_
  have q':(n:Int)<((ns.length:Nat):Int):=by omega
  first
   | (rw[decide_eq_true q']at h5;exact absurd h5 (by decide))
   | (simp at h5;omega)
 cases FE with
 | cons w1 w2 =>
  cases w2
  cases w1 with
  | list ho cY2=>exact⟨_,_,ns,rfl,rfl,ho,bs4 ns _ cY2,hlen⟩
theorem bV5(l:OpenLaw)(args:List WData):l.row.toRowW.claim.post args (.bool true) args=true :=
 postW_of (r:=l.row.toRowW) (X:=(true==true))
  (show WShape.has [] (.bool true) .bool=true by first | rfl | decide | simp[WShape.has,WShape.arms,WShape.armsAll])
  (show(WTm.eq .res (.lit (.bool true))).value [] { args:=args,res:=some (.bool true),after:=args }=some (.bool (true==true)) from w_eq_bool (w_res rfl) w_lit) rfl
theorem cY4{l:OpenLaw}{n:Nat}{q:Program}{loose:List Str}{XP:(Str->Option Value)->Heap->Prop}{YP:World->Heap->Prop}{d:DefRec}
  (hn:l.most=some n) (yT:d.params.defaults=[])
  (call:∀(w:World) (cL bI:Shared) (mg mb:Str->Option Value) (fa:Addr) (o:Obj) (pm cd doc:Value) (a:Addr) (vs:List Value) (ns:List Int),
   Ground q loose [] XP w cL mg mb bI.heap->YP w bI.heap ->
   bI.heap.get? fa=some o->o.data=.func (docDef d.name d.params d.body d.scope pm cd doc)->bI.heap.CodeRec cd d.name->mg d.name=some (.ref fa) ->
   bI.heap.get? a=some { cls:=.type "list",data:=.seq vs.toArray }->IntsAre vs ns->ns.length<=n->bI.gens=#[] ->
   codeAny (model l.prog w) callerA (.call (.ref fa) ⟨[.ref a],[]⟩) (λr s'=>r=.ok (.ret (.bool true))/\OldK bI.heap s'.heap/\s'.os=bI.os/\AllBare s'.gens) bI) :
  WalkO q loose XP YP l.row.toRowW d [] (λf vs=>PySem.call f vs):=by
 intro w cL bI mg mb G Y fa o pm cd doc dV kV ho hd de hD yU hg args vals as Bz eP1 hrd FE dN
 obtain rfl:dV=.none:=Dflts.none hD yT
 obtain rfl:kV=.none:=Dflts.noKw hD
 obtain⟨a,vs,ns,rfl,rfl,FF,hints,hlen⟩:=bS0 hn Bz FE
 refine enter_call (codeAny_mono (call w cL bI mg mb fa o pm cd doc a vs ns G Y ho (fd_plain hd) de yU FF hints hlen hg) λr s' hq=>?_)
 obtain⟨rfl,h2,h3,h4⟩:=hq
 exact⟨.inl ⟨.bool true,.bool true,[],rfl,λ_=>rfl,.bool true,bV5 l _,λ_=>⟨Pm,λ_ hm=>(nomatch hm)⟩⟩,h2,h3,h4⟩
section
variable{prog:Program}{w:World}{A:Around}{E:Value->Shared->Prop}{s:Shared}{K:Frag}
noncomputable def cM1(h:Heap)(L d:Addr):List (Addr × Obj):=(aM h.objs.size).filterMap λa=>if a=L\/a=d then none else(h.get? a).map λo=>(a,o)
end
end Att
namespace L2
open PySem PySem.Spec PyProof.Rows
theorem QP:∀{vs:List Value} {ns:List Int},IntsAre vs ns->Vals (ns.map V.int) vs
 | _,_,.nil=>.nil
 | _,_,.cons n t h=>.cons ⟨t,rfl⟩ (QP h)
end L2
namespace L2
open PySem PySem.Spec PyProof.Rows
end L2
/- THE eP5 eP6 (shape;LID,My.* are eP8):
   My.ka: a structure of QQ addresses eP9 eQ0 eQ1 names (classes,eQ2);My.Txt K t: a structure (Prop) of QQ equations over K;
   My.eQ3:{K} {implicit addresses ..} (e1:nsIn K mainGlobals "law"=some (some (.ref f))) (e2:K.lookup f=some ⟨oc,od,.func (fnOf "law" "law" params body scope dV kV doc pm an aI ct),sl⟩) (e3:codeIn K aI "law"=true) ..:∃t,My.Txt K t
(QQ tactic k_is has no namespace: write k_is) -/
namespace L2
open PySem PySem.Spec PyProof.Rows
noncomputable def jF(s:Stmt)(j:Nat):Stmt:=match s with
 | .ClassDef _ _ _ body _ _ _ _ _ _ _=>body.getD j (.Pass ⟨0,0,0,0⟩)
 | _=>.Pass ⟨0,0,0,0⟩
noncomputable def bw(s:Stmt):Arguments:=match s with
 | .FunctionDef _ a _ _ _ _ _ _ _ _=>a
 | _=>{ posonlyargs:=[],args:=[],vararg:=none,kwonlyargs:=[],kw_defaults:=[],kwarg:=none,defaults:=[] }
noncomputable def bg(s:Stmt):List Stmt:=match s with
 | .FunctionDef _ _ b _ _ _ _ _ _ _=>b
 | _=>[]
noncomputable def ay(s:Stmt):Scope:=match s with
 | .FunctionDef _ _ _ _ _ _ sc _ _ _=>sc
 | _=>{ kind:=.function,names:=[],isGenerator:=false,isCoroutine:=false }
noncomputable abbrev aZ:e7:=λ_ _ _ _ _ _=>False
noncomputable abbrev E0:XK:=λ_ _ _=>False
theorem aW{X:Cx}:lY aZ X E0:=λ_ _ _ _ _ _ _ h=>h.elim
structure bq(K:PySem.W.Frag)(x qual:Str)(st:Stmt)(f:Addr)(fd:FuncData):Prop where
 ex:∃(oc:Value) (od:Option Addr) (kV doc pm:Value) (an:Option Addr) (aI ct:Value) (lZ:Array (Option Value)),
  fd=PySem.W.fnOf x qual (bw st) (bg st) (ay st) .none kV doc pm an aI ct/\K.lookup f=some ⟨oc,od,.func fd,lZ⟩/\PySem.W.codeIn K aI qual=true
 kp:PySem.W.keepIn K (.ref f)=true
section
variable{P:Program}{w:World}{K:PySem.W.Frag}{mg:Str->Option Value}{base:Heap}
theorem bq.ok{x qual:Str}{st:Stmt}{f:Addr}{fd:FuncData}{N ps:List Str}{k:Nat}{sp:Sp}(F:bq K x qual st f fd)(S:bu N ps (ay st))(len:∀vs H Q E,sp vs H Q E->vs.length=ps.length)
  (iH:∀(aI:Value) (A:Around) (outer:List Env) (s:Shared) (H:Hp) (vs:List V) (Q:VK) (E:XK),cm k (A.deeper (envOfC qual (ay st) s.heap.objs.size f aI))->sp vs H Q E ->
   ∃t,PSs (jh aZ P w K mg base N qual (ay st) f aI A outer s H E).gb (bg st) t/\t { nx:=λ_ H'=>Q .au H',rt:=Q } (start N vs) H):aP P w K mg base aZ (k+1) f fd ps sp:=by
 obtain⟨oc,od,kV,doc,pm,an,aI,ct,lZ,rfl,lk,de⟩:=F.ex
 refine Fu lk de S len λA outer s H vs Q E hr ji=>?_
 obtain⟨t,h,q⟩:=iH aI A outer s H vs Q E hr ji
 exact⟨t,h.gb,q⟩
theorem bq.binds{x qual:Str}{st:Stmt}{f:Addr}{fd:FuncData}{ps:List Str}(F:bq K x qual st f fd)
  (h:∀(kV doc pm:Value) (an:Option Addr) (aI ct:Value) (us:List Value),us.length=ps.length->bindArgs (PySem.W.fnOf x qual (bw st) (bg st) (ay st) .none kV doc pm an aI ct) ⟨us,[]⟩=pure (ps.zip us)):Binds K fd ps []:=by
 obtain⟨oc,od,kV,doc,pm,an,aI,ct,lZ,rfl,lk,de⟩:=F.ex
 exact .all (h kV doc pm an aI ct)
theorem bD{x qual:Str}{st:Stmt}{f:Addr}{oc:Value}{od an:Option Addr}{lZ:Array (Option Value)}{kV doc pm aI ct:Value}(l:K.lookup f=some ⟨oc,od,.func (PySem.W.fnOf x qual (bw st) (bg st) (ay st) .none kV doc pm an aI ct),lZ⟩)
  (c:PySem.W.codeIn K aI qual=true) (k:PySem.W.keepIn K (.ref f)=true):bq K x qual st f (PySem.W.fnOf x qual (bw st) (bg st) (ay st) .none kV doc pm an aI ct):=⟨⟨oc,od,kV,doc,pm,an,aI,ct,lZ,rfl,l,c⟩,k⟩
end
section
variable{X:Cx}
theorem pv(i:Nat){x:Str}{pos:Pos}(hN:X.N[i]?=some x:=by rfl)(hv:m5 X.env.scope x:=by first | exact aq rfl | exact aY (aq rfl) | exact aY (aY rfl))(hd:(x==("__debug__":Str))=false:=by decide)
  (de:(x==("__classdict__":Str))=false:=by decide):PE X (.Name x pos) (P7 i):=vn hN hv hd de
end
theorem mf{A B:Prop}(h:B):if false=true then A else B:=by
 rw[if_neg lJ]
 exact h
theorem pY{A B:Prop}(h:A):if true=true then A else B:=by
 rw[if_pos rfl]
 exact h
noncomputable def af(H H':Hp):Prop:=∀b o,H b=some o->H' b=some o
theorem af.refl(H:Hp):af H H:=λ_ _ h=>h
theorem af.trans{H H1 H2:Hp}(a:af H H1)(b:af H1 H2):af H H2:=λc o h=>b c o (a c o h)
theorem af.free{H H':Hp}(e:af H H'){l:Addr}(h:H' l=Ep):H l=Ep:=by
 cases q:H l with
 | none=>rfl
 | some o =>
  rw[e l o q]at h
  cases h
theorem af.seq{K:PySem.W.Frag}{H H':Hp}{a:Addr}{xs:List V}(e:af H H')(h:bJ K H a xs):bJ K H' a xs:=by
 rcases h with (h | ⟨o,h⟩) | h
 ·exact .inl (.inl (e _ _ h))
 ·exact .inl (.inr ⟨o,e _ _ h⟩)
 ·exact .inr h
end L2
namespace Mf
noncomputable def bl(n:Nat):Nat:=if n=0 then 0 else n.log2+1
theorem eO{n m:Nat}:bl n<=m↔n<2 ^ m:=by
 unfold bl
 by_cases h:n=0
 ·simp[h,yj]
 ·rw[if_neg h]
  rw[<-Pn h]
  omega
theorem FG{n m:Nat}:m<bl n↔2 ^ m<=n:=by
 have:=@eO n m
 omega
theorem jk(n:Nat):n<2 ^ bl n:=eO.mp (bP _)
theorem QR{n:Nat}(h:n≠0):2 ^ (bl n-1)<=n:=by
 have:0<bl n:=by unfold bl;rw[if_neg h];omega
 exact FG.mp (by omega)
theorem ib{n:Nat}(h:n≠0):0<bl n:=by
 unfold bl;rw[if_neg h];omega
theorem nq:bl 0=0:=rfl
theorem vv{n:Nat}(h:n≠0):n.testBit (bl n-1)=true:=by
 have h1:=QR h
 have h2:=jk n
 have hp:=ib h
 have e:bl n=(bl n-1)+1:=by omega
 rw[e,mU]at h2
 rw[YO]
 have:n/2 ^ (bl n-1)=1:=by
  apply Nat.div_eq_of_lt_le
  ·omega
  ·omega
 rw[this];rfl
theorem bP7{x n:Nat}(h:∀i,n<=i->x.testBit i=false):x<2 ^ n:=by
 apply Nat.lt_pow_two_of_testBit
 intro i hi
 exact h i hi
theorem QS{x y n:Nat}(hx:x<2 ^ (n+1))(hy:y<2 ^ (n+1))(tx:x.testBit n=true)(ty:y.testBit n=true):x ^^^ y<2 ^ n:=by
 apply bP7
 intro i hi
 rw[mV]
 by_cases e:i=n
 ·rw[e,tx,ty];rfl
 ·have fc:n+1<=i:=by omega
  have p:2 ^ (n+1)<=2 ^ i:=yk (by decide) fc
  rw[Er (cS hx p),Er (cS hy p)]
  rfl
theorem QT(x y z:Nat):(x ^^^ y) ^^^ (z ^^^ y)=x ^^^ z:=by
 apply AU;intro i;simp only[mV]
 cases x.testBit i<;>cases y.testBit i<;>cases z.testBit i<;>rfl
theorem QU(x y z t:Nat):(x ^^^ y) ^^^ (z ^^^ t)=(x ^^^ z) ^^^ (y ^^^ t):=by
 apply AU;intro i;simp only[mV]
 cases x.testBit i<;>cases y.testBit i<;>cases z.testBit i<;>cases t.testBit i<;>rfl
noncomputable def P(a b:Nat):Nat->Nat
 | 0=>0
 | k+1=>P a b k ^^^ (if b.testBit k then a <<< k else 0)
noncomputable def cl(a b:Nat):Nat:=P a b (bl b)
theorem QV{a b k:Nat}(h:b<2 ^ k):∀j,P a b (k+j)=P a b k
 | 0=>rfl
 | j+1=>by
  show P a b (k+j) ^^^ (if b.testBit (k+j)then a <<< (k+j)else 0)=_
  rw[QV h j]
  have p:2 ^ k<=2 ^ (k+j):=yk (by decide) (by omega)
  rw[Er (cS h p)]
  simp
theorem vw{a b k:Nat}(h:b<2 ^ k):P a b k=cl a b:=by
 have h1:=eO.mpr h
 have e:k=bl b+(k-bl b):=by omega
 rw[e,QV (jk b)]
 rfl
theorem QW(a a' b:Nat):∀k,P (a ^^^ a') b k=P a b k ^^^ P a' b k
 | 0=>(lL 0).symm
 | k+1=>by
  show P (a ^^^ a') b k ^^^ _=(P a b k ^^^ _) ^^^ (P a' b k ^^^ _)
  rw[QW a a' b k]
  by_cases t:b.testBit k=true
  ·rw[if_pos t,if_pos t,if_pos t,YQ]
   ac_rfl
  ·rw[if_neg t,if_neg t,if_neg t]
   simp
theorem QX(a b b':Nat):∀k,P a (b ^^^ b') k=P a b k ^^^ P a b' k
 | 0=>(lL 0).symm
 | k+1=>by
  show P a (b ^^^ b') k ^^^ _=(P a b k ^^^ _) ^^^ (P a b' k ^^^ _)
  rw[QX a b b' k,mV]
  cases b.testBit k<;>cases b'.testBit k<;>simp
  ·ac_rfl
  ·ac_rfl
  ·exact(QT _ _ _).symm
theorem pZ(a a' b:Nat):cl (a ^^^ a') b=cl a b ^^^ cl a' b:=QW a a' b _
theorem vx{x y n:Nat}(hx:x<2 ^ n)(hy:y<2 ^ n):x ^^^ y<2 ^ n:=Nat.xor_lt_two_pow hx hy
theorem bE5(a b b':Nat):cl a (b ^^^ b')=cl a b ^^^ cl a b':=by
 let k:=bl b+bl b'
 have h1:b<2 ^ k:=eO.mp (by omega)
 have h2:b'<2 ^ k:=eO.mp (by omega)
 rw[<-vw (vx h1 h2),<- vw h1,<- vw h2,QX]
theorem cp5(a:Nat):cl a 0=0:=rfl
theorem QY(b:Nat):∀k,P 0 b k=0
 | 0=>rfl
 | k+1=>by
  show P 0 b k ^^^ _=0
  rw[QY b k];simp
theorem p7(b:Nat):cl 0 b=0:=QY b _
theorem bE9(b k:Nat):(b/2).testBit k=b.testBit (k+1):=by
 rw[Es]
theorem QZ(a b:Nat):∀k,P a b (k+1)=(if b%2=1 then a else 0) ^^^ P (2*a) (b/2) k
 | 0=>by
  show 0 ^^^ _=_ ^^^ 0
  rw[pk,lL,AV]
  simp
 | k+1=>by
  show P a b (k+1) ^^^ _=_ ^^^ (P (2*a) (b/2) k ^^^ _)
  rw[QZ a b k,bE9,sG]
  have e:a <<< (k+1)=(2*a) <<< k:=by
   rw[ky,ky,mU]
   rw[mT 2 a,uX,mT 2]
  rw[e]
theorem Q0{b k:Nat}(h:b<2 ^ (k+1)):b/2<2 ^ k:=by
 rw[mU]at h;omega
theorem Q1(a b:Nat):cl a b=(if b%2=1 then a else 0) ^^^ cl (2*a) (b/2):=by
 have h:b<2 ^ (bl b+1):=Nat.lt_trans (jk b) (by rw[mU];have:=yj (bl b);omega)
 rw[<-vw h,QZ,vw (Q0 h)]
theorem Q2(a b:Nat):∀k,P (2*a) b k=2*P a b k
 | 0=>rfl
 | k+1=>by
  show P (2*a) b k ^^^ _=2*(P a b k ^^^ _)
  rw[Q2 a b k]
  have d:∀x y:Nat,2*(x ^^^ y)=2*x ^^^ 2*y:=by
   intro x y
   have h:=@YQ 1 x y
   rw[ky,ky,ky,Nat.pow_one]at h
   rw[mT 2 (x ^^^ y),mT 2 x,mT 2 y]
   exact h
  rw[d]
  by_cases t:b.testBit k=true
  ·rw[if_pos t,if_pos t,ky,ky,uX]
  ·rw[if_neg t,if_neg t]
theorem FH(a b:Nat):cl (2*a) b=2*cl a b:=Q2 a b _
theorem yV(a c t:Nat)(ht:t<2):cl a (2*c+t)=2*cl a c ^^^ (if t=1 then a else 0):=by
 rw[Q1,FH,Po]
 have e1:(2*c+t)/2=c:=by omega
 have e2:(2*c+t)%2=t:=by omega
 rw[e1,e2]
theorem cz8(a c:Nat):cl a (2*c)=2*cl a c:=by
 have h:=yV a c 0 (by decide)
 simpa using h
theorem Q3(c t:Nat)(ht:t<2):2*c ^^^ t=2*c+t:=by
 apply AU
 intro i
 cases i with
 | zero =>
  rw[mV,AV,AV,AV]
  have:t=0\/t=1:=by omega
  rcases this with h | h<;>subst h<;>simp<;>omega
 | succ i =>
  rw[mV,Es,Es,Es]
  have e1:2*c/2=c:=by omega
  have e2:t/2=0:=by omega
  have e3:(2*c+t)/2=c:=by omega
  rw[e1,e2,e3];simp
theorem FI:∀b:Nat,cl 1 b=b:=by
 intro b
 induction b using Et with
 | ind b ih =>
  by_cases h:b=0
  ·subst h;rfl
  ·have e:b=2*(b/2)+b%2:=by omega
   rw[e,yV 1 (b/2) (b%2) (by omega),ih (b/2) (by omega)]
   have:b%2=0\/b%2=1:=by omega
   rcases this with h | h
   ·rw[h];simp
   ·rw[h];rw[if_pos rfl];exact Q3 _ _ (by decide)
theorem yW:∀b a:Nat,cl a b=cl b a:=by
 intro b
 induction b using Et with
 | ind b ih =>
  intro a
  by_cases h:b=0
  ·subst h;rw[p7];rfl
  ·have e:b=2*(b/2)+b%2:=by omega
   have lt:b%2<2:=by omega
   have e':cl b a=cl (2*(b/2) ^^^ b%2) a:=by rw[Q3 _ _ lt,<- e]
   rw[e',pZ,FH,<- ih (b/2) (by omega) a]
   have e'':cl a b=cl a (2*(b/2)+b%2):=by rw[<-e]
   rw[e'',yV _ _ _ lt]
   have:b%2=0\/b%2=1:=by omega
   rcases this with h | h
   ·rw[h,p7];rfl
   ·rw[h,FI];rfl
theorem FJ{a m:Nat}(h:a<2 ^ m)(b:Nat):∀k,P a b (k+1)<2 ^ (m+k)
 | 0=>by
  show 0 ^^^ _<_
  rw[pk,Nat.add_zero]
  by_cases t:b.testBit 0=true
  ·rw[if_pos t];simpa using h
  ·rw[if_neg t];exact yj m
 | k+1=>by
  show P a b (k+1) ^^^ _<_
  have i:=FJ h b k
  have p:2 ^ (m+k)<=2 ^ (m+(k+1)):=yk (by decide) (by omega)
  apply vx (cS i p)
  by_cases t:b.testBit (k+1)=true
  ·rw[if_pos t,ky,Nat.pow_add 2 m]
   exact(YR (yj _)).mpr h
  ·rw[if_neg t];exact yj _
theorem cL1{a b m n:Nat}(h:a<2 ^ m)(h':b<2 ^ (n+1)):cl a b<2 ^ (m+n):=by
 rw[<-vw h'];exact FJ h b n
theorem cH3{a b:Nat}(ha:a≠0)(hb:b≠0):2 ^ (bl a-1+(bl b-1))<=cl a b:=by
 have e:bl b=(bl b-1)+1:=by have:=ib hb;omega
 have ta:=vv ha
 have tb:=vv hb
 apply Nat.ge_two_pow_of_testBit
 unfold cl
 rw[e]
 show(P a b (bl b-1) ^^^ _).testBit _=true
 have e2:bl b-1+1-1=bl b-1:=by omega
 rw[e2,mV,if_pos tb]
 have f:(P a b (bl b-1)).testBit (bl a-1+(bl b-1))=false:=by
  cases q:bl b-1 with
  | zero=>show Nat.testBit 0 _=false;exact Nat.zero_testBit _
  | succ k =>
   apply Er
   have l:=FJ (jk a) b k
   have p:=ib ha
   have e3:bl a-1+(k+1)=bl a+k:=by omega
   rw[e3];exact l
 rw[f,YS]
 have e4:bl a-1+(bl b-1)-(bl b-1)=bl a-1:=by omega
 rw[e4,ta]
 simp
theorem Q4{a b:Nat}(ha:a≠0)(hb:b≠0):bl (cl a b)=bl a+bl b-1:=by
 have p1:=ib ha
 have p2:=ib hb
 have h1:bl (cl a b)<=bl a+(bl b-1):=eO.mpr (cL1 (jk a) (by
  have e:bl b-1+1=bl b:=by omega
  rw[e];exact jk b))
 have h2:=FG.mpr (cH3 ha hb)
 omega
theorem Q5(s b:Nat):cl (2 ^ s) b=b <<< s:=by
 induction s with
 | zero=>rw[Nat.pow_zero,FI];rfl
 | succ s ih =>
  rw[mU,mT,FH,ih,ky,ky,mU]
  rw[<-uX,mT 2,uX,mT 2,<- uX,uX]
theorem ce2{a q b r s:Nat}(h:a=cl q b ^^^ r):a=cl (q ^^^ 2 ^ s) b ^^^ (r ^^^ b <<< s):=by
 rw[pZ,Q5,h,QT]
theorem Q6{b r:Nat}(hb:b≠0)(h:bl b<=bl r):bl (r ^^^ b <<< (bl r-bl b))<bl r:=by
 have p:=ib hb
 have hr:r≠0:=by
  intro z;rw[z,nq]at h;omega
 have:r ^^^ b <<< (bl r-bl b)<2 ^ (bl r-1):=by
  apply QS
  ·have e:bl r-1+1=bl r:=by omega
   rw[e];exact jk r
  ·have e:bl r-1+1=bl b+(bl r-bl b):=by omega
   rw[e,ky,Nat.pow_add]
   exact(YR (yj _)).mpr (jk b)
  ·exact vv hr
  ·rw[YS]
   have e:bl r-1-(bl r-bl b)=bl b-1:=by omega
   rw[e,vv hb]
   simp;omega
 have:=eO.mpr this
 omega
theorem bP0{x y z:Nat}(h:x ^^^ y=z):x=z ^^^ y:=by
 rw[<-h,sG,AW,lL]
theorem FK{x y:Nat}(h:x ^^^ y=0):x=y:=by
 have:=bP0 h
 rwa [pk]at this
theorem bQ2{b q r q' r':Nat}(h:cl q b ^^^ r=cl q' b ^^^ r')(hr:bl r<bl b)(aX:bl r'<bl b):q=q'/\r=r':=by
 have hb:b≠0:=by intro z;rw[z,nq]at hr;omega
 have e:cl (q ^^^ q') b=r ^^^ r':=by
  rw[pZ]
  have z:(cl q b ^^^ r) ^^^ (cl q' b ^^^ r')=0:=by rw[h,AW]
  rw[QU]at z
  exact FK z
 have lt:bl (r ^^^ r')<bl b:=by
  have h1:r<2 ^ (bl b-1):=eO.mp (by omega)
  have h2:r'<2 ^ (bl b-1):=eO.mp (by omega)
  have:=eO.mpr (vx h1 h2)
  have:=ib hb
  omega
 have z:q ^^^ q'=0:=by
  apply yl
  intro hq
  have h1:=Q4 hq hb
  have h2:=ib hq
  rw[e]at h1
  omega
 have zq:=FK z
 subst zq
 rw[z,p7]at e
 exact⟨rfl,FK e.symm⟩
end Mf
namespace Mf
open PySem PySem.Builtin.Int
theorem cw2(x y:Nat):(x ^^^ y)+2*(x &&& y)=x+y:=by
 induction x using Et generalizing y with
 | ind x ih =>
  by_cases h:x=0
  ·subst h;simp
  ·have h1:=ih (x/2) (by omega) (y/2)
   have e1:(x ^^^ y)/2=x/2 ^^^ y/2:=Nat.xor_div_two
   have e2:(x &&& y)/2=x/2 &&& y/2:=Nat.and_div_two
   have t:∀n:Nat,n%2=if n.testBit 0=true then 1 else 0:=by
    intro n
    rw[AV]
    by_cases h:n%2=1
    ·simp[h]
    ·simp[h];omega
   have m1:(x ^^^ y)%2=(x%2+y%2)%2:=by
    rw[t (x ^^^ y),t x,t y,mV]
    cases x.testBit 0<;>cases y.testBit 0<;>rfl
   have m2:(x &&& y)%2=x%2*(y%2):=by
    rw[t (x &&& y),t x,t y,Pp]
    cases x.testBit 0<;>cases y.testBit 0<;>rfl
   have d1:=Nat.div_add_mod (x ^^^ y) 2
   have d2:=Nat.div_add_mod (x &&& y) 2
   rw[e1]at d1
   rw[e2]at d2
   have hx:x%2=0\/x%2=1:=by omega
   have hy:y%2=0\/y%2=1:=by omega
   rcases hx with hx | hx<;>rcases hy with hy | hy<;>rw[hx,hy]at m1 m2<;>omega
theorem Q7{x y:Int}(hx:0<=x)(hy:0<=y):lK x y=((x.toNat &&& y.toNat:Nat):Int):=by
 unfold lK
 rw[decide_eq_true hx,decide_eq_true hy]
theorem cc2{x y:Int}(hx:0<=x)(hy:0<=y):Builtin.bitOr x y=((x.toNat ||| y.toNat:Nat):Int):=by
 unfold Builtin.bitOr lK Builtin.bitNot
 rw[decide_eq_false (by omega),decide_eq_false (by omega)]
 show-(-((((- (-x-1)-1).toNat ||| (-(-y-1)-1).toNat:Nat):Int))-1)-1=_
 have e1:(- (-x-1)-1).toNat=x.toNat:=by omega
 have e2:(- (-y-1)-1).toNat=y.toNat:=by omega
 rw[e1,e2]
 omega
theorem cD0(x y:Nat):(x ||| y)=(x ^^^ y)+(x &&& y):=by
 have d:(x ^^^ y) &&& (x &&& y)=0:=by
  apply AU;intro i
  simp only[mV,Pp,Nat.zero_testBit]
  cases x.testBit i<;>cases y.testBit i<;>rfl
 have e:(x ||| y)=(x ^^^ y) ^^^ (x &&& y):=by
  apply AU;intro i
  simp only[mV,Pp,Nat.testBit_or]
  cases x.testBit i<;>cases y.testBit i<;>rfl
 have h:=cw2 (x ^^^ y) (x &&& y)
 rw[d]at h
 rw[e];omega
theorem bZ9{x y:Int}(hx:0<=x)(hy:0<=y):pf x y=((x.toNat ^^^ y.toNat:Nat):Int):=by
 unfold pf
 rw[cc2 hx hy,Q7 hx hy,cD0]
 omega
theorem nu(x y:Nat):pf (x:Int) (y:Int)=((x ^^^ y:Nat):Int):=by
 rw[bZ9 (by omega) (by omega)];rfl
theorem Q8(x y:Nat):lK (x:Int) (y:Int)=((x &&& y:Nat):Int):=by
 rw[Q7 (by omega) (by omega)];rfl
theorem vy(x k:Nat):(x:Int)*2 ^ ((k:Int)).toNat=((x <<< k:Nat):Int):=by
 rw[ky]
 simp
theorem cx1(x k:Nat):(x:Int)/2 ^ ((k:Int)).toNat=((x >>> k:Nat):Int):=by
 rw[YT]
 simp
theorem cr7(x k:Nat):((x >>> k) &&& 1=1)↔x.testBit k=true:=by
 rw[YO,YT]
 have:(x/2 ^ k) &&& 1=(x/2 ^ k)%2:=Nat.and_two_pow_sub_one_eq_mod _ 1
 rw[this]
 simp
end Mf
namespace Mf
end Mf
namespace Mf
theorem Q9(a b:Nat):∀c,cl (cl a b) c=cl a (cl b c):=by
 intro c
 induction c using Et with
 | ind c ih =>
  by_cases h:c=0
  ·subst h;rfl
  ·have e:c=2*(c/2)+c%2:=by omega
   have lt:c%2<2:=by omega
   have i:=ih (c/2) (by omega)
   rw[e,yV _ _ _ lt,yV _ _ _ lt,i,bE5,cz8]
   have:c%2=0\/c%2=1:=by omega
   rcases this with h | h
   ·rw[h];rfl
   ·rw[h];rfl
noncomputable def vz:Nat->Nat->Nat->Nat
 | 0,a,_=>a
 | n+1,a,b=>if bl a<bl b then a else vz n (a ^^^ b <<< (bl a-bl b)) b
noncomputable def md(a b:Nat):Nat:=vz (bl a+1) a b
theorem Ra{b:Nat}(hb:b≠0):∀n a,bl a<n->(∃q,a=cl q b ^^^ vz n a b)/\bl (vz n a b)<bl b
 | 0,_,h=>absurd h (by omega)
 | n+1,a,h=>by
  unfold vz
  by_cases l:bl a<bl b
  ·rw[if_pos l]
   exact⟨⟨0,by rw[p7,pk]⟩,l⟩
  ·rw[if_neg l]
   have FL:=Q6 hb (show bl b<=bl a by omega)
   obtain⟨⟨q,e⟩,l2⟩:=Ra hb n (a ^^^ b <<< (bl a-bl b)) (by omega)
   refine⟨⟨q ^^^ 2 ^ (bl a-bl b),?_⟩,l2⟩
   rw[pZ,Q5]
   have e2:a=(a ^^^ b <<< (bl a-bl b)) ^^^ b <<< (bl a-bl b):=by rw[sG,AW,lL]
   rw[e]at e2
   refine e2.trans ?_
   generalize vz n _ b=r
   rw[sG,Po r,<- sG]
theorem yX{b:Nat}(hb:b≠0)(a:Nat):(∃q,a=cl q b ^^^ md a b)/\bl (md a b)<bl b:=Ra hb _ a (by omega)
theorem yY{a b q r:Nat}(h:a=cl q b ^^^ r)(hr:bl r<bl b):md a b=r:=by
 have hb:b≠0:=by intro z;rw[z,nq]at hr;omega
 obtain⟨⟨q',e⟩,l⟩:=yX hb a
 exact(bQ2 (e.symm.trans h) l hr).2
theorem cK1(q:Nat){b:Nat}(hb:b≠0):md (cl q b) b=0 :=
 yY (q:=q) (by rw[lL]) (by rw[nq];exact ib hb)
noncomputable def Rb:Nat->Nat->Nat->Nat
 | 0,a,_=>a
 | n+1,a,b=>if b=0 then a else Rb n b (md a b)
noncomputable def gc(a b:Nat):Nat:=Rb (bl b+1) a b
end Mf
namespace Mf
theorem cx2(y:Nat):bl (y/2)=bl y-1:=by
 by_cases h:y=0
 ·subst h;rfl
 ·have p:=ib h
  have h1:bl (y/2)<=bl y-1:=eO.mpr (Q0 (by
   have e:bl y-1+1=bl y:=by omega
   rw[e];exact jk y))
  have h2:bl y<=bl (y/2)+1:=eO.mpr (by
   have:=jk (y/2)
   rw[mU];omega)
  omega
theorem cC7(x:Nat):bl (2*x)<=bl x+1:=eO.mpr (by
 have:=jk x
 rw[mU];omega)
theorem FN{x y:Nat}(h:x<=y):bl x<=bl y:=eO.mpr (pq h (jk y))
end Mf
namespace Mf
noncomputable def al(a:Nat):Bool:=decide (2<=a)&&(aM (2 ^ ((bl a-1)/2+1)-2)).all λi=>md a (2+i) != 0
theorem b75{a:Nat}(h:a<2):al a=false:=by
 unfold al;rw[decide_eq_false (by omega)];rfl
theorem cs8{a:Nat}(h:2<=a)(k:∀i,i<2 ^ ((bl a-1)/2+1)-2->md a (2+i)≠0):al a=true:=by
 unfold al
 rw[decide_eq_true h,mW,du]
 intro i hi
 have:=k i (cV.mp hi)
 simpa using this
theorem b92{a i:Nat}(k:i<2 ^ ((bl a-1)/2+1)-2)(z:md a (2+i)=0):al a=false:=by
 unfold al
 rw[Bool.and_eq_false_iff]
 right
 rw[List.all_eq_false]
 exact⟨i,cV.mpr k,by simp[z]⟩
theorem cb4{a:Nat}(h:2<=a){b:Nat}(hb:b<2 ^ ((bl a-1)/2+1)):b<a/\2*bl b<=bl a+1:=by
 have h2:2<=bl a:=by
  have:=FG.mpr (show 2 ^ 1<=a by omega)
  omega
 have l:=eO.mpr hb
 refine⟨cS hb (fi (yk (by decide) ?_) (QR (by omega))),by omega⟩
 omega
end Mf
namespace L2
open PySem PySem.Spec PyProof.Rows Mf
theorem gg:bootBuiltins "len"=some (.builtin "len"):=by decide +kernel
theorem bA3:bootBuiltins "isinstance"=some (.builtin "isinstance"):=by decide +kernel
theorem vA:bootBuiltins "all"=some (.builtin "all"):=by decide +kernel
theorem cC8:bootBuiltins "any"=some (.builtin "any"):=by decide +kernel
theorem Rc:bootBuiltins "int"=some (.type "int"):=by decide +kernel
theorem cu2:bootBuiltins "bool"=some (.type "bool"):=by decide +kernel
theorem s9:bootBuiltins "list"=some (.type "list"):=by decide +kernel
theorem b87:bootBuiltins "range"=some (.type "range"):=by decide +kernel
section
variable{X:Cx}{a b o:Expr}{ta tb to:TE}{pos apos cN:Pos}
theorem Rh(i:Int):Eu i=bl i.natAbs:=by
 unfold Eu bl
 by_cases h:i=0
 ·subst h;rfl
 ·have h':¬ i.natAbs=0:=by omega
  rw[if_neg h',if_neg (by simpa using h)]
noncomputable def Ri:V->List V->Hp->VK->Prop:=λx vs H Q=>∃i,x=.int i/\vs=[]/\Q (.int (bl i.natAbs:Nat)) H
theorem bW0:pW X "int.bit_length" Ri:=by
 intro pins s σ H x xs v us Q I rx rs h
 obtain⟨i,rfl,rfl,q⟩:=h
 obtain⟨t,rfl⟩:=rx
 cases rs
 refine call_int_bit_length ?_
 rw[Rh]
 exact⟨.int _,H,I.tok _,⟨_,rfl⟩,q⟩
theorem FP(ho:PE X o to)(nj:attributeBase o "bit_length" X.env (eval o X.env)=eval o X.env:=by rfl)(nk:(apos.endLine==cN.line)=true:=by rfl) :
  PE X (.Call (.Attribute o "bit_length" apos) [] [] cN) (QJ X.K "int" Ri to) :=
 cA8 PySem.F.plainAttrs_int PySem.F.slot_int_bit_length PySem.F.type_int_bit_length bW0 ho nj nk
noncomputable def Rj(i j:Int):Prop:=0<=j/\((bl i.natAbs:Nat):Int)+j<=134217728
theorem Rk:cM X (binaryOp .LShift) (rI Rj λi j=>.int (i*2 ^ j.toNat)):=yM λi j _ _ _ _ _ hc q =>
 lshift_int hc.1 (by rw[Rh];exact Int.le_trans hc.2 (by decide)) q
theorem cH9{x:Str}{n:String}(hg:Gl X x)(hm:X.mg x=none)(hv:bootBuiltins x=some (.type n))(hn:x≠"__name__":=by decide)(hd:(x==("__debug__":Str))=false:=by decide):PE X (.Name x pos) (tC (.ty n)) :=
 ZC hg hm hv rfl hn hd
noncomputable def cP3(K:PySem.W.Frag):List V->Hp->VK->Prop:=λxs H Q=>∃x n t b,xs=[x,.ty n]/\iG K H x t/\PySem.W.kitOne K t (.type n)=some b/\Q (.bl b) H
theorem bv7:iF X (.builtin "isinstance") (cP3 X.K):=by
 intro pins s σ H xs us Q I r h
 obtain⟨x,n,t,b,rfl,ty,e,q⟩:=h
 obtain⟨u,v,rfl,ru,rv⟩:=r.two
 cases(show v=Value.type n from rv)
 exact bX4 I ru ty e λtk=>⟨.bl b,H,I.tok _,rfl,q⟩
end
theorem cp9(b i:Nat):decide (V.int (lK ((b:Int)/2 ^ ((0:Int)+(i:Int)).toNat) 1)=V.int 1)=b.testBit i:=by
 have e:((0:Int)+(i:Int)).toNat=((i:Int)).toNat:=by omega
 rw[e,cx1,show(1:Int)=((1:Nat):Int) from rfl,Q8,sH,decide_eq_true_iff,<- cr7]
 constructor
 ·intro h;injection h with h;omega
 ·intro h;rw[h]
theorem b80{a b i:Nat}(h:b.testBit i=true):pf ((P a b i:Nat):Int) ((a:Int)*2 ^ ((0:Int)+(i:Int)).toNat)=((P a b (i+1):Nat):Int):=by
 have e:((0:Int)+(i:Int)).toNat=((i:Int)).toNat:=by omega
 rw[e,vy,nu]
 show _=((P a b i ^^^ (if b.testBit i then a <<< i else 0):Nat):Int)
 rw[if_pos h]
theorem bP4{a b i:Nat}(h:¬ b.testBit i=true):P a b (i+1)=P a b i:=by
 show P a b i ^^^ (if b.testBit i then a <<< i else 0)=_
 rw[if_neg h,lL]
theorem dI{i j:Int}:decide (V.int i=V.int j)=true↔i=j:=by
 rw[decide_eq_true_iff]
 exact⟨λh=>by injection h,λh=>by rw[h]⟩
end L2
namespace L2
open PySem PySem.Spec PyProof.Rows
section
variable{X:Cx}
end
end L2
namespace L2
open PySem PySem.Spec PyProof.Rows
noncomputable def BA(X:Cx)(scope:Scope)(N:List Str)(cl:List (Str × Addr))(C:Addr)(s:Shared)(H:Hp)(fp:List Addr):Cx where
 prog:=X.prog
 w:=X.w
 K:=X.K
 mg:=X.mg
 base:=X.base
 A:=X.A
 N:=N
 cL:=s
 kB:=H
 env:=compEnvC scope cl C X.env
 outer:=X.stack
 stack:=X.stack
 ex:=fp
 fn:=λ_=>false
 calm:=X.calm
 pn:=[]
 xe:=λ_ _=>False
noncomputable def nv(X:Cx)(scope:Scope)(cl:List (Str × Addr)):List (Str × Nat)->Prop
 | []=>True
 | (y,i)::r=>(X.N[i]?=some y/\(X.env.scope.names.lookup y=some .cell\/X.env.scope.names.lookup y=some .free)/\((relabel scope X.env).names.lookup y=some .cell\/(relabel scope X.env).names.lookup y=some .free)/\∃c,cl.lookup y=some c/\X.env.cells.lookup y=some c)/\nv X scope cl r
theorem nv.at{X:Cx}{scope:Scope}{cl:List (Str × Addr)}:∀{aD:List (Str × Nat)},nv X scope cl aD->∀p∈aD,X.N[p.2]?=some p.1/\(X.env.scope.names.lookup p.1=some .cell\/X.env.scope.names.lookup p.1=some .free)/\((relabel scope X.env).names.lookup p.1=some .cell\/(relabel scope X.env).names.lookup p.1=some .free)/\∃c,cl.lookup p.1=some c/\X.env.cells.lookup p.1=some c
 | [],_,p,hp=>absurd hp (by simp)
 | (y,i)::r,h,p,hp=>by
  rcases cA.mp hp with e | e
  ·subst e;exact h.1
  ·exact nv.at h.2 p e
noncomputable def nz(Y:Cx)(ifs:List Expr)(t:TT):Prop :=
 ∀(pins:List (Addr × Obj)) (s:Shared) (σ:St) (H:Hp) (Q:Bool->Hp->Prop),Inv Y pins σ H s->t σ H Q ->
  wpAny (model Y.prog Y.w) Y.A (forIn ifs true λc r=>if r=true then do let ok<-isTrue c Y.env (eval c Y.env);pure (Ew ok)else pure (Ew r)) (TP Y pins σ Q) Y.xe s
noncomputable def cP5:TT:=λ_ H Q=>Q true H
theorem cv2{Y:Cx}:nz Y [] cP5:=λ_ _ _ H _ I h=>wpAny_tests_nil ⟨H,I,h⟩
theorem cv6{Y:Cx}{c:Expr}{t:TT}(h:PT Y c t):nz Y [c] t:=λpins s σ H Q I q=>wpAny_tests_one (h pins s σ H Q I q)
section
variable{X:Cx}{elt iter:Expr}{x:Str}{px pos:Pos}{ifs:List Expr}{scope:Scope}{cl:List (Str × Addr)}{aD:List (Str × Nat)}{wi:TI}{tt:TT}{te:TE}
end
section
variable{prog:Program}{w:World}{A:Around}{R:Result->Shared->Prop}{s:Shared}
theorem bD0{elt target iter:Expr}{ifs:List Expr}{scope:Scope}{pos:Pos}{it acc:Value}{env:Env}(Iv:Nat->Shared->Prop)
  (turn:∀n s,Iv n s->wpAny (model prog w) A (pyNext it) (λr s1=>match r with
   | none=>R (.ok .next) s1
   | some v=>wpAny (model prog w) A (letOwnedTupleGo target it v) (λ_ t1=>wpAny (model prog w) A (assign target env v) (λ_ s2 =>
     wpAny (model prog w) A (forIn ifs true λc r=>if r=true then do let ok<-isTrue c env (eval c env);pure (Ew ok)else pure (Ew r)) (λok s3 =>
      if ok=true then wpAny (model prog w) A (eval elt env) (λy s4=>wpAny (model prog w) A (call (.builtin "list.append") [acc,y]) (λ_ s5=>∃m,m<n/\Iv m s5) (λ_ _=>False) s4) (λ_ _=>False) s3
      else ∃m,m<n/\Iv m s3) (λ_ _=>False) s2) (λ_ _=>False) t1) (λ_ _=>False) s1) (λ_ _=>False) s)
  (n:Nat) (h:Iv n s):codeAny (model prog w) A (.compLoop (.ListComp elt [⟨target,iter,ifs,0⟩] scope pos) 0 it acc env) R s:=by
 refine codeAny_loop rfl Iv (λn s hI=>?_) n h
 change wpAny _ A (Sem.onRaise (compTurn (.ListComp elt [⟨target,iter,ifs,0⟩] scope pos) 0 it acc env) λx=>do noteFrame x env;theTreesLotGoes x) _ _ s
 refine wpAny_noted (wpAny_mono (E:=λ_ _=>False) ?_ (λ_ _ q=>q) λ_ _ z=>z.elim)
 rw[compTurn_list]
 refine wpAny_bind (wpAny_standAt (wpAny_bind (aO (turn n s hI) λr s1 h1=>?_)))
 cases r with
 | none=>exact wpAny_pure h1
 | some v =>
  refine wpAny_bind (aO h1 λ_ t1 k1=>wpAny_bind (aO k1 λ_ s2 h2=>wpAny_bind (aO h2 λok s3 h3=>?_)))
  cases ok with
  | false=>exact wpAny_pure ⟨rfl,h3⟩
  | true=>exact wpAny_bind (wpAny_bind (aO h3 λy s4 h4=>wpAny_bind (aO h4 λ_ s5 h5=>wpAny_pure (wpAny_pure ⟨rfl,h5⟩))))
end
section
variable{X:Cx}{elt iter:Expr}{x:Str}{px pos:Pos}{ifs:List Expr}{scope:Scope}{cl:List (Str × Addr)}{aD:List (Str × Nat)}{wi:TI}{tt:TT}{te:TE}
end
end L2
namespace L2
open PySem PySem.Spec PyProof.Rows
section
variable{X:Cx}
theorem b90{bs:List Bool}{us:List Value}(r:Vals (bs.map V.bl) us):bs.length=us.length/\∀(i:Nat) (v:Value),us[i]?=some v->∃b,bs[i]?=some b/\v=.bool b:=by
 have l:=r.length
 rw[bG]at l
 refine⟨l,λi v e=>?_⟩
 have hi:i<us.length:=(jW.mp e).1
 have hb:i<bs.length:=by omega
 obtain⟨u,e2,q⟩:=r.get (i:=i) (x:=V.bl bs[i]) (by rw[bZ,aL hb];rfl)
 rw[e]at e2
 cases e2
 exact⟨bs[i],aL hb,q⟩
theorem Rl{s:Shared}{h':Heap}{o:Obj}(hk:∀b x,b ∉ [s.heap.objs.size]->(s.heap.push o).get? b=some x->h'.get? b=some x)(b:Addr)(x:Obj)(e:s.heap.get? b=some x):h'.get? b=some x :=
 hk b x (λhm=>fV _ (by have:=bX e;rw[e5.mp hm]at this;exact this)) (fj _ e)
theorem cf2(bs:List Bool):((aM bs.length).all λi=>(bs[i]?).getD true)=bs.all id:=by
 rw[sH,du,du]
 constructor
 ·intro h b hb
  obtain⟨i,hi,rfl⟩:=fX hb
  have:=h i (cV.mpr hi)
  rwa [aL hi]at this
 ·intro h i hi
  have fc:=cV.mp hi
  rw[aL fc]
  exact h _ (dv fc)
theorem cc0(bs:List Bool):((aM bs.length).any λi=>(bs[i]?).getD false)=bs.any id:=by
 rw[sH,Ey,Ey]
 constructor
 ·rintro⟨i,hi,h⟩
  have fc:=cV.mp hi
  rw[aL fc]at h
  exact⟨_,dv fc,h⟩
 ·rintro⟨b,hb,h⟩
  obtain⟨i,hi,rfl⟩:=fX hb
  exact⟨i,cV.mpr hi,by rw[aL hi];exact h⟩
theorem cc1(hc:X.calm=true):iF X (.builtin "all") (λxs H Q=>∃(p:Addr) (bs:List Bool),xs=[.ref p]/\bJ X.K H p (bs.map V.bl)/\Q (.bl (bs.all id)) H):=by
 intro pins s σ H xs us Q I r h
 obtain⟨p,bs,rfl,hS,q⟩:=h
 obtain⟨u,rfl,ru⟩:=r.one
 cases ru
 obtain⟨its,rv,pl,hz⟩:=I.list hS
 obtain⟨hlen,FQ⟩:=b90 rv
 have hl:=pl.isList
 have ie:p<s.heap.objs.size:=by obtain⟨_,e,_⟩:=hl;exact bX e
 refine call_all_walk (wpAny_pyIter_list hl ?_)
 refine⟨s.heap.objs.size,[s.heap.objs.size,p],[s.heap.objs.size],its.toArray.size,_,_,λi=>(bs[i]?).getD true,rfl,Walks.list (A:=X.A.in1) (I.ok.hd hc) _ p (eI ie) its.toArray,
  ⟨⟨_,hW _ rfl,rfl,rfl⟩,hl.push _⟩,λi v s' Q' E' hP hQ=>?_,λh' tk hk=>?_⟩
 ·obtain⟨b,e,rfl⟩:=FQ i v (by simpa using hP)
  simp only[e,pz]at hQ
  exact wpAny_truthy_bool hQ
 ·have e:((aM its.toArray.size).all λi=>(bs[i]?).getD true)=bs.all id:=by
   rw[eC,<- hlen];exact cf2 bs
  rw[e]
  exact⟨.bl _,H,I.kept (h':=h') (t':=tk) (Rl hk),rfl,q⟩
end
noncomputable def nB(X:Cx):List (Str × Addr)->Prop
 | []=>True
 | (y,c)::r=>X.env.cells.lookup y=some c/\nB X r
theorem nB.all{X:Cx}:∀{cl:List (Str × Addr)},nB X cl->∀y c,cl.lookup y=some c->X.env.cells.lookup y=some c
 | [],_,y,c,h=>by simp at h
 | (z,d)::r,h,y,c,e=>by
  rw[gD]at e
  cases q:y==z with
  | true =>
   rw[q]at e
   cases e
   rw[eq_of_beq q]
   exact h.1
  | false =>
   rw[q]at e
   exact nB.all h.2 y c e
noncomputable def nC(cl:List (Str × Addr)):List (Str × NameKind)->Prop
 | []=>True
 | (y,k)::r=>(k=.local\/k=.globalImplicit\/∃c,cl.lookup y=some c)/\nC cl r
theorem nC.all{cl:List (Str × Addr)}:∀{ns:List (Str × NameKind)},nC cl ns->∀y,(ns.lookup y=some .cell\/ns.lookup y=some .free)->∃c,cl.lookup y=some c
 | [],_,y,h=>by simp at h
 | (z,k)::r,h,y,e=>by
  rw[gD]at e
  cases q:y==z with
  | true =>
   rw[q]at e
   rw[eq_of_beq q]
   rcases h.1 with g | g | g
   ·rw[g]at e;rcases e with e | e<;>cases e
   ·rw[g]at e;rcases e with e | e<;>cases e
   ·exact g
  | false =>
   rw[q]at e
   exact nC.all h.2 y e
section
variable{X:Cx}{elt iter:Expr}{x:Str}{px pos:Pos}{ifs:List Expr}{scope:Scope}{cl:List (Str × Addr)}{wi:TI}{tt:TT}{te:TE}
end
end L2
namespace L2
open PySem PySem.Spec PyProof.Rows Mf
end L2
namespace L2
end L2
namespace L2
open PySem PySem.Spec PyProof.Rows
noncomputable def ig(aD:List (Str × Nat))(n:Nat)(σ:L2.St):St:=(aD.map λp=>(σ[p.2]?).getD none)++br n none
noncomputable def Rm(J:It)(aD:List (Str × Nat))(n:Nat)(g:TG)(tt:TT)(te:TE)(σ:L2.St)(H1:Hp)(Q:VK):Prop:=∀D,H1 D=none->∃W:Nat->Nat->List V->Hp->Prop,(∃m,W 0 m [] (upd H1 D (.lst []))) /\
 ∀i m acc H2,W i m acc H2->H2 D=some (.lst acc)/\((J.stop i H2/\Q (.ref D) H2)\/(J.go i H2/\∀x H3,J.j7 i H2 x H3->H3 D=some (.lst acc)/\g x (ig aD n σ) H3 λgX H4 =>
  (gX.length=(ig aD n σ).length/\∀j,j<aD.length->gX[j]?=(ig aD n σ)[j]?)/\tt gX H4 λb H5=>H5 D=some (.lst acc) /\
  if b=true then te gX H5 λy H6=>H6 D=some (.lst acc)/\acc.length<sizeLine/\∃m',m'<m/\W (i+1) m' (acc++[y]) (upd H6 D (.lst (acc++[y])))else ∃m',m'<m/\W (i+1) m' acc H5))
noncomputable def BB(wi:TI)(aD:List (Str × Nat))(n:Nat)(g:TG)(tt:TT)(te:TE):TE:=λσ H Q=>wi σ H λJ H1=>Rm J aD n g tt te σ H1 Q
section
variable{X:Cx}{elt iter tg:Expr}{pos:Pos}{ifs:List Expr}{scope:Scope}{cl:List (Str × Addr)}{wi:TI}{tt:TT}{te:TE}{g:TG}
end
end L2
namespace L2
open PySem PySem.Spec PyProof.Rows
section
variable{X:Cx}{tg:Expr}
end
end L2
namespace L2
open PySem PySem.Spec PyProof.Rows
noncomputable def FR(h:Heap)(a T:Addr)(cls fl:Value):Prop :=
 ∃oe vs oT ts,h.get? a=some oe/\oe.cls=cls/\oe.dict=none/\oe.data=.fields vs/\vs[1]?=some (.ref T)/\T≠a/\h.get? T=some oT/\oT.data=.fields ts/\ts[3]?=some fl
noncomputable abbrev tf(h:Heap)(a T:Addr)(cls:Value):Prop:=FR h a T cls .none
theorem bw3(o:Obj)(f:Array Value->Array Value):(o.mapFields f).dict=o.dict:=by
 obtain⟨c,d,dt,sl⟩:=o
 cases dt<;>rfl
section
variable{M:Model}{A:Around}{E:Value->Shared->Prop}{s:Shared}{base:Heap}{env:Env}{outer:List Env}{L a T:Addr}{cls:Value}{oe:Obj}{vs:Array Value}{Q:Unit->Shared->Prop}
structure Ent(fs:List Addr)(h h':Heap)(a T:Addr)(oe:Obj)(L:Addr):Prop where
 new:h.get? T=none
 ne:T≠a
 keep:∀b o,b≠a->b ∉ fs->h.get? b=some o->h'.get? b=some o
 slot:∀b o,b≠a->h.get? b=some o->∃sl,h'.get? b=some { o with slots:=sl }
 exc:h'.get? a=some (oe.mapFields λz=>z.setIfInBounds 1 (.ref T))
 ent:∃oT ts,h'.get? T=some oT/\oT.data=.fields ts/\ts[3]?=some (rawInt L)
theorem Rn{head:Value}{c79:Bool}(eP:A.frames=some (env::outer))(hl:s.heap.FunFrames base (env::outer))(hf:env.frame=some L)(he:s.heap.get? a=some oe)(hd:oe.data=.fields vs)(lX:1<vs.size)
  (na:a ∉ (env::outer).filterMap (·.frame)) (k:∀h' T',Ent ((env::outer).filterMap (·.frame)) s.heap h' a T' oe L->Q () { s with heap:=h' }) :
  wpAny M A (do let x<-frameOf env;let pl<-entryPlaceOf L c79;let b<-EntryCells.newEntry head x .none (rawInt L) .none pl;setField (.ref a) 1 b) Q E s:=by
 refine wpAny_bind (wpAny_frameOf_fun eP hl hf λg1 so=>wpAny_bind (wpAny_entryPlaceOf λpl ip=>?_))
 unfold EntryCells.newEntry newFields
 have e1:g1.get? a=some oe:=(so.2.1 a na).trans he
 refine wpAny_bind (wpAny_newObj_type ?_ (ip.sizeOk5 _ _ _ _ _))
 generalize Ro:({ cls:=.type "traceback",dict:=none,data:=.fields ([head,fC L,.none,rawInt L,.none]++(if pl.isEmpty then br 6 sr else pl)).toArray }:Obj)=te
 have e2:(g1.push te).get? a=some oe:=fj te e1
 have hda:te.data=.fields ([head,fC L,.none,rawInt L,.none]++(if pl.isEmpty then br 6 sr else pl)).toArray:=by rw[<-Ro]
 have nf:te.isFreed=false:=by rw[<-Ro];rfl
 refine wpAny_setField e2 hd lX ?_
 have d3:=Ez hd λz=>z.setIfInBounds 1 (fC g1.objs.size)
 have nT:g1.objs.size≠a:=Pg (bX e1)
 refine k _ g1.objs.size ⟨?_,nT,λb o hb hz q=>?_,λb o hb q=>?_,El _ e2 (Pq d3),⟨te,_,?_,hda,?_⟩⟩
 ·cases q:s.heap.get? g1.objs.size with
  | none=>rfl
  | some o=>obtain⟨sl,z⟩:=so.2.2 _ _ q;exact absurd (bX z) (fV _)
 ·rw[sE _ _ (eK hb)]
  exact fj te ((so.2.1 b hz).trans q)
 ·obtain⟨sl,z⟩:=so.2.2 b o q
  refine⟨sl,?_⟩
  rw[sE _ _ (eK hb)]
  exact fj te z
 ·rw[sE _ _ (eK nT)]
  exact hW g1 nf
 ·first | (simp;done) | (rcases ip with rfl | ⟨_,_,_,_,_,_,_,rfl⟩<;>simp)
structure Rp(fs Z:List Addr)(h h':Heap)(a T:Addr)(cls:Value):Prop where
 new:h.get? T=none
 keep:∀b o,b ∉ Z->b ∉ fs->h.get? b=some o->h'.get? b=some o
 slot:∀b o,b ∉ Z->h.get? b=some o->∃sl,h'.get? b=some { o with slots:=sl }
 yZ:tf h' a T cls
theorem Rq{fl:Value}(tr:FR s.heap a T cls fl)(k:∀h',(∀b o,b≠T->s.heap.get? b=some o->h'.get? b=some o)->tf h' a T cls->Q () { s with heap:=h' }):wpAny M A (setFlight (.ref a) none) Q E s:=by
 obtain⟨oe,vs,oT,ts,h1,h2,h3,h4,h5,h6,h7,h8,h9⟩:=tr
 have sz:3<ts.size:=(Pr.mp h9).1
 unfold setFlight
 refine wpAny_bind (wpAny_field h1 h4 h5 ?_)
 rw[if_pos (by simp)]
 refine wpAny_setField h7 h8 sz (k _ (λb o hb q=>(sE _ _ (eK hb)).trans q) ?_)
 have d:=Ez h8 λz=>z.setIfInBounds 3 ((none:Option Addr).elim sr λf=>rawInt f)
 exact⟨oe,vs,_,_,(sE _ _ h6).trans h1,h2,h3,h4,h5,h6,El _ h7 (Pq d),d,by simp[sz]⟩
theorem Ent.fin{fs:List Addr}{h h':Heap}{a T L:Addr}{oe:Obj}{vs:Array Value}(e:Ent fs h h' a T oe L)(hd:oe.data=.fields vs)(lX:1<vs.size)(hdi:oe.dict=none):FR h' a T oe.cls (rawInt L):=by
 obtain⟨oT,ts,e1,e2,e3⟩:=e.ent
 exact⟨_,_,oT,ts,e.exc,Obj.cls_mapFields _ _,by rw[bw3];exact hdi,Ez hd _,by simp[lX],e.ne,e1,e2,e3⟩
theorem bJ2(eP:A.frames=some (env::outer))(hl:s.heap.FunFrames base (env::outer))(hf:env.frame=some L)(na:a ∉ (env::outer).filterMap (·.frame))(tr:tf s.heap a T cls)
  (k:∀h' T',Rp ((env::outer).filterMap (·.frame)) [a,T] s.heap h' a T' cls->Q () { s with heap:=h' }):wpAny M A (noteFrame (.ref a) env) (λ_ kF=>wpAny M A (setFlight (.ref a) none) Q E kF) E s:=by
 obtain⟨oe,vs,oT,ts,h1,h2,h3,h4,h5,h6,h7,h8,h9⟩:=tr
 have s1:1<vs.size:=(Pr.mp h5).1
 have s3:3<ts.size:=(Pr.mp h9).1
 unfold noteFrame
 simp only[hf]
 refine wpAny_bind (wpAny_field h1 h4 h5 ?_)
 rw[if_pos (by simp)]
 refine wpAny_bind (wpAny_field h7 h8 h9 ?_)
 rw[if_neg (by simp[rawInt])]
 refine wpAny_bind (wpAny_setField h7 h8 s3 ?_)
 generalize hg:s.heap.update T (Obj.mapFields λz=>z.setIfInBounds 3 sr)=g
 have tu:∀b,b≠T->g.get? b=s.heap.get? b:=λb hb=>by rw[<-hg];exact sE _ _ (eK hb)
 have bT:∀b o,s.heap.get? b=some o->(∀ws,o.data≠.fields ws)->b≠T:=λb o q hn z=>by subst z;rw[h7]at q;cases q;exact hn ts h8
 have gT:∃oT',g.get? T=some oT':=⟨_,by rw[<-hg];exact El _ h7 (Pq (Ez h8 _))⟩
 refine Rn (s:={ s with heap:=g }) eP (hl.of_keeps λb o q hn=>⟨o,(tu b (bT b o q hn)).trans q,rfl⟩) hf ((tu a (eK h6)).trans h1) h4 s1 na λh' T' en=>?_
 have nT':T'≠T:=λz=>by subst z;obtain⟨o,q⟩:=gT;rw[en.new]at q;cases q
 refine Rq (s:={ s with heap:=h' }) (h2 ▸ en.fin h4 s1 h3) λFT kp FU=>?_
 refine k FT T' ⟨(tu T' nT').symm.trans en.new,λb o hz hb q=>?_,λb o hz q=>?_,FU⟩
 ·have z1:b≠a:=λz=>hz (by simp[z])
  have z2:b≠T:=λz=>hz (by simp[z])
  have z3:b≠T':=λz=>by have:=en.new;rw[<-z,tu b z2,q]at this;cases this
  exact kp b o z3 (en.keep b o z1 hb ((tu b z2).trans q))
 ·have z1:b≠a:=λz=>hz (by simp[z])
  have z2:b≠T:=λz=>hz (by simp[z])
  have z3:b≠T':=λz=>by have:=en.new;rw[<-z,tu b z2,q]at this;cases this
  obtain⟨sl,r⟩:=en.slot b o z1 ((tu b z2).trans q)
  exact⟨sl,kp b _ z3 r⟩
theorem bI4{h1:Heap}{args:List Value}(eP:A.frames=some (env::outer))(hl:s.heap.FunFrames base (env::outer))(hf:env.frame=some L)(hx:Pt s.heap h1 a cls args)
  (k:∀h' T',Rp ((env::outer).filterMap (·.frame)) [] s.heap h' a T' cls->Q () { s with heap:=h' }):wpAny M A (noteFrame (.ref a) env) (λ_ kF=>wpAny M A (setFlight (.ref a) none) Q E kF) E { s with heap:=h1 }:=by
 obtain⟨t,e1,_,_⟩:=hx.there
 have na:a ∉ (env::outer).filterMap (·.frame):=λhb=>by obtain⟨_,o,ho,_⟩:=hl.mem hb;rw[hx.new]at ho;cases ho
 unfold noteFrame
 simp only[hf]
 refine wpAny_bind (wpAny_field (s:={ s with heap:=h1 }) e1 rfl (x:=.none) (by rfl) ?_)
 rw[if_neg (by decide)]
 refine Rn (s:={ s with heap:=h1 }) eP (hl.of_keeps λb o q _=>⟨o,hx.keeps b o q,rfl⟩) hf e1 rfl (by simp) na λh' T' en=>?_
 refine Rq (s:={ s with heap:=h' }) (en.fin rfl (by simp) rfl) λFT kp FU=>?_
 have ba:∀b o,s.heap.get? b=some o->b≠a:=λb o q z=>by rw[z,hx.new]at q;cases q
 have bT:∀b o,s.heap.get? b=some o->b≠T':=λb o q z=>by have:=hx.keeps b o q;rw[z,en.new]at this;cases this
 refine k FT T' ⟨?_,λb o _ hb q=>kp b o (bT b o q) (en.keep b o (ba b o q) hb (hx.keeps b o q)),λb o _ q=>?_,FU⟩
 ·cases q:s.heap.get? T' with
  | none=>rfl
  | some o=>exact absurd rfl (bT T' o q)
 ·obtain⟨sl,r⟩:=en.slot b o (ba b o q) (hx.keeps b o q)
  exact⟨sl,kp b _ (bT b o q) r⟩
end
end L2
namespace L2
open PySem PySem.Spec PyProof.Rows
theorem dR.there{P:Program}{w:World}{H:Hp}{h:Heap}{a:Addr}{o:HO}(x:dR P w H h a o):∃u,h.get? a=some u:=by
 cases o with
 | lst xs=>obtain⟨_,_,_,_,e⟩:=x;exact⟨_,e⟩
 | tup xs=>obtain⟨_,_,_,o,e,_⟩:=x;exact⟨o,e⟩
 | dK dD=>obtain⟨_,_,_,_,o,_,_,e,_⟩:=x;exact⟨_,e⟩
 | dT dD=>obtain⟨_,_,_,_,o,_,_,e,_⟩:=x;exact⟨_,e⟩
 | set S n=>obtain⟨o,_,_,_,e,_⟩:=x;exact⟨_,e⟩
 | ins C dx fs=>obtain⟨_,_,_,e,_⟩:=x;exact⟨_,e⟩
 | own y=>exact x
 | xd fs=>obtain⟨_,⟨_,_,_,e,_⟩,_⟩:=x;exact⟨_,e⟩
 | yy lo hi=>obtain⟨_,_,_,e⟩:=x;exact⟨_,e⟩
 | cq ob u=>obtain⟨e,_⟩:=x;exact⟨_,e⟩
 | dw ps=>exact⟨_,show h.get? a=some _ from x.1⟩
 | met f y=>exact⟨_,show h.get? a=some _ from x⟩
 | ext φ=>obtain⟨_,e,_⟩:=x;exact e
theorem cT.none{P:Program}{w:World}{H:Hp}{h:Heap}{a:Addr}(x:cT P w H h)(e:h.get? a=.none):H a=.none:=by
 cases q:H a with
 | none=>rfl
 | some u=>obtain⟨o,z⟩:=(x a u q).there;rw[e]at z;cases z
structure Apart(X:Cx)(pins:List (Addr × Obj))(H:Hp)(b:Addr):Prop where
 old:X.cL.heap.get? b=none
 free:H b=none
 loc:b≠X.env.locals
 cell:∀x c,X.env.cells.lookup x=some c->c≠b
 pin:∀p∈X.pn++pins,p.1≠b
 fr:b ∉ dE X.stack
section
variable{X:Cx}{pins:List (Addr × Obj)}{σ:St}{H H':Hp}{s:Shared}{a T b:Addr}{cls:Value}{M:Model}{Q:Unit->Shared->Prop}{E:Value->Shared->Prop}{h':Heap}
theorem bJ0(I:Inv X pins σ H s)(hb:b∈dE X.stack):∃o,s.heap.get? b=some o/\∀vs,o.data≠.fields vs:=(I.stack.mem hb).2
theorem Inv.old(I:Inv X pins σ H s)(hex:X.ex=[])(e:s.heap.get? b=none):X.cL.heap.get? b=none:=by
 cases q:X.cL.heap.get? b with
 | none=>rfl
 | some o=>obtain⟨o',z⟩:=I.base.there b o q (by rw[hex];simp);rw[e]at z;cases z
theorem Inv.apart(I:Inv X pins σ H s)(hex:X.ex=[])(e:s.heap.get? b=none)(n:H' b=none):Apart X pins H' b where
 old:=I.old hex e
 free:=n
 loc:=λz=>by obtain⟨m,⟨o,_,_,ho,_⟩,_⟩:=I.loc;rw[z,ho]at e;cases e
 cell:=λx c hc z=>by obtain⟨v,o,ho,_⟩:=I.cell x c hc;rw[z,e]at ho;cases ho
 pin:=λp hp z=>by have:=(I.pin p hp).1;rw[z,e]at this;cases this
 fr:=λhb=>by obtain⟨o,ho,_⟩:=bJ0 I hb;rw[e]at ho;cases ho
theorem Rt(I:Inv X pins σ H s)(dm:X.stack=X.env::X.outer)(hex:X.ex=[])(hf:X.env.frame=some X.env.locals)(Z:List Addr)(hZ:∀b∈Z,X.cL.heap.get? b=none/\H b=none)
  (keep:∀b o,b ∉ Z->b ∉ dE X.stack->s.heap.get? b=some o->h'.get? b=some o) (slots:∀b o,b ∉ Z->s.heap.get? b=some o->∃sl,h'.get? b=some { o with slots:=sl }) :
  Un (dE X.outer) [] X.kB H X.cL.heap h'/\cT X.prog X.w H h':=by
 have tw:∀b o,X.cL.heap.get? b=some o->b ∉ Z:=λb o e z=>by rw[(hZ b z).1]at e;cases e
 have sub:∀b,b∈dE X.stack->b=X.env.locals\/b∈dE X.outer:=λb hb=>by
  rw[dm]at hb
  unfold dE at hb
  rw[uP,hf]at hb
  exact cA.mp hb
 have sup:∀b,b∈dE X.outer->b∈dE X.stack:=λb hb=>by
  rw[dm]
  unfold dE
  rw[uP,hf]
  exact eJ _ hb
 have vj:∀b o,X.cL.heap.get? b=some o->b≠X.env.locals:=λb o e=>eI (cS (bX e) I.ok.above)
 have nx:∀b:Addr,b ∉ X.ex:=λb=>by rw[hex];simp
 refine⟨⟨λb o e n hb _=>?_,λb o e n hb _=>?_,λb o e n _=>I.base.free b o e n (nx b),λb o e _=>?_,I.base.gW,I.base.gE,I.base.fO⟩,λb ob e=>?_⟩
 ·exact keep b o (tw b o e) (λz=>(sub b z).elim (vj b o e) hb) (I.base.keep b o e n hb (nx b))
 ·obtain⟨sl,e1⟩:=I.base.slot b o e n hb (nx b)
  exact(slots b _ (tw b o e) e1).imp λsl h=>h
 ·obtain⟨o',e1⟩:=I.base.there b o e (nx b)
  exact(slots b o' (tw b o e) e1).elim λsl q=>⟨_,q⟩
 ·refine(I.aH b ob e).j6 (λc u hc q=>keep c u (λz=>?_) (λz=>?_) q) (λ_ q=>q) (λ_ _ q=>q) λ_ _ q=>q
  ·have n:=(hZ c z).2
   rcases hc with rfl | hc
   ·rw[n]at e;cases e
   ·rw[n]at hc;cases hc
  ·have n:=I.Bd c z
   rcases hc with rfl | hc
   ·rw[n]at e;cases e
   ·rw[n]at hc;cases hc
structure Ru(X:Cx)(H:Hp)(h':Heap)(a T:Addr)(cls:Value):Prop where
 un:Un (dE X.outer) [] X.kB H X.cL.heap h'
 aH:cT X.prog X.w H h'
 yZ:tf h' a T cls
 a0:X.cL.heap.get? a=none
 a1:H a=none
 t0:X.cL.heap.get? T=none
 t1:H T=none
theorem bT2(I:Inv X pins σ H s)(dm:X.stack=X.env::X.outer)(hex:X.ex=[])(hf:X.env.frame=some X.env.locals)(tr:tf s.heap a T cls)(pa:Apart X pins H a)(pT:Apart X pins H T)
  (hQ:∀h' T',Ru X H h' a T' cls->Q () { s with heap:=h' }):wpAny M X.A (leaving X.env (.ref a)) Q E s:=by
 have hZ:∀b∈[a,T],X.cL.heap.get? b=none/\H b=none:=λb hb=>by
  rcases cA.mp hb with rfl | hb
  ·exact⟨pa.old,pa.free⟩
  ·rw[e5.mp hb];exact⟨pT.old,pT.free⟩
 have na:a ∉ (X.env::X.outer).filterMap (·.frame):=by have:=pa.fr;rw[dm]at this;exact this
 refine wpAny_bind (bJ2 (base:=X.base) (by rw[I.ok.frames,dm]) (dm ▸ I.stack) hf na tr λh' T' st=>?_)
 have kp:∀b o,b ∉ [a,T]->b ∉ dE X.stack->s.heap.get? b=some o->h'.get? b=some o:=λb o hz hb q=>st.keep b o hz (by rw[dm]at hb;exact hb) q
 obtain⟨un,aH⟩:=Rt (h':=h') I dm hex hf [a,T] hZ kp st.slot
 exact hQ h' T' ⟨un,aH,st.yZ,pa.old,pa.free,I.old hex st.new,I.aH.none st.new⟩
theorem b05{h1:Heap}{args:List Value}(I:Inv X pins σ H s)(dm:X.stack=X.env::X.outer)(hex:X.ex=[])(hf:X.env.frame=some X.env.locals)(hx:Pt s.heap h1 a cls args)
  (hQ:∀h' T',Ru X H h' a T' cls->Q () { s with heap:=h' }):wpAny M X.A (leaving X.env (.ref a)) Q E { s with heap:=h1 }:=by
 refine wpAny_bind (bI4 (base:=X.base) (by rw[I.ok.frames,dm]) (dm ▸ I.stack) hf hx λh' T' st=>?_)
 have kp:∀b o,b ∉ ([]:List Addr)->b ∉ dE X.stack->s.heap.get? b=some o->h'.get? b=some o:=λb o hz hb q=>st.keep b o hz (by rw[dm]at hb;exact hb) q
 obtain⟨un,aH⟩:=Rt (h':=h') I dm hex hf [] (λb hb=>absurd hb (by simp)) kp st.slot
 exact hQ h' T' ⟨un,aH,st.yZ,I.old hex hx.new,I.aH.none hx.new,I.old hex st.new,I.aH.none st.new⟩
end
noncomputable def nD(P:Program)(w:World):e7:=λouter H s E e s'=>∃a T cls H',e=.ref a/\s'.os=s.os/\AllBare s'.gens/\Un (dE outer) [] H H' s.heap s'.heap/\cT P w H' s'.heap/\tf s'.heap a T cls /\
 s.heap.get? a=none/\H' a=none/\s.heap.get? T=none/\H' T=none/\E cls none H'
section
variable{X:Cx}{pins:List (Addr × Obj)}{σ:St}{H H':Hp}{s:Shared}{a T b:Addr}{cls:Value}{M:Model}{Q:Unit->Shared->Prop}{E:Value->Shared->Prop}{h':Heap}
theorem Inv.eQ4(I:Inv X pins σ H s)(hex:X.ex=[])(Z:List Addr)(hZ:∀b∈Z,Apart X pins H b)
  (keep:∀b o,b ∉ Z->b ∉ dE X.stack->s.heap.get? b=some o->h'.get? b=some o) (slots:∀b o,b ∉ Z->s.heap.get? b=some o->∃sl,h'.get? b=some { o with slots:=sl }) (g':Array GenState) (t':Nat) (d':Drawn) (hg:AllBare g') :
  Inv X pins σ H { s with heap:=h',gens:=g',toks:=t',drawn:=d' }:=by
 have nx:∀b:Addr,b ∉ X.ex:=λb=>by rw[hex];simp
 have any:=slots
 have tw:∀b o,X.cL.heap.get? b=some o->b ∉ Z:=λb o e z=>by rw[(hZ b z).old]at e;cases e
 have vj:∀b o,X.cL.heap.get? b=some o->b≠X.env.locals:=λb o e=>eI (cS (bX e) I.ok.above)
 have cz:∀x c,X.env.cells.lookup x=some c->c ∉ Z:=λx c e z=>(hZ c z).cell x c e rfl
 have cellK:∀x c,X.env.cells.lookup x=some c->∀v,s.heap.IsCell c v->h'.IsCell c v:=λx c e v zz=>by
  obtain⟨o,ho,hd⟩:=zz
  obtain⟨sl,q⟩:=any c o (cz x c e) ho
  exact⟨_,q,hd⟩
 have Rv:∀b,b ∉ X.fs->b≠X.env.locals->b ∉ dE X.stack:=λb h1 h2 h3=>(cA.mp (I.yC b h3)).elim h2 h1
 refine⟨I.ok,I.os,hg,⟨λb o e n hb hx=>?_,λb o e n hb hx=>?_,I.base.free,λb o e hx=>?_,I.base.gW,I.base.gE,I.base.fO⟩,?_,λx c e=>?_,I.free,I.je,λp hp=>?_,λb ob e=>?_,I.len⟩
 ·exact keep b o (tw b o e) (Rv b hb (vj b o e)) (I.base.keep b o e n hb hx)
 ·obtain⟨sl,e1⟩:=I.base.slot b o e n hb hx
  obtain⟨sQ,e2⟩:=any b _ (tw b o e) e1
  exact⟨sQ,e2⟩
 ·obtain⟨o',e1⟩:=I.base.there b o e hx
  obtain⟨sl,e2⟩:=any b o' (tw b o e) e1
  exact⟨_,e2⟩
 ·obtain⟨m,hn,hl⟩:=I.loc
  obtain⟨o,es,ep,ho,hd,r⟩:=id hn
  obtain⟨sl,q⟩:=slots _ o (λz=>(hZ _ z).loc rfl) ho
  refine⟨m,⟨_,es,ep,q,hd,r⟩,λi x v e1 e2 e3=>?_⟩
  obtain⟨u,r,l⟩:=hl i x v e1 e2 e3
  refine⟨u,r,?_⟩
  rcases l with l | ⟨k,c,e,z⟩
  ·exact .inl l
  ·exact .inr ⟨k,c,e,cellK x c e _ z⟩
 ·obtain⟨v,z⟩:=I.cell x c e
  exact⟨v,cellK x c e v z⟩
 ·obtain⟨e,n,ne,nf,d⟩:=I.pin p hp
  exact⟨keep p.1 p.2 (λz=>(hZ _ z).pin p hp rfl) (Rv _ nf ne) e,n,ne,nf,d⟩
 ·refine(I.aH b ob e).j6 (λc u hc q=>keep c u (λz=>?_) (λz=>?_) q) (λ_ q=>q) (λ_ _ q=>q) λ_ _ q=>q
  ·have n:=(hZ c z).free
   rcases hc with rfl | hc
   ·rw[n]at e;cases e
   ·rw[n]at hc;cases hc
  ·have n:=I.Bd c z
   rcases hc with rfl | hc
   ·rw[n]at e;cases e
   ·rw[n]at hc;cases hc
end
end L2
namespace L2
open PySem PySem.W PySem.Spec PySem.Calls PyProof.Rows
section
variable{prog:Program}{w:World}{A:Around}{E:Value->Shared->Prop}{s:Shared}{K:Frag}{x D:Addr}{ox:Obj}{odo:Option Obj}
end
end L2
namespace L2
open PySem PySem.W PySem.Spec PySem.Calls PyProof.Rows
section
variable{prog:Program}{w:World}{A:Around}{E:Value->Shared->Prop}{s:Shared}{K:Frag}{x D:Addr}{ox:Obj}{odo:Option Obj}
structure c90(K:Frag)(C:Addr):Prop where
 cls:(clsIn K C).isSome=true
 ga:findIn K (.ref C) "__getattribute__"=some (some (.builtin "BaseException.__getattribute__"))
 gt:findIn K (.ref C) "__getattr__"=some none
 ca:findIn K (.ref C) "__class__"=some (some (.builtin "object.__class__"))
 hn:specialIn K (.builtin "object.__class__") "__get__"=some (some (.builtin "getset_descriptor.__get__"))
 tk:takesIn K (.builtin "object.__class__")=some true
 mo:mroIn K C (.type "object")=some true
 mb:mroIn K C (.type "BaseException")=some true
noncomputable def XAt(a C:Addr)(h:Heap):Prop:=∃o,h.get? a=some o/\o.cls=.ref C/\notCls o=true/\o.dict=none
end
end L2
namespace L2
open PySem PySem.Spec PyProof.Rows
section
variable{X:Cx}{pins:List (Addr × Obj)}{σ:St}{H:Hp}{s:Shared}{h':Heap}{its:List Addr}{T:Addr}{o:HO}{t':Nat}
theorem Inv.BC(I:Inv X pins σ H s)(k:∀b o,b ∉ its->s.heap.get? b=some o->h'.get? b=some o)(hf:∀b∈its,jg X pins H b):Inv X pins σ H { s with heap:=h',toks:=t' }:=by
 have pP:∀b u,H b=some u->b ∉ its:=λb u e z=>by have:=(hf b z).1;rw[this]at e;cases e
 refine I.step (g':=s.gens) (d':=s.drawn) (ch:=its) (λb hb=>?_) (λb o _ _ hc e _=>k b o hc e) (λb o _ _ hc e _=>⟨o.slots,k b o hc e⟩) (λ_ _ _ _ n=>n)
  (λb o hc e=>⟨o,k b o hc e⟩) (λ_ _ e=>e) (λ_ _ _ e=>e) (λb ps e=>⟨#[],by rw[e];simp⟩) (λm hm=>?_) (λb u e=>?_) I.bare
 ·obtain⟨_,h1,_,h2,h3,h4⟩:=hf b hb
  exact⟨h2,h1,h3,h4⟩
 ·obtain⟨o,es,ep,ho,r⟩:=hm
  exact⟨o,es,ep,k _ o (λz=>(hf _ z).2.1 rfl) ho,r⟩
 ·refine(I.aH b u e).j6 (λc v hc q=>k c v ?_ q) (λ_ q=>q) (λ_ _ q=>q) λ_ _ q=>q
  rcases hc with z | z
  ·rw[z];exact pP b u e
  ·exact pP c _ z
theorem Inv.Rw(I:Inv X pins σ H s)(k:∀b o,b ∉ its->s.heap.get? b=some o->h'.get? b=some o)(hf:∀b∈its,jg X pins H b)(hT:s.heap.objs.size<=T)(new:dR X.prog X.w (upd H T o) h' T o) :
  Inv X pins σ (upd H T o) { s with heap:=h',toks:=t' }:=by
 have pP:∀b u,H b=some u->b ∉ its:=λb u e z=>by have:=(hf b z).1;rw[this]at e;cases e
 have fT:H T=none:=I.aH.fresh hT
 have neT:∀b u,H b=some u->b≠T:=λb u e z=>by rw[z,fT]at e;cases e
 have neS:∀b u,s.heap.get? b=some u->b≠T:=λb u e z=>absurd (cS (bX e) hT) (by rw[z];exact fV _)
 refine I.step (g':=s.gens) (d':=s.drawn) (ch:=its) (λb hb=>?_) (λb o _ _ hc e _=>k b o hc e) (λb o _ _ hc e _=>⟨o.slots,k b o hc e⟩) (λb u _ e n=>by rw[bb (neS b u e)];exact n)
  (λb o hc e=>⟨o,k b o hc e⟩) (λb _ e=>by rw[bb (neT b _ e)];exact e) (λb _ _ e=>by rw[bb (neT b _ e)];exact e) (λb ps e=>⟨#[],by rw[bb (neT b _ e),e];simp⟩) (λm hm=>?_) (λb u e=>?_) I.bare
 ·obtain⟨_,h1,_,h2,h3,h4⟩:=hf b hb
  exact⟨h2,h1,h3,h4⟩
 ·obtain⟨o,es,ep,ho,r⟩:=hm
  exact⟨o,es,ep,k _ o (λz=>(hf _ z).2.1 rfl) ho,r⟩
 ·by_cases hb:b=T
  ·subst hb;rw[cB]at e;cases e;exact new
  ·rw[bb hb]at e
   refine(I.aH b u e).j6 (λc v hc q=>k c v ?_ q) (λc q=>by rw[bb (neT c _ q)];exact q) (λc _ q=>by rw[bb (neT c _ q)];exact q) λc _ q=>by rw[bb (neT c _ q)];exact q
   rcases hc with z | z
   ·rw[z];exact pP b u e
   ·exact pP c _ z
noncomputable def FV(K:PySem.W.Frag)(a b:Addr):It :=
 ⟨λi H=>∃xs ys x y,bJ K H a xs/\bJ K H b ys/\xs[i]?=some x/\ys[i]?=some y,
  λi H v H'=>∃T x y,v=.ref T/\H T=none/\H'=upd H T (.tup [x,y])/\(∀xs,bJ K H a xs->xs[i]?=some x)/\∀ys,bJ K H b ys->ys[i]?=some y,
  λi H=>∃xs ys,bJ K H a xs/\bJ K H b ys/\(xs.length<=i\/ys.length<=i)⟩
theorem p8{K:PySem.W.Frag}{a c:Addr}{xs:List V}(hk:X.K=K)(I:Inv X pins σ H s)(h:bJ K H a xs)(hf:jg X pins H c)(ho:∃o,s.heap.get? c=some o/\o.cls≠.type "list"):a≠c:=by
 subst hk
 obtain⟨its,rv,p,hz⟩:=I.list h
 obtain⟨o,e,d⟩:=ho
 obtain⟨o',e',c',_⟩:=p.isList
 intro z
 subst z
 rw[e]at e';cases e'
 exact d c'
theorem b85{P:Program}{w:World}{K:PySem.W.Frag}{elts:List Expr}{k:Nat}{pos:Pos}(a b z TI TO i1 i2:Addr)(D5:[z,TI,TO,i1,i2].Nodup) :
  Turn P w K (.Tuple elts k pos) (FV K a b) [z,TI,TO,i1,i2] z (λi h=>IsZip h z TI TO .none/\IsPair h TI (.ref i1) (.ref i2)/\(∃u v,IsPair h TO u v)/\h.IsListIter i1 a i/\h.IsListIter i2 b i):=by
 have ap:∀(X:Cx) (pins:List (Addr × Obj)) (s:Shared) (σ:St) (H:Hp) (i:Nat) (xs ys:List V),X.K=K->Inv X pins σ H s->(∀b∈[z,TI,TO,i1,i2],jg X pins H b)->IsZip s.heap z TI TO .none->(∃u v,IsPair s.heap TO u v)->s.heap.IsListIter i1 a i->s.heap.IsListIter i2 b i ->
   bJ K H a xs->bJ K H b ys->ZipApart z TI TO i1 i2 a b:=by
  intro X pins s σ H i xs ys hK I hf hz jl h1 h2 hx hy
  simp only[jy,cA,not_or,i8,not_false_eq_true,and_true]at D5
  obtain⟨⟨d1,d2,d3,d4⟩,⟨d5,d6,d7⟩,⟨d8,d9⟩,d10,_⟩:=D5
  have oz:∃o,s.heap.get? z=some o/\o.cls≠.type "list":=⟨_,hz,by intro q;exact absurd (EA q) (by decide)⟩
  have Rx:∃o,s.heap.get? TO=some o/\o.cls≠.type "list":=by obtain⟨u,v,e⟩:=jl;exact⟨_,e,by intro q;exact absurd (EA q) (by decide)⟩
  have o1:∃o,s.heap.get? i1=some o/\o.cls≠.type "list":=by obtain⟨o,e,c,d⟩:=h1;exact⟨_,e,by rw[c];intro q;exact absurd (EA q) (by decide)⟩
  have o2:∃o,s.heap.get? i2=some o/\o.cls≠.type "list":=by obtain⟨o,e,c,d⟩:=h2;exact⟨_,e,by rw[c];intro q;exact absurd (EA q) (by decide)⟩
  exact⟨eK d1,eK d2,eK d3,eK d4,d5,d6,d7,d8,d9,d10,
   p8 hK I hx (hf z (by simp)) oz,p8 hK I hx (hf TO (by simp)) Rx,p8 hK I hx (hf i1 (by simp)) o1,p8 hK I hx (hf i2 (by simp)) o2,
   p8 hK I hy (hf z (by simp)) oz,p8 hK I hy (hf TO (by simp)) Rx,p8 hK I hy (hf i1 (by simp)) o1,p8 hK I hy (hf i2 (by simp)) o2⟩
 refine⟨by simp,λi h st c hc=>?_,λi h h' st kk=>?_,?_,?_,λ_ _ _ _ _ st h=>wpAny_pyIter_zip st.1 h⟩
 ·obtain⟨hz,kJ,⟨u,v,jl⟩,⟨o1,e1,c1,d1⟩,⟨o2,e2,c2,d2⟩⟩:=st
  simp only[cA,i8,or_false]at hc
  rcases hc with rfl | rfl | rfl | rfl | rfl
  ·exact⟨_,hz,λv q=>by cases q⟩
  ·exact⟨_,kJ,λv q=>by cases q⟩
  ·exact⟨_,jl,λv q=>by cases q⟩
  ·exact⟨_,e1,λv q=>by rw[d1]at q;cases q⟩
  ·exact⟨_,e2,λv q=>by rw[d2]at q;cases q⟩
 ·obtain⟨hz,kJ,⟨u,v,jl⟩,h1,h2⟩:=st
  exact⟨kk _ (by simp) _ hz,kk _ (by simp) _ kJ,⟨u,v,kk _ (by simp) _ jl⟩,h1.at λo e=>kk _ (by simp) o e,h2.at λo e=>kk _ (by simp) o e⟩
 ·intro X hP hw hK hc i pins s σ H E I hf st hg
  obtain⟨xs,ys,x,y,hx,hy,ex,ey⟩:=hg
  obtain⟨hz,kJ,⟨u,v,jl⟩,h1,h2⟩:=st
  have D:=ap X pins s σ H i xs ys hK I hf hz ⟨u,v,jl⟩ h1 h2 hx hy
  subst hP hw hK
  obtain⟨as,ra,pa,_⟩:=I.list hx
  obtain⟨bs,rb,pb,_⟩:=I.list hy
  obtain⟨ux,FW,rx⟩:=ra.get ex
  obtain⟨uy,euy,ry⟩:=rb.get ey
  refine wpAny_pyNext_zip_item D hz kJ jl h1 h2 pa.isList pb.isList (x:=ux) (y:=uy) (by simpa using FW) (by simpa using euy) λh' z' TO' kb jG T' sz kk=>?_
  have fT:H s.heap.objs.size=none:=I.aH.fresh (bP _)
  have I1:Inv X pins σ (upd H s.heap.objs.size (.tup [x,y])) { s with heap:=h',toks:=s.toks }:=I.Rw (its:=[z,TO,i1,i2]) (λc o hc e=>kk c o (λq=>hc (by simp[q])) (λq=>hc (by simp[q])) (λq=>hc (by simp[q])) (λq=>hc (by simp[q])) e)
   (λc hc=>hf c (by simp only[cA,i8,or_false]at hc ⊢;rcases hc with rfl | rfl | rfl | rfl<;>simp)) (bP _) ⟨by show 2<=sizeLine;decide,[ux,uy],.cons rx (.cons ry .nil),⟨_,T',rfl,_,rfl⟩⟩
  have nT:∀c∈[z,TI,TO,i1,i2],c≠s.heap.objs.size:=λc hc q=>by
   have:∃o,s.heap.get? c=some o:=by
    simp only[cA,i8,or_false]at hc
    rcases hc with rfl | rfl | rfl | rfl | rfl
    ·exact⟨_,hz⟩
    ·exact⟨_,kJ⟩
    ·exact⟨_,jl⟩
    ·obtain⟨o,e,_⟩:=h1;exact⟨o,e⟩
    ·obtain⟨o,e,_⟩:=h2;exact⟨o,e⟩
   obtain⟨o,e⟩:=this
   exact absurd (bX e) (by rw[q];exact fV _)
  refine⟨_,rfl,wpAny_letOwnedTupleGo_zip z' λFX FY sb=>?_⟩
  have FZ:∀c∈[z],jg X pins (upd H s.heap.objs.size (.tup [x,y])) c:=λc hc=>by
   have e:c=z:=by simpa using hc
   subst e
   obtain⟨f0,fr⟩:=hf c (by simp)
   exact⟨by rw[bb (nT c (by simp))];exact f0,fr⟩
  have I2:=Inv.BC (h':=FX) (its:=[z]) (t':=s.toks) I1 (λc o hc e=>sb.extBut _ _ (λq=>hc (by simp[q])) e) FZ
  refine⟨.ref s.heap.objs.size,_,I2,rfl,⟨_,x,y,rfl,fT,rfl,λxs' ff=>by rw[I.Bh ff hx];exact ex,λRy hy'=>by rw[I.Bh hy' hy];exact ey⟩,⟨FY,sb.extBut _ _ D.TIz (kk _ _ D.TIz D.TITO D.TIi1 D.TIi2 kJ),⟨ux,uy,sb.extBut _ _ D.TOz TO'⟩,kb.extBut sb.extBut D.i1z,jG.extBut sb.extBut D.i2z⟩,λc hc=>?_⟩
  rw[bb (nT c hc)]
  exact(hf c hc).1
 ·intro X hP hw hK hc i pins s σ H E I hf st hg
  obtain⟨xs,ys,hx,hy,hl⟩:=hg
  obtain⟨hz,kJ,⟨u,v,jl⟩,h1,h2⟩:=st
  have D:=ap X pins s σ H i xs ys hK I hf hz ⟨u,v,jl⟩ h1 h2 hx hy
  subst hP hw hK
  obtain⟨as,ra,pa,_⟩:=I.list hx
  obtain⟨bs,rb,pb,_⟩:=I.list hy
  have la:=ra.length
  have lb:=rb.length
  refine wpAny_pyNext_zip_end (I.ok.hd hc) D hz kJ jl h1 h2 pa.isList pb.isList (hl.imp (λq=>by simp;omega) λq=>by simp;omega) λh' kk=>⟨rfl,?_⟩
  exact I.BC (its:=[z,TO,i1,i2]) (t':=s.toks) (λc o hc e=>kk c o (λq=>hc (by simp[q])) (λq=>hc (by simp[q])) (λq=>hc (by simp[q])) (λq=>hc (by simp[q])) e)
   (λc hc=>hf c (by simp only[cA,i8,or_false]at hc ⊢;rcases hc with rfl | rfl | rfl | rfl<;>simp))
noncomputable def Ga(K:PySem.W.Frag)(a:Addr):It :=
 ⟨λi H=>∃xs x,bJ K H a xs/\xs[i]?=some x,
  λi H v H'=>∃T x,v=.ref T/\H T=none/\H'=upd H T (.tup [.int i,x])/\∀xs,bJ K H a xs->xs[i]?=some x,
  λi H=>∃xs,bJ K H a xs/\xs.length<=i⟩
theorem bZ6{P:Program}{w:World}{K:PySem.W.Frag}{elts:List Expr}{k:Nat}{pos:Pos}(a z it:Addr)(tD:z≠it) :
  Turn P w K (.Tuple elts k pos) (Ga K a) [z,it] z (λi h=>(∃old,IsEnum h z it i old)/\h.IsListIter it a i):=by
 refine⟨by simp,λi h st c hc=>?_,λi h h' st kk=>?_,?_,?_,λ_ _ _ _ _ st h=>by obtain⟨⟨old,e⟩,_⟩:=st;exact wpAny_pyIter_enum e h⟩
 ·obtain⟨⟨old,hz⟩,⟨o1,e1,c1,d1⟩⟩:=st
  simp only[cA,i8,or_false]at hc
  rcases hc with rfl | rfl
  ·exact⟨_,hz,λv q=>by cases q⟩
  ·exact⟨_,e1,λv q=>by rw[d1]at q;cases q⟩
 ·obtain⟨⟨old,hz⟩,h1⟩:=st
  exact⟨⟨old,kk _ (by simp) _ hz⟩,h1.at λo e=>kk _ (by simp) o e⟩
 ·intro X hP hw hK hc i pins s σ H E I hf st hg
  subst hP hw hK
  obtain⟨xs,x,hx,ex⟩:=hg
  obtain⟨⟨old,hz⟩,h1⟩:=st
  obtain⟨as,ra,pa,_⟩:=I.list hx
  obtain⟨ux,FW,rx⟩:=ra.get ex
  refine wpAny_pyNext_enum_item hz h1 pa.isList (x:=ux) (by simpa using FW) tD λh' z' kb T' sz kk=>?_
  have fT:H s.heap.objs.size=none:=I.aH.fresh (bP _)
  have I1:Inv X pins σ (upd H s.heap.objs.size (.tup [.int i,x])) { s with heap:=h',toks:=s.toks+1 }:=I.Rw (its:=[z,it]) (λc o hc e=>kk c o (λq=>hc (by simp[q])) (λq=>hc (by simp[q])) e)
   (λc hc=>hf c hc) (bP _) ⟨by show 2<=sizeLine;decide,[.int i s.toks,ux],.cons ⟨_,rfl⟩ (.cons rx .nil),⟨_,T',rfl,_,rfl⟩⟩
  have nT:∀c∈[z,it],c≠s.heap.objs.size:=λc hc q=>by
   have:∃o,s.heap.get? c=some o:=by
    simp only[cA,i8,or_false]at hc
    rcases hc with rfl | rfl
    ·exact⟨_,hz⟩
    ·obtain⟨o,e,_⟩:=h1;exact⟨o,e⟩
   obtain⟨o,e⟩:=this
   exact absurd (bX e) (by rw[q];exact fV _)
  refine⟨_,rfl,wpAny_letOwnedTupleGo_enum z' λFX FY sb=>?_⟩
  have FZ:∀c∈[z],jg X pins (upd H s.heap.objs.size (.tup [.int i,x])) c:=λc hc=>by
   have e:c=z:=by simpa using hc
   subst e
   obtain⟨f0,fr⟩:=hf c (by simp)
   exact⟨by rw[bb (nT c (by simp))];exact f0,fr⟩
  have I2:=Inv.BC (h':=FX) (its:=[z]) (t':=s.toks+1) I1 (λc o hc e=>sb.extBut _ _ (λq=>hc (by simp[q])) e) FZ
  refine⟨.ref s.heap.objs.size,_,I2,rfl,⟨_,x,rfl,fT,rfl,λxs' ff=>by rw[I.Bh ff hx];exact ex⟩,⟨⟨ux,by simpa using FY⟩,kb.extBut sb.extBut (eK tD)⟩,λc hc=>?_⟩
  rw[bb (nT c hc)]
  exact(hf c hc).1
 ·intro X hP hw hK hc i pins s σ H E I hf st hg
  subst hP hw hK
  obtain⟨xs,hx,hl⟩:=hg
  obtain⟨⟨old,hz⟩,h1⟩:=st
  obtain⟨as,ra,pa,_⟩:=I.list hx
  have la:=ra.length
  refine wpAny_pyNext_enum_end (I.ok.hd hc) hz h1 pa.isList (by simp;omega) λh' kk=>⟨rfl,?_⟩
  exact I.BC (its:=[it]) (t':=s.toks) (λc o hc e=>kk c o (λq=>hc (by simp[q])) e) (λc hc=>hf c (by simp at hc ⊢;simp[hc]))
end
section
variable{X:Cx}{a b:Expr}{ta:TA}{p pos pS:Pos}{elts:List Expr}{x1:Nat}
noncomputable def cN2(K:PySem.W.Frag)(ta:TA):TI:=λσ H R=>ta σ H λvs H1=>∃a b,vs=[.ref a,.ref b]/\(∃xs,bJ K H1 a xs)/\(∃ys,bJ K H1 b ys)/\R (FV K a b) H1
theorem b91:bootBuiltins "zip"=some (.type "zip"):=by decide +kernel
theorem Rz(hg:Gl X "zip")(hm:X.mg "zip"=none)(ha:PA X [a,b] ta)(hs:starEach [a,b] X.env=[(false,eval a X.env),(false,eval b X.env)]:=by rfl)(fG:starEach [b] X.env=[(false,eval b X.env)]:=by rfl) :
  PI X (.Tuple elts x1 pS) (.Call (.Name "zip" p) [a,b] [] pos) (cN2 X.K ta):=by
 intro pins s σ H R I h
 refine Call_ (m6 I hg hm b91 (uS (aO (ha pos pins s σ H _ I h) λus s1 ⟨vs,H1,I1,r1,q1⟩=>?_) (by rw[hs,fG]) (by rw[fG];rfl)))
 obtain⟨a,b,e,⟨xs,hx⟩,⟨ys,hy⟩,q⟩:=q1
 subst e
 cases r1 with
 | cons r rr =>
  cases rr with
  | cons r2 rr =>
   cases rr
   cases r
   cases r2
   obtain⟨as,ra,pa,_⟩:=I1.list hx
   obtain⟨bs,rb,pb,_⟩:=I1.list hy
   refine call_zip_2 pa.isList pb.isList λh' hz kJ jl h1 h2 sz kk=>wpAny_pyIter_zip hz ?_
   refine⟨_,[s1.heap.objs.size+4,s1.heap.objs.size+2,s1.heap.objs.size+3,s1.heap.objs.size,s1.heap.objs.size+1],_,_,H1,rfl,I1.kept (t':=s1.toks) kk,b85 a b _ _ _ _ _ (by simp),⟨hz,kJ,⟨_,_,jl⟩,h1,h2⟩,λc hc=>?_,q⟩
   have hle:s1.heap.objs.size<=c:=by
    simp only[cA,i8,or_false]at hc
    rcases hc with rfl | rfl | rfl | rfl | rfl<;>omega
   exact I1.Bl hle (I1.aH.fresh hle)
noncomputable def cJ1(K:PySem.W.Frag)(ta:TA):TI:=λσ H R=>ta σ H λvs H1=>∃a,vs=[.ref a]/\(∃xs,bJ K H1 a xs)/\R (Ga K a) H1
theorem bw5:bootBuiltins "enumerate"=some (.type "enumerate"):=by decide +kernel
theorem cv5(hg:Gl X "enumerate")(hm:X.mg "enumerate"=none)(ha:PA X [a] ta)(hs:starEach [a] X.env=[(false,eval a X.env)]:=by rfl) :
  PI X (.Tuple elts x1 pS) (.Call (.Name "enumerate" p) [a] [] pos) (cJ1 X.K ta):=by
 intro pins s σ H R I h
 refine Call_ (m6 I hg hm bw5 (uS (aO (ha pos pins s σ H _ I h) λus s1 ⟨vs,H1,I1,r1,q1⟩=>?_) hs rfl))
 obtain⟨a,e,⟨xs,hx⟩,q⟩:=q1
 subst e
 cases r1 with
 | cons r rr =>
  cases rr
  cases r
  obtain⟨as,ra,pa,_⟩:=I1.list hx
  refine call_enumerate_list pa.isList λh' hz h1 sz kk=>wpAny_pyIter_enum hz ?_
  refine⟨_,[s1.heap.objs.size+1,s1.heap.objs.size],_,_,H1,rfl,I1.kept (t':=s1.toks) kk,bZ6 a (s1.heap.objs.size+1) s1.heap.objs.size (Nat.succ_ne_self _),⟨⟨_,hz⟩,h1⟩,λc hc=>?_,q⟩
  have hle:s1.heap.objs.size<=c:=by
   simp only[cA,i8,or_false]at hc
   rcases hc with rfl | rfl<;>omega
  exact I1.Bl hle (I1.aH.fresh hle)
end
end L2
namespace L2
open PySem PySem.Spec PyProof.Rows PySem.W PySem.Calls
section
variable{X:Cx}
noncomputable def vB{α:Type}(xs:List α)(lo hi:Option Int):List α:=(xs.drop (HT.cU xs.length 0 lo)).take (HT.cU xs.length xs.length hi-HT.cU xs.length 0 lo)
theorem bS5(x:Str)(lo hi:Option Int):Txt.slice x lo hi=⟨(vB x.cps.toList lo hi).toArray⟩:=by
 have hx:x.length=x.cps.size:=rfl
 have e:(EB lo hi 1 x.length).filterMap (x.cps[·]?)=vB x.cps.toList lo hi:=by
  obtain⟨h1,h2,h3⟩:=Fy lo hi x.length
  have e0:EB lo hi 1 x.length=sliceRange (sliceBounds lo hi none x.length).1 (sliceBounds lo hi none x.length).2.1 1:=by
   cases lo<;>cases hi<;>rfl
  rw[e0,h1,h2]
  simp only[sliceRange_one,pick_run]
  unfold vB
  rw[hx,uR]
 unfold Txt.slice
 split
 ·rename_i h
  have hl:(EB lo hi 1 x.length).length=x.length:=by
   rw[eD]at h;exact eq_of_beq h.2
  have hs:(vB x.cps.toList lo hi)=x.cps.toList:=by
   have e2:HT.cU x.cps.toList.length x.cps.toList.length hi-HT.cU x.cps.toList.length 0 lo=x.length:=by
    obtain⟨h1,h2,h3⟩:=Fy lo hi x.length
    have e0:EB lo hi 1 x.length=sliceRange (sliceBounds lo hi none x.length).1 (sliceBounds lo hi none x.length).2.1 1:=by
     cases lo<;>cases hi<;>rfl
    rw[e0,h1,h2]at hl
    simp only[sliceRange_one,bG,cK]at hl
    rw[uR,<- hx]
    omega
   unfold vB
   have le:HT.cU x.cps.toList.length x.cps.toList.length hi<=x.cps.toList.length:=by
    cases hi with
    | none=>simp[HT.cU]
    | some i=>simp only[HT.cU];split<;>omega
   have le2:HT.cU x.cps.toList.length 0 lo<=x.cps.toList.length:=by
    cases lo with
    | none=>simp[HT.cU]
    | some i=>simp only[HT.cU];split<;>omega
   rw[uR,<- hx]at e2 le le2 ⊢
   have z:HT.cU x.length 0 lo=0:=by omega
   have z2:HT.cU x.length x.length hi=x.length:=by omega
   rw[z,z2,List.drop_zero,Nat.sub_zero,hx,<- uR,pE]
  rw[hs]
 ·rw[e]
theorem cz0:sZ X (λx lo hi H Q=>∃z,x=.str z/\z.length<=sizeLine/\Q (.str ⟨(vB z.cps.toList lo hi).toArray⟩) H):=by
 intro pins s σ H x v vl vu lo hi sl Q I rx hs pl pu h
 obtain⟨z,rfl,hz,q⟩:=h
 obtain⟨t,rfl⟩:=rx
 refine⟨"str",_,F.slot_str_getitem.lookup,typeIs_str _ _ _,?_⟩
 have fin:∀(l u:Option (Int × Tok)),l.map (·.1)=lo->u.map (·.1)=hi->partValue l=vl->partValue u=vu->wpAny (model X.prog X.w) X.A (getItem (.str z t) (.ref sl)) (EP X pins σ Q) X.xe s:=by
  intro l u h1 h2 h3 h4
  obtain⟨o,e1,e2,e3⟩:=hs
  refine wpAny_getItem_str_slice (l:=l) (u:=u) (st:=none) ⟨o,e1,e2,by rw[e3,h3,h4];rfl⟩ rfl ?_
  have e:Txt.slice z lo hi=(if(((none:Option (Int × Tok)).map (·.1)).getD 1==1&&(slicePicked z l u none).length==z.length)=true then z else⟨((slicePicked z l u none).filterMap (z.cps[·]?)).toArray⟩):=by
   unfold Txt.slice slicePicked;rw[h1,h2];rfl
  refine post_val_or_str ⟨?_,λt' k=>?_⟩
  ·rw[<-e];exact fi (Txt.slice_le z _ _) hz
  ·rw[<-e,bS5];exact⟨.str _,H,I.tok _,⟨_,rfl⟩,q⟩
 cases pl with
 | none =>
  cases pu with
  | none=>exact fin none none rfl rfl rfl rfl
  | int j tj=>exact fin none (some (j,tj)) rfl rfl rfl rfl
 | int i ti =>
  cases pu with
  | none=>exact fin (some (i,ti)) none rfl rfl rfl rfl
  | int j tj=>exact fin (some (i,ti)) (some (j,tj)) rfl rfl rfl rfl
end
end L2
namespace L3
open PySem L2
noncomputable def jm:HO->Bool
 | .dw _=>false
 | _=>true
structure af(H H':Hp):Prop where
 get:∀b o,H b=some o->(h:jm o=true:=by rfl)->H' b=some o
 tb:∀b ps,H b=some (.dw ps)->∃more,H' b=some (.dw (ps++more))
noncomputable instance {H H':Hp}:CoeFun (af H H') λ_=>∀b o,H b=some o->(h:jm o=true:=by rfl)->H' b=some o:=⟨λs=>@af.get _ _ s⟩
theorem Gb{o:HO}(h:jm o=false):∃ps,o=.dw ps:=by
 cases o with
 | dw ps=>exact⟨ps,rfl⟩
 | _=>cases h
theorem af.of{H H':Hp}(h:∀b o,H b=some o->H' b=some o):af H H':=⟨λb o e _=>h b o e,λb ps e=>⟨#[],by rw[h b _ e];simp⟩⟩
theorem af.refl(H:Hp):af H H:=.of λ_ _ h=>h
theorem af.trans{H H1 H2:Hp}(a:af H H1)(b:af H1 H2):af H H2 :=
 ⟨λc o h n=>b.get c o (a.get c o h n) n,λc ps h=>by
  obtain⟨m1,e1⟩:=a.tb c ps h
  obtain⟨m2,e2⟩:=b.tb c _ e1
  exact⟨m1++m2,by rw[e2,yf]⟩⟩
theorem af.any{H H':Hp}(e:af H H'){l:Addr}{o:HO}(h:H l=some o):∃o',H' l=some o':=by
 cases n:jm o with
 | true=>exact⟨o,e.get l o h n⟩
 | false =>
  obtain⟨ps,rfl⟩:=Gb n
  obtain⟨m,q⟩:=e.tb l ps h
  exact⟨_,q⟩
theorem af.free{H H':Hp}(e:af H H'){l:Addr}(h:H' l=Ep):H l=Ep:=by
 cases q:H l with
 | none=>rfl
 | some o =>
  obtain⟨o',z⟩:=e.any q
  rw[z]at h
  cases h
theorem af.seq{K:PySem.W.Frag}{H H':Hp}{a:Addr}{xs:List V}(e:af H H')(h:bJ K H a xs):bJ K H' a xs:=by
 rcases h with (h | ⟨o,h⟩) | h
 ·exact .inl (.inl (e _ _ h))
 ·exact .inl (.inr ⟨o,e _ _ h⟩)
 ·exact .inr h
inductive vC where
 | ext (φ:Addr->Heap->Prop)
 | lam (of oc:Obj) (c k:Addr)
noncomputable instance:Coe (Addr->Heap->Prop) vC:=⟨.ext⟩
noncomputable def Gd(H:Hp)(k:Addr):Prop:=∃ψ,H k=some (.ext ψ)/\∀h,ψ h->∃q,h.CodeRec (.ref k) q
noncomputable def jH(of oc:Obj)(c p:Addr):Heap->Prop:=λh=>h.get? p=some of/\h.get? c=some oc
structure iL(H:Hp)(p:Addr)(of oc:Obj)(c k:Addr):Prop where
 fn:H p=some (.ext (jH of oc c p))
 cell:H c=some (.own p)
 Ge:Gd H k
noncomputable def p9(H:Hp)(p:Addr):vC->Prop
 | .ext φ=>H p=some (.ext (φ p))
 | .lam of oc c k=>iL H p of oc c k
theorem p9.mono{H H':Hp}{p:Addr}:∀{z:vC},p9 H p z->(∀a o,H a=some o->(∀ws,o≠.lst ws)->jm o=true->H' a=some o)->p9 H' p z
 | .ext φ,x,k=>k _ _ x (λws q=>by cases q) rfl
 | .lam of oc c k',x,k=>⟨k _ _ x.fn (λws q=>by cases q) rfl,k _ _ x.cell (λws q=>by cases q) rfl,let⟨ψ,e,h⟩:=x.Ge;⟨ψ,k _ _ e (λws q=>by cases q) rfl,h⟩⟩
inductive D where
 | au | bl (b:Bool) | int (i:Int) | str (x:Str)
 | lst (o:Bool) (xs:List D)
 | tup (xs:List D)
 | obj (C:Addr) (ns:List Str) (xs:List D)
 | fz (xs:List D)
 | bE (z:vC)
 deriving Inhabited
noncomputable def D.pl:D->Bool
 | .lst o xs=>!o&&y0 xs
 | .tup xs=>y0 xs
 | _=>true
where y0:List D->Bool
 | []=>true
 | d::ds=>d.pl&&y0 ds
noncomputable def D.fr:D->Bool
 | .lst o xs=>o&&y6 xs
 | .tup xs=>y6 xs
 | .obj _ _ _=>false
 | .fz _=>false
 | _=>true
where y6:List D->Bool
 | []=>true
 | d::ds=>d.fr&&y6 ds
noncomputable def D.sh:D->D
 | .lst _ xs=>.lst false (y7 xs)
 | .tup xs=>.tup (y7 xs)
 | d=>d
where y7:List D->List D
 | []=>[]
 | d::ds=>d.sh::y7 ds
theorem RA(ds:List D):D.pl.y0 ds=ds.all D.pl:=by induction ds with | nil=>rfl | cons d ds ih=>simp[D.pl.y0,ih]
theorem RB(ds:List D):D.fr.y6 ds=ds.all D.fr:=by induction ds with | nil=>rfl | cons d ds ih=>simp[D.fr.y6,ih]
theorem Gf(ds:List D):D.sh.y7 ds=ds.map D.sh:=by induction ds with | nil=>rfl | cons d ds ih=>simp[D.sh.y7,ih]
theorem gh(o:Bool)(xs:List D):(D.lst o xs).pl=(!o&&xs.all D.pl):=by simp[D.pl,RA]
theorem jI(xs:List D):(D.tup xs).pl=xs.all D.pl:=by simp[D.pl,RA]
theorem fg(o:Bool)(xs:List D):(D.lst o xs).fr=(o&&xs.all D.fr):=by simp[D.fr,RB]
theorem nE(xs:List D):(D.tup xs).fr=xs.all D.fr:=by simp[D.fr,RB]
theorem dO(o:Bool)(xs:List D):(D.lst o xs).sh=.lst false (xs.map D.sh):=by simp[D.sh,Gf]
theorem jJ(xs:List D):(D.tup xs).sh=.tup (xs.map D.sh):=by simp[D.sh,Gf]
inductive R(F H:Hp):List D->List V->List Addr->Prop
 | nil:R F H [] [] []
 | au {ds vs B}:R F H ds vs B->R F H (.au::ds) (.au::vs) B
 | bl {b ds vs B}:R F H ds vs B->R F H (.bl b::ds) (.bl b::vs) B
 | int {i ds vs B}:R F H ds vs B->R F H (.int i::ds) (.int i::vs) B
 | str {x ds vs B}:R F H ds vs B->R F H (.str x::ds) (.str x::vs) B
 | shr {p ws xs ds vs B}:F p=some (.lst ws)->R F H xs ws []->R F H ds vs B->R F H (.lst false xs::ds) (.ref p::vs) B
 | own {p ws xs A ds vs B}:H p=some (.lst ws)->F p=none->R F H xs ws A->R F H ds vs B->R F H (.lst true xs::ds) (.ref p::vs) (p::(A++B))
 | tup {p ws xs A ds vs B}:H p=some (.tup ws)->R F H xs ws A->R F H ds vs B->R F H (.tup xs::ds) (.ref p::vs) (A++B)
 | obj {p C dx ns ws xs ds vs B}:H p=some (.ins C dx (ns.zip ws))->ns.length=ws.length->R F H xs ws []->R F H ds vs B->R F H (.obj C ns xs::ds) (.ref p::vs) B
 | fz {p o ws xs ds vs B}:F p=some (.cq o (.lst ws))->R F H xs ws []->R F H ds vs B->R F H (.fz xs::ds) (.ref p::vs) B
 | bE {p z ds vs B}:p9 H p z->R F H ds vs B->R F H (.bE z::ds) (.ref p::vs) B
inductive S(F H:Hp):List D->List V->Prop
 | nil:S F H [] []
 | au {ds vs}:S F H ds vs->S F H (.au::ds) (.au::vs)
 | bl {b ds vs}:S F H ds vs->S F H (.bl b::ds) (.bl b::vs)
 | int {i ds vs}:S F H ds vs->S F H (.int i::ds) (.int i::vs)
 | str {x ds vs}:S F H ds vs->S F H (.str x::ds) (.str x::vs)
 | shr {p ws xs ds vs}:F p=some (.lst ws)->R F H xs ws []->S F H ds vs->S F H (.lst false xs::ds) (.ref p::vs)
 | own {p ws xs ds vs}:H p=some (.lst ws)->S F H xs ws->S F H ds vs->S F H (.lst true xs::ds) (.ref p::vs)
 | tup {p ws xs ds vs}:H p=some (.tup ws)->S F H xs ws->S F H ds vs->S F H (.tup xs::ds) (.ref p::vs)
 | obj {p C dx ns ws xs ds vs}:H p=some (.ins C dx (ns.zip ws))->ns.length=ws.length->R F H xs ws []->S F H ds vs->S F H (.obj C ns xs::ds) (.ref p::vs)
 | fz {p o ws xs ds vs}:F p=some (.cq o (.lst ws))->R F H xs ws []->S F H ds vs->S F H (.fz xs::ds) (.ref p::vs)
 | bE {p z ds vs}:p9 H p z->S F H ds vs->S F H (.bE z::ds) (.ref p::vs)
section
variable{F F' H H':Hp}{d:D}{ds es:List D}{v:V}{vs ws:List V}{A B:List Addr}
theorem R.length(r:R F H ds vs A):ds.length=vs.length:=by
 induction r<;>simp_all
theorem S.length(r:S F H ds vs):ds.length=vs.length:=by
 induction r<;>simp_all
theorem R.cons(r:R F H [d] [v] A)(q:R F H ds vs B):R F H (d::ds) (v::vs) (A++B):=by
 cases r with
 | au r=>cases r;exact .au q
 | bl r=>cases r;exact .bl q
 | int r=>cases r;exact .int q
 | str r=>cases r;exact .str q
 | shr h x r=>cases r;exact .shr h x q
 | own h f x r=>cases r;simpa using R.own h f x q
 | tup h x r=>cases r;simpa using R.tup h x q
 | obj h l x r=>cases r;exact .obj h l x q
 | fz h x r=>cases r;exact .fz h x q
 | bE h r=>cases r;exact .bE h q
theorem R.dh(r:R F H (d::ds) vs A):∃v cQ A1 A2,vs=v::cQ/\A=A1++A2/\R F H [d] [v] A1/\R F H ds cQ A2:=by
 cases r with
 | au r=>exact⟨_,_,[],_,rfl,rfl,.au .nil,r⟩
 | bl r=>exact⟨_,_,[],_,rfl,rfl,.bl .nil,r⟩
 | int r=>exact⟨_,_,[],_,rfl,rfl,.int .nil,r⟩
 | str r=>exact⟨_,_,[],_,rfl,rfl,.str .nil,r⟩
 | shr h x r=>exact⟨_,_,[],_,rfl,rfl,.shr h x .nil,r⟩
 | @own p _ _ A1 _ _ B1 h f x r=>exact⟨_,_,p::A1,B1,rfl,rfl,by simpa using R.own h f x .nil,r⟩
 | @tup p _ _ A1 _ _ B1 h x r=>exact⟨_,_,A1,B1,rfl,rfl,by simpa using R.tup h x .nil,r⟩
 | obj h l x r=>exact⟨_,_,[],_,rfl,rfl,.obj h l x .nil,r⟩
 | fz h x r=>exact⟨_,_,[],_,rfl,rfl,.fz h x .nil,r⟩
 | bE h r=>exact⟨_,_,[],_,rfl,rfl,.bE h .nil,r⟩
theorem S.cons(r:S F H [d] [v])(q:S F H ds vs):S F H (d::ds) (v::vs):=by
 cases r with
 | au r=>exact .au q
 | bl r=>exact .bl q
 | int r=>exact .int q
 | str r=>exact .str q
 | shr h x r=>exact .shr h x q
 | own h x r=>exact .own h x q
 | tup h x r=>exact .tup h x q
 | obj h l x r=>exact .obj h l x q
 | fz h x r=>exact .fz h x q
 | bE h r=>exact .bE h q
theorem S.dh(r:S F H (d::ds) vs):∃v cQ,vs=v::cQ/\S F H [d] [v]/\S F H ds cQ:=by
 cases r with
 | au r=>exact⟨_,_,rfl,.au .nil,r⟩
 | bl r=>exact⟨_,_,rfl,.bl .nil,r⟩
 | int r=>exact⟨_,_,rfl,.int .nil,r⟩
 | str r=>exact⟨_,_,rfl,.str .nil,r⟩
 | shr h x r=>exact⟨_,_,rfl,.shr h x .nil,r⟩
 | own h x r=>exact⟨_,_,rfl,.own h x .nil,r⟩
 | tup h x r=>exact⟨_,_,rfl,.tup h x .nil,r⟩
 | obj h l x r=>exact⟨_,_,rfl,.obj h l x .nil,r⟩
 | fz h x r=>exact⟨_,_,rfl,.fz h x .nil,r⟩
 | bE h r=>exact⟨_,_,rfl,.bE h .nil,r⟩
theorem R.append:∀{ds:List D} {vs:List V} {A:List Addr},R F H ds vs A->R F H es ws B->R F H (ds++es) (vs++ws) (A++B)
 | [],_,_,r,q=>by cases r;exact q
 | d::ds,_,_,r,q=>by
  obtain⟨v,cQ,A1,A2,rfl,rfl,h1,h2⟩:=r.dh
  simpa using h1.cons (R.append h2 q)
theorem S.append:∀{ds:List D} {vs:List V},S F H ds vs->S F H es ws->S F H (ds++es) (vs++ws)
 | [],_,r,q=>by cases r;exact q
 | d::ds,_,r,q=>by
  obtain⟨v,cQ,rfl,h1,h2⟩:=r.dh
  exact h1.cons (S.append h2 q)
theorem R.split:∀{ds:List D} {vs:List V} {A:List Addr},R F H (ds++es) vs A->∃v1 v2 A1 A2,vs=v1++v2/\A=A1++A2/\R F H ds v1 A1/\R F H es v2 A2
 | [],vs,A,r=>⟨[],vs,[],A,rfl,rfl,.nil,r⟩
 | d::ds,_,_,r=>by
  obtain⟨v,cQ,A1,A2,rfl,rfl,h1,h2⟩:=R.dh (ds:=ds++es) r
  obtain⟨v1,v2,B1,B2,rfl,rfl,h3,h4⟩:=R.split (ds:=ds) h2
  exact⟨v::v1,v2,A1++B1,B2,rfl,by simp,h1.cons h3,h4⟩
theorem R.get:∀{ds:List D} {vs:List V} {A:List Addr} {i:Nat},R F H ds vs A->ds[i]?=some d->∃v A1,vs[i]?=some v/\R F H [d] [v] A1/\A1 ⊆ A
 | [],_,_,_,_,e=>by simp at e
 | d'::ds,_,_,i,r,e=>by
  obtain⟨v,cQ,A1,A2,rfl,rfl,h1,h2⟩:=r.dh
  cases i with
  | zero=>simp at e;subst e;exact⟨v,A1,rfl,h1,by simp⟩
  | succ i =>
   obtain⟨w,B1,e2,q,sb⟩:=R.get (ds:=ds) (i:=i) h2 (by simpa using e)
   exact⟨w,B1,by simpa using e2,q,λx hx=>dY _ (sb hx)⟩
theorem S.get:∀{ds:List D} {vs:List V} {i:Nat},S F H ds vs->ds[i]?=some d->∃v,vs[i]?=some v/\S F H [d] [v]
 | [],_,_,_,e=>by simp at e
 | d'::ds,_,i,r,e=>by
  obtain⟨v,cQ,rfl,h1,h2⟩:=r.dh
  cases i with
  | zero=>simp at e;subst e;exact⟨v,rfl,h1⟩
  | succ i =>
   obtain⟨w,e2,q⟩:=S.get (ds:=ds) (i:=i) h2 (by simpa using e)
   exact⟨w,by simpa using e2,q⟩
theorem S.get':∀{ds:List D} {vs:List V} {i:Nat},S F H ds vs->vs[i]?=some v->∃d,ds[i]?=some d/\S F H [d] [v]
 | [],_,_,r,e=>by cases r;simp at e
 | d'::ds,_,i,r,e=>by
  obtain⟨v,cQ,rfl,h1,h2⟩:=r.dh
  cases i with
  | zero=>simp at e;subst e;exact⟨d',rfl,h1⟩
  | succ i =>
   obtain⟨w,e2,q⟩:=S.get' (ds:=ds) (i:=i) h2 (by simpa using e)
   exact⟨w,by simpa using e2,q⟩
theorem S.take:∀{ds:List D} {vs:List V} (n:Nat),S F H ds vs->S F H (ds.take n) (vs.take n)
 | _,_,0,r=>by simpa using S.nil
 | [],_,n+1,r=>by cases r;exact .nil
 | d::ds,_,n+1,r=>by
  obtain⟨v,cQ,rfl,h1,h2⟩:=r.dh
  exact h1.cons (S.take n h2)
theorem S.drop:∀{ds:List D} {vs:List V} (n:Nat),S F H ds vs->S F H (ds.drop n) (vs.drop n)
 | _,_,0,r=>by simpa using r
 | [],_,n+1,r=>by cases r;exact .nil
 | d::ds,_,n+1,r=>by
  obtain⟨v,cQ,rfl,h1,h2⟩:=r.dh
  exact S.drop n h2
theorem gZ{p:Addr}{o:HO}(h:Rd F p o)(s:af F F')(n:jm o=true:=by rfl):Rd F' p o:=by
 rcases h with h | ⟨u,h⟩
 ·exact .inl (s.get _ _ h n)
 ·exact .inr ⟨u,s _ _ h⟩
theorem R.s(r:R F H ds vs A):S F H ds vs:=by
 induction r with
 | nil=>exact .nil
 | au _ ih=>exact .au ih
 | bl _ ih=>exact .bl ih
 | int _ ih=>exact .int ih
 | str _ ih=>exact .str ih
 | shr h x _ _ ih=>exact .shr h x ih
 | own h f _ _ i1 i2=>exact .own h i1 i2
 | tup h _ _ i1 i2=>exact .tup h i1 i2
 | obj h l x _ _ ih=>exact .obj h l x ih
 | fz h x _ _ ih=>exact .fz h x ih
 | bE h _ ih=>exact .bE h ih
structure ij(W:List Addr)(H H':Hp):Prop where
 get:∀a o,H a=some o->a ∉ W->(h:jm o=true:=by rfl)->H' a=some o
noncomputable instance {W:List Addr} {H H':Hp}:CoeFun (ij W H H') λ_=>∀a o,H a=some o->a ∉ W->(h:jm o=true:=by rfl)->H' a=some o:=⟨λs=>@ij.get _ _ _ s⟩
noncomputable def jn(W:List Addr)(H:Hp):Prop:=∀a∈W,∃ws,H a=some (.lst ws)
theorem R.keep{W:List Addr}(hf:af F F')(hb:ij W H H')(hl:jn W H)(r:R F H ds vs A)(hn:∀a∈A,F' a=none)(hd:∀a∈A,a ∉ W):R F' H' ds vs A:=by
 induction r with
 | nil=>exact .nil
 | au _ ih=>exact .au (ih hn hd)
 | bl _ ih=>exact .bl (ih hn hd)
 | int _ ih=>exact .int (ih hn hd)
 | str _ ih=>exact .str (ih hn hd)
 | shr h x _ i1 ih=>exact .shr (hf _ _ h) (i1 (by simp) (by simp)) (ih hn hd)
 | own h f _ _ i1 i2 =>
  refine .own (hb _ _ h (hd _ (by simp))) (hn _ (by simp)) (i1 (λa ha=>hn a ?_) λa ha=>hd a ?_) (i2 (λa ha=>hn a ?_) λa ha=>hd a ?_)<;>simp[ha]
 | @tup p ws _ _ _ _ _ h _ _ i1 i2 =>
  refine .tup (hb _ _ h λz=>?_) (i1 (λa ha=>hn a ?_) λa ha=>hd a ?_) (i2 (λa ha=>hn a ?_) λa ha=>hd a ?_)<;>try simp[ha]
  obtain⟨q,e⟩:=hl _ z
  rw[h]at e;cases e
 | obj h l x _ i1 ih =>
  refine .obj (hb _ _ h λz=>?_) l (i1 (by simp) (by simp)) (ih hn hd)
  obtain⟨q,e⟩:=hl _ z
  rw[h]at e;cases e
 | fz h x _ i1 ih=>exact .fz (hf _ _ h) (i1 (by simp) (by simp)) (ih hn hd)
 | bE h _ ih =>
  exact .bE (h.mono λa o e n t=>hb.get a o e (λz=>by
   obtain⟨q,e'⟩:=hl _ z
   rw[e]at e';cases e';exact n _ rfl) t) (ih hn hd)
theorem ij.same(h:af H H'):ij [] H H':=⟨λa o e _ n=>h.get a o e n⟩
theorem jn.nil:jn [] H:=λa h=>absurd h (by simp)
theorem R.grow(hf:af F F')(hb:af H H')(r:R F H ds vs A)(hn:∀a∈A,F' a=none):R F' H' ds vs A :=
 r.keep hf (ij.same hb) jn.nil hn (by simp)
theorem R.shared(hf:af F F')(hb:af H H')(r:R F H ds vs []):R F' H' ds vs []:=r.grow hf hb (by simp)
theorem S.mono(hf:af F F')(hb:af H H')(r:S F H ds vs):S F' H' ds vs:=by
 induction r with
 | nil=>exact .nil
 | au _ ih=>exact .au ih
 | bl _ ih=>exact .bl ih
 | int _ ih=>exact .int ih
 | str _ ih=>exact .str ih
 | shr h x _ ih=>exact .shr (hf _ _ h) (x.shared hf hb) ih
 | own h _ _ i1 i2=>exact .own (hb _ _ h) i1 i2
 | tup h _ _ i1 i2=>exact .tup (hb _ _ h) i1 i2
 | obj h l x _ ih=>exact .obj (hb _ _ h) l (x.shared hf hb) ih
 | fz h x _ ih=>exact .fz (hf _ _ h) (x.shared hf hb) ih
 | bE h _ ih=>exact .bE (h.mono λa o e _ t=>hb.get a o e t) ih
theorem S.r(s:S F H ds vs)(p:ds.all D.pl=true):R F H ds vs []:=by
 induction s with
 | nil=>exact .nil
 | au _ ih=>exact .au (ih (by simpa[D.pl]using p))
 | bl _ ih=>exact .bl (ih (by simpa[D.pl]using p))
 | int _ ih=>exact .int (ih (by simpa[D.pl]using p))
 | str _ ih=>exact .str (ih (by simpa[D.pl]using p))
 | shr h x _ ih=>exact .shr h x (ih (by simp[gh]at p;simpa using p.2))
 | own h _ _ i1 i2=>simp[gh]at p
 | tup h _ _ i1 i2 =>
  rw[dM,jI,eD]at p
  simpa using R.tup h (i1 p.1) (i2 p.2)
 | obj h l x _ ih=>exact .obj h l x (ih (by simpa[D.pl]using p))
 | fz h x _ ih=>exact .fz h x (ih (by simpa[D.pl]using p))
 | bE h _ ih=>exact .bE h (ih (by simpa[D.pl]using p))
theorem R.pl(r:R F H ds vs []):ds.all D.pl=true:=by
 generalize e:([]:List Addr)=A at r
 induction r with
 | nil=>rfl
 | au _ ih=>simp[D.pl];simpa using ih e
 | bl _ ih=>simp[D.pl];simpa using ih e
 | int _ ih=>simp[D.pl];simpa using ih e
 | str _ ih=>simp[D.pl];simpa using ih e
 | shr h x _ i1 ih=>simp only[dM,gh,i1 rfl,ih e];rfl
 | own h f _ _ i1 i2=>cases e
 | tup h _ _ i1 i2 =>
  obtain⟨e1,e2⟩:=EC.mp e.symm
  simp only[dM,jI,i1 e1.symm,i2 e2.symm];rfl
 | obj h l x _ i1 ih=>simp[D.pl];simpa using ih e
 | fz h x _ i1 ih=>simp[D.pl];simpa using ih e
 | bE h _ ih=>simp[D.pl];simpa using ih e
theorem D.BD:∀{d:D},d.pl=true->d.sh=d
 | .au,_=>rfl
 | .bl _,_=>rfl
 | .int _,_=>rfl
 | .str _,_=>rfl
 | .obj _ _ _,_=>rfl
 | .fz _,_=>rfl
 | .bE _,_=>rfl
 | .lst o xs,h=>by
  rw[gh,eD]at h
  have:∀(l:List D),(∀x∈l,x∈xs)->l.all D.pl=true->l.map D.sh=l:=by
   intro l hl hp
   induction l with
   | nil=>rfl
   | cons x l ih =>
    simp only[dM,eD]at hp
    have hx:x∈xs:=hl x (by simp)
    rw[dB,D.BD hp.1,ih (λy hy=>hl y (by simp[hy])) hp.2]
  rw[dO,this xs (λ_ h=>h) h.2]
  cases o<;>simp_all
 | .tup xs,h=>by
  rw[jI]at h
  have:∀(l:List D),(∀x∈l,x∈xs)->l.all D.pl=true->l.map D.sh=l:=by
   intro l hl hp
   induction l with
   | nil=>rfl
   | cons x l ih =>
    simp only[dM,eD]at hp
    have hx:x∈xs:=hl x (by simp)
    rw[dB,D.BD hp.1,ih (λy hy=>hl y (by simp[hy])) hp.2]
  rw[jJ,this xs (λ_ h=>h) h]
termination_by d=>sizeOf d
theorem mh{l:List D}(h:l.all D.pl=true):l.map D.sh=l:=by
 induction l with
 | nil=>rfl
 | cons x l ih =>
  simp only[dM,eD]at h
  rw[dB,D.BD h.1,ih h.2]
theorem S.frozen(e:af F H)(s:S F H ds vs):R H H (ds.map D.sh) vs []:=by
 induction s with
 | nil=>exact .nil
 | au _ ih=>exact .au ih
 | bl _ ih=>exact .bl ih
 | int _ ih=>exact .int ih
 | str _ ih=>exact .str ih
 | shr h x _ ih =>
  rw[dB,dO,mh x.pl]
  exact .shr (e _ _ h) (x.shared e (af.refl _)) ih
 | own h _ _ i1 i2=>rw[dB,dO];exact .shr h i1 i2
 | tup h _ _ i1 i2=>rw[dB,jJ];simpa using R.tup h i1 i2
 | obj h l x _ ih=>exact .obj h l (x.shared e (af.refl _)) ih
 | fz h x _ ih=>exact .fz (e _ _ h) (x.shared e (af.refl _)) ih
 | bE h _ ih=>exact .bE h ih
noncomputable def cq(F H:Hp)(A:List Addr):Hp:=λa=>if a∈A then H a else F a
theorem mi(e:af F H):af F (cq F H A):=⟨λa o h n=>by unfold cq;split;exact e.get _ _ h n;exact h,λa ps h=>by unfold cq;split;exact e.tb _ _ h;exact⟨#[],by rw[h];simp⟩⟩
theorem RC(e:af F H):af (cq F H A) H:=⟨λa o h n=>by unfold cq at h;split at h;exact h;exact e.get _ _ h n,λa ps h=>by unfold cq at h;split at h;exact⟨#[],by rw[h];simp⟩;exact e.tb _ _ h⟩
theorem BE{a:Addr}(h:a ∉ A):cq F H A a=F a:=by unfold cq;rw[if_neg h]
theorem cy2{a:Addr}(h:a∈A):cq F H A a=H a:=by unfold cq;rw[if_pos h]
theorem R.cq(e:af F H)(r:R F H ds vs A):∀A',A ⊆ A'->R (L3.cq F H A') H (ds.map D.sh) vs []:=by
 induction r with
 | nil=>exact λ_ _=>.nil
 | au _ ih=>exact λA' h=>.au (ih A' h)
 | bl _ ih=>exact λA' h=>.bl (ih A' h)
 | int _ ih=>exact λA' h=>.int (ih A' h)
 | str _ ih=>exact λA' h=>.str (ih A' h)
 | shr h x _ i1 ih =>
  intro A' hA
  rw[dB,dO,mh x.pl]
  exact .shr (mi e _ _ h) (x.shared (mi e) (af.refl _)) (ih A' hA)
 | own h f _ _ i1 i2 =>
  intro A' hA
  rw[dB,dO]
  exact .shr ((cy2 (hA (by simp))).trans h) (i1 A' λa ha=>hA (by simp[ha])) (i2 A' λa ha=>hA (by simp[ha]))
 | tup h _ _ i1 i2 =>
  intro A' hA
  rw[dB,jJ]
  simpa using R.tup h (i1 A' λa ha=>hA (by simp[ha])) (i2 A' λa ha=>hA (by simp[ha]))
 | obj h l x _ i1 ih=>exact λA' hA=>.obj h l (x.shared (mi e) (af.refl _)) (ih A' hA)
 | fz h x _ i1 ih=>exact λA' hA=>.fz (mi e _ _ h) (x.shared (mi e) (af.refl _)) (ih A' hA)
 | bE h _ ih=>exact λA' hA=>.bE h (ih A' hA)
theorem R.lists(r:R F H ds vs A):∀a∈A,(∃ws,H a=some (.lst ws))/\F a=none:=by
 induction r with
 | nil=>simp
 | au _ ih=>exact ih
 | bl _ ih=>exact ih
 | int _ ih=>exact ih
 | str _ ih=>exact ih
 | shr h x _ i1 ih=>exact ih
 | own h f _ _ i1 i2 =>
  intro a ha
  rcases cA.mp ha with rfl | ha
  ·exact⟨⟨_,h⟩,f⟩
  ·exact(cJ.mp ha).elim (i1 a) (i2 a)
 | tup h _ _ i1 i2=>exact λa ha=>(cJ.mp ha).elim (i1 a) (i2 a)
 | obj h l x _ i1 ih=>exact ih
 | fz h x _ i1 ih=>exact ih
 | bE h _ ih=>exact ih
theorem R.Gg(r:R F H ds vs A)(hd:ds.all D.fr=true)(e:af F' F):R F' H ds vs A:=by
 induction r with
 | nil=>exact .nil
 | au _ ih=>exact .au (ih (by simpa[D.fr]using hd))
 | bl _ ih=>exact .bl (ih (by simpa[D.fr]using hd))
 | int _ ih=>exact .int (ih (by simpa[D.fr]using hd))
 | str _ ih=>exact .str (ih (by simpa[D.fr]using hd))
 | shr h x _ i1 ih=>simp[fg]at hd
 | own h f _ _ i1 i2 =>
  rw[dM,fg,eD,mW]at hd
  exact .own h (e.free f) (i1 hd.1) (i2 hd.2)
 | tup h _ _ i1 i2 =>
  rw[dM,nE,eD]at hd
  exact .tup h (i1 hd.1) (i2 hd.2)
 | obj h l x _ i1 ih=>simp[D.fr]at hd
 | fz h x _ i1 ih=>simp[D.fr]at hd
 | bE h _ ih=>exact .bE h (ih (by simpa[D.fr]using hd))
theorem R.inj(r:R F H ds vs A):∀{B:List Addr},R F H ds vs B->A=B:=by
 induction r with
 | nil=>intro B q;cases q;rfl
 | au _ ih=>intro B q;cases q with | au q=>exact ih q
 | bl _ ih=>intro B q;cases q with | bl q=>exact ih q
 | int _ ih=>intro B q;cases q with | int q=>exact ih q
 | str _ ih=>intro B q;cases q with | str q=>exact ih q
 | shr h x _ i1 ih=>intro B q;cases q with | shr _ _ q=>exact ih q
 | own h f _ _ i1 i2 =>
  intro B q
  cases q with
  | own h' f' x' q =>
   rw[h]at h';cases h'
   rw[i1 x',i2 q]
 | tup h _ _ i1 i2 =>
  intro B q
  cases q with
  | tup h' x' q =>
   rw[h]at h';cases h'
   rw[i1 x',i2 q]
 | obj h l x _ i1 ih=>intro B q;cases q with | obj _ _ _ q=>exact ih q
 | fz h x _ i1 ih=>intro B q;cases q with | fz _ _ q=>exact ih q
 | bE h _ ih=>intro B q;cases q with | bE _ q=>exact ih q
theorem R.perm{ps qs:List (D × V)}(hp:ps.Perm qs):∀{A:List Addr},R F H (ps.map (·.1)) (ps.map (·.2)) A->∃A',R F H (qs.map (·.1)) (qs.map (·.2)) A'/\A.Perm A':=by
 induction hp with
 | nil=>exact λr=>⟨_,r,.refl _⟩
 | cons x _ ih =>
  intro A r
  obtain⟨v,cQ,A1,A2,e,rfl,h1,h2⟩:=R.dh r
  obtain⟨rfl,rfl⟩:=pG e
  obtain⟨A',r',p⟩:=ih h2
  exact⟨A1++A',h1.cons r',p.append_left _⟩
 | swap x y l =>
  intro A r
  obtain⟨v,cQ,A1,A2,e,rfl,h1,h2⟩:=R.dh r
  obtain⟨rfl,rfl⟩:=pG e
  obtain⟨v2,RD,B1,B2,e,rfl,h3,h4⟩:=R.dh h2
  obtain⟨rfl,rfl⟩:=pG e
  exact⟨B1++(A1++B2),h3.cons (h1.cons h4),by rw[<-dZ,<- dZ];exact pH.append_right _⟩
 | trans _ _ i1 i2 =>
  intro A r
  obtain⟨A',r',p⟩:=i1 r
  obtain⟨A2,r2,p2⟩:=i2 r'
  exact⟨A2,r2,p.trans p2⟩
noncomputable def Full(F H:Hp):Prop:=∀a o,H a=some o->(∀ws,o≠.lst ws)->F a=some o
theorem Full.refl(H:Hp):Full H H:=λ_ _ h _=>h
theorem R.full(hF:Full F H)(hs:af F H')(r:R F H ds vs A)(e:A=[]):R F H' ds vs []:=by
 induction r with
 | nil=>exact .nil
 | au _ ih=>exact .au (ih e)
 | bl _ ih=>exact .bl (ih e)
 | int _ ih=>exact .int (ih e)
 | str _ ih=>exact .str (ih e)
 | shr h x _ i1 ih=>exact .shr h (i1 rfl) (ih e)
 | own h f _ _ i1 i2=>cases e
 | tup h _ _ i1 i2 =>
  obtain⟨e1,e2⟩:=EC.mp e
  exact R.tup (A:=[]) (B:=[]) (hs _ _ (hF _ _ h (by intro ws z;cases z))) (i1 e1) (i2 e2)
 | obj h l x _ i1 ih=>exact .obj (hs _ _ (hF _ _ h (by intro ws z;cases z))) l (i1 rfl) (ih e)
 | fz h x _ i1 ih=>exact .fz h (i1 rfl) (ih e)
 | bE h _ ih=>exact .bE (h.mono λa o e n t=>hs.get a o (hF a o e n) t) (ih e)
open Classical in
noncomputable def snap(F H:Hp):Hp:=λa=>if(∃o,H a=some o/\∀ws,o≠.lst ws)then H a else F a
theorem tE:Full (snap F H) H:=λa o h n=>by unfold snap;rw[if_pos ⟨o,h,n⟩];exact h
theorem qa(e:af F H):af F (snap F H):=⟨λa o h n=>by
 unfold snap;split
 ·exact e.get a o h n
 ·exact h,λa ps h=>by
 unfold snap;split
 ·exact e.tb a ps h
 ·exact⟨#[],by rw[h];simp⟩⟩
theorem b71(e:af F H):af (snap F H) H:=⟨λa o h n=>by
 unfold snap at h;split at h
 ·exact h
 ·exact e.get a o h n,λa ps h=>by
 unfold snap at h;split at h
 ·exact⟨#[],by rw[h];simp⟩
 ·exact e.tb a ps h⟩
theorem b63(e:af F H){a:Addr}{ws:List V}(h:snap F H a=some (.lst ws)):F a=some (.lst ws):=by
 unfold snap at h;split at h
 ·rename_i z
  obtain⟨o,h1,h2⟩:=z
  rw[h]at h1;exact absurd (cW h1).symm (h2 ws)
 ·exact h
theorem bU6{a:Addr}{ws:List V}(h:H a=some (.lst ws))(n:F a=none):snap F H a=none:=by
 unfold snap;split
 ·rename_i z
  obtain⟨o,h1,h2⟩:=z
  rw[h]at h1;exact absurd (cW h1).symm (h2 ws)
 ·exact n
end
end L3
namespace L3
open PySem L2
noncomputable abbrev Dl:=List (Option D)
inductive RS(F H:Hp):Dl->St->List Addr->Prop
 | nil:RS F H [] [] []
 | au {δ σ o C}:RS F H δ σ C->RS F H (none::δ) (o::σ) C
 | gG {d v A δ σ C}:R F H [d] [v] A->RS F H δ σ C->RS F H (some d::δ) (some v::σ) (A++C)
theorem gH{A B:List Addr}:(A++B).Nodup↔A.Nodup/\B.Nodup/\∀a∈A,a ∉ B:=by
 rw[List.nodup_append]
 constructor
 ·rintro⟨h1,h2,h3⟩;exact⟨h1,h2,λa ha hb=>h3 a ha a hb rfl⟩
 ·rintro⟨h1,h2,h3⟩;exact⟨h1,h2,λa ha b hb e=>h3 a ha (e ▸ hb)⟩
section
variable{F F' H H':Hp}{d:D}{v:V}{δ:Dl}{σ:St}{A C:List Addr}{i:Nat}
theorem RS.length(r:RS F H δ σ C):δ.length=σ.length:=by induction r<;>simp_all
theorem RS.pick:∀{δ:Dl} {σ:St} {C:List Addr} {i:Nat},RS F H δ σ C->δ[i]?=some (some d)->∃v A C',σ[i]?=some (some v)/\R F H [d] [v] A/\RS F H (δ.set i none) σ C'/\C.Perm (A++C')
 | _,_,_,_,.nil,e=>by simp at e
 | _,_,_,i,.au r,e=>by
  cases i with
  | zero=>simp at e
  | succ i =>
   obtain⟨v,A,C',e1,h1,h2,p⟩:=RS.pick r (by simpa using e)
   exact⟨v,A,C',by simpa using e1,h1,.au h2,p⟩
 | _,_,_,i,.gG (A:=A0) (C:=C0) h r,e=>by
  cases i with
  | zero =>
   simp at e;subst e
   exact⟨_,A0,C0,rfl,h,.au r,.refl _⟩
  | succ i =>
   obtain⟨v,A,C',e1,h1,h2,p⟩:=RS.pick r (by simpa using e)
   refine⟨v,A,A0++C',by simpa using e1,h1,.gG h h2,(p.append_left A0).trans ?_⟩
   rw[<-dZ,<- dZ]
   exact pH.append_right _
theorem RS.fill:∀{δ:Dl} {σ:St} {C:List Addr} {i:Nat},RS F H δ σ C->δ[i]?=some none->σ[i]?=some (some v)->R F H [d] [v] A->∃C',RS F H (δ.set i (some d)) σ C'/\C'.Perm (A++C)
 | _,_,_,_,.nil,e,_,_=>by simp at e
 | _,_,_,i,.au r,e,e2,h=>by
  cases i with
  | zero=>simp at e2;subst e2;exact⟨_,.gG h r,.refl _⟩
  | succ i =>
   obtain⟨C',h1,p⟩:=RS.fill r (by simpa using e) (by simpa using e2) h
   exact⟨C',.au h1,p⟩
 | _,_,_,i,.gG (A:=A0) (C:=C0) h0 r,e,e2,h=>by
  cases i with
  | zero=>simp at e
  | succ i =>
   obtain⟨C',h1,p⟩:=RS.fill r (by simpa using e) (by simpa using e2) h
   refine⟨A0++C',.gG h0 h1,(p.append_left A0).trans ?_⟩
   rw[<-dZ,<- dZ]
   exact pH.append_right _
theorem RS.drop:∀{δ:Dl} {σ:St} {C:List Addr} (i:Nat),RS F H δ σ C->∃C',RS F H (δ.set i none) σ C'/\C'.Sublist C
 | _,_,_,_,.nil=>⟨_,.nil,.refl _⟩
 | _,_,_,i,.au r=>by
  cases i with
  | zero=>exact⟨_,.au r,.refl _⟩
  | succ i=>obtain⟨C',h,s⟩:=RS.drop i r;exact⟨C',.au h,s⟩
 | _,_,_,i,.gG (A:=A0) h0 r=>by
  cases i with
  | zero=>exact⟨_,.au r,List.sublist_append_right _ _⟩
  | succ i=>obtain⟨C',h,s⟩:=RS.drop i r;exact⟨_,.gG h0 h,(Pu A0).append s⟩
theorem RS.y8:∀{δ:Dl} {σ:St} {C:List Addr} {i:Nat} (o:Option V),RS F H δ σ C->(δ[i]?=some none\/δ[i]?=none)->RS F H δ (σ.set i o) C
 | _,_,_,_,_,.nil,_=>.nil
 | _,_,_,i,_,.au r,e=>by
  cases i with
  | zero=>exact .au r
  | succ i=>exact .au (RS.y8 _ r (by simpa using e))
 | _,_,_,i,_,.gG h0 r,e=>by
  cases i with
  | zero=>simp at e
  | succ i=>exact .gG h0 (RS.y8 _ r (by simpa using e))
theorem RS.keep{W:List Addr}(hf:af F F')(hb:ij W H H')(hl:jn W H)(r:RS F H δ σ C)(hn:∀a∈C,F' a=none)(hd:∀a∈C,a ∉ W):RS F' H' δ σ C:=by
 induction r with
 | nil=>exact .nil
 | au _ ih=>exact .au (ih hn hd)
 | gG h _ ih=>exact .gG (h.keep hf hb hl (λa ha=>hn a (by simp[ha])) λa ha=>hd a (by simp[ha])) (ih (λa ha=>hn a (by simp[ha])) λa ha=>hd a (by simp[ha]))
theorem RS.lists(r:RS F H δ σ C):∀a∈C,(∃ws,H a=some (.lst ws))/\F a=none:=by
 induction r with
 | nil=>simp
 | au _ ih=>exact ih
 | gG h _ ih=>exact λa ha=>(cJ.mp ha).elim (h.lists a) (ih a)
theorem RS.none_of:∀{δ:Dl} {σ:St} {C:List Addr} {aF:St},RS F H δ σ C->aF.length=σ.length->RS F H (aF.map λ_=>none) aF []
 | _,_,_,[],_,_=>.nil
 | _,_,_,o::aF,.nil,e=>by simp at e
 | _,_,_,o::aF,.au r,e=>.au (RS.none_of r (by simpa using e))
 | _,_,_,o::aF,.gG _ r,e=>.au (RS.none_of r (by simpa using e))
end
structure Bs where
 H0:Hp
 F0:Hp
structure ao(B:Bs)(F H:Hp)(σ:St)(δ:Dl)(ts:List (D × V)):Prop where
 ext:af F H
 b1:af B.H0 H
 b2:af B.F0 F
 b3:∀a ws,F a=some (.lst ws)->B.F0 a=some (.lst ws)\/B.H0 a=none
 own:∃A C,R F H (ts.map (·.1)) (ts.map (·.2)) A/\RS F H δ σ C/\(A++C).Nodup/\∀a∈A++C,B.H0 a=none
section
variable{B:Bs}{F F' H H':Hp}{d:D}{v:V}{δ:Dl}{σ:St}{ts ps:List (D × V)}{A C W:List Addr}{i:Nat}{p:Addr}{xs ys:List D}{vs ws:List V}
theorem ao.look(c:ao B F H σ δ ts)(e:δ[i]?=some (some d)):∃v,σ[i]?=some (some v)/\S F H [d] [v]:=by
 obtain⟨A,C,r,s,nd,fr⟩:=c.own
 obtain⟨v,A',C',e1,h1,h2,p⟩:=s.pick e
 exact⟨v,e1,h1.s⟩
theorem ao.len(c:ao B F H σ δ ts):δ.length=σ.length:=let⟨_,_,_,s,_⟩:=c.own;s.length
theorem ao.grow(c:ao B F H σ δ ts)(h:af H H'):ao B F H' σ δ ts:=by
 obtain⟨A,C,r,s,nd,fr⟩:=c.own
 exact⟨c.ext.trans h,c.b1.trans h,c.b2,c.b3,A,C,r.grow (af.refl _) h λa ha=>(r.lists a ha).2,s.keep (af.refl _) (ij.same h) jn.nil (λa ha=>(s.lists a ha).2) (by simp),nd,fr⟩
theorem ao.pop(c:ao B F H σ δ ((d,v)::ts)):ao B F H σ δ ts:=by
 obtain⟨A,C,r,s,nd,fr⟩:=c.own
 obtain⟨w,cQ,A1,A2,e,rfl,h1,h2⟩:=R.dh r
 obtain⟨rfl,rfl⟩:=pG e
 refine⟨c.ext,c.b1,c.b2,c.b3,A2,C,h2,s,?_,λa ha=>fr a (by simp at ha ⊢;exact .inr ha)⟩
 rw[dZ]at nd
 exact(gH.mp nd).2.1
theorem ao.top(c:ao B F H σ δ ((d,v)::ts)):S F H [d] [v]:=by
 obtain⟨A,C,r,s,nd,fr⟩:=c.own
 obtain⟨w,cQ,A1,A2,e,rfl,h1,h2⟩:=R.dh r
 obtain⟨rfl,rfl⟩:=pG e
 exact h1.s
theorem ao.pushS(c:ao B F H σ δ ts)(s:S F H [d] [v])(pl:d.pl=true):ao B F H σ δ ((d,v)::ts):=by
 obtain⟨A,C,r,q,nd,fr⟩:=c.own
 exact⟨c.ext,c.b1,c.b2,c.b3,A,C,(s.r (by simp[pl])).cons r,q,nd,fr⟩
theorem af.upd{o:HO}(h:H p=none):af H (upd H p o):=.of λb u e=>by rw[bb (fq e h)];exact e
theorem ao.pack(c:ao B F H σ δ (ps++ts))(hs:af H H')(k:∀A1,R F H' (ps.map (·.1)) (ps.map (·.2)) A1->A1.Nodup->∃A',R F H' [d] [v] A'/\A'.Nodup/\∀a∈A',a∈A1\/H a=none):ao B F H' σ δ ((d,v)::ts):=by
 obtain⟨A,C,r,s,nd,fr⟩:=c.own
 rw[fY,fY]at r
 obtain⟨v1,v2,A1,A2,e,rfl,h1,h2⟩:=R.split r
 have l1:(ps.map (·.2)).length=v1.length:=by rw[<-h1.length];simp
 obtain⟨rfl,rfl⟩:=AX e l1
 rw[dZ]at nd fr
 obtain⟨n1,n2,n3⟩:=gH.mp nd
 have g1:=h1.grow (af.refl F) hs λa ha=>(h1.lists a ha).2
 have g2:=h2.grow (af.refl F) hs λa ha=>(h2.lists a ha).2
 have gs:=s.keep (af.refl F) (ij.same hs) jn.nil (λa ha=>(s.lists a ha).2) (by simp)
 obtain⟨A',r',Gh,sub⟩:=k A1 g1 n1
 refine⟨c.ext.trans hs,c.b1.trans hs,c.b2,c.b3,A'++A2,C,r'.cons g2,gs,?_,?_⟩
 ·rw[dZ]
  refine gH.mpr ⟨Gh,n2,λa ha hb=>?_⟩
  rcases sub a ha with z | z
  ·exact n3 a z hb
  ·rcases cJ.mp hb with y | y
   ·obtain⟨⟨_,q⟩,_⟩:=h2.lists a y;rw[z]at q;cases q
   ·obtain⟨⟨_,q⟩,_⟩:=s.lists a y;rw[z]at q;cases q
 ·intro a ha
  rw[dZ]at ha
  rcases cJ.mp ha with y | y
  ·rcases sub a y with z | z
   ·exact fr a (by simp[z])
   ·exact c.b1.free z
  ·exact fr a (dY _ y)
theorem ao.Gi(c:ao B F H σ δ ts)(hs:af H H')(r:R F H' [d] [v] A)(nd:A.Nodup)(fr:∀a∈A,H a=none):ao B F H' σ δ ((d,v)::ts) :=
 ao.pack (ps:=[]) c hs λ_ _ _=>⟨A,r,nd,λa ha=>.inr (fr a ha)⟩
theorem ao.nF(c:ao B F H σ δ ts)(hp:H p=none)(s:S F H xs vs)(pl:xs.all D.pl=true):ao B F (upd H p (.lst vs)) σ δ ((.lst true xs,.ref p)::ts) :=
 c.Gi (af.upd hp) (A:=[p]) (by simpa using R.own cB (c.ext.free hp) ((s.r pl).shared (af.refl _) (af.upd hp)) .nil) (by simp) (by simp[hp])
theorem ao.db2(c:ao B F H σ δ (ps++ts))(hp:H p=none):ao B F (upd H p (.lst (ps.map (·.2)))) σ δ ((.lst true (ps.map (·.1)),.ref p)::ts):=by
 refine c.pack (af.upd hp) λA1 r nd=>⟨p::A1,by simpa using R.own cB (c.ext.free hp) r .nil,jy.mpr ⟨λh=>?_,nd⟩,λa ha=>?_⟩
 ·obtain⟨A,C,r0,_,_,_⟩:=c.own
  rw[fY,fY]at r0
  obtain⟨v1,v2,B1,B2,e,rfl,h1,h2⟩:=R.split r0
  have l1:(ps.map (·.2)).length=v1.length:=by rw[<-h1.length];simp
  obtain⟨rfl,rfl⟩:=AX e l1
  have g1:=h1.grow (af.refl F) (af.upd (o:=.lst (ps.map (·.2))) hp) λa ha=>(h1.lists a ha).2
  have:A1=B1:=R.inj r g1
  subst this
  obtain⟨⟨_,q⟩,_⟩:=h1.lists p h
  rw[hp]at q;cases q
 ·rcases cA.mp ha with rfl | h
  ·exact .inr hp
  ·exact .inl h
theorem ao.db3(c:ao B F H σ δ (ps++ts))(hp:H p=none):ao B F (upd H p (.tup (ps.map (·.2)))) σ δ ((.tup (ps.map (·.1)),.ref p)::ts) :=
 c.pack (af.upd hp) λA1 r nd=>⟨A1,by simpa using R.tup (F:=F) cB r .nil,nd,λa ha=>.inl ha⟩
theorem ao.perm(c:ao B F H σ δ ps)(h:ps.Perm ts):ao B F H σ δ ts:=by
 obtain⟨A,C,r,s,nd,fr⟩:=c.own
 obtain⟨A',r',p⟩:=r.perm h
 have pp:=p.append_right C
 exact⟨c.ext,c.b1,c.b2,c.b3,A',C,r',s,pp.nodup_iff.mp nd,λa ha=>fr a (pp.mem_iff.mpr ha)⟩
theorem ao.move(c:ao B F H σ δ ts)(e:δ[i]?=some (some d)):∃v,σ[i]?=some (some v)/\ao B F H σ (δ.set i none) ((d,v)::ts):=by
 obtain⟨A,C,r,s,nd,fr⟩:=c.own
 obtain⟨v,A',C',e1,h1,h2,p⟩:=s.pick e
 have pp:(A++C).Perm ((A'++A)++C'):=by
  refine(p.append_left A).trans ?_
  rw[<-dZ]
  exact pH.append_right _
 exact⟨v,e1,c.ext,c.b1,c.b2,c.b3,A'++A,C',h1.cons r,h2,pp.nodup_iff.mp nd,λa ha=>fr a (pp.mem_iff.mpr ha)⟩
theorem ao.forget(c:ao B F H σ δ ts)(i:Nat):ao B F H σ (δ.set i none) ts:=by
 obtain⟨A,C,r,s,nd,fr⟩:=c.own
 obtain⟨C',h,sb⟩:=s.drop i
 exact⟨c.ext,c.b1,c.b2,c.b3,A,C',r,h,nd.sublist ((Pu A).append sb),λa ha=>fr a (((Pu A).append sb).subset ha)⟩
theorem ao.fill(c:ao B F H σ δ ((d,v)::ts))(e:δ[i]?=some none)(e2:σ[i]?=some (some v)):ao B F H σ (δ.set i (some d)) ts:=by
 obtain⟨A,C,r,s,nd,fr⟩:=c.own
 obtain⟨w,cQ,A1,A2,e',rfl,h1,h2⟩:=R.dh r
 obtain⟨rfl,rfl⟩:=pG e'
 obtain⟨C',s',p⟩:=s.fill e e2 h1
 have pp:((A1++A2)++C).Perm (A2++C'):=by
  refine((pH (l₁:=A1) (l₂:=A2)).append_right C).trans ?_
  rw[dZ]
  exact(p.symm).append_left A2
 exact⟨c.ext,c.b1,c.b2,c.b3,A2,C',h2,s',pp.nodup_iff.mp nd,λa ha=>fr a (pp.mem_iff.mpr ha)⟩
theorem ao.y8(c:ao B F H σ δ ts)(o:Option V)(e:δ[i]?=some none\/δ[i]?=none):ao B F H (σ.set i o) δ ts:=by
 obtain⟨A,C,r,s,nd,fr⟩:=c.own
 exact⟨c.ext,c.b1,c.b2,c.b3,A,C,r,s.y8 o e,nd,fr⟩
theorem ao.store(c:ao B F H σ δ ((d,v)::ts))(i:Nat):ao B F H (σ.set i (some v)) (δ.set i (some d)) ts:=by
 by_cases hi:i<δ.length
 ·have c1:=c.forget i
  have hs:i<σ.length:=by rw[<-c.len];exact hi
  have e:(δ.set i none)[i]?=some none:=by simp[hi]
  have c2:=(c1.y8 (some v) (.inl e)).fill (i:=i) e (by simp[hs])
  rwa [Pw]at c2
 ·have hs:¬ i<σ.length:=by rw[<-c.len];exact hi
  rw[YU (by omega),YU (by omega)]
  exact c.pop
theorem ao.mut(c:ao B F H σ δ (ps++ts))(e:δ[i]?=some (some (.lst true xs)))(e2:σ[i]?=some (some (.ref p)))
  (k:∀ws A1 A2,H p=some (.lst ws)->R F H xs ws A1->R F H (ps.map (·.1)) (ps.map (·.2)) A2->(A1++A2).Nodup->∃A',R F H ys vs A'/\A'.Nodup/\∀a∈A',a∈A1++A2) :
  ao B F (upd H p (.lst vs)) σ (δ.set i (some (.lst true ys))) ts:=by
 have hi:i<δ.length:=(jW.mp e).1
 obtain⟨v,e3,c1⟩:=c.move e
 rw[e2]at e3;cases e3
 obtain⟨A,C,r,s,nd,fr⟩:=c1.own
 have r':R F H (([.lst true xs]++ps.map (·.1))++ts.map (·.1)) ((.ref p::ps.map (·.2))++ts.map (·.2)) A:=by simpa using r
 obtain⟨v1,v2,A1,A2,e4,rfl,h1,h2⟩:=R.split r'
 have l1:(V.ref p::ps.map (·.2)).length=v1.length:=by rw[<-h1.length];simp
 obtain⟨rfl,rfl⟩:=AX e4 l1
 cases h1 with
 | @own _ Gj _ B1 _ _ B2 hH hF hx hr =>
  rw[dZ]at nd fr
  obtain⟨n1,n2,n3⟩:=gH.mp nd
  obtain⟨m1,m2⟩:=jy.mp n1
  obtain⟨A',ra,nda,sub⟩:=k Gj B1 B2 hH hx hr m2
  have pA:p ∉ A':=λz=>m1 (sub _ z)
  have pR:p ∉ A2++C:=λz=>n3 p (by simp) z
  have but:ij [p] H (upd H p (.lst vs)):=⟨λa o q z _=>by rw[bb (by simpa using z)];exact q⟩
  have hl:jn [p] H:=λa ha=>by rw[e5.mp ha];exact⟨_,hH⟩
  have g1:=ra.keep (af.refl F) but hl (λa ha=>(ra.lists a ha).2) λa ha z=>pA (by rw[<-e5.mp z];exact ha)
  have g2:=h2.keep (af.refl F) but hl (λa ha=>(h2.lists a ha).2) λa ha z=>pR (by rw[<-e5.mp z];exact fW _ ha)
  have gs:=s.keep (af.refl F) but hl (λa ha=>(s.lists a ha).2) λa ha z=>pR (by rw[<-e5.mp z];exact dY _ ha)
  have fp:B.H0 p=none:=fr p (by simp)
  have b1:af B.H0 (upd H p (.lst vs)):=⟨λa o q n=>by
   rw[bb (λz=>by rw[z,fp]at q;cases q)]
   exact c1.b1.get a o q n,λa ps q=>by
   rw[bb (λz=>by rw[z,fp]at q;cases q)]
   exact c1.b1.tb a ps q⟩
  have ext:af F (upd H p (.lst vs)):=⟨λa o q n=>by
   rw[bb (λz=>by rw[z,hF]at q;cases q)]
   exact c1.ext.get a o q n,λa ps q=>by
   rw[bb (λz=>by rw[z,hF]at q;cases q)]
   exact c1.ext.tb a ps q⟩
  have c2:ao B F (upd H p (.lst vs)) σ (δ.set i none) ((.lst true ys,.ref p)::ts):=by
   refine⟨ext,b1,c1.b2,c1.b3,(p::A')++A2,C,R.cons (by simpa using R.own cB hF g1 .nil) g2,gs,?_,?_⟩
   ·rw[dZ]
    refine gH.mpr ⟨jy.mpr ⟨pA,nda⟩,n2,λa ha hb=>?_⟩
    rcases cA.mp ha with rfl | ha
    ·exact pR hb
    ·exact n3 a (eJ _ (sub a ha)) hb
   ·intro a ha
    rw[dZ]at ha
    rcases cJ.mp ha with z | z
    ·rcases cA.mp z with rfl | z
     ·exact fp
     ·exact fr a (fW _ (eJ _ (sub a z)))
    ·exact fr a (dY _ z)
  have c3:=c2.fill (i:=i) (by simp[hi]) e2
  rwa [Pw]at c3
theorem ao.Gk(c:ao B F H σ δ ((d,v)::ts)):∃F',af F F'/\ao B F' H σ δ ((d.sh,v)::ts):=by
 obtain⟨A,C,r,s,nd,fr⟩:=c.own
 obtain⟨w,cQ,A1,A2,e',rfl,h1,h2⟩:=R.dh r
 obtain⟨rfl,rfl⟩:=pG e'
 rw[dZ]at nd fr
 obtain⟨n1,n2,n3⟩:=gH.mp nd
 have out:∀a∈A2++C,cq F H A1 a=F a:=λa ha=>BE λz=>n3 a z ha
 have b3:∀a o,cq F H A1 a=some (.lst o)->B.F0 a=some (.lst o)\/B.H0 a=none:=λa o q=>by
  by_cases z:a∈A1
  ·exact .inr (fr a (fW _ z))
  ·rw[BE z]at q;exact c.b3 a o q
 refine⟨cq F H A1,mi c.ext,RC c.ext,c.b1,c.b2.trans (mi c.ext),b3,A2,C,?_,?_,n2,λa ha=>fr a (dY _ ha)⟩
 ·have g1:=h1.cq c.ext A1 (λ_ h=>h)
  exact R.cons (A:=[]) g1 (h2.keep (mi c.ext) (ij.same (af.refl H)) jn.nil (λa ha=>by rw[out a (fW _ ha)];exact(h2.lists a ha).2) (by simp))
 ·exact s.keep (mi c.ext) (ij.same (af.refl H)) jn.nil (λa ha=>by rw[out a (dY _ ha)];exact(s.lists a ha).2) (by simp)
theorem ao.freeze(c:ao B F H σ δ ts)(e:δ[i]?=some (some d)):∃F',af F F'/\ao B F' H σ (δ.set i (some d.sh)) ts:=by
 have hi:i<δ.length:=(jW.mp e).1
 obtain⟨v,e2,c1⟩:=c.move e
 obtain⟨F',s,c2⟩:=c1.Gk
 refine⟨F',s,?_⟩
 have c3:=c2.fill (i:=i) (by simp[hi]) e2
 rwa [Pw]at c3
theorem ao.rebase(c:ao B F H σ δ ts):ao ⟨B.H0,F⟩ F H σ δ ts:=⟨c.ext,c.b1,af.refl _,λ_ _ q=>.inl q,c.own⟩
theorem ao.db5{F1:Hp}(c:ao ⟨B.H0,F1⟩ F H σ δ ts)(h:af B.F0 F1)(h3:∀a ws,F1 a=some (.lst ws)->B.F0 a=some (.lst ws)\/B.H0 a=none):ao B F H σ δ ts :=
 ⟨c.ext,c.b1,h.trans c.b2,λa o q=>(c.b3 a o q).elim (h3 a o) .inr,c.own⟩
theorem ao.only(c:ao B F H σ δ ts){aF:St}{ah:Dl}(h:RS F H ah aF []):ao B F H aF ah ts:=by
 obtain⟨A,C,r,s,nd,fr⟩:=c.own
 exact⟨c.ext,c.b1,c.b2,c.b3,A,[],r,h,by simpa using(gH.mp nd).1,λa ha=>fr a (by simp at ha;simp[ha])⟩
theorem ao.call(c:ao B F H σ δ ts)(hs:af H H')(hf:af F F')(he:af F' H')(h3:∀a ws,F' a=some (.lst ws)->F a=some (.lst ws)\/H a=none)(r:R F' H' [d] [v] A)(nd:A.Nodup)(fr:∀a∈A,H a=none) :
  ao B F' H' σ δ ((d,v)::ts):=by
 obtain⟨A0,C,r0,s,nd0,fr0⟩:=c.own
 have no:∀a,(∃ws,H a=some (.lst ws))/\F a=none->F' a=none:=λa zz=>by
  obtain⟨⟨ws,e⟩,n⟩:=zz
  cases q:F' a with
  | none=>rfl
  | some o =>
   have q2:H' a=some o:=by
    cases n:jm o with
    | true=>exact he.get a o q n
    | false =>
     obtain⟨ps,rfl⟩:=Gb n
     obtain⟨m,z⟩:=he.tb a ps q
     rw[hs a _ e]at z
     cases z
   rw[hs a _ e]at q2
   cases q2
   rcases h3 a ws q with z | z
   ·rw[n]at z;cases z
   ·rw[e]at z;cases z
 refine⟨he,c.b1.trans hs,c.b2.trans hf,λa o q=>(h3 a o q).elim (c.b3 a o) λz=>.inr (c.b1.free z),A++A0,C,R.cons r (r0.grow hf hs λa ha=>no a (r0.lists a ha)),
  s.keep hf (ij.same hs) jn.nil (λa ha=>no a (s.lists a ha)) (by simp),?_,?_⟩
 ·rw[dZ]
  refine gH.mpr ⟨nd,nd0,λa ha hb=>?_⟩
  have z:=fr a ha
  rcases cJ.mp hb with y | y
  ·obtain⟨⟨_,q⟩,_⟩:=r0.lists a y;rw[z]at q;cases q
  ·obtain⟨⟨_,q⟩,_⟩:=s.lists a y;rw[z]at q;cases q
 ·intro a ha
  rw[dZ]at ha
  rcases cJ.mp ha with y | y
  ·exact c.b1.free (fr a y)
  ·exact fr0 a y
theorem ao.RE(c:ao B F H σ δ ((d,v)::ts)):ao B F H (some v::σ) (some d::δ) ts:=by
 obtain⟨A,C,r,s,nd,fr⟩:=c.own
 obtain⟨w,cQ,A1,A2,e',rfl,h1,h2⟩:=R.dh r
 obtain⟨rfl,rfl⟩:=pG e'
 have pp:((A1++A2)++C).Perm (A2++(A1++C)):=by
  rw[<-dZ];exact pH.append_right C
 exact⟨c.ext,c.b1,c.b2,c.b3,A2,A1++C,h2,.gG h1 s,pp.nodup_iff.mp nd,λa ha=>fr a (pp.mem_iff.mpr ha)⟩
theorem ao.db8{w:V}(c:ao B F H (some w::σ) (some d::δ) ts):ao B F H σ δ ((d,w)::ts):=by
 obtain⟨A,C,r,s,nd,fr⟩:=c.own
 cases s with
 | @gG _ _ A1 _ _ C1 h1 s =>
  have pp:(A++(A1++C1)).Perm ((A1++A)++C1):=by
   rw[<-dZ];exact pH.append_right C1
  exact⟨c.ext,c.b1,c.b2,c.b3,A1++A,C1,R.cons h1 r,s,pp.nodup_iff.mp nd,λa ha=>fr a (pp.mem_iff.mpr ha)⟩
theorem ao.db9(c:ao B F H σ δ ((d,v)::(.lst true xs,.ref p)::ts))(hp:H p=some (.lst ws)):ao B F (upd H p (.lst (ws++[v]))) σ δ ((.lst true (xs++[d]),.ref p)::ts):=by
 have c1:=(c.perm (List.Perm.swap _ _ _)).RE
 refine(ao.mut (ps:=[(d,v)]) (i:=0) (ys:=xs++[d]) (vs:=ws++[v]) c1 rfl rfl λeQ A1 A2 h r1 r2 nd=>?_).db8
 rw[hp]at h;cases h
 exact⟨A1++A2,r1.append r2,nd,λa ha=>ha⟩
theorem ao.app(c:ao B F H σ δ ((d,v)::ts))(e:δ[i]?=some (some (.lst true xs)))(e2:σ[i]?=some (some (.ref p)))(hp:H p=some (.lst ws)) :
  ao B F (upd H p (.lst (ws++[v]))) σ (δ.set i (some (.lst true (xs++[d])))) ts :=
 ao.mut (ps:=[(d,v)]) c e e2 λeQ A1 A2 h r1 r2 nd=>by
  rw[hp]at h;cases h
  exact⟨A1++A2,r1.append r2,nd,λa ha=>ha⟩
theorem R.RF:∀{xs:List D} {ws:List V} {A1 A2:List Addr} (j:Nat),R F H xs ws A1->R F H [d] [v] A2->(A1++A2).Nodup->∃A',R F H (xs.set j d) (ws.set j v) A'/\A'.Nodup/\∀a∈A',a∈A1++A2
 | [],_,A1,A2,j,r,q,nd=>by cases r;exact⟨[],.nil,by simp,by simp⟩
 | x::xs,_,A1,A2,j,r,q,nd=>by
  obtain⟨w,eQ,B1,B2,rfl,rfl,h1,h2⟩:=r.dh
  rw[dZ]at nd
  obtain⟨n1,n2,n3⟩:=gH.mp nd
  cases j with
  | zero =>
   refine⟨A2++B2,q.cons h2,(pH (l₁:=B2) (l₂:=A2)).nodup_iff.mp n2,λa ha=>?_⟩
   simp only[cJ]at ha ⊢
   rcases ha with z | z
   ·exact .inr z
   ·exact .inl (.inr z)
  | succ j =>
   obtain⟨A',r',Gh,sub⟩:=R.RF j h2 q n2
   refine⟨B1++A',h1.cons r',gH.mpr ⟨n1,Gh,λa ha hb=>n3 a ha (sub a hb)⟩,λa ha=>?_⟩
   rcases cJ.mp ha with z | z
   ·simp[z]
   ·have:=sub a z
    simp only[cJ]at this ⊢
    rcases this with z | z
    ·exact .inl (.inr z)
    ·exact .inr z
theorem ao.dd0(c:ao B F H σ δ ((d,v)::ts))(e:δ[i]?=some (some (.lst true xs)))(e2:σ[i]?=some (some (.ref p)))(hp:H p=some (.lst ws))(j:Nat) :
  ao B F (upd H p (.lst (ws.set j v))) σ (δ.set i (some (.lst true (xs.set j d)))) ts :=
 ao.mut (ps:=[(d,v)]) c e e2 λeQ A1 A2 h r1 r2 nd=>by
  rw[hp]at h;cases h
  exact r1.RF j r2 nd
theorem ao.ownAt(c:ao B F H σ δ ts)(e:δ[i]?=some (some (.lst true xs))):∃p ws,σ[i]?=some (some (.ref p))/\H p=some (.lst ws)/\xs.length=ws.length:=by
 obtain⟨v,e1,s⟩:=c.look e
 cases s with
 | own h x _=>exact⟨_,_,e1,h,x.length⟩
theorem RS.start{ds:List D}{vs:List V}(r:R F H ds vs [])(n:Nat):RS F H (ds.map some++br n none) (vs.map some++br n none) []:=by
 have z:∀n,RS F H (br n none) (br n none) []:=λn=>by
  induction n with
  | zero=>exact .nil
  | succ n ih=>exact .au ih
 have:∀(ds:List D) (vs:List V),R F H ds vs []->RS F H (ds.map some++br n none) (vs.map some++br n none) []:=by
  intro ds
  induction ds with
  | nil=>intro vs r;cases r;exact z n
  | cons d ds ih =>
   intro vs r
   obtain⟨v,cQ,A1,A2,rfl,e,h1,h2⟩:=r.dh
   obtain⟨rfl,rfl⟩:=EC.mp e.symm
   exact .gG (A:=[]) h1 (ih _ h2)
 exact this ds vs r
theorem ao.start{ds:List D}{vs:List V}(e:af F H)(r:R F H ds vs [])(n:Nat):ao ⟨H,F⟩ F H (vs.map some++br n none) (ds.map some++br n none) [] :=
 ⟨e,af.refl _,af.refl _,λ_ _ q=>.inl q,[],[],.nil,RS.start r n,by simp,by simp⟩
theorem ao.snap(c:ao B F H σ δ ts):ao B (L3.snap F H) H σ δ ts:=by
 obtain⟨A,C,r,s,nd,fr⟩:=c.own
 have no:∀a,(∃ws,H a=some (.lst ws))/\F a=none->L3.snap F H a=none:=λa ⟨⟨ws,e⟩,n⟩=>bU6 e n
 exact⟨b71 c.ext,c.b1,c.b2.trans (qa c.ext),λa ws q=>c.b3 a ws (b63 c.ext q),A,C,r.grow (qa c.ext) (af.refl _) λa ha=>no a (r.lists a ha),
  s.keep (qa c.ext) (ij.same (af.refl _)) jn.nil (λa ha=>no a (s.lists a ha)) (by simp),nd,fr⟩
end
end L3
namespace L3
open PySem L2 PySem.Spec PyProof.Rows
noncomputable abbrev aN:=Dl->(D->Dl->Prop)->Prop
noncomputable abbrev fJ:=Dl->(Bool->Dl->Prop)->Prop
noncomputable abbrev cY:=Dl->(List D->Dl->Prop)->Prop
structure tF where
 nx:Dl->Prop
 rt:D->Prop
 bk:Dl->Prop:=λ_=>False
 ct:Dl->Prop:=λ_=>False
 xc:Addr->Dl->Prop:=λ_ _=>False
 xr:Addr->Dl->Prop:=λ_ _=>False
noncomputable abbrev cZ:=tF->Dl->Prop
noncomputable def lE(t:aN):TE:=λσ H Q=>∃B F δ ts Qd,ao B F H σ δ ts/\t δ Qd/\∀d ah v F' H',Qd d ah->af F F'->af H H'->ao B F' H' σ ah ((d,v)::ts)->Q v H'
noncomputable def lB(t:aN):TE:=λσ H Q=>∃B F δ ts Qd,ao B F H σ δ ts/\t δ Qd/\∀d ah v F' H',Qd d ah->af F F'->af H H'->ao B F' H' σ ah ts->S F' H' [d] [v]->Q v H'
noncomputable def lT(t:fJ):TT:=λσ H Q=>∃B F δ ts Qd,ao B F H σ δ ts/\t δ Qd/\∀b ah F' H',Qd b ah->af F F'->af H H'->ao B F' H' σ ah ts->Q b H'
noncomputable def lA(t:cY):TA:=λσ H Q=>∃B F δ ts Qd,ao B F H σ δ ts/\t δ Qd/\∀ds ah vs F' H',Qd ds ah->af F F'->af H H'->ao B F' H' σ ah ts->S F' H' ds vs->Q vs H'
noncomputable def lO(t:cY):TA:=λσ H Q=>∃B F δ ts Qd,ao B F H σ δ ts/\t δ Qd/\∀(ps:List (D × V)) ah F' H',Qd (ps.map (·.1)) ah->af F F'->af H H'->ao B F' H' σ ah (ps++ts)->Q (ps.map (·.2)) H'
noncomputable def XL(X:Cx)(B:Bs)(Dd:tF):Prop :=
 (∀C ah pins aF F' H' s' a T,Dd.xc C ah->ao B F' H' aF ah []->Inv X pins aF H' s'->tf s'.heap a T (.ref C)->Apart X pins H' a->Apart X pins H' T->X.xe (.ref a) s') /\
 (∀C ah pins aF F' H' s' h' e vs,Dd.xr C ah->ao B F' H' aF ah []->Inv X pins aF H' s'->Pt s'.heap h' e (.ref C) vs->X.xe (.ref e) { s' with heap:=h' })
theorem XL.none{X:Cx}{B:Bs}{Dd:tF}(h1:∀C δ,¬ Dd.xc C δ)(h2:∀C δ,¬ Dd.xr C δ):XL X B Dd:=⟨λC δ _ _ _ _ _ _ _ h=>absurd h (h1 C δ),λC δ _ _ _ _ _ _ _ _ h=>absurd h (h2 C δ)⟩
noncomputable def lS(X:Cx)(t:cZ):TS:=λD σ H=>∃B F δ Dd,ao B F H σ δ []/\t Dd δ/\(∀ah aF F' H',Dd.nx ah->ao B F' H' aF ah []->D.nx aF H')/\(∀d v ah aF F' H',Dd.rt d->ao B F' H' aF ah [(d,v)]->D.rt v H') /\
 (∀ah aF F' H',Dd.bk ah->ao B F' H' aF ah []->D.bk aF H')/\(∀ah aF F' H',Dd.ct ah->ao B F' H' aF ah []->D.ct aF H')/\XL X B Dd
section
variable{X:Cx}{e a b c:Expr}{es:List Expr}{pos:Pos}{st:Stmt}{y9:List Stmt}
theorem dn{t t':TE}(h:PE X e t)(m:∀σ H Q,t' σ H Q->t σ H Q):PE X e t':=λpins s σ H Q I q=>h pins s σ H Q I (m σ H Q q)
theorem Gm{t t':TT}(h:PT X e t)(m:∀σ H Q,t' σ H Q->t σ H Q):PT X e t':=λpins s σ H Q I q=>h pins s σ H Q I (m σ H Q q)
theorem RG{t t':TT}(h:PW X e t)(m:∀σ H Q,t' σ H Q->t σ H Q):PW X e t':=λwh pins s σ H Q I q=>h wh pins s σ H Q I (m σ H Q q)
theorem za{t t':TA}(h:PA X es t)(m:∀σ H Q,t' σ H Q->t σ H Q):PA X es t':=λp pins s σ H Q I q=>h p pins s σ H Q I (m σ H Q q)
theorem nG{t t':TS}(h:PS X st t)(m:∀D σ H,t' D σ H->t D σ H):PS X st t':=λpins s σ H D I q=>h pins s σ H D I (m D σ H q)
theorem Gp{t t':TS}(h:PSs X y9 t)(m:∀D σ H,t' D σ H->t D σ H):PSs X y9 t':=λpins s σ H D I q=>h pins s σ H D I (m D σ H q)
variable{t u ta tb tc:aN}
theorem aa(h:PE X e (lE t)):PE X e (lB t):=dn h λσ H Q ⟨B,F,δ,ts,Qd,c,q,k⟩=>⟨B,F,δ,ts,Qd,c,q,λd ah v F' H' hd sf sh c'=>k d ah v F' H' hd sf sh c'.pop c'.top⟩
noncomputable def nH(t:aN):aN:=λδ Q=>t δ λd ah=>d.pl=true/\Q d ah
theorem df(h:PE X e (lB t)):PE X e (lE (nH t)):=dn h λσ H Q ⟨B,F,δ,ts,Qd,c,q,k⟩=>⟨B,F,δ,ts,_,c,q,λd ah v F' H' hd sf sh c' s=>k d ah v F' H' hd.2 sf sh (c'.pushS s hd.1)⟩
noncomputable def mj(i:Nat):aN:=λδ Q=>match δ[i]? with
 | some (some d)=>Q d δ
 | _=>False
noncomputable def mm(i:Nat):aN:=λδ Q=>match δ[i]? with
 | some (some d)=>Q d (δ.set i none)
 | _=>False
theorem cu8{i:Nat}{δ:Dl}{Q:D->Dl->Prop}(h:mj i δ Q):∃d,δ[i]?=some (some d)/\Q d δ:=by
 unfold mj at h
 split at h
 ·rename_i d e;exact⟨d,e,h⟩
 ·exact h.elim
theorem b98{i:Nat}{δ:Dl}{Q:D->Dl->Prop}(h:mm i δ Q):∃d,δ[i]?=some (some d)/\Q d (δ.set i none):=by
 unfold mm at h
 split at h
 ·rename_i d e;exact⟨d,e,h⟩
 ·exact h.elim
noncomputable def dC(d:D):aN:=λδ Q=>Q d δ
theorem bv(i:Nat){x:Str}(hN:X.N[i]?=some x:=by rfl)(hv:m5 X.env.scope x:=by first | exact aq rfl | exact aY (aq rfl) | exact aY (aY rfl))(hd:(x==("__debug__":Str))=false:=by decide)
  (de:(x==("__classdict__":Str))=false:=by decide):PE X (.Name x pos) (lB (mj i)):=dn (vn hN hv hd de) λσ H Q ⟨B,F,δ,ts,Qd,c,q,k⟩=>by
 obtain⟨d,e,q⟩:=cu8 q
 obtain⟨v,e1,s⟩:=c.look e
 exact⟨v,e1,k d δ v F H q (af.refl _) (af.refl _) c s⟩
theorem em(i:Nat){x:Str}(hN:X.N[i]?=some x:=by rfl)(hv:m5 X.env.scope x:=by first | exact aq rfl | exact aY (aq rfl) | exact aY (aY rfl))(hd:(x==("__debug__":Str))=false:=by decide)
  (de:(x==("__classdict__":Str))=false:=by decide):PE X (.Name x pos) (lE (mm i)):=dn (vn hN hv hd de) λσ H Q ⟨B,F,δ,ts,Qd,c,q,k⟩=>by
 obtain⟨d,e,q⟩:=b98 q
 obtain⟨v,e1,c'⟩:=c.move e
 exact⟨v,e1,k d _ v F H q (af.refl _) (af.refl _) c'⟩
theorem BF{B:Bs}{F H:Hp}{σ:L2.St}{δ:Dl}{ts:List (D × V)}{Qd:D->Dl->Prop}{Q:VK}{d:D}{v:V}(c:ao B F H σ δ ts)(q:Qd d δ)(s:S F H [d] [v])(p:d.pl=true)
  (k:∀d ah v F' H',Qd d ah->af F F'->af H H'->ao B F' H' σ ah ((d,v)::ts)->Q v H'):Q v H:=k d δ v F H q (af.refl _) (af.refl _) (c.pushS s p)
theorem aw{i j}:PE X (.Constant (.int i) j pos) (lE (dC (.int i))):=dn vo λσ H Q ⟨B,F,δ,ts,Qd,c,q,k⟩=>BF c q (.int .nil) rfl k
theorem gj{i j}:PE X (.Constant (.bool i) j pos) (lE (dC (.bl i))):=dn Zy λσ H Q ⟨B,F,δ,ts,Qd,c,q,k⟩=>BF c q (.bl .nil) rfl k
theorem mq{j}:PE X (.Constant .none j pos) (lE (dC .au)):=dn Zz λσ H Q ⟨B,F,δ,ts,Qd,c,q,k⟩=>BF c q (.au .nil) rfl k
theorem RH{x j}:PE X (.Constant (.str x) j pos) (lE (dC (.str x))):=dn ZA λσ H Q ⟨B,F,δ,ts,Qd,c,q,k⟩=>BF c q (.str .nil) rfl k
noncomputable abbrev cO:=D->D->(D->Prop)->Prop
noncomputable def BG(r:R2)(rd:cO):Prop:=∀{B:Bs} {F H:Hp} {σ:L2.St} {δ:Dl} {ts:List (D × V)} {x y:D} {v w:V} {Q:VK} {Qd:D->Prop},ao B F H σ δ ts->S F H [x] [v]->S F H [y] [w]->rd x y Qd ->
 (∀d z H',Qd d->af H H'->ao B F H' σ δ ((d,z)::ts)->Q z H')->r v w H Q
noncomputable def bV(X:Cx)(f:Value->Value->Sem Value)(rd:cO):Prop:=∃r,cM X f r/\BG r rd
theorem bV.or{f:Value->Value->Sem Value}{r1 r2:cO}(h1:bV X f r1)(h2:bV X f r2):bV X f λx y Q=>r1 x y Q\/r2 x y Q:=by
 obtain⟨q1,a1,b1⟩:=h1
 obtain⟨q2,a2,b2⟩:=h2
 refine⟨_,a1.or a2,λ{B F H σ δ ts x y v w Q Qd} c sx sy h k=>?_⟩
 rcases h with h | h
 ·exact .inl (b1 c sx sy h k)
 ·exact .inr (b2 c sx sy h k)
theorem bV.imp{f:Value->Value->Sem Value}{r1 r2:cO}(h1:bV X f r1)(h:∀x y Q,r2 x y Q->r1 x y Q):bV X f r2:=by
 obtain⟨q1,a1,b1⟩:=h1
 exact⟨q1,a1,λ{B F H σ δ ts x y v w Q Qd} c sx sy h2 k=>b1 c sx sy (h _ _ _ h2) k⟩
noncomputable def kK(rd:cO)(ta tb:aN):aN:=λδ Q=>ta δ λx aj=>tb aj λy aQ=>rd x y λd=>Q d aQ
theorem Gq{r:R2}{rd:cO}(hl:BG r rd):∀σ H Q,lE (kK rd ta tb) σ H Q->yK r (lB ta) (lB tb) σ H Q:=λσ H Q ⟨B,F,δ,ts,Qd,c,q,k⟩ =>
 ⟨B,F,δ,ts,_,c,q,λx aj v F1 H1 q1 f1 h1 c1 s1=>⟨B,F1,aj,ts,_,c1,q1,λy aQ w F2 H2 q2 f2 h2 c2 s2 =>
  hl c2 (s1.mono f2 h2) s2 q2 λd z H' hd hs c3=>k d aQ z F2 H' hd (f1.trans f2) ((h1.trans h2).trans hs) c3⟩⟩
theorem aG{op:Operator}{rd:cO}(ho:bV X (binaryOp op) rd)(ha:PE X a (lB ta))(hb:PE X b (lB tb)):PE X (.BinOp a op b pos) (lE (kK rd ta tb)):=by
 obtain⟨r,h1,h2⟩:=ho
 exact dn (yL h1 ha hb) (Gq h2)
theorem qe{op:CmpOp}{rd:cO}(ho:bV X (compareOp op) rd)(ha:PE X a (lB ta))(hb:PE X b (lB tb))(hm:behindInMarks op b=false):PE X (.Compare a [op] [b] pos) (lE (kK rd ta tb)):=by
 obtain⟨r,h1,h2⟩:=ho
 exact dn (cr9 h1 ha hb hm) (Gq h2)
noncomputable def dT(t:aN):fJ:=λδ Q=>t δ λd ah=>∃k,d=.bl k/\Q k ah
theorem b94{te:TE}(h:∀σ H Q,lE t σ H Q->te σ H Q):∀σ H Q,lT (dT t) σ H Q->Qk te σ H Q:=λσ H Q zz=>by
 obtain⟨B,F,δ,ts,Qd,c,q,k⟩:=zz
 refine h σ H _ ⟨B,F,δ,ts,_,c,q,λd ah v F' H' hd sf sh c'=>?_⟩
 obtain⟨b,rfl,qb⟩:=hd
 have s:=c'.top
 cases s with
 | bl _=>exact⟨b,rfl,k b ah F' H' qb sf sh c'.pop⟩
theorem bR{op:CmpOp}{rd:cO}(ho:bV X (compareOp op) rd)(ha:PE X a (lB ta))(hb:PE X b (lB tb))(hm:behindInMarks op b=false):PT X (.Compare a [op] [b] pos) (lT (dT (kK rd ta tb))):=by
 obtain⟨r,h1,h2⟩:=ho
 exact Gm (cu1 h1 ha hb hm) (b94 (Gq h2))
noncomputable def nI(r r':cO)(ta tb tc:aN):aN:=λδ Q=>ta δ λx aj=>tb aj λy aQ=>r x y λd=>∃k,d=.bl k/\if k=true then tc aQ λz gq=>r' y z λd'=>Q d' gq else Q (.bl false) aQ
theorem gr(h:PE X e (lB t))(he:∀whole,isTrue e X.env whole=(do let v<-whole;standAt e.pos;holding [v] (truthy v)):=by intro _;rfl):PT X e (lT (dT t)) :=
 Gm (E5 h he) λσ H Q ⟨B,F,δ,ts,Qd,c,q,k⟩=>⟨B,F,δ,ts,_,c,q,λd ah v F' H' hd sf sh c' s=>by
  obtain⟨b,rfl,qb⟩:=hd
  cases s with
  | bl _=>exact⟨b,rfl,k b ah F' H' qb sf sh c'⟩⟩
variable{tA tB:fJ}{eM:List Expr}
noncomputable def qf(t u:fJ):fJ:=λδ Q=>t δ λc aj=>if c=true then u aj Q else Q false aj
noncomputable def qg(t u:fJ):fJ:=λδ Q=>t δ λc aj=>if c=true then Q true aj else u aj Q
noncomputable def qh(t:fJ):fJ:=λδ Q=>t δ λc aj=>Q (!c) aj
theorem BH(ha:PT X a (lT tA))(hb:PW X (.BoolOp .And (b::eM) pos) (lT tB)):PW X (.BoolOp .And (a::b::eM) pos) (lT (qf tA tB)) :=
 RG (ZG ha hb) λσ H Q ⟨B,F,δ,ts,Qd,c,q,k⟩=>⟨B,F,δ,ts,_,c,q,λb aj F1 H1 q1 f1 h1 c1=>by
  cases b with
  | true=>exact pY ⟨B,F1,aj,ts,Qd,c1,by simpa using q1,λb ah F' H' hd sf sh c'=>k b ah F' H' hd (f1.trans sf) (h1.trans sh) c'⟩
  | false=>exact mf (k false aj F1 H1 (by simpa using q1) f1 h1 c1)⟩
theorem nJ(ha:PT X a (lT tA))(hb:PW X (.BoolOp .Or (b::eM) pos) (lT tB)):PW X (.BoolOp .Or (a::b::eM) pos) (lT (qg tA tB)) :=
 RG (ZH ha hb) λσ H Q ⟨B,F,δ,ts,Qd,c,q,k⟩=>⟨B,F,δ,ts,_,c,q,λb aj F1 H1 q1 f1 h1 c1=>by
  cases b with
  | true=>exact pY (k true aj F1 H1 (by simpa using q1) f1 h1 c1)
  | false=>exact mf ⟨B,F1,aj,ts,Qd,c1,by simpa using q1,λb ah F' H' hd sf sh c'=>k b ah F' H' hd (f1.trans sf) (h1.trans sh) c'⟩⟩
theorem mr(ha:PT X a (lT tA)):PT X (.UnaryOp .Not a pos) (lT (qh tA)) :=
 Gm (E7 ha) λσ H Q ⟨B,F,δ,ts,Qd,c,q,k⟩=>⟨B,F,δ,ts,_,c,q,λb aj F1 H1 q1 f1 h1 c1=>k _ aj F1 H1 q1 f1 h1 c1⟩
noncomputable def qi(ta tb:aN):aN:=λδ Q=>ta δ λx aj=>∃c,x=.bl c/\if c=true then tb aj Q else Q (.bl false) aj
noncomputable def qj(ta:aN):aN:=λδ Q=>ta δ λx aj=>∃c,x=.bl c/\Q (.bl (!c)) aj
theorem vD(ha:PE X a (lB ta))(hb:PE X (.BoolOp .And (b::eM) pos) (lE tb)):PE X (.BoolOp .And (a::b::eM) pos) (lE (qi ta tb)) :=
 dn (ZK ha hb) λσ H Q ⟨B,F,δ,ts,Qd,c,q,k⟩=>⟨B,F,δ,ts,_,c,q,λd aj v F1 H1 q1 f1 h1 c1 s1=>by
  obtain⟨b,rfl,qb⟩:=q1
  cases s1 with
  | bl _ =>
   refine⟨b,rfl,?_⟩
   cases b with
   | true=>exact pY ⟨B,F1,aj,ts,Qd,c1,by simpa using qb,λd ah v F' H' hd sf sh c'=>k d ah v F' H' hd (f1.trans sf) (h1.trans sh) c'⟩
   | false=>exact mf (k _ aj _ F1 H1 (by simpa using qb) f1 h1 (c1.pushS (.bl .nil) rfl))⟩
theorem RI(ha:PE X a (lB ta)):PE X (.UnaryOp .Not a pos) (lE (qj ta)) :=
 dn (ZL ha) λσ H Q ⟨B,F,δ,ts,Qd,c,q,k⟩=>⟨B,F,δ,ts,_,c,q,λd aj v F1 H1 q1 f1 h1 c1 s1=>by
  obtain⟨b,rfl,qb⟩:=q1
  cases s1 with
  | bl _=>exact⟨b,rfl,k _ aj _ F1 H1 qb f1 h1 (c1.pushS (.bl .nil) rfl)⟩⟩
noncomputable def qk(t:fJ)(ta tb:aN):aN:=λδ Q=>t δ λc aj=>if c=true then ta aj Q else tb aj Q
theorem RJ(hc:PT X c (lT tA))(ha:PE X a (lE ta))(hb:PE X b (lE tb)):PE X (.IfExp c a b pos) (lE (qk tA ta tb)) :=
 dn (ZN hc ha hb) λσ H Q ⟨B,F,δ,ts,Qd,c,q,k⟩=>⟨B,F,δ,ts,_,c,q,λb aj F1 H1 q1 f1 h1 c1=>by
  cases b with
  | true=>exact pY ⟨B,F1,aj,ts,Qd,c1,by simpa using q1,λd ah v F' H' hd sf sh c'=>k d ah v F' H' hd (f1.trans sf) (h1.trans sh) c'⟩
  | false=>exact mf ⟨B,F1,aj,ts,Qd,c1,by simpa using q1,λd ah v F' H' hd sf sh c'=>k d ah v F' H' hd (f1.trans sf) (h1.trans sh) c'⟩⟩
noncomputable def nK:cY:=λδ Q=>Q [] δ
noncomputable def nL(t:aN)(r:cY):cY:=λδ Q=>t δ λd aj=>r aj λds aQ=>Q (d::ds) aQ
theorem ax:PA X [] (lA nK):=za jE λσ H Q ⟨B,F,δ,ts,Qd,c,q,k⟩=>k [] δ [] F H q (af.refl _) (af.refl _) c .nil
variable{tr:cY}
theorem ag(ha:PE X e (lB t))(hr:PA X es (lA tr))(hs:starEach (e::es) X.env=(false,eval e X.env)::starEach es X.env:=by rfl):PA X (e::es) (lA (nL t tr)) :=
 za (fH ha hr hs) λσ H Q ⟨B,F,δ,ts,Qd,c,q,k⟩=>⟨B,F,δ,ts,_,c,q,λd aj v F1 H1 q1 f1 h1 c1 s1=>⟨B,F1,aj,ts,_,c1,q1,λds aQ vs F2 H2 q2 f2 h2 c2 s2 =>
  k (d::ds) aQ (v::vs) F2 H2 q2 (f1.trans f2) (h1.trans h2) c2 ((s1.mono f2 h2).cons s2)⟩⟩
theorem dF:PA X [] (lO nK):=za jE λσ H Q ⟨B,F,δ,ts,Qd,c,q,k⟩=>k [] δ F H q (af.refl _) (af.refl _) c
theorem fu(ha:PE X e (lE t))(hr:PA X es (lO tr))(hs:starEach (e::es) X.env=(false,eval e X.env)::starEach es X.env:=by rfl):PA X (e::es) (lO (nL t tr)) :=
 za (fH ha hr hs) λσ H Q ⟨B,F,δ,ts,Qd,c,q,k⟩=>⟨B,F,δ,ts,_,c,q,λd aj v F1 H1 q1 f1 h1 c1=>⟨B,F1,aj,(d,v)::ts,_,c1,q1,λps aQ F2 H2 q2 f2 h2 c2 =>
  k ((d,v)::ps) aQ F2 H2 q2 (f1.trans f2) (h1.trans h2) (c2.perm (List.perm_middle))⟩⟩
noncomputable def nM(t:cY):aN:=λδ Q=>t δ λds ah=>ds.length<=sizeLine/\Q (.lst true ds) ah
noncomputable def ql(t:cY):aN:=λδ Q=>t δ λds ah=>ds.length<=sizeLine/\Q (.tup ds) ah
theorem eR(h:PA X es (lO tr)):PE X (.List es pos) (lE (nM tr)) :=
 dn (Qo h) λσ H Q ⟨B,F,δ,ts,Qd,c,q,k⟩=>⟨B,F,δ,ts,_,c,q,λps aj F1 H1 q1 f1 h1 c1=>⟨by simpa using q1.1,λp hp=>k _ aj _ F1 _ q1.2 f1 (h1.trans (af.upd hp)) (c1.db2 hp)⟩⟩
theorem zb{x1}(h:PA X es (lO tr)):PE X (.Tuple es x1 pos) (lE (ql tr)) :=
 dn (cz7 h) λσ H Q ⟨B,F,δ,ts,Qd,c,q,k⟩=>⟨B,F,δ,ts,_,c,q,λps aj F1 H1 q1 f1 h1 c1=>⟨by simpa using q1.1,λp hp=>k _ aj _ F1 _ q1.2 f1 (h1.trans (af.upd hp)) (c1.db3 hp)⟩⟩
end
end L3
namespace L3
open PySem L2 PySem.Spec PyProof.Rows
noncomputable abbrev bx:=List D->(D->Prop)->Prop
noncomputable def bA(sp:bx):Sp:=λvs H Q _=>∃F ds Qd,af F H/\R F H ds vs []/\sp ds Qd/\∀d v F' H' A,Qd d->af H H'->af F F'->af F' H'->(∀a ws,F' a=some (.lst ws)->F a=some (.lst ws)\/H a=none)->R F' H' [d] [v] A->A.Nodup->(∀a∈A,H a=none)->Q v H'
noncomputable def nN(sp:bx)(t:cY):aN:=λδ Q=>t δ λds ah=>sp (ds.map D.sh) λd=>(ds.all D.pl||d.fr)=true/\Q d ah
theorem BJ{B:Bs}{F H:Hp}{σ:L2.St}{δ:Dl}{ts:List (D × V)}{Qd:D->Prop}{Q:VK}{E:XK}{ds:List D}{vs:List V}{sp:bx}(c:ao B F H σ δ ts)(s:S F H ds vs)(q:sp (ds.map D.sh) λd=>(ds.all D.pl||d.fr)=true/\Qd d)
  (k:∀d v F' H',Qd d->af F F'->af H H'->ao B F' H' σ δ ((d,v)::ts)->Q v H'):bA sp vs H Q E:=by
 by_cases hp:ds.all D.pl=true
 ·rw[mh hp]at q
  exact⟨F,ds,_,c.ext,s.r hp,q,λd v F' H' A hd hs hf he h3 r nd fr=>k d v F' H' hd.2 hf hs (c.call hs hf he h3 r nd fr)⟩
 ·refine⟨H,ds.map D.sh,_,af.refl _,s.frozen c.ext,q,λd v F' H' A hd hs hf he h3 r nd fr=>?_⟩
  have eP:d.fr=true:=by
   have:=hd.1
   rw[Bool.or_eq_true]at this
   exact this.resolve_left hp
  exact k d v F H' hd.2 (af.refl _) hs (c.Gi hs (r.Gg (by simp[eP]) (c.ext.trans hf)) nd fr)
section
variable{X:Cx}{CX:e7}{n:Nat}{f:Addr}{fd:FuncData}{ps:List Str}{sp:bx}{E:XK}{x:Str}{p pos:Pos}{e:Expr}{es:List Expr}{t:cY}
theorem bh(F:aP X.prog X.w X.K X.mg X.base CX n f fd ps (bA sp))(hr:cm n X.A)(hg:Gl X x)(hm:X.mg x=some (.ref f))(hk:PySem.W.keepIn X.K (.ref f)=true)(hb:Binds X.K fd ps [])(hx:lY CX X E)
  (ha:PA X (e::es) (lA t)) (e8:(x==("__debug__":Str))=false:=by decide) (he:starEach (e::es) X.env=(false,eval e X.env)::starEach es X.env:=by rfl) (bU:(backTo pos (starEach es X.env)).any (·.1)=false:=by rfl) :
  PE X (.Call (.Name x p) (e::es) [] pos) (lE (nN sp t)) :=
 dn (sX F hr hg hm hk hb .nil hx ha e8 he bU) λσ H Q ⟨B,F,δ,ts,Qd,c,q,k⟩=>⟨B,F,δ,ts,_,c,q,λds aj vs F1 H1 q1 f1 h1 c1 s1=>by
  show bA sp (vs++[]) H1 Q E
  rw[iC]
  exact BJ c1 s1 q1 λd v F' H' hd hf hs c'=>k d aj v F' H' hd (f1.trans hf) (h1.trans hs) c'⟩
end
noncomputable def jK(N:List Str)(ds:List D):Dl:=ds.map some++br (N.length-ds.length) none
section
variable{P:Program}{w:World}{K:PySem.W.Frag}{mg:Str->Option Value}{base:Heap}
theorem bM{x qual:Str}{st:Stmt}{f:Addr}{fd:FuncData}{N ps:List Str}{k:Nat}{sp:bx}(F:bq K x qual st f fd)(S:bu N ps (ay st))(len:∀ds Q,sp ds Q->ds.length=ps.length)
  (iH:∀(aI:Value) (A:Around) (outer:List Env) (s:Shared) (H:Hp) (E:XK),cm k (A.deeper (envOfC qual (ay st) s.heap.objs.size f aI)) ->
   ∃t:cZ,PSs (jh aZ P w K mg base N qual (ay st) f aI A outer s H E).gb (bg st) (lS (jh aZ P w K mg base N qual (ay st) f aI A outer s H E).gb t)/\∀ds Q,sp ds Q->t { nx:=λ_=>Q .au,rt:=Q } (jK N ds)):aP P w K mg base aZ (k+1) f fd ps (bA sp):=by
 refine F.ok S (λvs H Q E ⟨F,ds,Qd,e,r,h,_⟩=>by rw[<-r.length];exact len ds Qd h) λaI A outer s H vs Q E hr zz=>?_
 obtain⟨F,ds,Qd,e,r,h,k⟩:=zz
 obtain⟨t,ht,hq⟩:=iH aI A outer s H E hr
 have fin:∀d v ah aF F' H',Qd d->ao ⟨H,F⟩ F' H' aF ah [(d,v)]->Q v H':=λd v ah aF F' H' hd c=>by
  obtain⟨A,C,r',s',nd,fr⟩:=c.own
  exact k d v F' H' A hd c.b1 c.b2 c.ext c.b3 r' (gH.mp nd).1 λa ha=>fr a (fW _ ha)
 have e1:L2.start N vs=vs.map some++br (N.length-ds.length) none:=by unfold L2.start;rw[r.length]
 refine⟨_,ht,⟨H,F⟩,F,jK N ds,_,?_,hq ds Qd h,λah aF F' H' hd c=>fin .au .au ah aF F' H' hd (c.pushS (.au .nil) rfl),fin,λ_ _ _ _ z=>z.elim,λ_ _ _ _ z=>z.elim,XL.none (λ_ _ z=>z) λ_ _ z=>z⟩
 rw[e1]
 exact ao.start e r _
end
section
variable{X:Cx}{e a b c:Expr}{es:List Expr}{pos:Pos}{st:Stmt}{y9 eM:List Stmt}{t u:cZ}{te:aN}{tt:fJ}
noncomputable def qm:cZ:=λD δ=>D.nx δ
noncomputable def RK(t u:cZ):cZ:=λD δ=>t { D with nx:=u D } δ
theorem az{t u:cZ}{En:tF}{δ:Dl}(h:∀U:Dl->Prop,(∀ah,u En ah->U ah)->t { En with nx:=U } δ):RK t u En δ:=h (u En) λ_ z=>z
theorem cC:PSs X [] (lS X qm):=Gp E8 λD σ H ⟨B,F,δ,Dd,c,q,k1,_⟩=>k1 δ σ F H q c
theorem aA(h1:PS X st (lS X t))(h2:PSs X eM (lS X u)):PSs X (st::eM) (lS X (RK t u)) :=
 Gp (kE h1 h2) λD σ H ⟨B,F,δ,Dd,c,q,k1,k2,k3,k4⟩=>⟨B,F,δ,{ Dd with nx:=u Dd },c,q,λah aF F' H' hq c'=>⟨B,F',ah,Dd,c',hq,k1,k2,k3,k4⟩,k2,k3,k4⟩
theorem aE(h1:PS X st (lS X t)):PSs X [st] (lS X t):=vq h1
noncomputable def nO(i:Nat)(t:cZ):cZ:=λD δ=>∃d,δ[i]?=some (some d)/\t D (δ.set i (some d.sh))
theorem BK(i:Nat)(h:PSs X y9 (lS X t)):PSs X y9 (lS X (nO i t)):=Gp h λD σ H zz=>by
 obtain⟨B,F,δ,Dd,c,⟨d,e,q⟩,k⟩:=zz
 obtain⟨F',s,c'⟩:=c.freeze e
 exact⟨B,F',_,Dd,c',q,k⟩
noncomputable def nQ(i:Nat)(t:aN):cZ:=λD δ=>t δ λd ah=>D.nx (ah.set i (some d))
theorem bj{i:Nat}{x:Str}{pos':Pos}(hN:X.N.Nodup)(hi:X.N[i]?=some x)(hx:Loc X.env.scope x)(he:PE X e (lE te))(hs:swapsWith e (some (.Name x pos')) pos.line X.env=pure false:=by rfl)
  (hf:X.fn x=true\/X.env.scope.names.lookup x=some .local:=by first | exact .inl rfl | exact .inr rfl | assumption):PS X (.Assign [.Name x pos'] e pos) (lS X (nQ i te)) :=
 nG (Qb hN hi hx he hs hf) λD σ H ⟨B,F,δ,Dd,c,q,k1,k2,k3,k4⟩=>⟨B,F,δ,[],_,c,q,λd ah v F' H' hd sf sh c'=>k1 _ _ F' H' hd (c'.store i)⟩
noncomputable def qo(t:aN):cZ:=λD δ=>t δ λd _=>D.rt d
theorem aS(he:PE X e (lE te)):PS X (.Return (some e) pos) (lS X (qo te)) :=
 nG (ZT he) λD σ H ⟨B,F,δ,Dd,c,q,k1,k2,k3,k4⟩=>⟨B,F,δ,[],_,c,q,λd ah v F' H' hd sf sh c'=>k2 d v ah σ F' H' hd c'⟩
noncomputable def nR(tc:fJ)(t u:cZ):cZ:=λD δ=>tc δ λb ah=>if b=true then t D ah else u D ah
theorem cy{l r:List Stmt}(hc:PT X c (lT tt))(ha:PSs X l (lS X t))(hb:PSs X r (lS X u)):PS X (.If c l r pos) (lS X (nR tt t u)) :=
 nG (Fb hc ha hb) λD σ H ⟨B,F,δ,Dd,c,q,k⟩=>⟨B,F,δ,[],_,c,q,λb ah F' H' hq sf sh c'=>by
  cases b with
  | true=>exact pY ⟨B,F',ah,Dd,c',by simpa using hq,k⟩
  | false=>exact mf ⟨B,F',ah,Dd,c',by simpa using hq,k⟩⟩
noncomputable def qp(i:Nat)(rd:cO)(t:aN):cZ:=λD δ=>∃x,δ[i]?=some (some x)/\t δ λy aj=>rd x y λz=>D.nx (aj.set i (some z))
theorem BL{i:Nat}{x:Str}{op:Operator}{rd:cO}{pos':Pos}(hN:X.N.Nodup)(hi:X.N[i]?=some x)(hx:Loc X.env.scope x)(he:PE X e (lB te))(ho:bV X (inplaceOp op) rd)
  (hf:X.fn x=true\/X.env.scope.names.lookup x=some .local:=by first | exact .inl rfl | exact .inr rfl | assumption):PS X (.AugAssign (.Name x pos') op e pos) (lS X (qp i rd te)):=by
 obtain⟨r,h1,h2⟩:=ho
 refine nG (Z6 hN hi hx he (ti:=r) h1 hf) λD σ H zz=>?_
 obtain⟨B,F,δ,Dd,c,⟨d0,e0,q⟩,k1,k2,k3,k4⟩:=zz
 obtain⟨v0,e1,s0⟩:=c.look e0
 exact⟨v0,e1,B,F,δ,[],_,c,q,λd ah v F' H' hd sf sh c' s=>h2 c' (s0.mono sf sh) s hd λz w H2 hz h3 c3=>k1 _ _ F' H2 hz (c3.store i)⟩
noncomputable def qq(tc:fJ)(tb:cZ):cZ:=λD δ=>∃W:Nat->Dl->Prop,(∃m,W m δ)/\∀m δ,W m δ->tc δ λb ah=>if b=true then tb { D with nx:=λah=>∃m',m'<m/\W m' ah,ct:=λah=>∃m',m'<m/\W m' ah,bk:=D.nx } ah else D.nx ah
theorem zc{body:List Stmt}(hp:PassesOwn (model X.prog X.w) X.A X.env X.xe)(hc:PT X c (lT tt))(hb:PSs X body (lS X t)):PS X (.While c body [] pos) (lS X (qq tt t)) :=
 nG (γ hp hc hb) λD σ H zz=>by
  obtain⟨B,F,δ,Dd,c,⟨W,⟨m0,w0⟩,hw⟩,k1,k2,k3,k4⟩:=zz
  refine⟨λm σ H=>∃F δ,ao B F H σ δ []/\W m δ,⟨m0,F,δ,c,w0⟩,λm σ H ⟨F,δ,c,w⟩=>⟨B,F,δ,[],_,c,hw m δ w,λb ah F' H' hq sf sh c'=>?_⟩⟩
  cases b with
  | true =>
   refine pY ⟨λaF H'=>∃m',m'<m/\∃F δ,ao B F H' aF δ []/\W m' δ,λaF H' z=>z,B,F',ah,{ Dd with nx:=λah=>∃m',m'<m/\W m' ah,ct:=λah=>∃m',m'<m/\W m' ah,bk:=Dd.nx },c',by simpa using hq,λaQ lW F2 H2 ⟨m',hm,w2⟩ c2=>⟨m',hm,F2,aQ,c2,w2⟩,k2,λaQ lW F2 H2 z c2=>k1 aQ lW F2 H2 z c2,λaQ lW F2 H2 ⟨m',hm,w2⟩ c2=>⟨m',hm,F2,aQ,c2,w2⟩,k4.2⟩
  | false=>exact mf (k1 ah σ F' H' (by simpa using hq) c')
end
structure JD(J:It)(F:Hp)(xs:List D):Prop where
 go:∀i H,af F H->i<xs.length->J.go i H
 j7:∀i H x H',af F H->i<xs.length->J.j7 i H x H'->∃d,xs[i]?=some d/\af H H'/\R F H' [d] [x] []
 stop:∀i H,af F H->xs.length<=i->J.stop i H
noncomputable abbrev jo:=Dl->(Bool->List D->Dl->Prop)->Prop
noncomputable def lI(t:jo):TI:=λσ H Rr=>∃B F δ ts Qd,ao B F H σ δ ts/\t δ Qd/\∀g xs ah J F' H',Qd g xs ah->af F F'->af H H'->ao B F' H' σ ah ts->JD J H' (xs.map D.sh)->(g=true->xs.all D.pl=true/\JD J F' xs)->Rr J H'
noncomputable abbrev iM:=D->Dl->(Dl->Prop)->Prop
noncomputable def lG(m:Nat)(t:iM):TG:=λv σ H Q=>∃B F δ ts d Qd,ao B F H σ δ ((d,v)::ts)/\t d δ Qd/\∀ah aF,Qd ah->aF.length=σ.length->(∀j,j<m->aF[j]?=σ[j]?)->ao B F H aF ah ts->Q aF H
noncomputable def iN:D->Option (List D)
 | .lst _ xs=>some xs
 | .fz xs=>some xs
 | _=>none
section
variable{B:Bs}{F H F1:Hp}{σ:L2.St}{δ:Dl}{ts:List (D × V)}
end
section
variable{X:Cx}{e a b c tg l iter:Expr}{es:List Expr}{pos:Pos}{t u:cZ}{te:aN}{tt:fJ}{ta:cY}{m:Nat}
theorem tG{w w':TI}(h:PI X tg iter w)(m:∀σ H Q,w' σ H Q->w σ H Q):PI X tg iter w':=λpins s σ H Q I q=>h pins s σ H Q I (m σ H Q q)
theorem RL{w w':TG}(h:PG X tg w)(m:∀v σ H Q,w' v σ H Q->w v σ H Q):PG X tg w':=λpins s σ H v u Q I r q=>h pins s σ H v u Q I r (m v σ H Q q)
noncomputable def gN(i:Nat):iM:=λd δ Q=>Q (δ.set i (some d))
theorem cE{i:Nat}{x:Str}(hN:X.N.Nodup)(hi:X.N[i]?=some x)(hx:Loc X.env.scope x)(hm:m<=i:=by decide)(hf:X.fn x=true\/X.env.scope.names.lookup x=some .local:=by first | exact .inl rfl | exact .inr rfl | assumption):PG X (.Name x pos) (lG m (gN i)) :=
 RL (Bk hN hi hx hf) λv σ H Q ⟨B,F,δ,ts,d,Qd,c,q,k⟩=>k _ _ q (by simp) (λj hj=>by rw[uQ (by omega)]) (c.store i)
theorem nS{K:PySem.W.Frag}{F H:Hp}{p:Addr}{xs:List D}{ws:List V}(hp:Rd F p (.lst ws))(r:R F H xs ws [])(hF:Full F H):JD (Fg K p) F xs where
 go:=λi H' hs hi=>by
  have l:=r.length
  have fc:i<ws.length:=by omega
  exact⟨ws,ws[i],.inl (gZ hp hs),aL fc⟩
 j7:=λi H' x H2 hs hi zz=>by
  obtain⟨e,y⟩:=zz
  subst e
  have hx:=y ws (.inl (gZ hp hs))
  obtain⟨v,A1,e2,r1,sub⟩:=(r.full hF hs rfl).get (aL hi)
  rw[hx]at e2;cases e2
  have:A1=[]:=Px.mpr λa ha=>by simpa using sub ha
  subst this
  exact⟨_,aL hi,af.refl _,r1⟩
 stop:=λi H' hs hi=>⟨ws,.inl (gZ hp hs),by have:=r.length;omega⟩
theorem BM{F:Hp}(lo:Int)(n:Nat):JD (yG lo n) F ((aM n).map λ(k:Nat)=>D.int (lo+(k:Int))) where
 go:=λi H' hs hi=>by
  have fc:i<n:=by simpa using hi
  exact fc
 j7:=λi H' x H2 hs hi zz=>by
  obtain⟨e,y⟩:=zz
  subst e y
  have fc:i<n:=by simpa using hi
  exact⟨.int (lo+i),by simp[gU fc],af.refl _,.int .nil⟩
 stop:=λi H' hs hi=>by
  have fc:n<=i:=by simpa using hi
  exact fc
noncomputable def qt(t:aN):jo:=λδ Q=>t δ λd ah=>∃xs,iN d=some xs/\Q true (xs.map D.sh) ah
theorem cP8(xs:List D){F H:Hp}{ws:List V}(r:R F H (xs.map D.sh) ws []):(xs.map D.sh).map D.sh=xs.map D.sh:=mh r.pl
theorem BN(h:PE X l (lE te)):PI X tg l (lI (qt te)) :=
 tG (Qf h) λσ H Q ⟨B,F,δ,ts,Qd,c,q,k⟩=>⟨B,F,δ,ts,_,c,q,λd aj v F1 H1 hd f1 h1 c1=>by
  obtain⟨xs,e,hq⟩:=hd
  obtain⟨F2,f2,c2⟩:=c1.Gk
  have tp:=c2.top
  have c3:=c2.pop.snap
  have e2:=c2.ext
  have sn:=qa e2
  cases d with
  | lst o ys =>
   obtain rfl:=cW e
   rw[dO]at tp
   cases tp with
   | @shr p ws _ _ _ hp r _ =>
    have r3:=r.shared sn (af.refl _)
    refine⟨p,rfl,⟨ws,bJ.of (e2 _ _ hp)⟩,k true _ aj _ _ H1 hq ((f1.trans f2).trans sn) h1 c3 ?_ λ_=>⟨r.pl,nS (.inl (sn _ _ hp)) r3 tE⟩⟩
    rw[cP8 _ r]
    exact nS (.inl (e2 _ _ hp)) (r.shared e2 (af.refl _)) (Full.refl _)
  | fz ys =>
   obtain rfl:=cW e
   cases tp with
   | @fz p o ws _ _ _ hp r _ =>
    have r3:=r.shared sn (af.refl _)
    have es:=mh r.pl
    rw[es]at hq
    refine⟨p,rfl,⟨ws,.inl (.inr ⟨o,e2 _ _ hp⟩)⟩,k true _ aj _ _ H1 hq ((f1.trans f2).trans sn) h1 c3 ?_ λ_=>⟨r.pl,nS (.inr ⟨o,sn _ _ hp⟩) r3 tE⟩⟩
    rw[es]
    exact nS (.inr ⟨o,e2 _ _ hp⟩) (r.shared e2 (af.refl _)) (Full.refl _)
  | au=>cases e
  | bl _=>cases e
  | int _=>cases e
  | str _=>cases e
  | tup _=>cases e
  | obj _ _ _=>cases e
  | bE _=>cases e⟩
noncomputable def qu(t:aN):jo:=λδ Q=>t δ λd ah=>∃xs,iN d=some xs/\Q d.pl xs ah
theorem gI(h:PE X l (lB te)):PI X tg l (lI (qu te)) :=
 tG (Qf h) λσ H Q ⟨B,F,δ,ts,Qd,c,q,k⟩=>⟨B,F,δ,ts,_,c,q,λd aj v F1 H1 hd f1 h1 c1 s=>by
  obtain⟨xs,e,hq⟩:=hd
  have c3:=c1.snap
  have e2:=c1.ext
  have sn:=qa e2
  cases s with
  | @shr p ws ys _ _ hp r _ =>
   obtain rfl:=cW e
   refine⟨p,rfl,⟨ws,bJ.of (e2 _ _ hp)⟩,k _ _ aj _ _ H1 hq (f1.trans sn) h1 c3 ?_ λ_=>⟨r.pl,nS (.inl (sn _ _ hp)) (r.shared sn (af.refl _)) tE⟩⟩
   rw[mh r.pl]
   exact nS (.inl (e2 _ _ hp)) (r.shared e2 (af.refl _)) (Full.refl _)
  | @own p ws ys _ _ hp r _ =>
   obtain rfl:=cW e
   refine⟨p,rfl,⟨ws,bJ.of hp⟩,k _ _ aj _ _ H1 hq (f1.trans sn) h1 c3 (nS (.inl hp) (r.frozen e2) (Full.refl _)) λz=>by simp[gh]at z⟩
  | @fz p o ws ys _ _ hp r _ =>
   obtain rfl:=cW e
   refine⟨p,rfl,⟨ws,.inl (.inr ⟨o,e2 _ _ hp⟩)⟩,k _ _ aj _ _ H1 hq (f1.trans sn) h1 c3 ?_ λ_=>⟨r.pl,nS (.inr ⟨o,sn _ _ hp⟩) (r.shared sn (af.refl _)) tE⟩⟩
   rw[mh r.pl]
   exact nS (.inr ⟨o,e2 _ _ hp⟩) (r.shared e2 (af.refl _)) (Full.refl _)
  | au _=>cases e
  | bl _=>cases e
  | int _=>cases e
  | str _=>cases e
  | tup _ _ _=>cases e
  | obj _ _ _ _=>cases e
  | bE _ _=>cases e⟩
theorem zd(f:Nat->Int)(l:List Nat):(l.map λk=>D.int (f k)).map D.sh=l.map λk=>D.int (f k):=by simp[D.sh]
theorem RM(f:Nat->Int)(l:List Nat):(l.map λk=>D.int (f k)).all D.pl=true:=by simp[D.pl]
noncomputable def qv(t:cY):jo:=λδ Q=>t δ λds ah=>∃j:Int,ds=[.int j]/\(-(2 ^ 62)<=j/\j<2 ^ 62)/\Q true ((aM j.toNat).map λ(k:Nat)=>D.int (0+(k:Int))) ah
theorem iO{p:Pos}(hg:Gl X "range")(hm:X.mg "range"=none)(ha:PA X [a] (lA ta))(hs:starEach [a] X.env=[(false,eval a X.env)]:=by rfl):PI X tg (.Call (.Name "range" p) [a] [] pos) (lI (qv ta)) :=
 tG (μ hg hm ha hs) λσ H Q ⟨B,F,δ,ts,Qd,c,q,k⟩=>⟨B,F,δ,ts,_,c,q,λds aj vs F1 H1 hd f1 h1 c1 s=>by
  obtain⟨j,rfl,⟨b1,b2⟩,hq⟩:=hd
  cases s with
  | int s =>
   cases s
   refine⟨j,rfl,b1,b2,k true _ aj _ _ H1 hq f1 h1 c1 ?_ λ_=>⟨RM _ _,BM 0 _⟩⟩
   rw[zd]
   exact BM 0 _⟩
noncomputable def qw(t:cY):jo:=λδ Q=>t δ λds ah=>∃i j:Int,ds=[.int i,.int j]/\(-(2 ^ 62)<=i/\i<2 ^ 62/\-(2 ^ 62)<=j/\j<2 ^ 62)/\Q true ((aM (j-i).toNat).map λ(k:Nat)=>D.int (i+(k:Int))) ah
theorem BO{p:Pos}(hg:Gl X "range")(hm:X.mg "range"=none)(ha:PA X [a,b] (lA ta))(hs:starEach [a,b] X.env=[(false,eval a X.env),(false,eval b X.env)]:=by rfl)(fG:starEach [b] X.env=[(false,eval b X.env)]:=by rfl) :
  PI X tg (.Call (.Name "range" p) [a,b] [] pos) (lI (qw ta)) :=
 tG (ν hg hm ha hs fG) λσ H Q ⟨B,F,δ,ts,Qd,c,q,k⟩=>⟨B,F,δ,ts,_,c,q,λds aj vs F1 H1 hd f1 h1 c1 s=>by
  obtain⟨i,j,rfl,bd,hq⟩:=hd
  cases s with
  | int s =>
   cases s with
   | int s =>
    cases s
    refine⟨i,j,rfl,bd,k true _ aj _ _ H1 hq f1 h1 c1 ?_ λ_=>⟨RM _ _,BM i _⟩⟩
    rw[zd]
    exact BM i _⟩
noncomputable def gu(xs:List D)(g:iM)(tb:cZ):cZ:=λEn aj=>∃Iv:Nat->Dl->Prop,Iv 0 aj /\
 (∀i d ah,xs[i]?=some d->Iv i ah->g d ah λaQ=>tb { En with nx:=Iv (i+1),ct:=Iv (i+1),bk:=En.nx } aQ)/\∀ah,Iv xs.length ah->En.nx ah
theorem gu.mk{xs:List D}{g:iM}{tb:cZ}{En:tF}{δ:Dl}(Iv:Nat->Dl->Prop)(h0:Iv 0 δ)(ht:∀i d ah,xs[i]?=some d->Iv i ah->g d ah λaQ=>tb { En with nx:=Iv (i+1),ct:=Iv (i+1),bk:=En.nx } aQ)
  (hf:∀ah,Iv xs.length ah->En.nx ah):gu xs g tb En δ:=⟨Iv,h0,ht,hf⟩
noncomputable def qy(ti:jo)(g:iM)(tb:cZ):cZ:=λEn δ=>ti δ λsh xs aj=>sh=true/\gu xs g tb En aj
theorem gJ{ti:jo}{g:iM}{body:List Stmt}(hp:PassesOwn (model X.prog X.w) X.A X.env X.xe)(hc:X.calm=true)(hi:PI X tg iter (lI ti))(hg:PG X tg (lG 0 g))(hb:PSs X body (lS X t))
  (hs:∀x,foldedSetIterable iter X.env x=pure x:=by intro _;rfl):PS X (.For tg iter body [] pos) (lS X (qy ti g t)) :=
 nG (π hp hc hi hg hb hs) λEn σ H ⟨B,F,δ,Dd,c,q,k1,k2,k3,k4⟩=>⟨B,F,δ,[],_,c,q,λsh xs aj J F1 H1 hq f1 h1 c1 _ jd=>by
  obtain⟨pX,Iv,i0,turn,fin⟩:=hq
  obtain⟨bU,jd⟩:=jd pX
  have un:∀{F' H':Hp} {aF:L2.St} {ah:Dl} {ts:List (D × V)},ao ⟨B.H0,F1⟩ F' H' aF ah ts->ao B F' H' aF ah ts:=λc'=>c'.db5 c1.b2 c1.b3
  refine⟨λi m σ H=>m=xs.length-i/\i<=xs.length/\∃F δ,ao ⟨B.H0,F1⟩ F H σ δ []/\Iv i δ,⟨_,rfl,jX _,F1,aj,c1.rebase,i0⟩,?_⟩
  rintro i m lW H2 ⟨rfl,hi,F2,aQ,c2,iv⟩
  have s2:af F1 H2:=c2.b2.trans c2.ext
  by_cases ie:i<xs.length
  ·refine .inr ⟨jd.go i H2 s2 ie,λaF H'=>∃F δ,ao ⟨B.H0,F1⟩ F H' aF δ []/\Iv (i+1) δ,λaF H' z=>⟨xs.length-(i+1),by omega,rfl,ie,z⟩,λx H3 y=>?_⟩
   obtain⟨d,e,s3,r⟩:=jd.j7 i H2 x H3 s2 ie y
   have c3:=(c2.grow s3).pushS (d:=d) (v:=x) ((r.s).mono c2.b2 (af.refl _)) (by have:=r.pl;simpa using this)
   refine⟨⟨B.H0,F1⟩,F2,aQ,[],d,_,c3,turn i d aQ e iv,λah aF hq _ _ c4=>?_⟩
   exact⟨⟨B.H0,F1⟩,F2,ah,_,c4,hq,λjL nU F5 H5 h5 c5=>⟨F5,jL,c5,h5⟩,λd5 v5 jL nU F5 H5 h5 c5=>k2 d5 v5 jL nU F5 H5 h5 (un c5),λjL nU F5 H5 h5 c5=>k1 jL nU F5 H5 h5 (un c5),λjL nU F5 H5 h5 c5=>⟨F5,jL,c5,h5⟩,⟨λC jL pins nU F5 H5 s5 a T h5 c5=>k4.2.1 C jL pins nU F5 H5 s5 a T h5 (un c5),λC jL pins nU F5 H5 s5 h' e vs h5 c5=>k4.2.2 C jL pins nU F5 H5 s5 h' e vs h5 (un c5)⟩⟩
  ·have e:i=xs.length:=by omega
   subst e
   exact .inl ⟨jd.stop _ H2 s2 (bP _),k1 aQ lW F2 H2 (fin aQ iv) (un c2)⟩⟩
end
end L3
namespace L3
open PySem L2 PySem.Spec PyProof.Rows
noncomputable def iP(δ:Dl)(q:Str × Nat):Option D:=(δ[q.2]?).getD none
noncomputable def ik(δ:Dl)(q:Str × Nat):Bool:=match iP δ q with
 | some d=>d.pl
 | none=>true
noncomputable def fK(aD:List (Str × Nat))(n:Nat)(δ:Dl):Dl:=(aD.map λq=>(iP δ q).map D.sh)++br n none
noncomputable def vE(sh:Bool)(xs:List D)(aD:List (Str × Nat))(n:Nat)(g:iM)(tt:fJ)(te:aN)(aj:Dl)(Q:D->Dl->Prop):Prop:=∃(p:D->Bool) (f:D->D),
 (∀x∈xs.map D.sh,g x (fK aD n aj) λaQ=>tt aQ λb gq=>b=p x/\(p x=true->te gq λd _=>d=f x)) /\
 ((sh&&aD.all (ik aj))=true\/∀x∈xs.map D.sh,p x=true->(f x).fr=true)/\xs.length<=sizeLine/\Q (.lst true (((xs.map D.sh).filter p).map f)) aj
noncomputable def nV(ti:jo)(aD:List (Str × Nat))(n:Nat)(g:iM)(tt:fJ)(te:aN):aN:=λδ Q=>ti δ λsh xs aj=>vE sh xs aD n g tt te aj Q
noncomputable def ke:fJ:=λδ Q=>Q true δ
theorem b93{sh:Bool}{xs:List D}{aD:List (Str × Nat)}{n m:Nat}{te:aN}{aj:Dl}{Q:D->Dl->Prop}(f:D->D)(hx:∀x∈xs.map D.sh,te ((fK aD n aj).set m (some x)) λd _=>d=f x)
  (eP:(sh&&aD.all (ik aj))=true\/∀x∈xs.map D.sh,(f x).fr=true) (hl:xs.length<=sizeLine) (hq:Q (.lst true ((xs.map D.sh).map f)) aj):vE sh xs aD n (gN m) ke te aj Q :=
 ⟨λ_=>true,f,λx h=>⟨rfl,λ_=>hx x h⟩,eP.imp id λh x hx _=>h x hx,hl,by rw[YV.mpr (λ_ _=>rfl)];exact hq⟩
section
variable{B:Bs}{F H:Hp}{σ:L2.St}{δ:Dl}{ts:List (D × V)}
theorem RN(c:ao B F H σ δ ts)(n:Nat):∀(aD:List (Str × Nat)),aD.all (ik δ)=true->RS F H (fK aD n δ) (ig aD n σ) []
 | [],_=>by
  have z:∀n,RS F H (br n none) (br n none) []:=λn=>by
   induction n with
   | zero=>exact .nil
   | succ n ih=>exact .au ih
  exact z n
 | q::r,h=>by
  rw[dM,eD]at h
  have ih:=RN c n r h.2
  show RS F H ((iP δ q).map D.sh::fK r n δ) ((σ[q.2]?).getD none::ig r n σ) []
  cases e:iP δ q with
  | none=>exact .au ih
  | some d =>
   have e2:δ[q.2]?=some (some d):=by
    unfold iP at e
    cases z:δ[q.2]? with
    | none=>rw[z]at e;cases e
    | some o=>rw[z]at e;exact congrArg some e
   have hp:d.pl=true:=by have:=h.1;unfold ik at this;rw[e]at this;exact this
   obtain⟨v,e3,s⟩:=c.look e2
   rw[e3]
   show RS F H (some d.sh::_) (some v::_) []
   rw[D.BD hp]
   exact .gG (A:=[]) (s.r (by simp[hp])) ih
theorem RO(c:ao B F H σ δ ts)(n:Nat):∀(aD:List (Str × Nat)),RS H H (fK aD n δ) (ig aD n σ) []
 | []=>by
  have z:∀n,RS H H (br n none) (br n none) []:=λn=>by
   induction n with
   | zero=>exact .nil
   | succ n ih=>exact .au ih
  exact z n
 | q::r=>by
  have ih:=RO c n r
  show RS H H ((iP δ q).map D.sh::fK r n δ) ((σ[q.2]?).getD none::ig r n σ) []
  cases e:iP δ q with
  | none=>exact .au ih
  | some d =>
   have e2:δ[q.2]?=some (some d):=by
    unfold iP at e
    cases z:δ[q.2]? with
    | none=>rw[z]at e;cases e
    | some o=>rw[z]at e;exact congrArg some e
   obtain⟨v,e3,s⟩:=c.look e2
   rw[e3]
   exact .gG (A:=[]) (s.frozen c.ext) ih
theorem RP{α:Type}(xs:List α)(p:α->Bool)(i:Nat)(x:α)(h:xs[i]?=some x):(xs.take (i+1)).filter p=(xs.take i).filter p++(if p x=true then [x]else []):=by
 rw[lM,h,YW]
 simp only[ED]
 by_cases hp:p x=true<;>simp[hp]
end
section
variable{X:Cx}{elt iter tg:Expr}{pos:Pos}{ifs:List Expr}{scope:Scope}{cl:List (Str × Addr)}{ti:jo}{tt:fJ}{te:aN}{g:iM}
theorem RQ{B:Bs}{F1 H1:Hp}{σ:L2.St}{aj:Dl}{ts:List (D × V)}{J:It}{Qd:D->Dl->Prop}{Q:VK}{xs:List D}{sh:Bool}{aD:List (Str × Nat)}{n:Nat}(c1:ao B F1 H1 σ aj ts)
  (tH:JD J H1 (xs.map D.sh)) (ze:sh=true->xs.all D.pl=true/\JD J F1 xs) (p:D->Bool) (f:D->D)
  (hx:∀x∈xs.map D.sh,g x (fK aD n aj) λaQ=>tt aQ λb gq=>b=p x/\(p x=true->te gq λd _=>d=f x))
  (eP:(sh&&aD.all (ik aj))=true\/∀x∈xs.map D.sh,p x=true->(f x).fr=true) (hlen:xs.length<=sizeLine) (hq:Qd (.lst true (((xs.map D.sh).filter p).map f)) aj)
  (k:∀d ah v F' H',Qd d ah->af F1 F'->af H1 H'->ao B F' H' σ ah ((d,v)::ts)->Q v H'):Rm J aD n (lG aD.length g) (lT tt) (lE te) σ H1 Q:=by
 intro Dp hD
 have cD:ao B F1 (upd H1 Dp (.lst [])) σ aj ((.lst true [],.ref Dp)::ts):=c1.nF hD .nil rfl
 refine⟨λi m acc H2=>m=xs.length-i/\i<=xs.length/\H2 Dp=some (.lst acc)/\af H1 H2/\acc.length<=i/\∃F2,af F1 F2 /\
  ao B F2 H2 σ aj ((.lst true ((((xs.map D.sh).take i).filter p).map f),.ref Dp)::ts),⟨xs.length,rfl,jX _,cB,af.upd hD,bP _,F1,af.refl _,by simpa using cD⟩,?_⟩
 rintro i m acc H2 ⟨rfl,hi,zh,zi,zj,F2,mv,c2⟩
 refine⟨zh,?_⟩
 by_cases ie:i<xs.length
 case neg =>
  have e:i=xs.length:=by omega
  subst e
  refine .inl ⟨tH.stop _ H2 zi (by simp),k _ aj _ F2 H2 ?_ mv zi c2⟩
  have:(xs.map D.sh).take xs.length=xs.map D.sh:=by rw[ym (by simp)]
  rw[this]
  exact hq
 case pos =>
  refine .inr ⟨tH.go i H2 zi (by simpa using ie),λx H3 y=>?_⟩
  obtain⟨d0,e0,Gr,r0⟩:=tH.j7 i H2 x H3 zi (by simpa using ie) y
  have RU:d0∈xs.map D.sh:=uV e0
  have RV:H3 Dp=some (.lst acc):=Gr _ _ zh
  have c3:=c2.grow Gr
  have Gu:=zi.trans Gr
  refine⟨RV,?_⟩
  have Gv:=hx d0 RU
  have turn:∀Fi,af Fi H3->RS Fi H3 (fK aD n aj) (ig aD n σ) []->S Fi H3 [d0] [x]->d0.pl=true ->
    (∀d v F' H' A,d=f d0->p d0=true->af H3 H'->af Fi F'->af F' H'->(∀a ws,F' a=some (.lst ws)->Fi a=some (.lst ws)\/H3 a=none)->R F' H' [d] [v] A->A.Nodup->(∀a∈A,H3 a=none) ->
     ∃F4,af F2 F4/\ao B F4 H' σ aj ((d,v)::(.lst true ((((xs.map D.sh).take i).filter p).map f),.ref Dp)::ts)) ->
    lG aD.length g x (ig aD n σ) H3 λgX H4 =>
     (gX.length=(ig aD n σ).length/\∀j,j<aD.length->gX[j]?=(ig aD n σ)[j]?)/\lT tt gX H4 λb H5=>H5 Dp=some (.lst acc) /\
     if b=true then lE te gX H5 λy H6=>H6 Dp=some (.lst acc)/\acc.length<sizeLine/\∃m',m'<xs.length-i /\
      (m'=xs.length-(i+1)/\i+1<=xs.length/\upd H6 Dp (.lst (acc++[y])) Dp=some (.lst (acc++[y]))/\af H1 (upd H6 Dp (.lst (acc++[y])))/\(acc++[y]).length<=i+1/\∃F2,af F1 F2 /\
       ao B F2 (upd H6 Dp (.lst (acc++[y]))) σ aj ((.lst true ((((xs.map D.sh).take (i+1)).filter p).map f),.ref Dp)::ts))
     else ∃m',m'<xs.length-i/\(m'=xs.length-(i+1)/\i+1<=xs.length/\H5 Dp=some (.lst acc)/\af H1 H5/\acc.length<=i+1/\∃F2,af F1 F2 /\
       ao B F2 H5 σ aj ((.lst true ((((xs.map D.sh).take (i+1)).filter p).map f),.ref Dp)::ts)):=by
   intro Fi hFi hRS hS bU back
   have ci:ao ⟨H3,Fi⟩ Fi H3 (ig aD n σ) (fK aD n aj) []:=⟨hFi,af.refl _,af.refl _,λ_ _ q=>.inl q,[],[],.nil,hRS,by simp,by simp⟩
   refine⟨⟨H3,Fi⟩,Fi,fK aD n aj,[],d0,_,ci.pushS hS bU,Gv,λah gX hq1 l1 k1 c4=>⟨⟨l1,k1⟩,⟨H3,Fi⟩,Fi,ah,[],_,c4,hq1,λb jL F5 H5 hb f5 h5 c5=>?_⟩⟩
   obtain⟨hb,ht⟩:=hb
   have BP:H5 Dp=some (.lst acc):=h5 _ _ RV
   refine⟨BP,?_⟩
   by_cases hp:p d0=true
   ·rw[hb,hp]
    refine pY ⟨⟨H3,Fi⟩,F5,jL,[],_,c5,ht hp,λd δ6 v F6 H6 hd f6 h6 c6=>?_⟩
    have RW:H6 Dp=some (.lst acc):=h6 _ _ BP
    obtain⟨A,C,r,s,nd,fr⟩:=c6.own
    obtain⟨F4,vF,c7⟩:=back d v F6 H6 A hd hp c6.b1 c6.b2 c6.ext c6.b3 r (gH.mp nd).1 λa ha=>fr a (fW _ ha)
    have c8:=c7.db9 RW
    refine⟨RW,by omega,xs.length-(i+1),by omega,rfl,ie,cB,?_,by simpa using zj,F4,mv.trans vF,?_⟩
    ·have RX:=Gu.trans c6.b1
     exact⟨λa o q n=>by rw[bb (fq q hD)];exact RX.get a o q n,λa ps q=>by rw[bb (fq q hD)];exact RX.tb a ps q⟩
    ·have e9:(((xs.map D.sh).take (i+1)).filter p).map f=(((xs.map D.sh).take i).filter p).map f++[d]:=by
      rw[RP _ p i d0 e0,hp,hd];simp
     rw[e9]
     exact c8
   ·have Gw:p d0=false:=by simpa using hp
    rw[hb,Gw]
    refine mf ⟨xs.length-(i+1),by omega,rfl,ie,BP,Gu.trans h5,by omega,F2,mv,?_⟩
    have e9:(((xs.map D.sh).take (i+1)).filter p).map f=(((xs.map D.sh).take i).filter p).map f:=by
     rw[RP _ p i d0 e0,Gw];simp
    rw[e9]
    exact c3.grow h5
  by_cases hA:(sh&&aD.all (ik aj))=true
  ·rw[eD]at hA
   obtain⟨bU,jd⟩:=ze hA.1
   have pX:=mh bU
   rw[pX]at e0
   obtain⟨d1,e1,_,r1⟩:=jd.j7 i H2 x H3 (mv.trans c2.ext) ie y
   rw[e0]at e1;cases e1
   have dd9:d0.pl=true:=by have:=r1.pl;simpa using this
   refine turn F2 c3.ext (RN c3 n aD hA.2) ((r1.s).mono mv (af.refl _)) dd9 λd v F' H' A hd hp hs hf he h3 r nd fr=>⟨F',hf,c3.call hs hf he h3 r nd fr⟩
  ·have de0:=eP.resolve_left hA
   refine turn H3 (af.refl _) (RO c3 n aD) ((r0.shared Gu (af.refl _)).s) (by have:=r0.pl;simpa using this) λd v F' H' A hd hp hs hf he h3 r nd fr=>⟨F2,af.refl _,?_⟩
   exact c3.Gi hs (r.Gg (by rw[hd];simp[de0 d0 RU hp]) (c3.ext.trans hf)) nd fr
theorem dG{Y:Cx}:nz Y [] (lT ke):=λ_ _ _ H _ I ⟨B,F,δ,ts,Qd,c,q,k⟩=>cv2 _ _ _ H _ I (k true δ F H q (af.refl _) (af.refl _) c)
theorem vG{Y:Cx}{c:Expr}(h:PT Y c (lT tt)):nz Y [c] (lT tt):=cv6 h
end
end L3
namespace L3
open PySem L2 PySem.Spec PyProof.Rows
section
variable{X:Cx}{F H:Hp}{v w:V}
noncomputable def l2(rd:cO):R2:=λv w H Q=>∃B F σ δ ts x y Qd,ao B F H σ δ ts/\S F H [x] [v]/\S F H [y] [w]/\rd x y Qd/\∀d z H',Qd d->af H H'->ao B F H' σ δ ((d,z)::ts)->Q z H'
theorem bV.of{f:Value->Value->Sem Value}{rd:cO}(h:cM X f (l2 rd)):bV X f rd:=⟨_,h,λ{B F H σ δ ts x y v w Q Qd} c sx sy q k=>⟨B,F,σ,δ,ts,x,y,Qd,c,sx,sy,q,k⟩⟩
theorem zk{f:Value->Value->Sem Value}{C:Int->Int->Prop}{g:Int->Int->V}{gd:Int->Int->D}(ho:cM X f (rI C g))(hg:∀i j F H,S F H [gd i j] [g i j])(hp:∀i j,(gd i j).pl=true):bV X f λx y Q=>∃i j,x=.int i/\y=.int j/\C i j/\Q (gd i j) :=
 ⟨_,ho,λ{B F H σ δ ts x y v w Q Qd} c sx sy h k=>by
  obtain⟨i,j,rfl,rfl,hc,q⟩:=h
  cases sx;cases sy
  exact⟨i,j,rfl,rfl,hc,k _ _ _ q (af.refl _) (c.pushS (hg i j F H) (hp i j))⟩⟩
theorem mw{f:Value->Value->Sem Value}{g:Int->Int->V}{gd:Int->Int->D}(ho:cM X f (jD g))(hg:∀i j F H,S F H [gd i j] [g i j])(hp:∀i j,(gd i j).pl=true):bV X f λx y Q=>∃i j,x=.int i/\y=.int j/\Q (gd i j) :=
 ⟨_,ho,λ{B F H σ δ ts x y v w Q Qd} c sx sy h k=>by
  obtain⟨i,j,rfl,rfl,q⟩:=h
  cases sx;cases sy
  exact⟨i,j,rfl,rfl,k _ _ _ q (af.refl _) (c.pushS (hg i j F H) (hp i j))⟩⟩
theorem gv{o:Bool}{xs:List D}(s:S F H [.lst o xs] [v])(e:af F H):∃p ws,v=.ref p/\H p=some (.lst ws)/\S F H xs ws:=by
 cases s with
 | shr h r _=>exact⟨_,_,rfl,e _ _ h,r.s⟩
 | own h r _=>exact⟨_,_,rfl,h,r⟩
theorem jM{xs:List D}(s:S F H [.tup xs] [v]):∃p ws,v=.ref p/\H p=some (.tup ws)/\S F H xs ws:=by
 cases s with
 | tup h r _=>exact⟨_,_,rfl,h,r⟩
theorem nW{d:D}{xs:List D}(s:S F H [d] [v])(e:af F H)(h:iN d=some xs):∃p ws,v=.ref p/\Rd H p (.lst ws)/\S F H xs ws:=by
 cases s with
 | shr h' r _=>cases h;exact⟨_,_,rfl,.inl (e _ _ h'),r.s⟩
 | own h' r _=>cases h;exact⟨_,_,rfl,.inl h',r⟩
 | fz h' r _=>cases h;exact⟨_,_,rfl,.inr ⟨_,e _ _ h'⟩,r.s⟩
 | au _=>cases h
 | bl _=>cases h
 | int _=>cases h
 | str _=>cases h
 | tup _ _ _=>cases h
 | obj _ _ _ _=>cases h
 | bE _ _=>cases h
theorem S.rep{xs:List D}{ws:List V}(s:S F H xs ws):∀k:Nat,S F H (br k xs).flatten (br k ws).flatten
 | 0=>by simpa using S.nil
 | k+1=>by
  rw[sF,sF,uW,uW]
  exact s.append (S.rep s k)
noncomputable def nX:cO:=λx y Q=>match x,y with
 | .int i,.int j=>Q (.int (i+j))
 | .str a,.str b=>a.length+b.length<=sizeLine/\Q (.str (a++b))
 | .lst _ xs,.lst _ ys=>(xs.length+ys.length<=sizeLine/\xs.all D.pl=true/\ys.all D.pl=true)/\Q (.lst true (xs++ys))
 | _,_=>False
theorem cL2:bV X (binaryOp .Add) λx y Q=>∃o xs o' ys,x=.lst o xs/\y=.lst o' ys/\(xs.length+ys.length<=sizeLine/\xs.all D.pl=true/\ys.all D.pl=true)/\Q (.lst true (xs++ys)) :=
 ⟨_,QN,λ{B F H σ δ ts x y v w Q Qd} c sx sy h k=>by
  obtain⟨o,xs,o',ys,rfl,rfl,⟨hz,h1,h2⟩,q⟩:=h
  obtain⟨p,ws,rfl,e1,s1⟩:=gv sx c.ext
  obtain⟨p',eQ,rfl,e2,s2⟩:=gv sy c.ext
  refine⟨p,p',ws,eQ,rfl,rfl,e1,e2,by rw[<-s1.length,<- s2.length];exact hz,λr hr=>?_⟩
  exact k _ _ _ q (af.upd hr) (c.nF hr (s1.append s2) (by simp[h1,h2]))⟩
theorem de2:bV X (binaryOp .Add) λx y Q=>∃i j,x=.str i/\y=.str j/\i.length+j.length<=sizeLine/\Q (.str (i++j)) :=
 ⟨_,bQ9,λ{B F H σ δ ts x y v w Q Qd} c sx sy h k=>by
  obtain⟨i,j,rfl,rfl,hz,q⟩:=h
  cases sx;cases sy
  exact⟨i,j,rfl,rfl,hz,k _ _ _ q (af.refl _) (c.pushS (.str .nil) rfl)⟩⟩
theorem dS:bV X (binaryOp .Add) nX:=((mw (gd:=λi j=>.int (i+j)) τ (λ_ _ _ _=>.int .nil) λ_ _=>rfl).or (de2.or cL2)).imp λx y Q h=>by
 unfold nX at h
 split at h
 ·exact .inl ⟨_,_,rfl,rfl,h⟩
 ·exact .inr (.inl ⟨_,_,rfl,rfl,h.1,h.2⟩)
 ·exact .inr (.inr ⟨_,_,_,_,rfl,rfl,h.1,h.2⟩)
 ·exact h.elim
noncomputable def iI(C:Int->Int->Prop)(g:Int->Int->D):cO:=λx y Q=>match x,y with
 | .int i,.int j=>C i j/\Q (g i j)
 | _,_=>False
noncomputable def gK(g:Int->Int->D):cO:=λx y Q=>match x,y with
 | .int i,.int j=>Q (g i j)
 | _,_=>False
theorem BQ{f:Value->Value->Sem Value}{C:Int->Int->Prop}{g:Int->Int->D}(h:bV X f λx y Q=>∃i j,x=.int i/\y=.int j/\C i j/\Q (g i j)):bV X f (iI C g):=h.imp λx y Q h=>by
 unfold iI at h
 split at h
 ·exact⟨_,_,rfl,rfl,h.1,h.2⟩
 ·exact h.elim
theorem nY{f:Value->Value->Sem Value}{g:Int->Int->D}(h:bV X f λx y Q=>∃i j,x=.int i/\y=.int j/\Q (g i j)):bV X f (gK g):=h.imp λx y Q h=>by
 unfold gK at h
 split at h
 ·exact⟨_,_,rfl,rfl,h⟩
 ·exact h.elim
noncomputable def qA:cO:=gK λi j=>.int (i-j)
theorem iq:bV X (binaryOp .Sub) qA:=nY (mw Fp (λ_ _ _ _=>.int .nil) λ_ _=>rfl)
noncomputable def Gx(_ j:Int):Prop:=0<j/\j.natAbs.log2<9000
theorem kg{i j:Int}(h1:0<j)(h2:j<1073741824):Gx i j:=⟨h1,by
 have h:j.natAbs<2 ^ 30:=by omega
 have:=(Pn (show j.natAbs≠0 by omega)).mpr h
 omega⟩
theorem cg5:cM X (binaryOp .FloorDiv) (rI Gx λi j=>.int (i/j)):=yM λi j _ _ _ _ _ hc q =>
 floordiv_int (show j≠0 by have:=hc.1;omega) (by rw[YK i (by have:=hc.1;omega)];exact q) (.inl (PyProof.noPylong_of_log2 hc.2))
noncomputable def qB:cO:=iI Gx λi j=>.int (i/j)
theorem kL:bV X (binaryOp .FloorDiv) qB:=BQ (zk cg5 (λ_ _ _ _=>.int .nil) λ_ _=>rfl)
noncomputable def qC:cO:=iI (λ_ j=>0<j) λi j=>.int (i%j)
theorem dy:bV X (binaryOp .Mod) qC:=BQ (zk υ (λ_ _ _ _=>.int .nil) λ_ _=>rfl)
noncomputable def qD:cO:=iI Rj λi j=>.int (i*2 ^ j.toNat)
theorem vH:bV X (binaryOp .LShift) qD:=BQ (zk Rk (λ_ _ _ _=>.int .nil) λ_ _=>rfl)
noncomputable def qE:cO:=iI (λ_ j=>0<=j) λi j=>.int (i/2 ^ j.toNat)
theorem Gz:bV X (binaryOp .RShift) qE:=BQ (zk χ (λ_ _ _ _=>.int .nil) λ_ _=>rfl)
noncomputable def qF:cO:=gK λi j=>.int (lK i j)
theorem GA:bV X (binaryOp .BitAnd) qF:=nY (mw ω (λ_ _ _ _=>.int .nil) λ_ _=>rfl)
noncomputable def qG:cO:=gK λi j=>.int (pf i j)
theorem vI:bV X (binaryOp .BitXor) qG:=nY (mw Γ (λ_ _ _ _=>.int .nil) λ_ _=>rfl)
theorem ce8:cM X (binaryOp .Mult) (rI IntMulOk λi j=>.int (i*j)):=yM λ_ _ _ _ _ _ _ hc q=>mul_int q hc
noncomputable def nZ:cO:=λx y Q=>match x,y with
 | .int i,.int j=>IntMulOk i j/\Q (.int (i*j))
 | .lst _ xs,.int k=>(-(2 ^ 63)<=k/\k<2 ^ 63/\xs.length*k.toNat<=sizeLine/\xs.all D.pl=true)/\Q (.lst true (br k.toNat xs).flatten)
 | _,_=>False
theorem cI0:bV X (binaryOp .Mult) λx y Q=>∃o xs k,x=.lst o xs/\y=.int k/\(-(2 ^ 63)<=k/\k<2 ^ 63/\xs.length*k.toNat<=sizeLine/\xs.all D.pl=true)/\Q (.lst true (br k.toNat xs).flatten) :=
 ⟨_,cF2,λ{B F H σ δ ts x y v w Q Qd} c sx sy h k=>by
  obtain⟨o,xs,n,rfl,rfl,⟨b1,b2,hz,h1⟩,q⟩:=h
  obtain⟨p,ws,rfl,e1,s1⟩:=gv sx c.ext
  cases sy
  refine⟨p,n,ws,rfl,rfl,e1,b1,b2,by rw[<-s1.length];exact hz,λr hr=>?_⟩
  refine k _ _ _ q (af.upd hr) (c.nF hr (s1.rep _) ?_)
  rw[du]
  intro x hx
  obtain⟨l,hl,zo⟩:=List.mem_flatten.mp hx
  rw[(EE.mp hl).2]at zo
  exact du.mp h1 x zo⟩
theorem iQ:bV X (binaryOp .Mult) nZ:=((zk (gd:=λi j=>.int (i*j)) ce8 (λ_ _ _ _=>.int .nil) λ_ _=>rfl).or cI0).imp λx y Q h=>by
 unfold nZ at h
 split at h
 ·exact .inl ⟨_,_,rfl,rfl,h.1,h.2⟩
 ·exact .inr ⟨_,_,_,rfl,rfl,h.1,h.2⟩
 ·exact h.elim
theorem cB1:bV X (inplaceOp .Add) (gK λi j=>.int (i+j)):=nY (mw Δ (λ_ _ _ _=>.int .nil) λ_ _=>rfl)
theorem GB:bV X (inplaceOp .BitXor) (gK λi j=>.int (pf i j)):=nY (mw Θ (λ_ _ _ _=>.int .nil) λ_ _=>rfl)
noncomputable def qH:cO:=gK λi j=>.bl (decide (i<j))
noncomputable def qI:cO:=gK λi j=>.bl (decide (i<=j))
noncomputable def qJ:cO:=gK λi j=>.bl (decide (j<i))
noncomputable def qK:cO:=gK λi j=>.bl (decide (j<=i))
theorem qL:bV X (compareOp .Lt) qH:=nY (mw Λ (λ_ _ _ _=>.bl .nil) λ_ _=>rfl)
theorem vJ:bV X (compareOp .LtE) qI:=nY (mw Ξ (λ_ _ _ _=>.bl .nil) λ_ _=>rfl)
theorem RY:bV X (compareOp .Gt) qJ:=nY (mw Φ (λ_ _ _ _=>.bl .nil) λ_ _=>rfl)
theorem cO0:bV X (compareOp .GtE) qK:=nY (mw Ψ (λ_ _ _ _=>.bl .nil) λ_ _=>rfl)
noncomputable def kM:D->Bool
 | .au=>true
 | _=>false
noncomputable def n5:cO:=λx y Q=>match y with
 | .au=>Q (.bl (kM x))
 | _=>False
noncomputable def n6:cO:=λx y Q=>match y with
 | .au=>Q (.bl (!kM x))
 | _=>False
theorem RZ{d:D}(s:S F H [d] [v]):decide (v=.au)=kM d:=by cases s<;>simp[kM]
theorem GC:bV X (compareOp .Is) n5:=⟨_,Ω,λ{B F H σ δ ts x y v w Q Qd} c sx sy h k=>by
 unfold n5 at h
 split at h
 ·cases sy
  refine⟨rfl,?_⟩
  rw[RZ sx]
  exact k _ _ _ h (af.refl _) (c.pushS (.bl .nil) rfl)
 ·exact h.elim⟩
theorem GD:bV X (compareOp .IsNot) n6:=⟨_,cs9,λ{B F H σ δ ts x y v w Q Qd} c sx sy h k=>by
 unfold n6 at h
 split at h
 ·cases sy
  refine⟨rfl,?_⟩
  rw[RZ sx]
  exact k _ _ _ h (af.refl _) (c.pushS (.bl .nil) rfl)
 ·exact h.elim⟩
noncomputable def bL:D->D->Bool
 | .au,.au=>true
 | .bl a,.bl b=>a==b
 | .bl a,.int b=>(if a then 1 else 0)==b
 | .int a,.bl b=>a==(if b then 1 else 0)
 | .int a,.int b=>a==b
 | .str a,.str b=>a==b
 | .lst _ xs,.lst _ ys=>fQ xs ys
 | .tup xs,.tup ys=>fQ xs ys
 | _,_=>false
where fQ:List D->List D->Bool
 | [],[]=>true
 | x::xs,y::ys=>bL x y&&fQ xs ys
 | _,_=>false
noncomputable def aR:Nat->D->Bool
 | _,.au=>true
 | _,.bl _=>true
 | _,.int _=>true
 | _,.str _=>true
 | n+1,.lst _ xs=>xs.all (aR n)
 | n+1,.tup xs=>xs.all (aR n)
 | _,_=>false
theorem GF:∀(xs ys:List D),xs.length=ys.length->bL.fQ xs ys=(aM xs.length).all λj=>bL (xs.getD j .au) (ys.getD j .au)
 | [],[],_=>rfl
 | x::xs,y::ys,h=>by
  rw[ia,YX,dM,mX]
  show(bL x y&&bL.fQ xs ys)=_
  rw[GF xs ys (by simpa using h)]
  rfl
theorem GG:∀(xs ys:List D),xs.length≠ys.length->bL.fQ xs ys=false
 | [],[],h=>absurd rfl h
 | [],_::_,_=>rfl
 | _::_,[],_=>rfl
 | x::xs,y::ys,h=>by
  show(bL x y&&bL.fQ xs ys)=false
  rw[GG xs ys (by simpa using h),Bool.and_false]
noncomputable def ofV:V->D
 | .bl b=>.bl b
 | .int i=>.int i
 | .str z=>.str z
 | _=>.au
theorem R0{x:D}{v:V}(h:aR 0 x=true)(s:S F H [x] [v]):x=ofV v:=by
 cases s with
 | au _=>rfl
 | bl _=>rfl
 | int _=>rfl
 | str _=>rfl
 | _=>cases h
theorem ca1{x:D}(h:aR 0 x=true):bL x x=true:=by
 cases x with
 | au=>rfl
 | bl b=>exact beq_self_eq_true b
 | int i=>exact beq_self_eq_true i
 | str z=>exact beq_self_eq_true z
 | _=>cases h
theorem R1:∀(n:Nat) {xs ys:List D} {vs:List V},xs.all (aR n)=true->ys.all (aR n)=true->S F H xs vs->S F H ys vs->af F H->bL.fQ xs ys=true:=by
 intro n
 induction n with
 | zero =>
  intro xs
  induction xs with
  | nil=>intro ys vs _ _ s1 s2 _;cases s1;cases s2;rfl
  | cons x xs ih =>
   intro ys vs h1 h2 s1 s2 e
   obtain⟨v,cQ,rfl,q1,r1⟩:=s1.dh
   cases ys with
   | nil=>cases s2
   | cons y ys =>
    obtain⟨v',RD,ee,q2,r2⟩:=s2.dh
    cases ee
    rw[dM,eD]at h1 h2
    show(bL x y&&bL.fQ xs ys)=true
    rw[ih h1.2 h2.2 r1 r2 e,kz]
    have e1:=R0 h1.1 q1
    have e2:=R0 h2.1 q2
    rw[e2,<- e1]
    exact ca1 h1.1
 | succ n R3 =>
  intro xs
  induction xs with
  | nil=>intro ys vs _ _ s1 s2 _;cases s1;cases s2;rfl
  | cons x xs ih =>
   intro ys vs h1 h2 s1 s2 e
   obtain⟨v,cQ,rfl,q1,r1⟩:=s1.dh
   cases ys with
   | nil=>cases s2
   | cons y ys =>
    obtain⟨v',RD,ee,q2,r2⟩:=s2.dh
    cases ee
    rw[dM,eD]at h1 h2
    show(bL x y&&bL.fQ xs ys)=true
    rw[ih h1.2 h2.2 r1 r2 e,kz]
    cases x with
    | lst o1 a1 =>
     obtain⟨p,ws,rfl,e1,t1⟩:=gv q1 e
     cases y with
     | lst o2 a2 =>
      obtain⟨p2,GH,ev,e2,t2⟩:=gv q2 e
      cases ev
      rw[e1]at e2;cases e2
      exact R3 h1.1 h2.1 t1 t2 e
     | tup a2=>obtain⟨p2,GH,ev,e2,t2⟩:=jM q2;cases ev;rw[e1]at e2;cases e2
     | _=>first | (cases q2;done) | (exact absurd h2.1 (by simp[aR]))
    | tup a1 =>
     obtain⟨p,ws,rfl,e1,t1⟩:=jM q1
     cases y with
     | tup a2 =>
      obtain⟨p2,GH,ev,e2,t2⟩:=jM q2
      cases ev
      rw[e1]at e2;cases e2
      exact R3 h1.1 h2.1 t1 t2 e
     | lst o2 a2=>obtain⟨p2,GH,ev,e2,t2⟩:=gv q2 e;cases ev;rw[e1]at e2;cases e2
     | _=>first | (cases q2;done) | (exact absurd h2.1 (by simp[aR]))
    | au=>cases q1;cases q2;simp[bL]
    | bl _=>cases q1;cases q2;simp[bL]
    | int _=>cases q1;cases q2;simp[bL]
    | str _=>cases q1;cases q2;simp[bL]
    | obj _ _ _=>exact absurd h1.1 (by simp[aR])
    | fz _=>exact absurd h1.1 (by simp[aR])
    | bE _=>exact absurd h1.1 (by simp[aR])
end
end L3
namespace L3
open PySem L2 PySem.Spec PyProof.Rows
structure df0(A:Around)(s:Shared)(u w:Value)(b:Bool):Prop where
 rc:SeqAt.RcAt A s u w b
 ne:SeqAt.RcNeAt A s u w (!b)
 eq:Em A s u w b
section
variable{X:Cx}{F H:Hp}{v w:V}
theorem R4{xs:List V}{us:List Value}(r:Vals xs us){j:Nat}(h:j<us.toArray.size):∃x,xs[j]?=some x/\RelV x us.toArray[j]:=by
 have l:=r.length
 have hj:j<xs.length:=by rw[l];simpa using h
 obtain⟨u,e,q⟩:=r.get (aL hj)
 obtain⟨_,z⟩:=jW.mp e
 refine⟨_,aL hj,?_⟩
 have:us.toArray[j]=u:=by simpa using z
 rw[this];exact q
theorem R5{xs:List D}{j:Nat}{d:D}(h:xs[j]?=some d):xs.getD j .au=d:=by rw[aK,h];rfl
theorem R6{pins:List (Addr × Obj)}{σ:L2.St}{s:Shared}(I:Inv X pins σ H s)(e:af F H):∀(n:Nat) (x y:D) (v w:V) (u u':Value) (A:Around),aR n x=true->aR n y=true->S F H [x] [v]->S F H [y] [w]->RelV v u->RelV w u' ->
  A.units+n<cLine->df0 A s u u' (bL x y):=by
 intro n
 induction n with
 | zero =>
  intro x y v w u u' A hx hy sx sy rv bC hu
  cases sx with
  | au _ =>
   cases rv
   cases sy with
   | au _=>cases bC;exact⟨.none_none,.none_none,.same _⟩
   | bl _=>cases bC;exact⟨.none_bool _,.none_bool _,.none_bool _⟩
   | int _=>obtain⟨t,rfl⟩:=bC;exact⟨.none_int _ _,.none_int _ _,.none_int _ _⟩
   | str _=>obtain⟨t,rfl⟩:=bC;exact⟨.none_str _ _,.none_str _ _,.none_str _ _⟩
   | _=>simp[aR]at hy
  | bl _ =>
   cases rv
   cases sy with
   | au _=>cases bC;exact⟨.bool_none _,.bool_none _,.bool_none _⟩
   | bl _=>cases bC;exact⟨.bool_bool _ _,.bool_bool _ _,.bool_bool _ _⟩
   | int _=>obtain⟨t,rfl⟩:=bC;exact⟨.bool_int _ _ _,.bool_int _ _ _,.bool_int _ _ _⟩
   | str _=>obtain⟨t,rfl⟩:=bC;exact⟨.bool_str _ _ _,.bool_str _ _ _,.bool_str _ _ _⟩
   | _=>simp[aR]at hy
  | int _ =>
   obtain⟨t0,rfl⟩:=rv
   cases sy with
   | au _=>cases bC;exact⟨.int_none _ _,.int_none _ _,.int_none _ _⟩
   | bl _=>cases bC;exact⟨.int_bool _ _ _,.int_bool _ _ _,.int_bool _ _ _⟩
   | int _=>obtain⟨t,rfl⟩:=bC;exact⟨.int_int _ _ _ _,.int_int _ _ _ _,.int_int _ _ _ _⟩
   | str _=>obtain⟨t,rfl⟩:=bC;exact⟨.int_str _ _ _ _,.int_str _ _ _ _,.int_str _ _ _ _⟩
   | _=>simp[aR]at hy
  | str _ =>
   obtain⟨t0,rfl⟩:=rv
   cases sy with
   | au _=>cases bC;exact⟨.str_none _ _,.str_none _ _,.str_none _ _⟩
   | bl _=>cases bC;exact⟨.str_bool _ _ _,.str_bool _ _ _,.str_bool _ _ _⟩
   | int _=>obtain⟨t,rfl⟩:=bC;exact⟨.str_int _ _ _ _,.str_int _ _ _ _,.str_int _ _ _ _⟩
   | str _=>obtain⟨t,rfl⟩:=bC;exact⟨.str_str _ _ _ _,.str_str _ _ _ _,.str_str _ _ _ _⟩
   | _=>simp[aR]at hy
  | _=>simp[aR]at hx
 | succ n ih =>
  intro x y v w u u' A hx hy sx sy rv bC hu
  have bF:A.units<cLine:=by omega
  have hu1:A.in1.units+n<cLine:=by show A.units+1+n<cLine;omega
  have items:∀{xs ys:List D} {vs ws:List V} {us vK:List Value},xs.all (aR n)=true->ys.all (aR n)=true->S F H xs vs->S F H ys ws->Vals vs us->Vals ws vK ->
    ∀j (h1:j<us.toArray.size) (h2:j<vK.toArray.size),Em A.in1 s us.toArray[j] vK.toArray[j] (bL (xs.getD j .au) (ys.getD j .au)):=by
   intro xs ys vs ws us vK hx hy sx sy r1 r2 j h1 h2
   obtain⟨a,e1,q1⟩:=R4 r1 h1
   obtain⟨b,e2,q2⟩:=R4 r2 h2
   obtain⟨d1,g1,t1⟩:=sx.get' e1
   obtain⟨d2,g2,t2⟩:=sy.get' e2
   rw[R5 g1,R5 g2]
   exact(ih d1 d2 a b _ _ A.in1 (du.mp hx d1 (uV g1)) (du.mp hy d2 (uV g2)) t1 t2 q1 q2 hu1).eq
  have low:∀x:D,(aR 0 x=true)\/(∃o xs,x=.lst o xs)\/(∃xs,x=.tup xs)\/aR (n+1) x=false:=by
   intro x;cases x<;>simp[aR]
  cases x with
  | lst o xs =>
   obtain⟨p,ws,rfl,e1,t1⟩:=gv sx e
   cases rv
   obtain⟨its,r1,p1,z1⟩:=I.list (bJ.of (K:=X.K) e1)
   have l1:=r1.length
   cases y with
   | lst o' ys =>
    obtain⟨p',eQ,rfl,e2,t2⟩:=gv sy e
    cases bC
    obtain⟨g5,r2,p2,z2⟩:=I.list (bJ.of (K:=X.K) e2)
    have l2:=r2.length
    have k1:=t1.length
    have k2:=t2.length
    by_cases hl:xs.length=ys.length
    ·have lX:its.toArray.size=g5.toArray.size:=by simp;omega
     have ev:(aM its.toArray.size).all (λj=>bL (xs.getD j .au) (ys.getD j .au))=bL (.lst o xs) (.lst o' ys):=by
      show _=bL.fQ xs ys
      rw[GF xs ys hl,eC,<- l1,<- k1]
     have a:=SeqAt.RcAt.lists (e:=λj=>bL (xs.getD j .au) (ys.getD j .au)) p1.isList p2.isList lX bF (items hx hy t1 t2 r1 r2)
     have b:=SeqAt.RcNeAt.lists (e:=λj=>bL (xs.getD j .au) (ys.getD j .au)) p1.isList p2.isList lX bF (items hx hy t1 t2 r1 r2)
     rw[ev]at a b
     refine⟨a,b,?_⟩
     by_cases tI:p=p'
     ·subst tI
      rw[e1]at e2;cases e2
      have:bL (.lst o xs) (.lst o' ys)=true:=R1 n hx hy t1 t2 e
      rw[this]
      exact .same _
     ·exact .of_refs tI a
    ·have lX:(its.toArray.size != g5.toArray.size)=true:=by simp;omega
     have ev:bL (.lst o xs) (.lst o' ys)=false:=GG xs ys hl
     rw[ev]
     have a:=SeqAt.RcAt.lists_lengths p1.isList p2.isList lX bF
     refine⟨a,SeqAt.RcNeAt.lists_lengths p1.isList p2.isList lX bF,.of_refs (λtI=>?_) a⟩
     subst tI
     rw[e1]at e2;cases e2
     omega
   | tup ys =>
    obtain⟨p',eQ,rfl,e2,t2⟩:=jM sy
    cases bC
    obtain⟨g5,r2,p2,z2⟩:=I.tuple (fZ.of (K:=X.K) e2)
    exact⟨.list_tuple p1.isList p2 bF,.list_tuple p1.isList p2 bF,.list_tuple p1.isList p2 bF⟩
   | au=>cases sy;cases bC;exact⟨.list_none p1.isList bF,.list_none p1.isList bF,.list_none p1.isList bF⟩
   | bl _=>cases sy;cases bC;exact⟨.list_bool _ p1.isList bF,.list_bool _ p1.isList bF,.list_bool _ p1.isList bF⟩
   | int _=>cases sy;obtain⟨t,rfl⟩:=bC;exact⟨.list_int _ _ p1.isList bF,.list_int _ _ p1.isList bF,.list_int _ _ p1.isList bF⟩
   | str _=>cases sy;obtain⟨t,rfl⟩:=bC;exact⟨.list_str _ _ p1.isList bF,.list_str _ _ p1.isList bF,.list_str _ _ p1.isList bF⟩
   | obj _ _ _=>simp[aR]at hy
   | fz _=>simp[aR]at hy
   | bE _=>simp[aR]at hy
  | tup xs =>
   obtain⟨p,ws,rfl,e1,t1⟩:=jM sx
   cases rv
   obtain⟨its,r1,p1,z1⟩:=I.tuple (fZ.of (K:=X.K) e1)
   have l1:=r1.length
   cases y with
   | tup ys =>
    obtain⟨p',eQ,rfl,e2,t2⟩:=jM sy
    cases bC
    obtain⟨g5,r2,p2,z2⟩:=I.tuple (fZ.of (K:=X.K) e2)
    have l2:=r2.length
    have k1:=t1.length
    have k2:=t2.length
    have ev:((aM (min its.toArray.size g5.toArray.size)).all (λj=>bL (xs.getD j .au) (ys.getD j .au))&&its.toArray.size==g5.toArray.size)=bL (.tup xs) (.tup ys):=by
     show _=bL.fQ xs ys
     by_cases hl:xs.length=ys.length
     ·have e3:its.length=g5.length:=by omega
      rw[GF xs ys hl,eC,eC,<- e3,yn,<- l1,<- k1];simp
     ·have e3:(its.length==g5.length)=false:=by simp;omega
      rw[GG xs ys hl,eC,eC,e3,Bool.and_false]
    have a:=SeqAt.RcAt.tuples (e:=λj=>bL (xs.getD j .au) (ys.getD j .au)) p1 p2 bF (items hx hy t1 t2 r1 r2)
    have b:=SeqAt.RcNeAt.tuples (e:=λj=>bL (xs.getD j .au) (ys.getD j .au)) p1 p2 bF (items hx hy t1 t2 r1 r2)
    rw[ev]at a b
    refine⟨a,b,?_⟩
    by_cases tI:p=p'
    ·subst tI
     rw[e1]at e2;cases e2
     have:bL (.tup xs) (.tup ys)=true:=R1 n hx hy t1 t2 e
     rw[this]
     exact .same _
    ·exact .of_refs tI a
   | lst o' ys =>
    obtain⟨p',eQ,rfl,e2,t2⟩:=gv sy e
    cases bC
    obtain⟨g5,r2,p2,z2⟩:=I.list (bJ.of (K:=X.K) e2)
    exact⟨.tuple_list p1 p2.isList bF,.tuple_list p1 p2.isList bF,.tuple_list p1 p2.isList bF⟩
   | au=>cases sy;cases bC;exact⟨.tuple_none p1 bF,.tuple_none p1 bF,.tuple_none p1 bF⟩
   | bl _=>cases sy;cases bC;exact⟨.tuple_bool _ p1 bF,.tuple_bool _ p1 bF,.tuple_bool _ p1 bF⟩
   | int _=>cases sy;obtain⟨t,rfl⟩:=bC;exact⟨.tuple_int _ _ p1 bF,.tuple_int _ _ p1 bF,.tuple_int _ _ p1 bF⟩
   | str _=>cases sy;obtain⟨t,rfl⟩:=bC;exact⟨.tuple_str _ _ p1 bF,.tuple_str _ _ p1 bF,.tuple_str _ _ p1 bF⟩
   | obj _ _ _=>simp[aR]at hy
   | fz _=>simp[aR]at hy
   | bE _=>simp[aR]at hy
  | au =>
   cases sx;cases rv
   cases y with
   | lst o' ys =>
    obtain⟨p',eQ,rfl,e2,t2⟩:=gv sy e;cases bC
    obtain⟨g5,r2,p2,z2⟩:=I.list (bJ.of (K:=X.K) e2)
    exact⟨.none_list p2.isList bF,.none_list p2.isList bF,.none_list p2.isList bF⟩
   | tup ys =>
    obtain⟨p',eQ,rfl,e2,t2⟩:=jM sy;cases bC
    obtain⟨g5,r2,p2,z2⟩:=I.tuple (fZ.of (K:=X.K) e2)
    exact⟨.none_tuple p2 bF,.none_tuple p2 bF,.none_tuple p2 bF⟩
   | au=>exact ih _ _ _ _ _ _ A (by simp[aR]) (by simp[aR]) (.au .nil) sy rfl bC (by omega)
   | bl _=>exact ih _ _ _ _ _ _ A (by simp[aR]) (by simp[aR]) (.au .nil) sy rfl bC (by omega)
   | int _=>exact ih _ _ _ _ _ _ A (by simp[aR]) (by simp[aR]) (.au .nil) sy rfl bC (by omega)
   | str _=>exact ih _ _ _ _ _ _ A (by simp[aR]) (by simp[aR]) (.au .nil) sy rfl bC (by omega)
   | obj _ _ _=>simp[aR]at hy
   | fz _=>simp[aR]at hy
   | bE _=>simp[aR]at hy
  | bl b =>
   cases sx;cases rv
   cases y with
   | lst o' ys =>
    obtain⟨p',eQ,rfl,e2,t2⟩:=gv sy e;cases bC
    obtain⟨g5,r2,p2,z2⟩:=I.list (bJ.of (K:=X.K) e2)
    exact⟨.bool_list _ p2.isList bF,.bool_list _ p2.isList bF,.bool_list _ p2.isList bF⟩
   | tup ys =>
    obtain⟨p',eQ,rfl,e2,t2⟩:=jM sy;cases bC
    obtain⟨g5,r2,p2,z2⟩:=I.tuple (fZ.of (K:=X.K) e2)
    exact⟨.bool_tuple _ p2 bF,.bool_tuple _ p2 bF,.bool_tuple _ p2 bF⟩
   | au=>exact ih _ _ _ _ _ _ A (by simp[aR]) (by simp[aR]) (.bl .nil) sy rfl bC (by omega)
   | bl _=>exact ih _ _ _ _ _ _ A (by simp[aR]) (by simp[aR]) (.bl .nil) sy rfl bC (by omega)
   | int _=>exact ih _ _ _ _ _ _ A (by simp[aR]) (by simp[aR]) (.bl .nil) sy rfl bC (by omega)
   | str _=>exact ih _ _ _ _ _ _ A (by simp[aR]) (by simp[aR]) (.bl .nil) sy rfl bC (by omega)
   | obj _ _ _=>simp[aR]at hy
   | fz _=>simp[aR]at hy
   | bE _=>simp[aR]at hy
  | int b =>
   cases sx
   cases y with
   | lst o' ys =>
    obtain⟨t0,rfl⟩:=rv
    obtain⟨p',eQ,rfl,e2,t2⟩:=gv sy e;cases bC
    obtain⟨g5,r2,p2,z2⟩:=I.list (bJ.of (K:=X.K) e2)
    exact⟨.int_list _ _ p2.isList bF,.int_list _ _ p2.isList bF,.int_list _ _ p2.isList bF⟩
   | tup ys =>
    obtain⟨t0,rfl⟩:=rv
    obtain⟨p',eQ,rfl,e2,t2⟩:=jM sy;cases bC
    obtain⟨g5,r2,p2,z2⟩:=I.tuple (fZ.of (K:=X.K) e2)
    exact⟨.int_tuple _ _ p2 bF,.int_tuple _ _ p2 bF,.int_tuple _ _ p2 bF⟩
   | au=>exact ih _ _ _ _ _ _ A (by simp[aR]) (by simp[aR]) (.int .nil) sy rv bC (by omega)
   | bl _=>exact ih _ _ _ _ _ _ A (by simp[aR]) (by simp[aR]) (.int .nil) sy rv bC (by omega)
   | int _=>exact ih _ _ _ _ _ _ A (by simp[aR]) (by simp[aR]) (.int .nil) sy rv bC (by omega)
   | str _=>exact ih _ _ _ _ _ _ A (by simp[aR]) (by simp[aR]) (.int .nil) sy rv bC (by omega)
   | obj _ _ _=>simp[aR]at hy
   | fz _=>simp[aR]at hy
   | bE _=>simp[aR]at hy
  | str b =>
   cases sx
   cases y with
   | lst o' ys =>
    obtain⟨t0,rfl⟩:=rv
    obtain⟨p',eQ,rfl,e2,t2⟩:=gv sy e;cases bC
    obtain⟨g5,r2,p2,z2⟩:=I.list (bJ.of (K:=X.K) e2)
    exact⟨.str_list _ _ p2.isList bF,.str_list _ _ p2.isList bF,.str_list _ _ p2.isList bF⟩
   | tup ys =>
    obtain⟨t0,rfl⟩:=rv
    obtain⟨p',eQ,rfl,e2,t2⟩:=jM sy;cases bC
    obtain⟨g5,r2,p2,z2⟩:=I.tuple (fZ.of (K:=X.K) e2)
    exact⟨.str_tuple _ _ p2 bF,.str_tuple _ _ p2 bF,.str_tuple _ _ p2 bF⟩
   | au=>exact ih _ _ _ _ _ _ A (by simp[aR]) (by simp[aR]) (.str .nil) sy rv bC (by omega)
   | bl _=>exact ih _ _ _ _ _ _ A (by simp[aR]) (by simp[aR]) (.str .nil) sy rv bC (by omega)
   | int _=>exact ih _ _ _ _ _ _ A (by simp[aR]) (by simp[aR]) (.str .nil) sy rv bC (by omega)
   | str _=>exact ih _ _ _ _ _ _ A (by simp[aR]) (by simp[aR]) (.str .nil) sy rv bC (by omega)
   | obj _ _ _=>simp[aR]at hy
   | fz _=>simp[aR]at hy
   | bE _=>simp[aR]at hy
  | obj _ _ _=>simp[aR]at hx
  | fz _=>simp[aR]at hx
  | bE _=>simp[aR]at hx
noncomputable def qM:cO:=λx y Q=>(aR 6 x=true/\aR 6 y=true)/\Q (.bl (bL x y))
noncomputable def qN:cO:=λx y Q=>(aR 6 x=true/\aR 6 y=true)/\Q (.bl (!bL x y))
theorem fv(hu:X.A.units+6<cLine):bV X (compareOp .Eq) qM:=bV.of λpins s σ H v w u u' Q I rv bC zz=>by
 obtain⟨B,F,aF,δ,ts,x,y,Qd,c,sx,sy,⟨⟨hx,hy⟩,q⟩,k⟩:=zz
 exact(R6 I c.ext 6 x y v w u u' X.A hx hy sx sy rv bC hu).rc _ _ _ _ ⟨.bl _,H,I,rfl,k _ _ _ q (af.refl _) (c.pushS (.bl .nil) rfl)⟩
theorem g7(hu:X.A.units+6<cLine):bV X (compareOp .NotEq) qN:=bV.of λpins s σ H v w u u' Q I rv bC zz=>by
 obtain⟨B,F,aF,δ,ts,x,y,Qd,c,sx,sy,⟨⟨hx,hy⟩,q⟩,k⟩:=zz
 exact(R6 I c.ext 6 x y v w u u' X.A hx hy sx sy rv bC hu).ne _ _ _ _ ⟨.bl _,H,I,rfl,k _ _ _ q (af.refl _) (c.pushS (.bl .nil) rfl)⟩
end
end L3
namespace L3
open PySem L2 PySem.Spec PyProof.Rows
section
variable{X:Cx}{F H:Hp}{v w:V}{e a b c o:Expr}{es:List Expr}{pos p p2 apos cN:Pos}{t ta tb tc te:aN}{tr:cY}{x:Str}
theorem bS1{r r':R2}{rd zr:cO}(hl:BG r rd)(vm:BG r' zr):∀σ H Q,lE (nI rd zr ta tb tc) σ H Q->Ql r r' (lB ta) (lB tb) (lB tc) σ H Q:=λσ H Q ⟨B,F,δ,ts,Qd,c,q,k⟩ =>
 ⟨B,F,δ,ts,_,c,q,λx aj v F1 H1 q1 f1 h1 c1 s1=>⟨B,F1,aj,ts,_,c1,q1,λy aQ w F2 H2 q2 f2 h2 c2 s2=>by
  refine hl c2 (s1.mono f2 h2) s2 q2 λd z H' hd hs c3=>?_
  obtain⟨b,rfl,qb⟩:=hd
  have st:=c3.top
  cases st with
  | bl _ =>
   refine⟨b,rfl,?_⟩
   cases b with
   | true =>
    refine pY ⟨B,F2,aQ,ts,_,c3.pop,by simpa using qb,λz gq w3 F3 H3 q3 f3 h3 c4 s3=>?_⟩
    exact vm c4 (s2.mono f3 (hs.trans h3)) s3 q3 λd z H' hd hs' c5=>k d gq z F3 H' hd ((f1.trans f2).trans f3) ((((h1.trans h2).trans hs).trans h3).trans hs') c5
   | false=>exact mf (k _ aQ _ F2 H' (by simpa using qb) (f1.trans f2) ((h1.trans h2).trans hs) (c3.pop.pushS (.bl .nil) rfl))⟩⟩
theorem BR{op sU:CmpOp}{rd zr:cO}(ho:bV X (compareOp op) rd)(kC:bV X (compareOp sU) zr)(ha:PE X a (lB ta))(hb:PE X b (lB tb))(hc:PE X c (lB tc))
  (hm:lastMarks [op,sU] [b,c]=false:=by with_unfolding_all rfl):PE X (.Compare a [op,sU] [b,c] pos) (lE (nI rd zr ta tb tc)):=by
 obtain⟨r,h1,h2⟩:=ho
 obtain⟨r',kb,jG⟩:=kC
 exact dn (ce3 h1 kb ha hb hc hm) (bS1 h2 jG)
noncomputable abbrev jN:=List D->(D->Prop)->Prop
noncomputable def lc(rd:jN):List V->Hp->VK->Prop:=λvs H Q=>∃B F σ δ ts ds Qd,ao B F H σ δ ts/\S F H ds vs/\rd ds Qd/\∀d z H',Qd d->af H H'->ao B F H' σ δ ((d,z)::ts)->Q z H'
noncomputable def jq(X:Cx)(f:Value)(rd:jN):Prop:=iF X f (lc rd)
theorem jq.of{f:Value}{r:List V->Hp->VK->Prop}{rd:jN}(h:iF X f r)(m:∀vs H Q,lc rd vs H Q->r vs H Q):jq X f rd:=λpins s σ H xs us Q I r q=>h pins s σ H xs us Q I r (m xs H Q q)
noncomputable def mx(rd:jN)(t:cY):aN:=λδ Q=>t δ λds ah=>rd ds λd=>Q d ah
theorem R7{rd:jN}:∀σ H Q,lE (mx rd tr) σ H Q->Fv (lc rd) (lA tr) σ H Q:=λσ H Q ⟨B,F,δ,ts,Qd,c,q,k⟩=>⟨B,F,δ,ts,_,c,q,λds aj vs F1 H1 q1 f1 h1 c1 s1 =>
 ⟨B,F1,σ,aj,ts,ds,_,c1,s1,q1,λd z H' hd hs c'=>k d aj z F1 H' hd f1 (h1.trans hs) c'⟩⟩
theorem eA{id:String}{rd:jN}(hc:jq X (.builtin id) rd)(hg:Gl X x)(hm:X.mg x=none)(hv:bootBuiltins x=some (.builtin id))(ha:PA X (e::es) (lA tr))(hn:x≠"__name__":=by decide)(e8:(x==("__debug__":Str))=false:=by decide)
  (he:starEach (e::es) X.env=(false,eval e X.env)::starEach es X.env:=by rfl) (bU:(backTo pos (starEach es X.env)).any (·.1)=false:=by rfl):PE X (.Call (.Name x p) (e::es) [] pos) (lE (mx rd tr)) :=
 dn (Qw hc hg hm hv ha hn e8 he bU) R7
theorem BS{T:String}{rd:jN}(hc:jq X (.type T) rd)(hg:Gl X x)(hm:X.mg x=none)(hv:bootBuiltins x=some (.type T))(ha:PA X (e::es) (lA tr))(hn:x≠"__name__":=by decide)(e8:(x==("__debug__":Str))=false:=by decide)
  (he:starEach (e::es) X.env=(false,eval e X.env)::starEach es X.env:=by rfl) (bU:(backTo pos (starEach es X.env)).any (·.1)=false:=by rfl):PE X (.Call (.Name x p) (e::es) [] pos) (lE (mx rd tr)) :=
 dn (bZ8 hc hg hm hv ha hn e8 he bU) R7
theorem kN{d:D}{vs:List V}(s:S F H [d] vs):∃v,vs=[v]/\S F H [d] [v]:=by
 obtain⟨v,cQ,rfl,h1,h2⟩:=s.dh
 cases h2
 exact⟨v,rfl,h1⟩
theorem kh{K:PySem.W.Frag}{p:Addr}{ws:List V}(h:Rd H p (.lst ws)):bJ K H p ws:=.inl h
noncomputable def n8:jN:=λds Q=>match ds with
 | [.lst _ xs]=>Q (.int xs.length)
 | [.fz xs]=>Q (.int xs.length)
 | [.tup xs]=>Q (.int xs.length)
 | [.str z]=>z.length<=sizeLine/\Q (.int z.length)
 | _=>False
theorem gw:jq X (.builtin "len") n8:=jq.of (cW2.or bF9) λvs H Q zz=>by
 obtain⟨B,F,σ,δ,ts,ds,Qd,c,s,q,k⟩:=zz
 unfold n8 at q
 split at q
 ·obtain⟨v,rfl,s1⟩:=kN s
  obtain⟨p,ws,rfl,h,t⟩:=nW s1 c.ext rfl
  refine .inl ⟨p,ws,rfl,.inl (kh h),?_⟩
  rw[<-t.length]
  exact k _ _ _ q (af.refl _) (c.pushS (.int .nil) rfl)
 ·obtain⟨v,rfl,s1⟩:=kN s
  obtain⟨p,ws,rfl,h,t⟩:=nW s1 c.ext rfl
  refine .inl ⟨p,ws,rfl,.inl (kh h),?_⟩
  rw[<-t.length]
  exact k _ _ _ q (af.refl _) (c.pushS (.int .nil) rfl)
 ·obtain⟨v,rfl,s1⟩:=kN s
  obtain⟨p,ws,rfl,h,t⟩:=jM s1
  refine .inl ⟨p,ws,rfl,.inr (fZ.of h),?_⟩
  rw[<-t.length]
  exact k _ _ _ q (af.refl _) (c.pushS (.int .nil) rfl)
 ·obtain⟨v,rfl,s1⟩:=kN s
  cases s1
  exact .inr ⟨_,rfl,q.1,k _ _ _ q.2 (af.refl _) (c.pushS (.int .nil) rfl)⟩
 ·exact q.elim
noncomputable def n9:jN:=λds Q=>match ds with
 | [.lst _ xs]=>xs.all D.pl=true/\Q (.lst true xs)
 | [.fz xs]=>Q (.lst true xs)
 | [.tup xs]=>xs.all D.pl=true/\Q (.lst true xs)
 | _=>False
theorem GI:jq X (.type "list") n9:=jq.of bG8 λvs H Q zz=>by
 obtain⟨B,F,σ,δ,ts,ds,Qd,c,s,q,k⟩:=zz
 unfold n9 at q
 split at q
 ·obtain⟨v,rfl,s1⟩:=kN s
  obtain⟨p,ws,rfl,h,t⟩:=nW s1 c.ext rfl
  exact⟨p,ws,rfl,.inl (kh h),λl hl=>k _ _ _ q.2 (af.upd hl) (c.nF hl t q.1)⟩
 ·obtain⟨v,rfl,s1⟩:=kN s
  cases s1 with
  | fz h r _=>exact⟨_,_,rfl,.inl (kh (.inr ⟨_,c.ext _ _ h⟩)),λl hl=>k _ _ _ q (af.upd hl) (c.nF hl r.s r.pl)⟩
 ·obtain⟨v,rfl,s1⟩:=kN s
  obtain⟨p,ws,rfl,h,t⟩:=jM s1
  exact⟨p,ws,rfl,.inr (fZ.of h),λl hl=>k _ _ _ q.2 (af.upd hl) (c.nF hl t q.1)⟩
 ·exact q.elim
noncomputable def qO(bs:List Bool):List D:=bs.map D.bl
theorem R8:∀{bs:List Bool} {ws:List V},S F H (qO bs) ws->ws=bs.map V.bl
 | [],_,s=>by cases s;rfl
 | b::bs,_,s=>by
  cases s with
  | bl s=>rw[R8 s];rfl
noncomputable def og:jN:=λds Q=>match ds with
 | [.lst _ xs]=>∃bs,xs=qO bs/\Q (.bl (bs.all id))
 | _=>False
theorem vL(hc:X.calm=true):jq X (.builtin "all") og:=jq.of (cc1 hc) λvs H Q zz=>by
 obtain⟨B,F,σ,δ,ts,ds,Qd,c,s,q,k⟩:=zz
 unfold og at q
 split at q
 ·obtain⟨v,rfl,s1⟩:=kN s
  obtain⟨bs,rfl,q⟩:=q
  obtain⟨p,ws,rfl,h,t⟩:=nW s1 c.ext rfl
  rw[R8 t]at h
  exact⟨p,bs,rfl,kh h,k _ _ _ q (af.refl _) (c.pushS (.bl .nil) rfl)⟩
 ·exact q.elim
noncomputable def GJ:D->Option String
 | .int _=>some "int"
 | .bl _=>some "bool"
 | .au=>some "NoneType"
 | .str _=>some "str"
 | .lst _ _=>some "list"
 | .fz _=>some "list"
 | .tup _=>some "tuple"
 | _=>none
noncomputable def GK(k n:String):Option Bool:=([("int","int",true),("int","bool",false),("int","list",false),("int","tuple",false),("int","str",false),("bool","int",true),("bool","bool",true),("bool","list",false),("bool","tuple",false),("bool","str",false),
 ("NoneType","int",false),("NoneType","bool",false),("NoneType","list",false),("NoneType","tuple",false),("NoneType","str",false),("str","int",false),("str","bool",false),("str","list",false),("str","tuple",false),("str","str",true),
 ("list","int",false),("list","bool",false),("list","list",true),("list","tuple",false),("list","str",false),("tuple","int",false),("tuple","bool",false),("tuple","list",false),("tuple","tuple",true),("tuple","str",false)].find? λz=>z.1==k&&z.2.1==n).map (·.2.2)
noncomputable def my(n:String)(d:D):Option Bool:=(GJ d).bind λk=>GK k n
theorem cF4{K:PySem.W.Frag}{k n:String}{r:Bool}(h:GK k n=some r):PySem.W.kitOne K (.type k) (.type n)=some r:=by
 unfold GK at h
 obtain⟨z,hz,rfl⟩:=EF.mp h
 have hm:=Py hz
 have hp:=List.find?_some hz
 rw[eD,beq_iff_eq,beq_iff_eq]at hp
 obtain⟨rfl,rfl⟩:=hp
 simp only[cA,i8,or_false]at hm
 repeat' (rcases hm with hm | hm)
 all_goals rfl
theorem cw3{K:PySem.W.Frag}{d:D}(s:S F H [d] [v])(e:af F H){k:String}(h:GJ d=some k):iG K H v (.type k):=by
 cases s with
 | int _=>cases h;exact .int _
 | bl _=>cases h;exact .bl _
 | au _=>cases h;exact .au
 | str _=>cases h;exact .str _
 | shr h' _ _=>cases h;exact .lst (e _ _ h')
 | own h' _ _=>cases h;exact .lst h'
 | fz h' _ _=>cases h;exact .cq (e _ _ h')
 | tup h' _ _=>cases h;exact .tup h'
 | obj _ _ _ _=>cases h
 | bE _ _=>cases h
theorem cK9{K:PySem.W.Frag}{d:D}(s:S F H [d] [v])(e:af F H){n:String}{r:Bool}(h:my n d=some r):∃t,iG K H v t/\PySem.W.kitOne K t (.type n)=some r:=by
 unfold my at h
 cases hk:GJ d with
 | none=>rw[hk]at h;cases h
 | some k=>rw[hk]at h;exact⟨_,cw3 s e hk,cF4 h⟩
noncomputable def qP(n:String)(t:aN):aN:=λδ Q=>t δ λd ah=>∃r,my n d=some r/\Q (.bl r) ah
theorem zt{n:String}{y:Str}{q:Pos}(hg:Gl X "isinstance")(hm:X.mg "isinstance"=none)(zu:Gl X y)(vM:X.mg y=none)(hv2:bootBuiltins y=some (.type n))(ha:PE X a (lB ta))
  (hn:y≠"__name__":=by decide) (hd:(y==("__debug__":Str))=false:=by decide)
  (hs:starEach [a,.Name y q] X.env=(false,eval a X.env)::starEach [.Name y q] X.env:=by rfl) (fG:starEach [.Name y q] X.env=(false,eval (.Name y q) X.env)::starEach [] X.env:=by rfl) (bU:(backTo pos (starEach [.Name y q] X.env)).any (·.1)=false:=by rfl) :
  PE X (.Call (.Name "isinstance" p) [a,.Name y q] [] pos) (lE (qP n ta)) :=
 dn (Qw bv7 hg hm bA3 (fH ha (fH (cH9 zu vM hv2 hn hd) jE fG) hs) (by decide) (by decide) hs bU) λσ H Q ⟨B,F,δ,ts,Qd,c,q,k⟩=>⟨B,F,δ,ts,_,c,q,λd aj v F1 H1 q1 f1 h1 c1 s1=>by
  obtain⟨r,e,qr⟩:=q1
  obtain⟨t,h2,h3⟩:=cK9 (K:=X.K) s1 c1.ext e
  exact⟨v,n,t,r,rfl,h2,h3,k _ aj _ F1 H1 qr f1 h1 (c1.pushS (.bl .nil) rfl)⟩⟩
theorem GL{xs:List D}{ws:List V}{i:Int}{d:D}(s:S F H xs ws)(h:eo xs i=some d):∃v,eo ws i=some v/\S F H [d] [v]:=by
 unfold eo at h ⊢
 rw[<-s.length]
 cases e:iJ xs.length i with
 | none=>rw[e]at h;cases h
 | some j =>
  rw[e]at h
  exact s.get h
noncomputable def oh(x y:D)(Q:D->Prop):Prop:=match x,y with
 | .lst _ xs,.int i=>∃d,eo xs i=some d/\Q d
 | .fz xs,.int i=>∃d,eo xs i=some d/\Q d
 | .tup xs,.int i=>∃d,eo xs i=some d/\Q d
 | .str z,.int i=>z.length<=sizeLine/\∃ch,eo z.cps.toList i=some ch/\Q (.str ⟨#[ch]⟩)
 | _,_=>False
noncomputable def qQ(ta tb:aN):aN:=λδ Q=>ta δ λx aj=>tb aj λy aQ=>oh x y λd=>Q d aQ
theorem bB(ha:PE X a (lB ta))(hb:PE X b (lB tb))(hs:Fx b):PE X (.Subscript a b pos) (lB (qQ ta tb)) :=
 dn (Qz cD3 ha hb hs) λσ H Q ⟨B,F,δ,ts,Qd,c,q,k⟩=>⟨B,F,δ,ts,_,c,q,λx aj v F1 H1 q1 f1 h1 c1 s1=>⟨B,F1,aj,ts,_,c1,q1,λy aQ w F2 H2 q2 f2 h2 c2 s2=>by
  have kO:=s1.mono f2 h2
  have fin:∀d z,Qd d aQ->S F2 H2 [d] [z]->Q z H2:=λd z hd s=>k d aQ z F2 H2 hd (f1.trans f2) (h1.trans h2) c2 s
  unfold oh at q2
  split at q2
  ·obtain⟨d,ed,qd⟩:=q2
   cases s2
   obtain⟨p,ws,rfl,h,t⟩:=nW kO c2.ext rfl
   obtain⟨z,ez,sz⟩:=GL t ed
   exact .inl ⟨p,ws,_,z,rfl,rfl,kh h,ez,fin d z qd sz⟩
  ·obtain⟨d,ed,qd⟩:=q2
   cases s2
   obtain⟨p,ws,rfl,h,t⟩:=nW kO c2.ext rfl
   obtain⟨z,ez,sz⟩:=GL t ed
   exact .inl ⟨p,ws,_,z,rfl,rfl,kh h,ez,fin d z qd sz⟩
  ·obtain⟨d,ed,qd⟩:=q2
   cases s2
   obtain⟨p,ws,rfl,h,t⟩:=jM kO
   obtain⟨z,ez,sz⟩:=GL t ed
   exact .inr (.inl ⟨p,ws,_,z,rfl,rfl,fZ.of h,ez,fin d z qd sz⟩)
  ·obtain⟨hz,ch,ec,qc⟩:=q2
   cases kO
   cases s2
   exact .inr (.inr ⟨_,_,ch,rfl,rfl,hz,ec,fin _ _ qc (.str .nil)⟩)
  ·exact q2.elim⟩⟩
noncomputable abbrev qR:=Dl->(Option Int->Dl->Prop)->Prop
noncomputable def lP(t:qR):TO:=λσ H Q=>∃B F δ ts Qd,ao B F H σ δ ts/\t δ Qd/\∀o ah F' H',Qd o ah->af F F'->af H H'->ao B F' H' σ ah ts->Q o H'
theorem R9{oe:Option Expr}{u u':TO}(h:PO X oe u)(m:∀σ H Q,u' σ H Q->u σ H Q):PO X oe u':=λpins s σ H Q I q=>h pins s σ H Q I (m σ H Q q)
noncomputable def qS:qR:=λδ Q=>Q none δ
noncomputable def qT(t:aN):qR:=λδ Q=>t δ λd ah=>match d with
 | .int i=>Q (some i) ah
 | _=>False
theorem kP:PO X none (lP qS):=R9 cx3 λσ H Q ⟨B,F,δ,ts,Qd,c,q,k⟩=>k none δ F H q (af.refl _) (af.refl _) c
theorem kQ(h:PE X e (lB t)):PO X (some e) (lP (qT t)):=R9 (cv9 h) λσ H Q ⟨B,F,δ,ts,Qd,c,q,k⟩=>⟨B,F,δ,ts,_,c,q,λd aj v F1 H1 q1 f1 h1 c1 s1=>by
 cases s1 with
 | int _=>exact⟨_,rfl,k _ aj F1 H1 q1 f1 h1 c1⟩
 | _=>exact q1.elim⟩
noncomputable def eF{α:Type}(xs:List α)(lo hi:Option Int):List α:=(xs.drop (HT.cU xs.length 0 lo)).take (HT.cU xs.length xs.length hi-HT.cU xs.length 0 lo)
theorem S.cut{xs:List D}{ws:List V}(s:S F H xs ws)(lo hi:Option Int):S F H (eF xs lo hi) (kI ws lo hi):=by
 unfold eF kI
 rw[<-s.length]
 exact(s.drop _).take _
theorem Sa{xs:List D}{p:D->Bool}(h:xs.all p=true)(lo hi:Option Int):(eF xs lo hi).all p=true:=by
 rw[du]at h ⊢
 intro x hx
 exact h x (pI (pJ hx))
noncomputable def qU(t:aN):aN:=λδ Q=>t δ λd ah=>match d with
 | .int i=>Q (.int (Mf.bl i.natAbs:Nat)) ah
 | _=>False
theorem oi(ho:PE X o (lB t))(nj:attributeBase o "bit_length" X.env (eval o X.env)=eval o X.env:=by rfl)(nk:(apos.endLine==cN.line)=true:=by rfl):PE X (.Call (.Attribute o "bit_length" apos) [] [] cN) (lE (qU t)) :=
 dn (FP ho nj nk) λσ H Q ⟨B,F,δ,ts,Qd,c,q,k⟩=>⟨B,F,δ,ts,_,c,q,λd aj v F1 H1 q1 f1 h1 c1 s1=>by
  cases s1 with
  | int _=>exact⟨rfl,_,rfl,rfl,k _ aj _ F1 H1 q1 f1 h1 (c1.pushS (.int .nil) rfl)⟩
  | _=>exact q1.elim⟩
end
end L3
namespace L3
open PySem L2 PySem.Spec PyProof.Rows
section
variable{X:Cx}{F H:Hp}{v w:V}{e a b c o tg:Expr}{es:List Expr}{pos p p2 apos cN pos':Pos}{t ta tb tc te ti:aN}{tr:cY}{x:Str}{i:Nat}
noncomputable def qV(i:Nat)(t:aN):cZ:=λD δ=>(∃xs,δ[i]?=some (some (.lst true xs)))/\t δ λd ah=>∃xs,ah[i]?=some (some (.lst true xs))/\xs.length<sizeLine/\D.nx (ah.set i (some (.lst true (xs++[d]))))
theorem qW(hN:X.N[i]?=some x)(hv:m5 X.env.scope x)(he:PE X e (lE t))(hd:(x==("__debug__":Str))=false:=by decide)(de:(x==("__classdict__":Str))=false:=by decide)
  (nj:attributeBase (.Name x p) "append" X.env (eval (.Name x p) X.env)=eval (.Name x p) X.env:=by rfl)
  (FC:((backTo cN (starEach [e] X.env)).all (λx=>!x.1)&&(backToKw cN (keywordEach [] X.env)).all (λx=>x.1.isSome)
   && decide ([e].length+([]:List Keyword).length+(if([]:List Keyword).isEmpty then 0 else 1)<30))=true:=by rfl)
  (nk:(apos.endLine==cN.line)=true:=by rfl) (hs:starEach [e] X.env=(false,eval e X.env)::starEach [] X.env:=by rfl) (FD:(backTo cN (starEach [] X.env)).any (·.1)=false:=by rfl)
  (zw:swapsWith (.Call (.Attribute (.Name x p) "append" apos) [e] [] cN) none pos.line X.env=pure false:=by rfl) :
  PS X (.Expr (.Call (.Attribute (.Name x p) "append" apos) [e] [] cN) pos) (lS X (qV i t)) :=
 nG (E9 (cI8 PySem.F.plainAttrs_list PySem.F.slot_list_append PySem.F.type_list_append QM (vn hN hv hd de) (fH he jE hs) nj FC nk hs FD) zw) λEn σ H zz=>by
  obtain⟨B,F,δ,Dd,c,⟨⟨ys,ey⟩,q⟩,k1,k2,k3,k4⟩:=zz
  obtain⟨p0,Gj,g1,g2,g3⟩:=c.ownAt ey
  refine⟨.ref p0,g1,.inl ⟨rfl,_,bJ.of g2⟩,B,F,δ,[],_,c,q,λd ah v F' H' hd sf sh c'=>?_⟩
  obtain⟨xs,ex,hl,hn⟩:=hd
  obtain⟨p1,ws,r1,r2,r3⟩:=c'.ownAt ex
  rw[g1]at r1;cases r1
  exact⟨p0,ws,v,rfl,rfl,r2,by omega,k1 _ _ F' _ hn (c'.app ex g1 r2)⟩
noncomputable def qX(i:Nat)(te ti:aN):cZ:=λD δ=>te δ λd aj=>∃ys,aj[i]?=some (some (.lst true ys))/\nH ti aj λk aQ=>match k with
 | .int n=>∃xs j,aQ[i]?=some (some (.lst true xs))/\iJ xs.length n=some j/\D.nx (aQ.set i (some (.lst true (xs.set j d))))
 | _=>False
theorem tJ(hN:X.N[i]?=some x)(hv:m5 X.env.scope x)(he:PE X e (lE te))(hi:PE X b (lB ti))(hd:(x==("__debug__":Str))=false:=by decide)(de:(x==("__classdict__":Str))=false:=by decide)
  (ha:∀v,assign (.Subscript (.Name x p) b pos') X.env v=(do
   let ov<-holding [v] (eval (.Name x p) X.env)
   let iv<-holding [v,ov] (eval b X.env)
   standAt pos'
   holding [v,ov,iv] (setItem ov iv v)
   release [v,ov,iv] []):=by intro _;rfl)
  (hs:swapsWithSole [.Subscript (.Name x p) b pos'] e pos.line X.env=pure false:=by rfl) (hw:swappedStores [.Subscript (.Name x p) b pos'] e X.env=pure none:=by rfl)
  (h1:(assignEach [.Subscript (.Name x p) b pos'] X.env).map (·.2)=[assign (.Subscript (.Name x p) b pos') X.env]:=by rfl) :
  PS X (.Assign [.Subscript (.Name x p) b pos'] e pos) (lS X (qX i te ti)) :=
 nG (Z4 he (Z3 (vn hN hv hd de) (df hi) ca2 ha) hs hw h1) λEn σ H ⟨B,F,δ,Dd,c,q,k1,k2,k3,k4⟩=>⟨B,F,δ,[],_,c,q,λd aj v F1 H1 hq f1 h1 c1=>by
  obtain⟨ys,ey,hq⟩:=hq
  obtain⟨p0,Gj,g1,g2,g3⟩:=c1.ownAt ey
  refine⟨.ref p0,g1,B,F1,aj,[(d,v)],_,c1,hq,λkd aQ kv F2 H2 hk f2 h2 c2=>?_⟩
  have st:=c2.top
  split at hk
  ·obtain⟨xs,j,ex,ej,hn⟩:=hk
   cases st
   have c3:=c2.pop
   obtain⟨p1,ws,r1,r2,r3⟩:=c3.ownAt ex
   rw[g1]at r1;cases r1
   exact⟨p0,ws,_,j,rfl,rfl,r2,by rw[<-r3];exact ej,k1 _ _ F2 _ hn (c3.dd0 ex g1 r2 j)⟩
  ·exact hk.elim⟩
end
end L3
namespace L3
open PySem L2 PySem.Spec PyProof.Rows
theorem cI{A:Around}{k:Nat}(hr:cm k A):A.units+6<cLine:=by have:=hr.un;omega
noncomputable def aJ(ns:List Int):List D:=ns.map D.int
noncomputable def GN(o:Obj):Bool:=match o.cls with
 | .type n=>n != "list"
 | _=>true
noncomputable def Sb:bx:=λds Q=>∃ns:List Int,ds=[.fz (aJ ns)]/\ns.length<=63/\Q (.bl true)
theorem kR{F H:Hp}:∀ns:List Int,R F H (aJ ns) (ns.map V.int) []
 | []=>.nil
 | n::ns=>.int (kR ns)
theorem bJ5{K:PySem.W.Frag}{a:Addr}{o:Obj}(h:K.lookup a=some o):(a,o)∈K:=by
 induction K with
 | nil=>cases h
 | cons p K ih =>
  obtain⟨b,u⟩:=p
  rw[gD]at h
  split at h
  ·rename_i z
   have:a=b:=by simpa using z
   cases h;subst this;simp
  ·exact eJ _ (ih h)
end L3
namespace L3
open PySem L2 PySem.Spec PyProof.Rows
section
variable{B:Bs}{F H:Hp}{σ:L2.St}{δ:Dl}{ts ps:List (D × V)}{i k:Nat}{p q:Addr}{l1 l2 ys Ry:List D}{ws vK:List V}
end
section
variable{X:Cx}{F H:Hp}{e b:Expr}{pos p pr apos cN GO:Pos}{t ti te:aN}{x y:Str}{i j:Nat}
end
end L3
namespace L3
open PySem L2 PySem.Spec PyProof.Rows
theorem tK(i:Int):(D.int i).pl=true:=rfl
theorem tL(i:Bool):(D.bl i).pl=true:=rfl
theorem tM(i:Str):(D.str i).pl=true:=rfl
theorem tN:D.au.pl=true:=rfl
theorem tO(xs:List D):(D.fz xs).pl=true:=rfl
theorem tP(C:Addr)(ns:List Str)(xs:List D):(D.obj C ns xs).pl=true:=rfl
theorem qY(i:Int):(D.int i).fr=true:=rfl
theorem tQ(i:Bool):(D.bl i).fr=true:=rfl
theorem tR(i:Str):(D.str i).fr=true:=rfl
theorem tS:D.au.fr=true:=rfl
theorem kS(i:Int):(D.int i).sh=.int i:=rfl
theorem tT(i:Bool):(D.bl i).sh=.bl i:=rfl
theorem tU(i:Str):(D.str i).sh=.str i:=rfl
theorem tV:D.au.sh=.au:=rfl
theorem tW(xs:List D):(D.fz xs).sh=.fz xs:=rfl
theorem tX(C:Addr)(ns:List Str)(xs:List D):(D.obj C ns xs).sh=.obj C ns xs:=rfl
theorem tY{α:Type}(n:Nat)(x:α):(br n [x]).flatten=br n x:=by
 induction n with
 | zero=>rfl
 | succ n ih=>rw[sF,uW,ih];rfl
theorem kT(ns:List Int):(aJ ns).length=ns.length:=by simp[aJ]
theorem mB(ns:List Int):(aJ ns).all D.pl=true:=by simp[aJ,D.pl]
theorem oj(ns:List Int):(aJ ns).all D.fr=true:=by simp[aJ,D.fr]
theorem jr(ns:List Int):(aJ ns).map D.sh=aJ ns:=by simp[aJ,D.sh]
theorem om(a b:List Int):aJ a++aJ b=aJ (a++b):=by simp[aJ]
theorem tZ(n:Nat)(i:Int):br n (D.int i)=aJ (br n i):=by simp[aJ]
theorem qZ(n:Nat)(i:Int):aR n (.int i)=true:=by cases n<;>rfl
theorem t7(n:Nat)(i:Str):aR n (.str i)=true:=by cases n<;>rfl
theorem iS(i j:Int):bL (.int i) (.int j)=decide (i=j):=by
 show(i==j)=_
 rw[Bool.beq_eq_decide_eq]
theorem Sd:∀(a b:List Int),bL.fQ (aJ a) (aJ b)=decide (a=b)
 | [],[]=>rfl
 | [],_::_=>by simp[aJ,bL.fQ]
 | _::_,[]=>by simp[aJ,bL.fQ]
 | x::xs,y::ys=>by
  show(bL (.int x) (.int y)&&bL.fQ (aJ xs) (aJ ys))=_
  rw[Sd xs ys,iS,sH];simp
theorem q0(o o':Bool)(a b:List Int):bL (.lst o (aJ a)) (.lst o' (aJ b))=decide (a=b):=Sd a b
theorem cf5{ns:List Int}{k:Nat}(h:k<ns.length):(aJ ns)[k]?=some (.int ns[k]):=by simp[aJ,h]
theorem mC{ns:List Int}{k:Int}(h0:0<=k)(h:k<ns.length):eo (aJ ns) k=some (.int (ns.getD k.toNat 0)):=by
 unfold eo iJ
 rw[if_pos h0,kT,if_pos h]
 show(aJ ns)[k.toNat]?=_
 have hk:k.toNat<ns.length:=by omega
 rw[cf5 hk,aK,aL hk];rfl
theorem q5(ns:List Int)(lo hi:Option Int):eF (aJ ns) lo hi=aJ (eF ns lo hi):=by simp[eF,aJ,Pz,PB]
theorem t8(i:Int):my "int" (.int i)=some true:=by rfl
theorem t9(i:Int):my "bool" (.int i)=some false:=by rfl
theorem ua(i:Int):my "list" (.int i)=some false:=by rfl
theorem ub(o:Bool)(xs:List D):my "list" (.lst o xs)=some true:=by rfl
theorem ud:my "int" .au=some false:=by rfl
theorem ue(x:Str):my "str" (.str x)=some true:=by rfl
theorem uf(xs:List D):my "tuple" (.tup xs)=some true:=by rfl
theorem sL:sizeLine=16777216:=rfl
theorem ug{p:Prop}[Decidable p]:(decide p=true)=p:=by simp
theorem cr6{α:Type}(xs:List α)(a b:Nat):eF xs (some (a:Int)) (some (b:Int))=(xs.drop a).take (b-a):=by
 unfold eF
 rw[HT.Fw,HT.Fw]
 by_cases h:a<=xs.length
 ·rw[Nat.min_eq_left h]
  apply yo
  intro i
  rw[AY,AY,EG]
  by_cases hi:i<b-a
  ·rw[if_pos hi]
   by_cases hb:a+i<xs.length
   ·rw[if_pos (by omega)]
   ·rw[fF (by omega)];simp
  ·rw[if_neg hi,if_neg (by omega)]
 ·rw[Nat.min_eq_right (show xs.length<=a by omega),EH (bP _),EH (show xs.length<=a by omega)];simp
end L3
namespace L2
open PySem PySem.Spec PyProof.Rows
section
variable{X:Cx}{e:Expr}{te:TE}{lo hi:Option Expr}{st:Expr}{tl th ts:TO}{pos p2:Pos}
noncomputable def GP{α:Type}(xs:List α)(lo hi st:Option Int):List α:=(sliceRange (sliceBounds lo hi st xs.length).1 (sliceBounds lo hi st xs.length).2.1 (sliceBounds lo hi st xs.length).2.2).filterMap (xs[·]?)
end
end L2
namespace L3
open PySem L2 PySem.Spec PyProof.Rows
section
variable{X:Cx}{F H:Hp}{e:Expr}{t:aN}{lo hi:Option Expr}{st:Expr}{tl th td:qR}{pos p2:Pos}
theorem Se:∀{a:List Int} {ws:List V},S F H (aJ a) ws->ws=a.map V.int
 | [],_,s=>by cases s;rfl
 | b::bs,_,s=>by
  cases s with
  | int s=>rw[Se s];rfl
noncomputable def Sf:jN:=λds Q=>match ds with
 | [.lst _ xs]=>∃a,xs=aJ a/\Q (.int a.sum)
 | _=>False
theorem S.GQ{xs:List D}{ws:List V}(s:S F H xs ws):∀ix:List Nat,S F H (ix.filterMap (xs[·]?)) (ix.filterMap (ws[·]?))
 | []=>.nil
 | i::ix=>by
  rw[uP,uP]
  cases e:xs[i]? with
  | none =>
   have:ws[i]?=none:=by
    have:=s.length
    rw[Pf]at e ⊢
    omega
   rw[this];exact S.GQ s ix
  | some x =>
   obtain⟨u,e2,q⟩:=s.get e
   rw[e2]
   exact q.cons (S.GQ s ix)
theorem S.pick{xs:List D}{ws:List V}(s:S F H xs ws)(l u d:Option Int):S F H (GP xs l u d) (GP ws l u d):=by
 unfold GP;rw[<-s.length];exact s.GQ _
noncomputable def GR:Expr->Option Int
 | .Constant (.int i) _ _=>some i
 | _=>none
noncomputable def BU:List Expr->Option (List Int)
 | []=>some []
 | e::es=>(GR e).bind λi=>(BU es).map (i :: ·)
theorem cc9{e:Expr}{i:Int}(h:GR e=some i):∃a b,e=.Constant (.int i) a b:=by
 cases e with
 | Constant c a b =>
  cases c with
  | int j=>cases h;exact⟨_,_,rfl⟩
  | _=>cases h
 | _=>cases h
noncomputable def cL0(ns:List Int):cY:=λδ Q=>Q (aJ ns) δ
theorem Sg:∀(es:List Expr) (ns:List Int),BU es=some ns->PA X es (lO (cL0 ns))
 | [],ns,h=>by cases h;exact dF
 | e::es,ns,h=>by
  obtain⟨i,hi,h2⟩:=Option.bind_eq_some_iff.mp (show(GR e).bind (λi=>(BU es).map (i :: ·))=some ns from h)
  obtain⟨ms,hm,rfl⟩:=EF.mp h2
  obtain⟨a,b,rfl⟩:=cc9 hi
  exact za (fu (aw (i:=i)) (Sg es ms hm)) λ_ _ _ q=>q
noncomputable def q8(ns:List Int):aN:=λδ Q=>ns.length<=sizeLine/\Q (.lst true (aJ ns)) δ
theorem Sh{es:List Expr}{ns:List Int}(h:BU es=some ns):PE X (.List es pos) (lE (q8 ns)) :=
 dn (eR (Sg es ns h)) λ_ _ _ ⟨B,F,δ,ts,Qd,c,q,k⟩=>⟨B,F,δ,ts,Qd,c,by
  show(aJ ns).length<=sizeLine/\_
  rw[kT];exact q,k⟩
theorem cO5{a b:Int}(k:Nat)(ha:a.natAbs<2 ^ k)(hb:b.natAbs<2 ^ k)(hk:k<=1000000):IntMulOk a b:=by
 have f:∀{a:Int},a.natAbs<2 ^ k->Eu a<=2 ^ 20:=λ{a} ha=>by
  unfold Eu
  have:(2:Nat) ^ 20=1048576:=by decide
  split
  ·omega
  ·rename_i h
   have h0:a≠0:=by simpa using h
   have:=(Pn (show a.natAbs≠0 by omega)).mpr ha
   omega
 exact IntMulOk.of_bits (f ha) (f hb)
noncomputable def tab(f:Nat->Int)(n:Nat):List Int:=(aM n).map f
theorem BV{n:Nat}{g:iM}{tb:cZ}{En:tF}{δ:Dl}(Iv:Nat->Dl->Prop)(h0:Iv 0 δ)(ht:∀k ah,k<n->Iv k ah->g (.int k) ah λaQ=>tb { En with nx:=Iv (k+1),ct:=Iv (k+1),bk:=En.nx } aQ)
  (hf:∀ah,Iv n ah->En.nx ah):gu (EI (λ(k:Nat)=>D.int (0+(k:Int))) (aM (n:Int).toNat)) g tb En δ:=by
 rw[dQ]
 refine gu.mk Iv h0 (λi d ah hd iv=>?_) λah iv=>hf ah (by simpa using iv)
 rw[bZ]at hd
 obtain⟨k,hk,rfl⟩:=EF.mp hd
 have hi:i<n:=by have:=(jW.mp hk).1;simpa using this
 rw[gU hi]at hk
 cases hk
 rw[PC]
 exact ht i ah hi iv
theorem pV{xs:List D}{k:Int}{d:D}(h0:0<=k)(h:xs[k.toNat]?=some d):eo xs k=some d:=by
 unfold eo iJ
 have hk:k.toNat<xs.length:=(jW.mp h).1
 rw[if_pos h0,if_pos (by omega)]
 exact h
end
end L3
namespace L3
open PySem L2 PySem.Spec PyProof.Rows
noncomputable abbrev q9:=List D->(D->Prop)->(Addr->Prop)->Prop
noncomputable def zx(sp:q9):Sp:=λvs H Q E=>∃F ds Qd Ed,af F H/\R F H ds vs []/\sp ds Qd Ed/\(∀d v F' H' A,Qd d->af H H'->af F F'->af F' H'->(∀a ws,F' a=some (.lst ws)->F a=some (.lst ws)\/H a=none)->R F' H' [d] [v] A->A.Nodup->(∀a∈A,H a=none)->Q v H') /\
 ∀C H',Ed C->af H H'->E (.ref C) none H'
section
variable{P:Program}{w:World}{K:PySem.W.Frag}{mg:Str->Option Value}{base:Heap}
theorem Si{x qual:Str}{st:Stmt}{f:Addr}{fd:FuncData}{N ps:List Str}{k:Nat}{sp:q9}(F:bq K x qual st f fd)(S:bu N ps (ay st))(len:∀ds Q E,sp ds Q E->ds.length=ps.length)
  (iH:∀(aI:Value) (A:Around) (outer:List Env) (s:Shared) (H:Hp) (E:XK),cm k (A.deeper (envOfC qual (ay st) s.heap.objs.size f aI)) ->
   ∃t:cZ,PSs (jh (nD P w) P w K mg base N qual (ay st) f aI A outer s H E) (bg st) (lS (jh (nD P w) P w K mg base N qual (ay st) f aI A outer s H E) t) /\
    ∀ds Q Ex,sp ds Q Ex->t { nx:=λ_=>Q .au,rt:=Q,xc:=λC _=>Ex C,xr:=λC _=>Ex C } (jK N ds)):aP P w K mg base (nD P w) (k+1) f fd ps (zx sp):=by
 obtain⟨oc,od,kV,doc,pm,an,aI,ct,lZ,rfl,lk,de⟩:=F.ex
 refine Fu lk de S (λvs H Q E ⟨F,ds,Qd,Ed,e,r,h,_⟩=>by rw[<-r.length];exact len ds Qd Ed h) λA outer s H vs Q E hr zz=>?_
 obtain⟨F,ds,Qd,Ed,e,r,h,k,kx⟩:=zz
 obtain⟨t,ht,hq⟩:=iH aI A outer s H E hr
 have fin:∀d v ah aF F' H',Qd d->ao ⟨H,F⟩ F' H' aF ah [(d,v)]->Q v H':=λd v ah aF F' H' hd c=>by
  obtain⟨A,C,r',s',nd,fr⟩:=c.own
  exact k d v F' H' A hd c.b1 c.b2 c.ext c.b3 r' (gH.mp nd).1 λa ha=>fr a (fW _ ha)
 have e1:L2.start N vs=vs.map some++br (N.length-ds.length) none:=by unfold L2.start;rw[r.length]
 refine⟨_,ht,⟨H,F⟩,F,jK N ds,_,?_,hq ds Qd Ed h,λah aF F' H' hd c=>fin .au .au ah aF F' H' hd (c.pushS (.au .nil) rfl),fin,λ_ _ _ _ z=>z.elim,λ_ _ _ _ z=>z.elim,λC ah pins aF F' H' s' a T hx c I tr pa pT=>?_,λC ah pins aF F' H' s' h' e vs hx c I hm=>?_⟩
 ·rw[e1]
  exact ao.start e r _
 ·exact bT2 I rfl rfl rfl tr pa pT λh' T' g=>⟨a,T',.ref C,H',rfl,I.os,I.bare,g.un,g.aH,g.yZ,g.a0,g.a1,g.t0,g.t1,kx C H' hx c.b1⟩
 ·exact b05 I rfl rfl rfl hm λh' T' g=>⟨e,T',.ref C,H',rfl,I.os,I.bare,g.un,g.aH,g.yZ,g.a0,g.a1,g.t0,g.t1,kx C H' hx c.b1⟩
end
noncomputable abbrev cN6:=Dl->(D->Dl->Prop)->(Addr->Dl->Prop)->Prop
section
variable{X:Cx}{n:Nat}{f:Addr}{fd:FuncData}{ps:List Str}{sp:q9}{x:Str}{p pos:Pos}{e:Expr}{es:List Expr}{t:cY}{tx:cN6}
noncomputable def rf(t:cZ):cZ:=λD δ=>t { D with xc:=λ_ _=>False,xr:=λ_ _=>False } δ
theorem cI1{st:Stmt}{u:cZ}(h:PS X.gb st (lS X.gb u)):PS X st (lS X (rf u)):=by
 intro pins s σ H D I zz
 obtain⟨B,F,δ,Dd,c,q,k1,k2,k3,k4,xl⟩:=zz
 exact wpAny_mono (h pins s σ H D (I.jC _) ⟨B,F,δ,_,c,q,k1,k2,k3,k4,XL.none (λ_ _ z=>z) λ_ _ z=>z⟩) (λ_ _ q=>q.kD) λ_ _ z=>fE z
noncomputable def rh(C:Addr)(t:cY):cZ:=λD δ=>t δ λds ah=>ds.length<=9/\D.xr C ah
structure GS(K:PySem.W.Frag)(mg:Str->Option Value)(x:Str)(C:Addr):Prop where
 own:∀h:Heap,K.In h->h.Ns mainGlobals mg->∃newId Bn ki Sj B Sk Sl BW,OwnCls x C BW newId mg h/\ExcBaseFacts Bn newId ki Sj/\BW.contains (.type Bn)=true/\ExcBaseFacts B Sk Sl BW
theorem Sm{C:Addr}{np cN:Pos}(hm:GS X.K X.mg x C)(hc:X.calm=true)(hg:Gl X x)(ha:PA X (e::es) (lA t))(e8:(x==("__debug__":Str))=false:=by decide)
  (he:starEach (e::es) X.env=(false,eval e X.env)::starEach es X.env:=by rfl) (bU:(backTo cN (starEach es X.env)).any (·.1)=false:=by rfl) :
  PS X (.Raise (some (.Call (.Name x np) (e::es) [] cN)) none pos) (lS X (rh C t)):=by
 intro pins s σ H D I zz
 obtain⟨B,F,δ,Dd,c,q,k1,k2,k3,k4,xl⟩:=zz
 obtain⟨newId,Bn,ki,Sj,B',Sk,Sl,BW,O,Fn,hBn,FB⟩:=hm.own X.base I.ok.mod.m4 I.ok.mod.glob
 obtain⟨tl,N,nm,qn,bs,hdct,sn,sub,ab,col,dd,k0,k1',k2',k3',k5,mN,hC,hN,rj,T⟩:=O.obj
 refine wpAny_Raise_call_subU (k5:=k5) (k3:=k3') (k2:=k2') (k1:=k1') (k0:=k0) (dd:=dd) (col:=col) (ab:=ab) (sub:=sub) (sn:=sn) (hdct:=hdct) (bs:=bs) (N:=N) (q:=qn) (nm:=nm) (C:=C) Fn hBn FB (mN:=mN) (T.hasType FB.hasBase) (I.ok.hd hc) (by rw[he];show(false||(backTo cN (starEach es X.env)).any (·.1))=false;rw[bU];rfl) rj (Bf I hg O.bound ⟨rfl,?_⟩ e8)
 have BX:=ha cN pins s σ H (λvs H1=>vs.length<=9/\∃ah F',Dd.xr C ah/\ao B F' H1 σ ah []) I ⟨B,F,δ,[],_,c,q,λds aj vs F1 H1 q1 f1 h1 c1 s1=>⟨by rw[<-s1.length];exact q1.1,aj,F1,q1.2,c1⟩⟩
 rw[he]at BX ⊢
 refine Calls.evalArgs_plain (wpAny_mono BX (λus s2 h2=>?_) λ_ _ y=>y)
 obtain⟨vs,H1,I1,r,hl,ah,F',hx,c'⟩:=h2
 exact⟨rfl,by rw[<-r.length];exact fi hl (by decide),I1.bk _ _ hC,hN.keeps I1.bk,T.keeps I1.bk,λh' e' hm'=>xl.2 C ah pins σ F' H1 s2 h' e' _ hx c' I1 hm'⟩
end
end L3
namespace L3
open PySem L2 PySem.Spec PyProof.Rows
section
variable{X:Cx}{pins E3:List (Addr × Obj)}{σ:L2.St}{H:Hp}{s:Shared}{a:Addr}
noncomputable abbrev tr(X:Cx)(xe:Value->Shared->Prop)(pn:List (Addr × Obj)):Cx:={ X with xe:=xe,pn:=pn }
end
noncomputable abbrev exc(C:Addr):D:=.bE (.ext λa=>XAt a C)
section
variable{X:Cx}{tb th:cZ}{body dh1:List Stmt}{dh2:Stmt}{K n:Str}{Kc:Addr}{i:Nat}{kp dh3 pos:Pos}
end
end L3
namespace L3
open PySem L2 PySem.Spec PyProof.Rows
section
variable{X:Cx}{F H:Hp}{v:V}{a:Expr}{ta:aN}{p pos:Pos}
end
section
variable{K:PySem.W.Frag}{mg:Str->Option Value}{x:Str}{C:Addr}
theorem cC1(hm:mg x=some (.ref C))(q:PySem.W.excIn K C [.type "ValueError",.type "Exception",.type "BaseException",.type "object"] "ValueError.__new__"=true):GS K mg x C:=by
 refine⟨λh X G=>⟨"ValueError.__new__","ValueError",_,_,"ValueError",_,_,[.type "ValueError",.type "Exception",.type "BaseException",.type "object"],?_,PySem.F.excBase_ValueError,rfl,PySem.F.excBase_ValueError⟩⟩
 refine⟨hm,?_⟩
 unfold PySem.W.excIn at q
 split at q
 ·rename_i dd cd sl ho
  split at q
  ·rename_i C' bm k0 k1 k2 k3 n k5 hm hs
   simp only[eD,beq_iff_eq,Bool.not_eq_true']at q
   obtain⟨⟨⟨⟨⟨rfl,rfl⟩,Sn⟩,ht⟩,aH⟩,rj⟩:=q
   obtain⟨nm,bs,mro,ns,qn,hd,sn,sub,ab,col,del⟩:=cd
   dsimp only at hm Sn aH rj
   subst hm Sn
   have oo:sl=#[k0,k1,k2,k3,some (.builtin "ValueError.__new__"),k5]:=by
    obtain⟨l⟩:=sl
    simp only at hs
    rw[hs]
   subst oo
   exact⟨bm,ns,nm,qn,bs,hd,sn,sub,ab,col,dd,k0,k1,k2,k3,k5,_,X _ _ ho,.of_isNs (PySem.W.isNs_of_in X aH),PySem.W.nsMap_none_of_in X aH rj,PySem.W.tail_of_in X ht⟩
  ·cases q
 ·cases q
end
theorem GU{P:Program}{w:World}{X:Cx}:lY (nD P w) X E0:=by
 rintro _ _ _ _ _ _ _ ⟨_,_,_,_,_,_,_,_,_,_,_,_,_,_,z⟩
 exact z.elim
theorem GV{P:Program}{w:World}{K:PySem.W.Frag}{mg:Str->Option Value}{base:Heap}{k:Nat}{f:Addr}{fd:FuncData}{ps:List Str}{sp:q9}(h:aP P w K mg base (nD P w) k f fd ps (zx sp)) :
  aP P w K mg base (nD P w) k f fd ps (bA λds Q=>sp ds Q λ_=>False) :=
 h.imp λvs H Q E ⟨F,ds,Qd,e,r,q,k⟩=>⟨F,ds,Qd,_,e,r,q,k,λ_ _ z=>z.elim⟩
end L3
namespace L3
open PySem L2 PySem.Spec PyProof.Rows
theorem uh{CX:e7}{P:Program}{w:World}{K:PySem.W.Frag}{mg:Str->Option Value}{base:Heap}{N:List Str}{q:Str}{sc:Scope}{f:Addr}{aI:Value}{A:Around}{outer:List Env}{s:Shared}{H:Hp}{E:XK}:(jh CX P w K mg base N q sc f aI A outer s H E).K=K:=rfl
theorem ui(φ:vC):(D.bE φ).pl=true:=rfl
theorem uj(φ:vC):(D.bE φ).sh=.bE φ:=rfl
end L3
namespace L3
open PySem L2 PySem.Spec PyProof.Rows
theorem uk{X:Cx}:X.gb.K=X.K:=rfl
end L3
namespace L3
open PySem L2 PySem.Spec PyProof.Rows
noncomputable def dP(xs ys:List D):List D:=eE (λx y=>D.tup [x,y]) xs ys
noncomputable def gx(xs:List D):List D:=xs.mapIdx λi x=>D.tup [.int i,x]
theorem GW(xs ys:List D):(dP xs ys).map D.sh=dP (xs.map D.sh) (ys.map D.sh):=by
 unfold dP
 rw[EJ,EK]
 congr 1
theorem So{xs ys:List D}(h1:xs.all D.pl=true)(h2:ys.all D.pl=true):(dP xs ys).all D.pl=true:=by
 unfold dP
 rw[du]at h1 h2 ⊢
 intro d hd
 obtain⟨i,hi,e⟩:=fX hd
 rw[List.getElem_zipWith]at e
 subst e
 rw[jI]
 simp only[dM,pK,kz,eD]
 exact⟨h1 _ (dv _),h2 _ (dv _)⟩
theorem cc8(xs:List D):(gx xs).map D.sh=gx (xs.map D.sh):=by
 unfold gx
 apply yo
 intro i
 simp only[bZ,uY,Option.map_map]
 cases xs[i]? with
 | none=>rfl
 | some x =>
  show some (D.sh (.tup [.int i,x]))=some (D.tup [.int i,x.sh])
  rw[jJ];rfl
theorem cg2{xs:List D}(h1:xs.all D.pl=true):(gx xs).all D.pl=true:=by
 unfold gx
 rw[du]at h1 ⊢
 intro d hd
 obtain⟨i,hi,e⟩:=fX hd
 rw[List.getElem_mapIdx]at e
 subst e
 rw[jI]
 simp only[dM,pK,kz,eD]
 exact⟨rfl,h1 _ (dv _)⟩
theorem vN(xs:List D):(gx xs).length=xs.length:=by simp[gx]
theorem GX(xs ys:List D):(dP xs ys).length=min xs.length ys.length:=by simp[dP]
section
variable{F H:Hp}{d:D}{v:V}{xs ys:List D}{ws us:List V}{p q:Addr}{K:PySem.W.Frag}
theorem zy(s:S F H [d] [v])(e2:af F H)(e:iN d=some xs):∃p ws,v=.ref p/\Rd H p (.lst ws)/\R H H (xs.map D.sh) ws []/\(d.pl=true->xs.all D.pl=true/\Rd F p (.lst ws)/\R F H xs ws []):=by
 cases s with
 | @shr p ws ys _ _ hp r _ =>
  obtain rfl:=cW e
  refine⟨p,ws,rfl,.inl (e2 _ _ hp),?_,λ_=>⟨r.pl,.inl hp,r⟩⟩
  rw[mh r.pl]
  exact r.shared e2 (af.refl _)
 | @own p ws ys _ _ hp r _ =>
  obtain rfl:=cW e
  exact⟨p,ws,rfl,.inl hp,r.frozen e2,λz=>by simp[gh]at z⟩
 | @fz p o ws ys _ _ hp r _ =>
  obtain rfl:=cW e
  refine⟨p,ws,rfl,.inr ⟨o,e2 _ _ hp⟩,?_,λ_=>⟨r.pl,.inr ⟨o,hp⟩,r⟩⟩
  rw[mh r.pl]
  exact r.shared e2 (af.refl _)
 | au _=>cases e
 | bl _=>cases e
 | int _=>cases e
 | str _=>cases e
 | tup _ _ _=>cases e
 | obj _ _ _ _=>cases e
 | bE _ _=>cases e
theorem GY(r:R F H xs ws []){i:Nat}(hi:i<xs.length){x:V}(hx:ws[i]?=some x):R F H [xs[i]] [x] []:=by
 obtain⟨v,A1,e2,r1,sub⟩:=r.get (aL hi)
 rw[hx]at e2;cases e2
 have:A1=[]:=Px.mpr λa ha=>by simpa using sub ha
 subst this
 exact r1
theorem BY(hp:Rd F p (.lst ws))(r:R F H xs ws [])(hq:Rd F q (.lst us))(t:R F H ys us [])(hF:Full F H):JD (FV K p q) F (dP xs ys) where
 go:=λi H' hs hi=>by
  rw[GX]at hi
  have l1:=r.length
  have l2:=t.length
  exact⟨ws,us,_,_,.inl (gZ hp hs),.inl (gZ hq hs),aL (show i<ws.length by omega),aL (show i<us.length by omega)⟩
 j7:=λi H' v H2 hs hi zz=>by
  obtain⟨T,x,y,e1,e2,e3,hx,hy⟩:=zz
  subst e1 e3
  have BZ:=hi
  rw[GX]at BZ
  have h1:=GY (r.full hF hs rfl) (show i<xs.length by omega) (hx ws (.inl (gZ hp hs)))
  have h2:=GY (t.full hF hs rfl) (show i<ys.length by omega) (hy us (.inl (gZ hq hs)))
  have sm:=af.upd (o:=.tup [x,y]) e2
  refine⟨_,aL hi,sm,?_⟩
  have eg:(dP xs ys)[i]=.tup [xs[i]'(by omega),ys[i]'(by omega)]:=by simp[dP]
  rw[eg]
  exact R.tup (A:=[]) (B:=[]) cB ((h1.shared (af.refl _) sm).cons (h2.shared (af.refl _) sm)) .nil
 stop:=λi H' hs hi=>by
  rw[GX]at hi
  have l1:=r.length
  have l2:=t.length
  exact⟨ws,us,.inl (gZ hp hs),.inl (gZ hq hs),by omega⟩
theorem Sq(hp:Rd F p (.lst ws))(r:R F H xs ws [])(hF:Full F H):JD (Ga K p) F (gx xs) where
 go:=λi H' hs hi=>by
  rw[vN]at hi
  have l1:=r.length
  exact⟨ws,_,.inl (gZ hp hs),aL (show i<ws.length by omega)⟩
 j7:=λi H' v H2 hs hi zz=>by
  obtain⟨T,x,e1,e2,e3,hx⟩:=zz
  subst e1 e3
  have BZ:=hi
  rw[vN]at BZ
  have h1:=GY (r.full hF hs rfl) BZ (hx ws (.inl (gZ hp hs)))
  have sm:=af.upd (o:=.tup [.int i,x]) e2
  refine⟨_,aL hi,sm,?_⟩
  have eg:(gx xs)[i]=.tup [.int i,xs[i]]:=by simp[gx]
  rw[eg]
  exact R.tup (A:=[]) (B:=[]) cB (.int (h1.shared (af.refl _) sm)) .nil
 stop:=λi H' hs hi=>by
  rw[vN]at hi
  have l1:=r.length
  exact⟨ws,.inl (gZ hp hs),by omega⟩
end
section
variable{X:Cx}{a b:Expr}{ta:cY}{p pos pS:Pos}{elts:List Expr}{x1:Nat}
noncomputable def rk(t:cY):jo:=λδ Q=>t δ λds ah=>match ds with
 | [d1,d2]=>∃xs ys,iN d1=some xs/\iN d2=some ys/\Q (d1.pl&&d2.pl) (dP xs ys) ah
 | _=>False
theorem zA(hg:Gl X "zip")(hm:X.mg "zip"=none)(ha:PA X [a,b] (lA ta))(hs:starEach [a,b] X.env=[(false,eval a X.env),(false,eval b X.env)]:=by rfl)(fG:starEach [b] X.env=[(false,eval b X.env)]:=by rfl) :
  PI X (.Tuple elts x1 pS) (.Call (.Name "zip" p) [a,b] [] pos) (lI (rk ta)) :=
 tG (Rz hg hm ha hs fG) λσ H Q ⟨B,F,δ,ts,Qd,c,q,k⟩=>⟨B,F,δ,ts,_,c,q,λds aj vs F1 H1 hd f1 h1 c1 s=>by
  match ds,hd,s with
  | [d1,d2],⟨xs,ys,i1,i2,hq⟩,s =>
   obtain⟨v1,cQ,rfl,s1,s2⟩:=s.dh
   obtain⟨v2,eQ6,rfl,s2,s3⟩:=s2.dh
   cases s3
   have e2:=c1.ext
   have sn:=qa e2
   obtain⟨p1,w1,rfl,r1,t1,u1⟩:=zy s1 e2 i1
   obtain⟨p2,w2,rfl,r2,t2,u2⟩:=zy s2 e2 i2
   refine⟨p1,p2,rfl,⟨w1,.inl r1⟩,⟨w2,.inl r2⟩,k _ _ aj _ _ H1 hq (f1.trans sn) h1 c1.snap ?_ λz=>?_⟩
   ·rw[GW]
    exact BY r1 t1 r2 t2 (Full.refl _)
   ·rw[eD]at z
    obtain⟨a1,a2,a3⟩:=u1 z.1
    obtain⟨b1,b2,b3⟩:=u2 z.2
    exact⟨So a1 b1,BY (gZ a2 sn) (a3.shared sn (af.refl _)) (gZ b2 sn) (b3.shared sn (af.refl _)) tE⟩⟩
noncomputable def rm(t:cY):jo:=λδ Q=>t δ λds ah=>match ds with
 | [d1]=>∃xs,iN d1=some xs/\Q d1.pl (gx xs) ah
 | _=>False
theorem vO(hg:Gl X "enumerate")(hm:X.mg "enumerate"=none)(ha:PA X [a] (lA ta))(hs:starEach [a] X.env=[(false,eval a X.env)]:=by rfl) :
  PI X (.Tuple elts x1 pS) (.Call (.Name "enumerate" p) [a] [] pos) (lI (rm ta)) :=
 tG (cv5 hg hm ha hs) λσ H Q ⟨B,F,δ,ts,Qd,c,q,k⟩=>⟨B,F,δ,ts,_,c,q,λds aj vs F1 H1 hd f1 h1 c1 s=>by
  match ds,hd,s with
  | [d1],⟨xs,i1,hq⟩,s =>
   obtain⟨v1,cQ,rfl,s1,s2⟩:=s.dh
   cases s2
   have e2:=c1.ext
   have sn:=qa e2
   obtain⟨p1,w1,rfl,r1,t1,u1⟩:=zy s1 e2 i1
   refine⟨p1,rfl,⟨w1,.inl r1⟩,k _ _ aj _ _ H1 hq (f1.trans sn) h1 c1.snap ?_ λz=>?_⟩
   ·rw[cc8]
    exact Sq r1 t1 (Full.refl _)
   ·obtain⟨a1,a2,a3⟩:=u1 z
    exact⟨cg2 a1,Sq (gZ a2 sn) (a3.shared sn (af.refl _)) tE⟩⟩
end
end L3
namespace L3
open PySem L2 PySem.Spec PyProof.Rows
section
variable{X:Cx}{F H:Hp}{e b:Expr}{pos p p2 p3 pr apos cN GO:Pos}{t ti te:aN}{x y:Str}{i j:Nat}
theorem Bv{α:Type}{xs:List α}{k:Nat}{v:α}(h:xs[k]?=some v):eo xs (k:Int)=some v:=by
 unfold eo iJ
 have hk:k<xs.length:=(jW.mp h).1
 rw[if_pos (by omega),if_pos (by omega)]
 exact h
theorem cP9{B:Bs}{σ:L2.St}{δ:Dl}{ts:List (D × V)}{l1 l2 ys:List D}{p0:Addr}{ws:List V}(c:ao B F H σ δ ts)(e1:δ[i]?=some (some (.lst true (l1++.lst true ys::l2))))(g1:σ[i]?=some (some (.ref p0)))(g2:H p0=some (.lst ws)) :
  ∃q us,ws[l1.length]?=some (.ref q)/\H q=some (.lst us)/\ys.length=us.length/\S F H [.lst true ys] [.ref q]:=by
 obtain⟨v,ev,sv⟩:=c.look e1
 rw[g1]at ev;cases ev
 cases sv with
 | own hh sx _ =>
  rw[g2]at hh;cases hh
  obtain⟨v2,e2,s3⟩:=sx.get (i:=l1.length) (d:=D.lst true ys) (by rw[sA (bP _),EL];rfl)
  have s4:=s3
  cases s3 with
  | own h3 s5 _=>exact⟨_,_,e2,h3,s5.length,s4⟩
end
section
variable{X:Cx}{CX:e7}{k:Nat}{f:Addr}{fd:FuncData}{ps:List Str}{sp:bx}{E:XK}{fn x1 x2 y1 y2:Str}{i1 i2 j1 j2:Nat}{tk:Nat}
 {tp t1 t2 zp eQ8 q1 q2 fp eQ9 a1 a2 eR0 eR1 eR2 cp GO pr apos cN eR3 pos:Pos}
end
end L3
namespace L3
open PySem L2 PySem.Spec PyProof.Rows
theorem ao.dh7{B:Bs}{F H:Hp}{σ:L2.St}{δ:Dl}{ts:List (D × V)}{a b:D}{v:V}(c:ao B F H σ δ ((.tup [a,b],v)::ts)):∃p u w,v=.ref p/\H p=some (.tup [u,w])/\ao B F H σ δ ((a,u)::(b,w)::ts):=by
 obtain⟨A,C,r,s,nd,fr⟩:=c.own
 cases r with
 | @tup p ws xs A1 _ _ B1 hp r1 r2 =>
  obtain⟨u,eQ,A2,A3,rfl,rfl,h1,h2⟩:=r1.dh
  obtain⟨w,eR4,A4,A5,rfl,rfl,h3,h4⟩:=h2.dh
  cases h4
  refine⟨p,u,w,rfl,hp,c.ext,c.b1,c.b2,c.b3,A2++(A4++B1),C,h1.cons (h3.cons r2),s,?_,?_⟩
  ·simpa using nd
  ·intro a ha;exact fr a (by simpa using ha)
section
variable{X:Cx}{y1 y2:Str}{i1 i2 tk m:Nat}{t1 t2 tp:Pos}
noncomputable def iT(i1 i2:Nat):iM:=λd δ Q=>match d with
 | .tup [a,b]=>Q ((δ.set i1 (some a)).set i2 (some b))
 | _=>False
theorem jO(hc:X.calm=true)(Sr:X.N.Nodup)(m1:X.N[i1]?=some y1)(l1:Loc X.env.scope y1)(m2:X.N[i2]?=some y2)(l2:Loc X.env.scope y2)(hm1:m<=i1:=by decide)(vM:m<=i2:=by decide)
  (f1:X.fn y1=true\/X.env.scope.names.lookup y1=some .local:=by first | exact .inl rfl | exact .inr rfl | assumption) (f2:X.fn y2=true\/X.env.scope.names.lookup y2=some .local:=by first | exact .inl rfl | exact .inr rfl | assumption)
  (hag:(assignEach [.Name y1 t1,.Name y2 t2] X.env).map (·.2)=assign (.Name y1 t1) X.env::(assignEach [.Name y2 t2] X.env).map (·.2):=by rfl) (dh9:(assignEach [.Name y2 t2] X.env).map (·.2)=assign (.Name y2 t2) X.env::(assignEach [] X.env).map (·.2):=by rfl)
  (hn:(assignEach [.Name y1 t1,.Name y2 t2] X.env).length=2:=by rfl) (dm:(assignEach [.Name y1 t1,.Name y2 t2] X.env).findIdx? (·.1)=none:=by rfl) :
  PG X (.Tuple [.Name y1 t1,.Name y2 t2] tk tp) (lG m (iT i1 i2)) :=
 RL (Z1 hc (Qa (Bk Sr m1 l1 f1) (Qa (Bk Sr m2 l2 f2) ZZ dh9) hag) hn dm) λv σ H Q zz=>by
  obtain⟨B,F,δ,ts,d,Qd,c,q,k⟩:=zz
  obtain⟨a,b,rfl,q⟩:∃a b,d=D.tup [a,b]/\Qd ((δ.set i1 (some a)).set i2 (some b)):=by
   unfold iT at q
   split at q
   ·exact⟨_,_,rfl,q⟩
   ·exact q.elim
  obtain⟨p,u,w,rfl,hp,c2⟩:=c.dh7
  refine⟨p,[u,w],rfl,fZ.of hp,rfl,u,[w],rfl,w,[],rfl,rfl,k _ _ q (by simp) (λj hj=>?_) ((c2.store i1).store i2)⟩
  rw[uQ (by omega),uQ (by omega)]
end
open Classical in
theorem eB{α:Type}{sh:Bool}{xs:List D}{aD:List (Str × Nat)}{n m:Nat}{te:aN}{aj:Dl}{Q:D->Dl->Prop}(l:List α)(e g:α->D)(js:xs.map D.sh=l.map e)(inj:∀a b,e a=e b->a=b)
  (hx:∀a∈l,te ((fK aD n aj).set m (some (e a))) λd _=>d=g a) (eP:(sh&&aD.all (ik aj))=true\/∀a∈l,(g a).fr=true) (hl:l.length<=sizeLine) (hq:Q (.lst true (l.map g)) aj):vE sh xs aD n (gN m) ke te aj Q:=by
 let f:D->D:=λx=>if h:∃a∈l,e a=x then g h.choose else .au
 have hf:∀a∈l,f (e a)=g a:=λa ha=>by
  have h:∃b∈l,e b=e a:=⟨a,ha,rfl⟩
  show(if h:∃b∈l,e b=e a then g h.choose else .au)=g a
  rw[dif_pos h]
  exact congrArg g (inj _ _ h.choose_spec.2)
 refine b93 f (λx h=>?_) (eP.imp id λh x hx=>?_) ?_ ?_
 ·rw[js]at h
  obtain⟨a,ha,rfl⟩:=bO.mp h
  rw[hf a ha];exact hx a ha
 ·rw[js]at hx
  obtain⟨a,ha,rfl⟩:=bO.mp hx
  rw[hf a ha];exact h a ha
 ·have:=congrArg AO js
  simp at this
  omega
 ·rw[js,cH,show l.map (f ∘ e)=l.map g from uZ λa ha=>hf a ha]
  exact hq
noncomputable def sg:Option Int->D
 | none=>.au
 | some i=>.int i
end L3
namespace L3
open PySem L2 PySem.Spec PyProof.Rows
end L3
namespace L2
open PySem PySem.Spec PyProof.Rows
section
variable{X:Cx}
end
end L2
namespace L3
open PySem L2 PySem.Spec PyProof.Rows
noncomputable abbrev tx(l:List Nat):D:=.str ⟨l.toArray⟩
section
variable{X:Cx}{F H:Hp}{e:Expr}{es:List Expr}{t:aN}{pos p p2 apos cN:Pos}
noncomputable def oq(x:D)(lo hi:Option Int)(Q:D->Prop):Prop:=match x with
 | .lst _ xs=>xs.all D.pl=true/\Q (.lst true (eF xs lo hi))
 | .fz xs=>Q (.lst true (eF xs lo hi))
 | .str z=>z.length<=sizeLine/\Q (tx (eF z.cps.toList lo hi))
 | _=>False
noncomputable def rn(t:aN)(tl th:qR):aN:=λδ Q=>t δ λx aj=>tl aj λl aQ=>th aQ λu gq=>oq x l u λd=>Q d gq
theorem mD{lo hi:Option Expr}{tl th:qR}(he:PE X e (lB t))(hl:PO X lo (lP tl))(hu:PO X hi (lP th)):PE X (.Subscript e (.Slice lo hi none p2) pos) (lE (rn t tl th)) :=
 dn (Qx (QF.or cz0) he hl hu) λσ H Q ⟨B,F,δ,ts,Qd,c,q,k⟩=>⟨B,F,δ,ts,_,c,q,λx aj v F1 H1 q1 f1 h1 c1 s1=>⟨B,F1,aj,ts,_,c1,q1,λl aQ F2 H2 q2 f2 h2 c2=>⟨B,F2,aQ,ts,_,c2,q2,λu gq F3 H3 q3 f3 h3 c3=>by
  have kO:=s1.mono (f2.trans f3) (h2.trans h3)
  unfold oq at q3
  split at q3
  ·obtain⟨p,ws,rfl,h,t⟩:=nW kO c3.ext rfl
   exact .inl ⟨p,ws,rfl,kh h,λr hr=>k _ gq _ F3 _ q3.2 ((f1.trans f2).trans f3) (((h1.trans h2).trans h3).trans (af.upd hr)) (c3.nF hr (t.cut _ _) (Sa q3.1 _ _))⟩
  ·obtain⟨p,ws,rfl,h,t⟩:=nW kO c3.ext rfl
   cases kO with
   | fz h' r _=>exact .inl ⟨_,_,rfl,kh (.inr ⟨_,c3.ext _ _ h'⟩),λr' hr=>k _ gq _ F3 _ q3 ((f1.trans f2).trans f3) (((h1.trans h2).trans h3).trans (af.upd hr)) (c3.nF hr (r.s.cut _ _) (Sa r.pl _ _))⟩
  ·cases kO with
   | str _=>exact .inr ⟨_,rfl,q3.1,k _ gq _ F3 H3 q3.2 ((f1.trans f2).trans f3) ((h1.trans h2).trans h3) (c3.pushS (.str .nil) rfl)⟩
  ·exact q3.elim⟩⟩⟩
noncomputable def RE:cO:=λx y Q=>match x,y with
 | .str z,.str w=>∃ch,z=⟨#[ch]⟩/\Q (.bl (decide (ch∈w.cps.toList)))
 | _,_=>False
end
theorem um(a:List Nat):(⟨a.toArray⟩:Str).length=a.length:=by show a.toArray.size=_;simp
end L3
namespace L3
open PySem L2 PySem.Spec PyProof.Rows
noncomputable def ak(l:List Nat):List D:=aJ (l.map λ(n:Nat)=>(n:Int))
theorem eT(l:List Nat):(ak l).length=l.length:=by unfold ak;rw[kT,bG]
theorem cu(l:List Nat):ak l=l.map λ(n:Nat)=>D.int (n:Int):=by unfold ak aJ;rw[cH];rfl
theorem rp(l:List Nat):(ak l).map D.sh=l.map λ(n:Nat)=>D.int (n:Int):=by unfold ak;rw[jr];exact cu l
theorem gy(a b:Nat)(h:D.int (a:Int)=D.int (b:Int)):a=b:=by injection h with h;omega
theorem jP(l:List Nat):(ak l).all D.pl=true:=mB _
theorem mE(l:List Nat):(ak l).map D.sh=ak l:=jr _
theorem rq(a b:List Nat):ak a++ak b=ak (a++b):=by unfold ak;rw[om,fY]
theorem uo(l:List Nat)(lo hi:Option Int):eF (ak l) lo hi=ak (eF l lo hi):=by
 unfold ak
 rw[q5]
 congr 1
 unfold eF
 rw[bG,PB,Pz]
theorem zB{α:Type}(xs:List α)(b:Nat):eF xs none (some (b:Int))=xs.take b:=by
 have:=cr6 xs 0 b
 unfold eF at this ⊢
 simpa[HT.cU]using this
theorem vP{α:Type}(xs:List α)(a:Nat):eF xs (some (a:Int)) none=xs.drop a:=by
 unfold eF
 rw[HT.Fw]
 show(xs.drop (min a xs.length)).take (xs.length-min a xs.length)=_
 by_cases h:a<=xs.length
 ·rw[Nat.min_eq_left h,ym (by rw[iD];exact bP _)]
 ·rw[Nat.min_eq_right (by omega),List.drop_length,EH (by omega)];simp
noncomputable def vl(c:List Nat):Nat:=c.foldl (λa c=>2*a+(c-48)) 0
end L3
namespace L2
open PySem PySem.Spec PyProof.Rows
section
variable{X:Cx}{tg l o e:Expr}{tl to te:TE}{apos cN:Pos}
end
end L2
namespace L3
open PySem L2 PySem.Spec PyProof.Rows
section
variable{X:Cx}{F H:Hp}{tg l e:Expr}{te t tb:aN}{apos cN pos:Pos}
variable{o:Expr}
noncomputable def ki:cO:=λx y Q=>match x,y with
 | .int i,.lst _ xs=>∃ns:List Int,xs=aJ ns/\Q (.bl (decide (i∈ns)))
 | _,_=>False
theorem B0:∀{ns:List Int} {ws:List V},S F H (aJ ns) ws->ws=ns.map V.int
 | [],_,s=>by cases s;rfl
 | n::ns,_,s=>by
  cases s with
  | int s=>rw[B0 s];rfl
theorem cG5:bV X (compareOp .In) ki :=
 ⟨_,bS7,λ{B F H σ δ ts x y v w Q Qd} c sx sy h k=>by
  unfold ki at h
  split at h
  ·rename_i i o xs
   obtain⟨ns,rfl,q⟩:=h
   obtain⟨p,ws,rfl,e1,s1⟩:=gv sy c.ext
   have e:=B0 s1
   subst e
   cases sx
   refine⟨p,_,rfl,.inl (bJ.of e1),rfl,by simp[me],?_⟩
   have ei:s8 (.int i) (ns.map V.int)=decide (i∈ns):=by
    unfold s8
    rw[PD,sH,Ey,decide_eq_true_iff]
    constructor
    ·rintro⟨x,hx,he⟩
     have:x=i:=by simpa[j9]using he
     rw[<-this];exact hx
    ·intro hx
     exact⟨i,hx,by simp[j9]⟩
   show Q (.bl (if false then _ else s8 (.int i) (ns.map V.int))) H
   rw[if_neg (by decide),ei]
   exact k _ _ _ q (af.refl _) (c.pushS (.bl .nil) rfl)
  ·exact h.elim⟩
end
end L3
namespace L3
open PySem L2 PySem.Spec PyProof.Rows
end L3
namespace L2
open PySem PySem.Spec PyProof.Rows
noncomputable def Tb(ts:List Addr)(H:Hp):Prop:=∀P∈ts,∃ps,H P=some (.dw ps)
structure vQ(ts:List Addr)(H:Hp):Prop where
 any:∀b,H b=none\/(∃o xs,H b=some (.cq o (.lst xs)))\/(b∈ts/\H b=some (.dw #[]))
 tab:∀P∈ts,H P=some (.dw #[])
theorem vQ.tb{ts:List Addr}{H:Hp}(h:vQ ts H):Tb ts H:=λP hP=>⟨#[],h.tab P hP⟩
noncomputable def Bm(mg:Str->Option Value)(base:Heap):Prop:=∃bm o,mg "__builtins__"=some (.ref bm)/\bm≠builtinsNs/\bm≠mainGlobals/\base.get? bm=some o/\o.cls=.type "module"/\o.dict=some builtinsNs/\o.data=.plain
theorem bV1{P:Program}{w:World}{K:PySem.W.Frag}{mg mb:Str->Option Value}{CX:e7}{k:Nat}{fa a:Addr}{fd:FuncData}{x:Str}{sp:Sp}{bI:Shared}{vs:List Value}{ns:List Int}{ts:List Addr}
  (KX:K.In bI.heap) (B3:bI.heap.Ns mainGlobals mg) (hb:bI.heap.Ns builtinsNs mb) (GZ:∀x:Str,x≠"__name__"->mb x=bootBuiltins x) (di2:bI.heap.NoLimit) (hg:bI.gens=#[])
  (ht:∀P∈ts,bI.heap.get? P=some (PySem.W.tabObj #[])) (G0:∀P∈ts,isCodeTable bI.heap P) (hkt:∀P∈ts,K.lookup P=none)
  (ha:bI.heap.get? a=some { cls:=.type "list",data:=.seq vs.toArray }) (hi:IntsAre vs ns) (hl:ns.length<=sizeLine) (hr:cm k callerA)
  (zC:Bm mg bI.heap) (F:∀base:Heap,K.In base->base.Ns mainGlobals mg->Bm mg base->aP P w K mg base CX k fa fd [x] sp) (di4:∀(s:Shared) (u:Value),BindsTo s fd ⟨[u],[]⟩ [(x,u)])
  (ji:∀H:Hp,vQ ts H->bJ K H a (ns.map V.int)->sp [.ref a] H (λv _=>v=.bl true) λ_ _ _=>False)
  (G1:∀H e s',CX [] H bI (λ_ _ _=>False) e s'->False) :
  codeAny (model P w) callerA (.call (.ref fa) ⟨[.ref a],[]⟩) (λr s'=>r=.ok (.ret (.bool true))/\OldK bI.heap s'.heap/\s'.os=bI.os/\AllBare s'.gens) bI:=by
 have rv:=QP hi
 have di5:=hi.length
 have nat:a ∉ ts:=λz=>by
  have:=ht a z
  rw[ha]at this
  cases this
 have core:∀H:Hp,vQ ts H->bJ K H a (ns.map V.int)->cT P w H bI.heap->(∀b,H b≠none->b=a\/b∈ts)->(H a≠none->K.lookup a=none) ->
   codeAny (model P w) callerA (.call (.ref fa) ⟨[.ref a],[]⟩) (λr s'=>r=.ok (.ret (.bool true))/\OldK bI.heap s'.heap/\s'.os=bI.os/\AllBare s'.gens) bI:=by
  intro H hO hS aH hA hK
  have G2:∀{b:Addr} {o:Obj},bI.heap.get? b=some o->H b=none->(lQ bI.heap H).get? b=some o:=λe n=>Zn e n
  have yP:∀{b:Addr} {o:Obj} {es:Array DictEntry} {ep:Nat},bI.heap.get? b=some o->o.data=.dict es ep->H b=none:=λ{b o es ep} e d=>by
   cases q:H b with
   | none=>rfl
   | some u =>
    rcases hA b (by rw[q];simp)with e' | e'
    ·subst e'
     rw[ha]at e;cases e
     have d':Data.seq vs.toArray _=Data.dict es ep:=d
     cases d'
    ·rw[ht b e']at e;cases e
     have d':Data.fields #[]=Data.dict es ep:=d
     cases d'
  have B4:∀{b:Addr} {m:Str->Option Value},bI.heap.Ns b m->(lQ bI.heap H).Ns b m:=λ{b m} ⟨o,es,ep,e,d,r⟩=>⟨o,es,ep,G2 e (yP e d),d,r⟩
  have Ss:K.In (lQ bI.heap H):=λb o e=>G2 (KX b o e) (by
   cases q:H b with
   | none=>rfl
   | some u =>
    rcases hA b (by rw[q];simp)with e' | e'
    ·subst e'
     rw[hK (by rw[q];simp)]at e;cases e
    ·rw[hkt b e']at e;cases e)
  have hBm:Bm mg (lQ bI.heap H):=by
   obtain⟨bm,o,b1,b2,b3,b4,b5,b6,b7⟩:=zC
   refine⟨bm,o,b1,b2,b3,G2 b4 ?_,b5,b6,b7⟩
   cases q:H bm with
   | none=>rfl
   | some u =>
    rcases hA bm (by rw[q];simp)with e' | e'
    ·rw[e',ha]at b4;cases b4
     have d':Data.seq vs.toArray _=Data.plain:=b7
     cases d'
    ·rw[ht bm e']at b4;cases b4
     have d':Data.fields #[]=Data.plain:=b7
     cases d'
  have hM:Mod K mg (lQ bI.heap H):=⟨Ss,B4 B3,⟨mb,B4 hb,GZ⟩,let⟨mc,h1,h2⟩:=di2;⟨mc,B4 h1,h2⟩⟩
  have e0:gY P w K mg (lQ bI.heap H) callerA [] bI H:=⟨rfl,hM,λb o e=>Zo e,AM (Zm _ _),trivial,λb hb=>absurd (show b∈([]:List Addr) from hb) (by simp),aH,.of_eq hg⟩
  refine codeAny_mono ((F _ Ss (B4 B3) hBm).run callerA [] bI H ⟨[.ref a],[]⟩ [.ref a] [.ref a] _ _ hr e0 (di4 bI (.ref a)) (.cons rfl .nil) (ji H hO hS)) λr s' h=>?_
  cases r with
  | error e=>exact(G1 H e s' h).elim
  | ok fl =>
   cases fl with
   | next=>exact fE h
   | brk=>exact fE h
   | cont=>exact fE h
   | ret u =>
    obtain⟨v,H',os,bare,un,Su,r',q⟩:=h
    have q':v=.bl true:=q
    subst q'
    obtain rfl:u=Ej true:=r'
    have each:∀b o,bI.heap.get? b=some o->asItWas bI.heap s'.heap b o/\∃o',s'.heap.get? b=some o':=λb o e=>by
     cases q:H b with
     | none =>
      have z:=un.keep b o e q (by intro z;exact absurd (show b∈([]:List Addr) from z) (by simp)) (by simp)
      exact⟨.inl z,o,z⟩
     | some u =>
      rcases hO.any b with z | ⟨ob,xs,z⟩ | ⟨gL,z⟩
      ·rw[q]at z;cases z
      ·have z2:=un.gE b ob _ z
       obtain⟨e1,_⟩:=aH b _ z
       obtain⟨e2,_⟩:=Su b _ z2
       rw[e]at e1;cases e1
       exact⟨.inl e2,_,e2⟩
      ·obtain⟨more,z2⟩:=un.fO b _ z
       have e2:=(Su b _ z2).1
       rw[ht b gL]at e;cases e
       exact⟨.inr (.inl ⟨G0 b gL,rfl,#[],more,rfl,e2⟩),_,e2⟩
    exact⟨rfl,⟨λb o e=>(each b o e).1,λb o e=>(each b o e).2⟩,os,bare⟩
 have tok:∀(H:Hp) (b:Addr),b∈ts->dR P w H bI.heap b (.dw #[]):=λH b hb=>⟨ht b hb,trivial,λpos cv q=>by cases q⟩
 cases hk:K.lookup a with
 | some o =>
  have e:=KX a o hk
  rw[ha]at e
  cases e
  refine core (λb=>if b∈ts then some (.dw #[])else none) ⟨λb=>?_,λb hb=>if_pos hb⟩ (.inr ⟨_,vs.toArray,_,hk,rfl,rfl,rfl,by rw[eC,di5];exact hl,by simpa using rv⟩) (λb u z=>?_) (λb z=>?_) λz=>absurd (if_neg nat) z
  ·by_cases hb:b∈ts
   ·exact .inr (.inr ⟨hb,if_pos hb⟩)
   ·exact .inl (if_neg hb)
  ·by_cases hb:b∈ts
   ·have z':=(if_pos hb).symm.trans z
    cases z'
    exact tok _ b hb
   ·have z':=(if_neg hb).symm.trans z
    cases z'
  ·by_cases hb:b∈ts
   ·exact .inr hb
   ·exact absurd (if_neg hb) z
 | none =>
  refine core (λb=>if b=a then some (.cq { cls:=.type "list",data:=.seq vs.toArray } (.lst (ns.map V.int)))else if b∈ts then some (.dw #[])else none) ⟨λb=>?_,λb hb=>?_⟩ (.inl (.inr ⟨{ cls:=.type "list",data:=.seq vs.toArray },if_pos rfl⟩)) (λb u z=>?_) (λb z=>?_) λ_=>hk
  ·by_cases hb:b=a
   ·exact .inr (.inl ⟨_,_,if_pos hb⟩)
   ·by_cases gL:b∈ts
    ·exact .inr (.inr ⟨gL,(if_neg hb).trans (if_pos gL)⟩)
    ·exact .inl ((if_neg hb).trans (if_neg gL))
  ·have tD:b≠a:=λz=>nat (z ▸ hb)
   exact(if_neg tD).trans (if_pos hb)
  ·by_cases hb:b=a
   ·have z':=(if_pos hb).symm.trans z
    cases z'
    subst hb
    exact⟨ha,by rw[bG];exact hl,vs,_,rv,ha⟩
   ·by_cases gL:b∈ts
    ·have z':=((if_neg hb).trans (if_pos gL)).symm.trans z
     cases z'
     exact tok _ b gL
    ·have z':=((if_neg hb).trans (if_neg gL)).symm.trans z
     cases z'
  ·by_cases hb:b=a
   ·exact .inl hb
   ·by_cases gL:b∈ts
    ·exact .inr gL
    ·exact absurd ((if_neg hb).trans (if_neg gL)) z
theorem di7{l:PySem.W.OpenLaw}{n k:Nat}{q:Program}{loose:List Str}{XP:(Str->Option Value)->Heap->Prop}{YP:World->Heap->Prop}{d:DefRec}{K:Params->PySem.W.Frag}{CX:World->e7}{sp:World->Sp}{x:Str}{ts:List Addr}
  (hn:l.most=some n) (Bq:n<=sizeLine) (yT:d.params.defaults=[]) (hr:cm k callerA)
  (hY:∀(w:World) (h:Heap),YP w h->(K w.params).In h/\∀P∈ts,h.get? P=some (PySem.W.tabObj #[]))
  (hC:∀(w:World) (h:Heap),(K w.params).In h->∀P∈ts,(K w.params).lookup P=none/\∃c,PySem.W.CodeHd h c P)
  (F:∀(w:World) (mg:Str->Option Value) (fa:Addr) (h:Heap),(K w.params).In h->h.Ns mainGlobals mg->mg d.name=some (.ref fa) ->
   ∃fd:FuncData,(∀(s:Shared) (u:Value),BindsTo s fd ⟨[u],[]⟩ [(x,u)]) /\
    ∀base:Heap,(K w.params).In base->base.Ns mainGlobals mg->Bm mg base->aP l.prog w (K w.params) mg base (CX w) k fa fd [x] (sp w))
  (ji:∀(w:World) (H:Hp) (a:Addr) (ns:List Int),ns.length<=n->vQ ts H->bJ (K w.params) H a (ns.map V.int)->sp w [.ref a] H (λv _=>v=.bl true) λ_ _ _=>False)
  (G1:∀(w:World) (H:Hp) (s:Shared) (e:Value) (s':Shared),CX w [] H s (λ_ _ _=>False) e s'->False) :
  PySem.W.WalkO q loose XP YP l.row.toRowW d [] (λf vs=>PySem.call f vs):=by
 refine Att.cY4 hn yT λw cL bI mg mb fa o pm cd doc a vs ns G Y ho hd de yU FF hints hlen hg=>?_
 obtain⟨KX,hT⟩:=hY w _ Y
 obtain⟨fd,hb,hF⟩:=F w mg fa _ KX G.T.g yU
 have G0:∀P∈ts,isCodeTable bI.heap P:=λP hP=>by
  obtain⟨_,c,C⟩:=hC w _ KX P hP
  exact(C.tab (hT P hP)).isCodeTable
 have zC:Bm mg bI.heap:=by
  obtain⟨bm,ob,b1,b2,b3,b4,b5,b6⟩:=G.T.bmain
  refine⟨bm,ob,b1,b2,λq=>?_,b3,b4,b5,b6⟩
  obtain⟨o,es,ep,e,hd,_⟩:=G.T.g
  rw[q,e]at b3;cases b3;rw[hd]at b6;cases b6
 exact bV1 KX G.T.g G.T.b G.T.builtins G.T.nolimit hg hT G0 (λP hP=>(hC w _ KX P hP).1) FF hints (fi hlen Bq) hr zC hF hb (λH hO hS=>ji w H a ns hlen hO hS) λH e s'=>G1 w H bI e s'
end L2
namespace L3
open PySem L2 PySem.Spec PyProof.Rows
noncomputable def zD(ts:List Addr)(sp:Sp):Sp:=λvs H Q E=>Tb ts H/\sp vs H Q E
theorem Sv{X:Cx}{pins:List (Addr × Obj)}{σ:L2.St}{H:Hp}{s:Shared}{ts:List Addr}(I:Inv X pins σ H s)(h:Tb ts X.kB):Tb ts H:=λP hP=>by
 obtain⟨ps,e⟩:=h P hP
 obtain⟨m,e2⟩:=I.base.fO P ps e
 exact⟨_,e2⟩
noncomputable def B5(ts:List Addr)(K:PySem.W.Frag):Sp:=λvs H Q _=>∃(a:Addr) (ns:List Int),vs=[.ref a]/\vQ ts H/\bJ K H a (ns.map V.int)/\ns.length<=63/\∀H',Q (.bl true) H'
theorem ce1{ts:List Addr}{K:PySem.W.Frag}(nl:K.all (λp=>GN p.2)=true){vs:List V}{H:Hp}{Q:VK}{E:XK}(h:B5 ts K vs H Q E):zD ts (bA Sb) vs H Q E:=by
 obtain⟨a,ns,rfl,hO,hS,hl,q⟩:=h
 have hz:∃o,H a=some (.cq o (.lst (ns.map V.int))):=by
  rcases hS with (hS | hS) | ⟨o,its,n,hk,hc,_⟩
  ·rcases hO.any a with z | ⟨o,xs,z⟩ | ⟨_,z⟩
   ·rw[hS]at z;cases z
   ·rw[hS]at z;cases z
   ·rw[hS]at z;cases z
  ·exact hS
  ·have hm:=bJ5 hk
   have:=du.mp nl _ hm
   simp[GN,hc]at this
 obtain⟨o,ho⟩:=hz
 refine⟨hO.tb,H,[.fz (aJ ns)],λd=>d=.bl true,af.refl _,.fz ho (kR ns) .nil,⟨ns,rfl,hl,rfl⟩,λd v F' H' A hd hs hf he h3 r nd fr=>?_⟩
 subst hd
 cases r
 exact q H'
end L3
namespace L2
open PySem PySem.Spec PyProof.Rows
noncomputable def rem(H:Hp)(f c:Addr):Hp:=λb=>if b=f\/b=c then none else H b
noncomputable def ot(H H':Hp)(f c:Addr):Hp:=λb=>if b=f\/b=c then H b else H' b
section
variable{P:Program}{w:World}{H H':Hp}{h:Heap}{a b f c:Addr}{o:HO}{of oc:Obj}
theorem Sw:rem H f c f=none:=if_pos (.inl rfl)
theorem B6:rem H f c c=none:=if_pos (.inr rfl)
theorem ir(h1:b≠f)(h2:b≠c):rem H f c b=H b:=if_neg (by simp[h1,h2])
theorem vR(e:H b=none):rem H f c b=none:=by unfold rem;split;rfl;exact e
theorem Sx(e:rem H f c b=some o):b≠f/\b≠c/\H b=some o:=by
 unfold rem at e
 split at e
 ·cases e
 ·rename_i n
  exact⟨λz=>n (.inl z),λz=>n (.inr z),e⟩
theorem rz(h1:b≠f)(h2:b≠c):ot H H' f c b=H' b:=if_neg (by simp[h1,h2])
theorem Sy:ot H H' f c f=H f:=if_pos (.inl rfl)
theorem G3:ot H H' f c c=H c:=if_pos (.inr rfl)
theorem dR.rem{φ:Heap->Prop}(x:dR P w H h a o)(ha:a≠f)(hf:H f=some (.ext φ))(hc:H c=some (.own f)\/H c=none)(G4:¬ ∀h',φ h'->∃q,h'.CodeRec (.ref f) q):dR P w (rem H f c) h a o:=by
 have own:∀b,H b=some (.own a)->L2.rem H f c b=some (.own a):=λb e=>by
  rw[ir (λz=>by subst z;rw[hf]at e;cases e) (λz=>by subst z;rcases hc with hc | hc<;>(rw[hc]at e;cases e);exact ha rfl)];exact e
 have tup:∀b xs,H b=some (.tup xs)->L2.rem H f c b=some (.tup xs):=λb xs e=>by
  rw[ir (λz=>by subst z;rw[hf]at e;cases e) (λz=>by subst z;rcases hc with hc | hc<;>(rw[hc]at e;cases e))];exact e
 induction o with
 | lst xs=>exact x
 | tup xs=>exact x
 | dK dD=>exact x
 | dT dD =>
  obtain⟨z,y,xs,r,ob⟩:=x
  exact⟨z,y,xs,Paired.EY r λp q z=>⟨z.1,tup _ _ z.2.1,z.2.2⟩,ob⟩
 | set S n=>exact x
 | ins C dx fs =>
  obtain⟨d,r⟩:=x
  exact⟨own _ d,r⟩
 | own y=>exact x
 | xd fs=>exact x
 | yy lo hi=>exact x
 | cq ob u ih=>obtain⟨e,q⟩:=x;exact⟨e,ih q⟩
 | dw ps =>
  obtain⟨e,t,cc⟩:=x
  refine⟨e,t,λpos cv q=>?_⟩
  obtain⟨d,φ,e1,e2,e3⟩:=cc pos cv q
  refine⟨d,φ,e1,?_,e3⟩
  rw[ir (λz=>?_) (λz=>by subst z;rcases hc with hc | hc<;>(rw[hc]at e2;cases e2))]
  ·exact e2
  ·subst z
   rw[hf]at e2;cases e2
   exact G4 e3
 | met f y=>exact x
 | ext φ=>obtain⟨p,r,st⟩:=x;exact⟨p,r,λh1 h2 p1 kk=>st h1 h2 p1 λb o hb q=>kk b o (hb.imp id (own b)) q⟩
theorem Sz{φ:Heap->Prop}{fd:FuncData}(p:φ h)(g:∀h',φ h'->h'.get? f=some of)(hd:of.data=.func fd):¬ ∀h',φ h'->∃q,h'.CodeRec (.ref f) q:=λz=>by
 obtain⟨q,k,ok,vs,t,q1,q2,q3,_⟩:=z h p
 cases q1
 rw[g h p]at q2;cases q2
 rw[hd]at q3;cases q3
theorem cT.lam(ok:cT P w H h)(hf:H f=some (.ext (L3.jH of oc c f))):L3.jH of oc c f h:=(ok f _ hf).1
theorem cT.rem{fd:FuncData}(ok:cT P w H h)(hf:H f=some (.ext (L3.jH of oc c f)))(hc:H c=some (.own f))(hd:of.data=.func fd):cT P w (rem H f c) h:=λb o e =>
 let⟨h1,_,h3⟩:=Sx e;(ok b o h3).rem h1 hf (.inl hc) (Sz (ok.lam hf) (λ_ p=>p.1) hd)
end
theorem gY.rem{P:Program}{w:World}{K:PySem.W.Frag}{mg:Str->Option Value}{base:Heap}{A:Around}{outer:List Env}{s:Shared}{H:Hp}{f c:Addr}{of oc:Obj}{fd:FuncData}(e:gY P w K mg base A outer s H)
  (hf:H f=some (.ext (L3.jH of oc c f))) (hc:H c=some (.own f)) (hd:of.data=.func fd):gY P w K mg base A outer s (rem H f c) :=
 ⟨e.frames,e.mod,λb o q=>⟨(e.bs b o q).1,vR (e.bs b o q).2⟩,e.jc,e.gF,λb hb=>vR (e.jB b hb),e.aH.rem hf hc hd,e.bare⟩
theorem CE.add{P:Program}{w:World}{K:PySem.W.Frag}{mg:Str->Option Value}{base:Heap}{A:Around}{outer:List Env}{s s':Shared}{H:Hp}{f c:Addr}{of oc:Obj}{Q Q':VK}{u:Value}(e0:gY P w K mg base A outer s H)
  (hf:H f=some (.ext (L3.jH of oc c f))) (hc:H c=some (.own f)) (h:CE outer P w (rem H f c) s Q u s') (hQ:∀v H',Q v H'->H' f=none->H' c=none->Q' v (ot H H' f c)):CE outer P w H s Q' u s':=by
 obtain⟨v,H',os,bare,un,aH,r,q⟩:=h
 obtain⟨gf,gc⟩:=e0.aH.lam hf
 have SA:∀{b o},H b=some o->b ∉ dE outer:=λ{b o} e z=>by rw[e0.jB b z]at e;cases e
 have nf:H' f=none:=un.free f _ gf Sw (by simp)
 have nc:H' c=none:=un.free c _ gc B6 (by simp)
 have kf:=un.keep f _ gf Sw (SA hf) (by simp)
 have kc:=un.keep c _ gc B6 (SA hc) (by simp)
 refine⟨v,ot H H' f c,os,bare,⟨λb o e n=>un.keep b o e (vR n),λb o e n=>un.slot b o e (vR n),λb o e n x=>?_,un.there,λb xs e=>?_,λb ob xs e=>?_,λb ps e=>?_⟩,λb o e=>?_,r,hQ v H' q nf nc⟩
 ·rw[rz (λz=>by subst z;rw[hf]at n;cases n) (λz=>by subst z;rw[hc]at n;cases n)]
  exact un.free b o e (vR n) x
 ·have n1:b≠f:=λz=>by subst z;rw[hf]at e;cases e
  have n2:b≠c:=λz=>by subst z;rw[hc]at e;cases e
  rw[rz n1 n2]
  exact un.gW b xs (by rw[ir n1 n2];exact e)
 ·have n1:b≠f:=λz=>by subst z;rw[hf]at e;cases e
  have n2:b≠c:=λz=>by subst z;rw[hc]at e;cases e
  rw[rz n1 n2]
  exact un.gE b ob xs (by rw[ir n1 n2];exact e)
 ·have n1:b≠f:=λz=>by subst z;rw[hf]at e;cases e
  have n2:b≠c:=λz=>by subst z;rw[hc]at e;cases e
  rw[rz n1 n2]
  exact un.fO b ps (by rw[ir n1 n2];exact e)
 ·by_cases z:b=f
  ·subst z
   rw[Sy,hf]at e;cases e
   refine⟨⟨kf,kc⟩,⟨_,kf⟩,λh1 h2 p kk=>⟨kk b _ (.inl rfl) p.1,kk c _ (.inr ?_) p.2⟩⟩
   rw[G3];exact hc
  ·by_cases z2:b=c
   ·subst z2
    rw[G3,hc]at e;cases e
    exact⟨_,kc⟩
   ·rw[rz z z2]at e
    have up:∀{b' o'},H' b'=some o'->ot H H' f c b'=some o':=λ{b' o'} q=>by
     rw[rz (λz=>by subst z;rw[nf]at q;cases q) (λz=>by subst z;rw[nc]at q;cases q)];exact q
    exact(aH b o e).j6 (λ_ _ _ q=>q) (λ_ q=>up q) (λ_ _ q=>up q) λ_ _ q=>up q
theorem cf8{prog:Program}{w:World}{A:Around}{R:Result->Shared->Prop}{s:Shared}{a:Addr}{args:Args}{o:Obj}{fd:FuncData}{body:Expr}{q:Str}(dj0:A.depth<recursionLimit)
  (ho:s.heap.get? a=some o)
  (yB:o.data=.func fd) (hco:fd.scope.isCoroutine=false) (dj2:fd.scope.isGenerator=false) (iH:fd.body=.expr body) (de:s.heap.CodeRec fd.code q)
  (h:wpAny (model prog w) A.in1 (bindArgs fd args) (λbinds bI =>
   wpAny (model prog w) A.in1 (newFunctionEnv fd.scope fd.globals fd.closure binds (q++".<locals>.") (some a) fd.code none fd.builtins)
    (λenv kF=>kF.heap.NoLimit/\codeAny (model prog w) A (.expr body env) R kF) (λe s'=>R (.error e) s') bI) (λe s'=>R (.error e) s') s) :
  codeAny (model prog w) A (.call (.ref a) args) R s:=by
 refine codeAny_of_tree ?_
 show wpAny _ A.in1 (callAny (.ref a) args) _ _ s
 simp only[callAny]
 refine wpAny_bind (wpAny_load ho ?_)
 obtain⟨c,oc,vs,tq,hc,jf,G5,hq⟩:=de
 simp only[yB,callFunction,hco,dj2,iH,hc]
 rw[hc]at h
 refine wpAny_bind (m:=field (.ref c) 1) (wpAny_field jf G5 hq (wpAny_bind (wpAny_pure ?_)))
 exact wpAny_bind (wpAny_mono h (λbinds bI B7=>wpAny_bind (wpAny_mono B7 (λenv kF SD=>wpAny_bind (wpAny_enterFrame SD.1 dj0
  (wpAny_pure (And.intro rfl SD.2)))) λ_ _ h'=>h')) λ_ _ h'=>h')
structure SE(p1 p2 x:Str)(sc:Scope):Prop where
 kind:sc.kind=.function
 co:sc.isCoroutine=false
 gen:sc.isGenerator=false
 nd:[p1,p2,x].Nodup
 l1:sc.names.lookup p1=some .local
 l2:sc.names.lookup p2=some .local
 SF:∀y∈sc.names,y.2≠.cell
 only:∀y∈sc.names,y.2=.free->y.1=x
 lx:sc.names.lookup x=some .free
noncomputable def uq(CX:e7)(P:Program)(w:World)(K:PySem.W.Frag)(mg:Str->Option Value)(base:Heap)(N:List Str)(qual:Str)(scope:Scope)(f:Addr)(cd:Value)(cl:List (Str × Addr))(A:Around)(outer:List Env)(s:Shared)(H:Hp)(E:XK):Cx where
 prog:=P
 w:=w
 K:=K
 mg:=mg
 base:=base
 A:=A.deeper (PySem.W.envX qual scope s.heap.objs.size f cd cl)
 N:=N
 cL:=s
 kB:=H
 env:=PySem.W.envX qual scope s.heap.objs.size f cd cl
 outer:=outer
 stack:=PySem.W.envX qual scope s.heap.objs.size f cd cl::outer
 ex:=[]
 calm:=true
 fn:=λ_=>false
 pn:=[]
 xe:=λe s'=>wpAny (model P w) (A.deeper (PySem.W.envX qual scope s.heap.objs.size f cd cl)) (leaving (PySem.W.envX qual scope s.heap.objs.size f cd cl) e) (λ_ sY=>CX outer H s E e sY) (λe' sY=>CX outer H s E e' sY) s'
theorem cs7{CX:e7}{P:Program}{w:World}{K:PySem.W.Frag}{mg:Str->Option Value}{base:Heap}{p1 p2 x qn q:Str}{params:Arguments}{body:Expr}{scope:Scope}{pm jt:Value}{f c c':Addr}{k:Nat}{A:Around}{outer:List Env}{s:Shared}{H:Hp}{E:XK}
  {u1 u2 uc:Value} {v1 v2 vc:V} {Q:VK} {t:TE} {args:Args} (S:SE p1 p2 x scope) (e0:gY P w K mg base A outer s H) (hr:cm (k+1) A)
  (hf:s.heap.get? f=some (PySem.W.kla_obj "<lambda>" qn params body scope [(x,c)] pm c' jt)) (hc:s.heap.IsCell c (some uc)) (rc:RelV vc uc) (hH:H c=none) (de:s.heap.CodeRec (.ref c') q)
  (hb:bindArgs (PySem.W.kla_fn "<lambda>" qn params body scope [(x,c)] pm (.ref c') jt) args=pure [(p1,u1),(p2,u2)]) (r1:RelV v1 u1) (r2:RelV v2 u2)
  (ht:PE (uq CX P w K mg base [p1,p2,x] q scope f (.ref c') [(x,c)] A outer s H E) body t) (h:t [some v1,some v2,some vc] H Q) :
  codeAny (model P w) A (.call (.ref f) args) (CR CX outer P w H s Q E) s:=by
 have lim:s.heap.NoLimit:=e0.mod.nolimit.keeps λb o e=>(e0.bs b o e).1
 refine cf8 hr.depth hf rfl S.co S.gen rfl de ?_
 rw[hb]
 have dj4:∀y∈[(p1,u1),(p2,u2)],scope.names.lookup y.1=some .local:=λy hy=>by
  simp at hy
  rcases hy with rfl | rfl
  ·exact S.l1
  ·exact S.l2
 refine wpAny_pure (wpAny_newFunctionEnv S.SF dj4 (λB7 B3 SG=>⟨lim.fresh _ SG,?_⟩) S.kind)
 show codeAny _ _ (.expr body (PySem.W.envX q scope s.heap.objs.size f (.ref c') [(x,c)])) _ _
 have hk:∀b o,s.heap.get? b=some o->B7.get? b=some o:=λb o e=>SG.extBut b o (eI (bX e)) (fj _ e)
 have fL:p1≠p2/\p1≠x/\p2≠x:=by have:=S.nd;simp at this;exact⟨this.1.1,this.1.2,this.2⟩
 have look:∀y d,([(x,c)]:List (Str × Addr)).lookup y=some d->y=x/\d=c:=λy d e=>by
  rw[gD]at e
  split at e
  ·rename_i z;exact⟨beq_iff_eq.mp z,(cW e).symm⟩
  ·cases e
 have I:Inv (uq CX P w K mg base [p1,p2,x] q scope f (.ref c') [(x,c)] A outer s H E) [] [some v1,some v2,some vc] H { s with heap:=B7,toks:=s.toks+[(p1,u1),(p2,u2)].length }:=by
  refine⟨⟨e0.mod,S.kind,rfl,rfl,bP _,λy z d h1 h2=>?_,λy hy=>?_,λy d z _=>absurd z (by simp[uq]),λ_=>hr.hd,Around.frames_deeper e0.frames,.inr ⟨rfl,rfl⟩,λb z=>absurd z (by simp[uq]),e0.bs,e0.jc,λb _ _=>by simp[uq],λb z=>absurd z (by simp[uq]),e0.gF,e0.jB⟩,
   rfl,e0.bare,Un.kept hk,⟨_,B3,λi y v h1 h2 h3=>?_⟩,λy d h=>?_,e0.aH.fresh (bP _),λy d h=>?_,λp hp=>absurd (show p∈([]:List (Addr × Obj)) from hp) (by simp),e0.aH.kept hk,rfl⟩
  ·exact(look y d h1).1.trans (look z d h2).1.symm
  ·have hy:scope.names.lookup y=some .cell\/scope.names.lookup y=some .free:=hy
   rcases hy with hy | hy
   ·exact absurd rfl (S.SF _ (PySem.mem_of_lookup hy))
   ·obtain rfl:y=x:=S.only _ (PySem.mem_of_lookup hy) rfl
    exact⟨c,by show([(y,c)]:List (Str × Addr)).lookup y=_;rw[gD,beq_self_eq_true]⟩
  ·match i,h1,h2 with
   | 0,h1,h2 =>
    cases h1;cases h2
    exact⟨u1,r1,.inl ⟨S.l1,by
     show([(p1,u1),(p2,u2)]:List (Str × Value)).reverse.lookup p1=_
     simp[gD,beq_eq_false_iff_ne.mpr fL.1]⟩⟩
   | 1,h1,h2 =>
    cases h1;cases h2
    exact⟨u2,r2,.inl ⟨S.l2,by
     show([(p1,u1),(p2,u2)]:List (Str × Value)).reverse.lookup p2=_
     simp[gD]⟩⟩
   | 2,h1,h2 =>
    cases h1;cases h2
    exact⟨uc,rc,.inr ⟨.inr S.lx,c,by show([(x,c)]:List (Str × Addr)).lookup x=_;rw[gD,beq_self_eq_true],hc.keeps hk⟩⟩
   | n+3,h1,h2=>cases h2
  ·obtain⟨rfl,rfl⟩:=look y d h
   exact⟨_,hc.keeps hk⟩
  ·obtain⟨rfl,rfl⟩:=look y d h
   exact hH
 refine PySem.W.kla_codeExpr (wpAny_mono (ht [] _ _ H _ I h) (λu s' hs=>?_) λe s' hs=>hs)
 obtain⟨v,H',J,rv,q⟩:=hs
 exact⟨v,H',J.os,J.bare,J.base,J.aH,rv,q⟩
end L2
namespace L3
open PySem L2 PySem.Spec PyProof.Rows
theorem af.ot{H H':Hp}{f c:Addr}{o1 o2:HO}(h:af (rem H f c) H')(h1:H f=some o1)(n1:jm o1=true)(h2:H c=some o2)(n2:jm o2=true):af H (ot H H' f c) where
 get b o e n:=by
  by_cases z:b=f
  ·rw[z,Sy,<- z];exact e
  ·by_cases z2:b=c
   ·rw[z2,G3,<- z2];exact e
   ·rw[rz z z2];exact h.get b o (by rw[ir z z2];exact e) n
 tb b ps e:=by
  have z:b≠f:=λz=>by subst z;rw[h1]at e;cases e;cases n1
  have z2:b≠c:=λz=>by subst z;rw[h2]at e;cases e;cases n2
  rw[rz z z2]
  exact h.tb b ps (by rw[ir z z2];exact e)
noncomputable abbrev vS:=Int->Int->(Int->Prop)->Prop
structure zE(P:Program)(w:World)(K:PySem.W.Frag)(mg:Str->Option Value)(base:Heap)(n:Nat)(of oc:Obj)(c k:Addr)(sp:vS):Prop where
 fn:∃o1 od fd sl,of=⟨o1,od,.func fd,sl⟩
 run:∀(A:Around) (outer:List Env) (s:Shared) (H:Hp) (f:Addr) (t u:Tok) (i j:Int) (Qd:Int->Prop),cm n A->gY P w K mg base A outer s H->s.heap.get? f=some of->s.heap.get? c=some oc->H c=none->(∃q,s.heap.CodeRec (.ref k) q)->sp i j Qd ->
  codeAny (model P w) A (.call (.ref f) ⟨[.int i t,.int j u],[]⟩) (CR aZ outer P w H s (λv H'=>∃r,v=.int r/\Qd r/\af H H') (λ_ _ _=>False)) s
noncomputable def rA(L:Obj->Obj->Addr->Addr->vS->Prop)(i:Nat)(ta:cY):aN:=λδ Q=>∃of oc c k sp,δ[i]?=some (some (.bE (.lam of oc c k)))/\L of oc c k sp/\ta δ λds ah=>∃a b,ds=[.int a,.int b]/\sp a b λr=>Q (.int r) ah
theorem SH{X:Cx}{n i:Nat}{x:Str}{p pos:Pos}{e1 e2:Expr}{ta:cY}(hN:X.N[i]?=some x)(hv:m5 X.env.scope x)(hr:cm n X.A)(ha:PA X [e1,e2] (lA ta))
  (hd:(x==("__debug__":Str))=false:=by decide) (de:(x==("__classdict__":Str))=false:=by decide) (he:starEach [e1,e2] X.env=(false,eval e1 X.env)::starEach [e2] X.env:=by rfl) (bU:(backTo pos (starEach [e2] X.env)).any (·.1)=false:=by rfl) :
  PE X (.Call (.Name x p) [e1,e2] [] pos) (lE (rA (zE X.prog X.w X.K X.mg X.base n) i ta)):=by
 intro pins s σ H Q I zz
 obtain⟨B,F,δ,ts,Qd,c,⟨of,oc,cc,k,sp,ed,L,q⟩,kk⟩:=zz
 obtain⟨v,ev,sv⟩:=c.look ed
 obtain⟨f,rfl,lam⟩:∃f,v=.ref f/\iL H f of oc cc k:=by
  cases sv with
  | bE h _=>exact⟨_,rfl,h⟩
 refine wpAny_Call_Name_kw (aO (vn hN hv hd de pins s σ H (λv' H'=>v'=.ref f/\H'=H) I ⟨_,ev,rfl,rfl⟩) λu s1 zz=>?_)
 obtain⟨v',H',I1,r1,e1,e2⟩:=zz
 subst e1 e2
 obtain rfl:u=.ref f:=r1
 have fnAt:∀{H1:Hp} {s2:Shared},Inv X pins σ H1 s2->iL H1 f of oc cc k->PySem.W.FnAt f s2.heap:=λ{H1 s2} J l=>by
  obtain⟨o1,od,fd,sl,e⟩:=L.fn
  exact⟨o1,od,fd,sl,by rw[<-e];exact(J.aH.lam l.fn).1⟩
 refine PySem.W.callWith_F (fnAt I1 lam) (aO (ha pos pins s1 σ H' (λvs H2=>∃a b ah F',vs=[.int a,.int b]/\(sp a b λr=>Qd (.int r) ah)/\af F F'/\af H' H2/\ao B F' H2 σ ah ts) I1
  ⟨B,F,δ,ts,_,c,q,λds ah vs F' H2 ⟨a,b,eds,q2⟩ f1 h1 c1 s1=>?_⟩) λus s2 ⟨vs,H2,I2,r2,a,b,ah,F',evs,q2,f1,h1,c1⟩=>⟨fnAt I2 ((show p9 H' f (.lam of oc cc k) from lam).mono λa o e _ t=>h1.get a o e t),?_⟩) he bU
 ·subst eds
  refine⟨a,b,ah,F',?_,q2,f1,h1,c1⟩
  cases s1 with
  | int s1=>cases s1 with
   | int s1=>cases s1;rfl
 ·subst evs
  have rB:iL H2 f of oc cc k:=(show p9 H' f (.lam of oc cc k) from lam).mono λa o e _ t=>h1.get a o e t
  obtain⟨o1,od,fd,sl,eof⟩:=L.fn
  have dj7:of.data=.func fd:=by rw[eof]
  obtain⟨gf,gc⟩:=I2.aH.lam rB.fn
  obtain⟨ψ,eψ,zF⟩:=rB.Ge
  obtain⟨u1,u2,t1,t2,rfl⟩:∃(u1 u2:Unit) (t1 t2:Tok),us=[.int a t1,.int b t2]:=by
   cases r2 with
   | cons ra r2=>cases r2 with
    | cons rb r2 =>
     cases r2
     obtain⟨t1,rfl⟩:=ra
     obtain⟨t2,rfl⟩:=rb
     exact⟨(),(),t1,t2,rfl⟩
  refine wpAny_call (codeAny_mono (L.run X.A X.stack s2 (rem H2 f cc) f t1 t2 a b _ hr (I2.yO.rem rB.fn rB.cell dj7) gf gc B6 (zF _ (I2.aH k _ eψ).1) q2) λr s' hq=>?_)
  cases r with
  | error e=>exact hq.elim
  | ok fl =>
   cases fl with
   | ret u =>
    refine I2.after (CE.add I2.yO rB.fn rB.cell hq (Q':=Q) ?_)
    rintro v H3 ⟨r,rfl,hqd,hs⟩ nf nc
    have sm:=hs.ot rB.fn rfl rB.cell rfl
    exact kk _ ah _ F' _ hqd f1 (h1.trans sm) ((c1.grow sm).pushS (.int .nil) rfl)
   | next=>exact fE hq
   | brk=>exact fE hq
   | cont=>exact fE hq
end L3
namespace L2
open PySem PySem.Spec PyProof.Rows
theorem bG4{p:Pos}{c:Value}(l:List Value)(h:TriplesOk l):TriplesOk (l++[rawInt p.line,rawInt p.col,c]):=by
 fun_induction TriplesOk l with
 | case1=>simp[TriplesOk,rawInt]
 | case2 a b d e f eM ih=>exact ih h
 | case3=>exact h.elim
theorem bP2{p q:Pos}{c cv:Value}(l:List Value)(h:TriplesOk l)(e:codeAmong q (l++[rawInt p.line,rawInt p.col,c])=some cv):codeAmong q l=some cv\/cv=c:=by
 fun_induction TriplesOk l with
 | case1 =>
  simp only[pj,rawInt,codeAmong]at e
  split at e
  ·exact .inr (cW e).symm
  ·cases e
 | case2 a b d e' f eM ih =>
  simp only[pL,codeAmong]at e ⊢
  split at e
  ·rename_i z;rw[if_pos z];exact .inl e
  ·rename_i z;rw[if_neg z];exact ih h e
 | case3=>exact h.elim
noncomputable def ou(f:Addr)(o:Obj):Heap->Prop:=λh=>h.get? f=some o
noncomputable def cN3(P c:Addr)(x:Str)(params:Arguments)(body:Expr)(scope:Scope):TE:=λ_ H Q=>(∃ps,H P=some (.dw ps)) /\
 ∀f k qn pm jt H',H f=none->H' f=some (.ext (ou f (PySem.W.kla_obj "<lambda>" qn params body scope [(x,c)] pm k jt)))->L3.Gd H' k->k≠f->L3.af H H'->(∀a ws,H' a=some (.lst ws)->H a=some (.lst ws))->Q (.ref f) H'
theorem SI{X:Cx}{P c cc:Addr}{x:Str}{params:Arguments}{body:Expr}{scope:Scope}{pos:Pos}(g8:closureFor scope X.env=pure [(x,c)])(B8:X.env.code=.ref cc)(hK:PySem.W.codeHdIn X.K cc P=true)(zC:Bm X.mg X.base)
  (dk3:defaultsOf params X.env=([],[]):=by rfl):PE X (.Lambda params body scope pos) (cN3 P c x params body scope):=by
 intro pins s σ H Q I zz
 obtain⟨⟨ps,hP⟩,q⟩:=zz
 obtain⟨bm,ob,b1,b2,b3,b4,b5,b6,b7⟩:=zC
 have C:=PySem.W.codeHd_of_K I.dj hK
 obtain⟨oP,B9,codes⟩:=I.aH P _ hP
 have hg:=I.mod.glob.keeps I.bk
 have SJ:∀{b o},X.base.get? b=some o->b≠P:=λ{b o} e z=>by
  have:=(I.bs b o e).2
  rw[z,hP]at this;cases this
 have hgP:mainGlobals≠P:=by
  obtain⟨o,es,ep,e,_⟩:=I.mod.glob
  exact SJ e
 have SK:s.heap.BuiltinsAt X.mg P:=⟨bm,ob,b1,b2,b3,SJ b4,I.bk _ _ b4,b5,b6,b7⟩
 refine PySem.W.kla_eval dk3 ?_
 have fresh:∀{b:Addr},s.heap.objs.size<=b->H b=none:=λ{b} h=>I.aH.fresh h
 cases G6:codeAmong pos ps.toList with
 | none =>
  refine PySem.W.kla_makeFunction (mg:=X.mg) g8 I.ok.glob hg B8 C oP B9 G6 hgP SK λk jt h' tk hx zG ie dk5 SM=>?_
  have G7:P<s.heap.objs.size:=bX oP
  have hPk:k≠P:=λz=>by rw[z]at zG;exact absurd G7 (yp.mpr zG)
  have ur:s.heap.objs.size<=h'.objs.size:=fi zG (uO ie)
  have hPf:h'.objs.size≠P:=λz=>by rw[<-z]at G7;exact absurd G7 (yp.mpr ur)
  have SN:k≠h'.objs.size:=eI ie
  generalize SO:PySem.W.kla_obj "<lambda>" (X.env.qual++"<lambda>") params body scope [(x,c)] ((X.mg "__name__").getD .none) k jt=obj
  have eP:obj.isFreed=false:=by rw[<-SO];rfl
  have zH:∀b,b≠P->b≠k->b≠h'.objs.size->upd (upd (upd H P (.dw (ps++#[rawInt pos.line,rawInt pos.col,.ref k]))) k (.ext λh=>∃q,h.CodeRec (.ref k) q)) h'.objs.size (.ext (ou h'.objs.size obj)) b=H b:=λb n1 n2 n3=>by
   rw[bb n3,bb n2,bb n1]
  have Ca:upd (upd (upd H P (.dw (ps++#[rawInt pos.line,rawInt pos.col,.ref k]))) k (.ext λh=>∃q,h.CodeRec (.ref k) q)) h'.objs.size (.ext (ou h'.objs.size obj)) h'.objs.size=some (.ext (ou h'.objs.size obj)):=cB
  have atK:upd (upd (upd H P (.dw (ps++#[rawInt pos.line,rawInt pos.col,.ref k]))) k (.ext λh=>∃q,h.CodeRec (.ref k) q)) h'.objs.size (.ext (ou h'.objs.size obj)) k=some (.ext λh=>∃q,h.CodeRec (.ref k) q):=by rw[bb SN,cB]
  have Cb:upd (upd (upd H P (.dw (ps++#[rawInt pos.line,rawInt pos.col,.ref k]))) k (.ext λh=>∃q,h.CodeRec (.ref k) q)) h'.objs.size (.ext (ou h'.objs.size obj)) P=some (.dw (ps++#[rawInt pos.line,rawInt pos.col,.ref k])):=by rw[bb hPf.symm,bb hPk.symm,cB]
  generalize hHn:upd (upd (upd H P (.dw (ps++#[rawInt pos.line,rawInt pos.col,.ref k]))) k (.ext λh=>∃q,h.CodeRec (.ref k) q)) h'.objs.size (.ext (ou h'.objs.size obj))=Hn at zH Ca atK Cb
  have old:∀{b o},H b=some o->b≠P->Hn b=some o:=λ{b o} e n=>by
   have hb:b<s.heap.objs.size:=I.aH.lt e
   rw[zH b n (λz=>absurd hb (yp.mpr (z ▸ zG))) (λz=>absurd hb (yp.mpr (z ▸ ur)))];exact e
  have kept:∀b o,b≠P->s.heap.get? b=some o->(h'.push obj).get? b=some o:=λb o n e=>fj _ (hx b o n e)
  have un:Un X.fs [] H Hn s.heap (h'.push obj):=by
   refine⟨λb o e n _ _=>kept b o (λz=>by rw[z,hP]at n;cases n) e,λb o e n _ _=>⟨o.slots,kept b o (λz=>by rw[z,hP]at n;cases n) e⟩,λb o e n _=>?_,λb o e _=>?_,λb xs e=>old e (λz=>by rw[z,hP]at e;cases e),λb ob xs e=>old e (λz=>by rw[z,hP]at e;cases e),λb SQ e=>?_⟩
   ·have hb:=bX e
    rw[zH b (λz=>by rw[z,hP]at n;cases n) (λz=>absurd hb (yp.mpr (z ▸ zG))) (λz=>absurd hb (yp.mpr (z ▸ ur)))];exact n
   ·by_cases z:b=P
    ·rw[z];exact⟨_,fj _ SM⟩
    ·exact⟨o,kept b o z e⟩
   ·by_cases z:b=P
    ·subst z
     rw[hP]at e;cases e
     exact⟨_,Cb⟩
    ·exact⟨#[],by rw[old e z];simp⟩
  have aH:cT X.prog X.w Hn (h'.push obj):=λb o e=>by
   by_cases z1:b=h'.objs.size
   ·subst z1
    rw[Ca]at e;cases e
    exact⟨hW _ eP,⟨_,hW _ eP⟩,λh1 h2 p kk=>kk _ _ (.inl rfl) p⟩
   ·by_cases z2:b=k
    ·subst z2
     rw[atK]at e;cases e
     have hr:=dk5.push obj
     refine⟨⟨_,hr⟩,?_,λh1 h2 ⟨q,c1,o1,vs,t,e1,e2,r⟩ kk=>?_⟩
     ·obtain⟨c1,o1,vs,t,e1,e2,_⟩:=hr
      cases e1
      exact⟨o1,e2⟩
     ·cases e1
      exact⟨q,_,o1,vs,t,rfl,kk _ _ (.inl rfl) e2,r⟩
    ·by_cases z3:b=P
     ·subst z3
      rw[Cb]at e;cases e
      refine⟨fj _ SM,by rw[YY];exact bG4 _ B9,λp' cv e'=>?_⟩
      rw[YY]at e'
      rcases bP2 _ B9 e' with e' | e'
      ·obtain⟨d,φ,e1,e2,e3⟩:=codes p' cv e'
       exact⟨d,φ,e1,old e2 (λz=>by rw[z,hP]at e2;cases e2),e3⟩
      ·exact⟨k,_,e',atK,λh' p=>p⟩
     ·rw[zH b z3 z2 z1]at e
      have nP:∀{b' o'},H b'=some o'->(∀ps,o'≠.dw ps)->b'≠P:=λ{b' o'} e n z=>by rw[z,hP]at e;cases e;exact n _ rfl
      refine(I.aH b o e).j6 (λb' u zI e'=>kept b' u ?_ e') (λb' e'=>old e' (nP e' (λps z=>by cases z))) (λb' xs e'=>old e' (nP e' (λps z=>by cases z))) λb' φ e'=>old e' (nP e' (λps z=>by cases z))
      rcases zI with rfl | zI
      ·exact z3
      ·exact nP zI (λps z=>by cases z)
  refine⟨.ref h'.objs.size,Hn,I.un un aH,rfl,q _ k _ _ _ _ (fresh ur) (by rw[SO];exact Ca) ⟨_,atK,λh p=>p⟩ SN ⟨λb o e n=>old e (λz=>by rw[z,hP]at e;cases e;cases n),λb SQ e=>?_⟩ λa ws e=>?_⟩
  ·exact un.fO b SQ e
  ·by_cases z1:a=h'.objs.size
   ·subst z1;rw[Ca]at e;cases e
   ·by_cases z2:a=k
    ·subst z2;rw[atK]at e;cases e
    ·by_cases z3:a=P
     ·subst z3;rw[Cb]at e;cases e
     ·rw[zH a z3 z2 z1]at e;exact e
 | some cv =>
  obtain⟨k,φ,rfl,hk,G4⟩:=codes pos cv G6
  refine PySem.W.kla_makeFunctionHit (mg:=X.mg) g8 I.ok.glob hg B8 C oP B9 G6 SK λjt h' tk hx ur=>?_
  have hf:=fresh ur
  refine⟨.ref h'.objs.size,upd H h'.objs.size (.ext (ou h'.objs.size (PySem.W.kla_obj "<lambda>" (X.env.qual++"<lambda>") params body scope [(x,c)] ((X.mg "__name__").getD .none) k jt))),I.laid (λb u e=>fj _ (hx b u e)) ur ?_,rfl,q _ k (X.env.qual++"<lambda>") ((X.mg "__name__").getD .none) jt _ hf cB ⟨φ,?_,G4⟩ (fq hk hf) (L3.af.of λb o e=>?_) λa ws e=>?_⟩
  ·exact⟨hW _ rfl,⟨_,hW _ rfl⟩,λh1 h2 p kk=>kk _ _ (.inl rfl) p⟩
  ·rw[bb (fq hk hf)];exact hk
  ·rw[bb (fq e hf)];exact e
  ·by_cases z:a=h'.objs.size
   ·subst z;rw[cB]at e;cases e
   ·rw[bb z]at e;exact e
end L2
namespace L2
open PySem PySem.Spec PyProof.Rows
structure Cc(K:PySem.W.Frag)(C:Addr)(m:Str)(f:Addr):Prop where
 ga:PySem.W.specialIn K (.ref C) "__getattribute__"=some (some (.builtin "type.__getattribute__"))
 rd:PySem.W.readsIn K C (.type "type")=true
 at_:PySem.W.findCls K (.ref C) (.type "type") m=some (.val (.ref f))
 kp:PySem.W.keepIn K (.ref f)=true
section
variable{X:Cx}{CX:e7}{k:Nat}{f C:Addr}{fd:FuncData}{ps:List Str}{sp:Sp}{E:XK}{x m:Str}{p pos apos:Pos}{e o:Expr}{es:List Expr}{ta:TE}{t:TA}
theorem b96{pins:List (Addr × Obj)}{σ:St}{H:Hp}{s:Shared}{pl:Sem Bool}{A:Around}{E':Value->Shared->Prop}{Q:Value × List Value->Shared->Prop}(I:Inv X pins σ H s)(M:Cc X.K C m f)(h:∀s',Inv X pins σ H s'->Q (.ref f,[]) s') :
  wpAny (model X.prog X.w) A (getMethod (.ref C) m pl) Q E' s :=
 PySem.W.method_cls I.dj M.ga (PySem.W.cls_value (mc:=.type "type") I.dj M.rd M.at_ rfl (h _ (I.tok _)))
theorem cq0{pins:List (Addr × Obj)}{σ:St}{H:Hp}{s:Shared}{pl:Sem Bool}{Q:Value->Shared->Prop}{QA:List V->Hp->Prop}(I:Inv X pins σ H s)(M:Cc X.K C m f)(hg:Gl X x)(hm:X.mg x=some (.ref C))(ha:PA X (e::es) t)(h:t σ H QA)
  (hq:∀us s1 vs H1,Inv X pins σ H1 s1->Vals vs us->QA vs H1->wpAny (model X.prog X.w) X.A (call (.ref f) us) Q X.xe s1)
  (e8:(x==("__debug__":Str))=false:=by decide) (dm:starEach (e::es) X.env=(false,eval e X.env)::starEach es X.env:=by rfl) (bU:(backTo pos (starEach es X.env)).any (·.1)=false:=by rfl)
  (ht:eval (.Call (.Attribute (.Name x p) m apos) (e::es) [] pos) X.env=(do
   let ov<-eval (.Name x p) X.env
   standAt apos.atName
   let (f,first)<-holding [ov] (getMethod ov m pl)
   callWith pos f first (backTo pos (starEach (e::es) X.env)) (backToKw pos (keywordEach [] X.env))):=by rfl) :
  wpAny (model X.prog X.w) X.A (eval (.Call (.Attribute (.Name x p) m apos) (e::es) [] pos) X.env) Q X.xe s:=by
 refine PySem.W.methodCall_KW (pl:=pl) (Bf I hg hm ?_ e8) ht
 refine b96 I M λs1 I1=>?_
 refine PySem.W.callWith_K (first:=[]) (h₀:=X.base) I.ok.mod.m4 M.kp (aO (ha pos pins s1 σ H _ I1 h) λus s2 ⟨vs,H2,I2,r,q2⟩=>⟨I2.dj,?_⟩) dm bU
 exact hq us s2 vs H2 I2 r q2
noncomputable def cK2(sp:Sp)(E:XK)(c:Addr)(i:Nat)(t:TA):TE:=λσ H Q=>t σ H λvs H1=>∃f of fd v,H1 f=some (.ext (ou f of))/\of.data=.func fd/\σ[i]?=some (some v) /\
 ∀oc u,oc.data=.cell (some u)->RelV v u->H1 c=none->c≠f->sp vs (upd (upd H1 f (.ext (L3.jH of oc c f))) c (.own f)) (λr H2=>H2 f=some (.ext (L3.jH of oc c f))/\H2 c=some (.own f)/\Q r (rem H2 f c)) E
theorem SR{pl:Sem Bool}{y:Str}{c:Addr}{i:Nat}(M:Cc X.K C m f)(F:aP X.prog X.w X.K X.mg X.base aZ k f fd ps sp)(hr:cm k X.A)(hb:Binds X.K fd ps [])(hg:Gl X x)(hm:X.mg x=some (.ref C))
  (hN:X.N[i]?=some y) (hy:X.env.scope.names.lookup y=some .cell) (g8:X.env.cells.lookup y=some c) (yE:X.fn y=true) (ha:PA X (e::es) t)
  (e8:(x==("__debug__":Str))=false:=by decide) (dm:starEach (e::es) X.env=(false,eval e X.env)::starEach es X.env:=by rfl) (bU:(backTo pos (starEach es X.env)).any (·.1)=false:=by rfl)
  (ht:eval (.Call (.Attribute (.Name x p) m apos) (e::es) [] pos) X.env=(do
   let ov<-eval (.Name x p) X.env
   standAt apos.atName
   let (f,first)<-holding [ov] (getMethod ov m pl)
   callWith pos f first (backTo pos (starEach (e::es) X.env)) (backToKw pos (keywordEach [] X.env))):=by rfl) :
  PE X (.Call (.Attribute (.Name x p) m apos) (e::es) [] pos) (cK2 sp E c i t):=by
 intro pins s σ H Q I h
 refine cq0 (pl:=pl) I M hg hm ha h (λus s1 vs H1 I1 r ⟨fa,of,fdd,v,hf,hd,hv,hq⟩=>?_) e8 dm bU ht
 obtain⟨ml,_,hl⟩:=I1.loc
 obtain⟨u,rv,lk⟩:=hl i y v hN hv (.inr (.inl hy))
 obtain⟨oc,gc,jf⟩:∃oc,s1.heap.get? c=some oc/\oc.data=.cell (some u):=by
  rcases lk with⟨hk,_⟩ | ⟨_,c',yF,ic⟩
  ·rw[show X.env.kindOf y=some .cell from hy]at hk;cases hk
  ·rw[g8]at yF;cases yF;exact ic
 have nc:H1 c=none:=I1.je y c g8
 have rC:c≠fa:=λz=>by rw[z,hf]at nc;cases nc
 have gf:s1.heap.get? fa=some of:=(I1.aH fa _ hf).1
 have m9:=hq oc u jf rv nc rC
 have SS:=I1.ok.sR y c yE g8
 generalize hH:upd (upd H1 fa (.ext (L3.jH of oc c fa))) c (.own fa)=Hp at m9
 have SU:Hp c=some (.own fa):=by rw[<-hH,cB]
 have atf:Hp fa=some (.ext (L3.jH of oc c fa)):=by rw[<-hH,bb rC.symm,cB]
 have mF:∀b,b≠fa->b≠c->Hp b=H1 b:=λb n1 n2=>by rw[<-hH,bb n2,bb n1]
 have nfs:c ∉ X.fs:=λhb=>by
  obtain⟨_,o,ho,_⟩:=I1.ok.gF.mem hb
  exact absurd (cS (bX ho) SS) (fV _)
 have nst:∀b∈dE X.stack,b≠c:=λb hb z=>by
  rcases cA.mp (I1.yC b hb)with e | hb
  ·exact I1.pO y c g8 (z ▸ e)
  ·exact nfs (z ▸ hb)
 have dl4:cT X.prog X.w Hp s1.heap:=λb ob q=>by
  by_cases z1:b=c
  ·subst z1;rw[SU]at q;cases q;exact⟨_,gc⟩
  ·by_cases z2:b=fa
   ·subst z2;rw[atf]at q;cases q
    exact⟨⟨gf,gc⟩,⟨_,gf⟩,λh1 h2 p kk=>⟨kk _ _ (.inl rfl) p.1,kk _ _ (.inr SU) p.2⟩⟩
   ·rw[mF b z2 z1]at q
    have x1:=(I1.aH b ob q).rem (f:=fa) (c:=c) z2 hf (.inr nc) (Sz gf (λ_ p=>p) hd)
    have up:∀{b' o'},rem H1 fa c b'=some o'->Hp b'=some o':=λ{b' o'} q=>by
     obtain⟨n1,n2,q'⟩:=Sx q
     rw[mF b' n1 n2];exact q'
    exact x1.j6 (λ_ _ _ q=>q) (λ_ q=>up q) (λ_ _ q=>up q) λ_ _ q=>up q
 have e0:gY X.prog X.w X.K X.mg X.base X.A X.stack s1 Hp:=by
  have e1:=I1.yO
  refine⟨e1.frames,e1.mod,λb ob q=>⟨(e1.bs b ob q).1,?_⟩,e1.jc,e1.gF,λb hb=>?_,dl4,e1.bare⟩
  ·have hb0:=(I1.ok.bs b ob q).1
   rw[mF b (λz=>by have:=(e1.bs b ob q).2;rw[z,hf]at this;cases this) (λz=>absurd (cS (bX hb0) (z ▸ SS)) (fV _))]
   exact(e1.bs b ob q).2
  ·have nb:=e1.jB b hb
   rw[mF b (λz=>by rw[z,hf]at nb;cases nb) (nst b hb)];exact nb
 have hlen:us.length=ps.length:=by rw[<-r.length];exact F.len _ _ _ _ m9
 refine wpAny_call (codeAny_mono (F.run X.A X.stack s1 Hp ⟨us,[]⟩ us vs _ E hr e0 (by have:=hb s1 us I1.dj (by rw[iC];exact hlen);rwa [iC]at this) r m9) λrr s' hz=>?_)
 cases rr with
 | error e=>exact hz.elim
 | ok fl =>
  cases fl with
  | next=>exact fE hz
  | brk=>exact fE hz
  | cont=>exact fE hz
  | ret u' =>
   obtain⟨v',H2,os,bare,un,SV,rv',q1,q2,q3⟩:=hz
   obtain⟨_,SW⟩:=SV.lam q1
   refine I1.after ⟨v',rem H2 fa c,os,bare,⟨λb ob g n hb hx=>?_,λb ob g n hb hx=>?_,λb ob g n hx=>?_,un.there,λb xs g=>?_,λb ob xs g=>?_,λb ps g=>?_⟩,SV.rem q1 q2 hd,rv',q3⟩
   ·by_cases z:b=c
    ·rw[z,gc]at g;cases g;rw[z];exact SW
    ·exact un.keep b ob g (by rw[mF b (λz=>by rw[z,hf]at n;cases n) z];exact n) hb hx
   ·by_cases z:b=c
    ·rw[z,gc]at g;cases g;rw[z];exact⟨_,SW⟩
    ·exact un.slot b ob g (by rw[mF b (λz=>by rw[z,hf]at n;cases n) z];exact n) hb hx
   ·by_cases z:b=c
    ·rw[z];exact B6
    ·exact vR (un.free b ob g (by rw[mF b (λz=>by rw[z,hf]at n;cases n) z];exact n) hx)
   ·have n1:b≠fa:=λz=>by rw[z,hf]at g;cases g
    have n2:b≠c:=λz=>by rw[z,nc]at g;cases g
    rw[ir n1 n2]
    exact un.gW b xs (by rw[mF b n1 n2];exact g)
   ·have n1:b≠fa:=λz=>by rw[z,hf]at g;cases g
    have n2:b≠c:=λz=>by rw[z,nc]at g;cases g
    rw[ir n1 n2]
    exact un.gE b ob xs (by rw[mF b n1 n2];exact g)
   ·have n1:b≠fa:=λz=>by rw[z,hf]at g;cases g
    have n2:b≠c:=λz=>by rw[z,nc]at g;cases g
    rw[ir n1 n2]
    exact un.fO b ps (by rw[mF b n1 n2];exact g)
end
end L2
namespace L3
open PySem L2 PySem.Spec PyProof.Rows
theorem G8{ts:List Addr}{H H':Hp}(h:Tb ts H)(s:af H H'):Tb ts H':=λP hP=>by
 obtain⟨ps,e⟩:=h P hP
 obtain⟨m,e2⟩:=s.tb P ps e
 exact⟨_,e2⟩
theorem SX{P:Program}{w:World}{K:PySem.W.Frag}{mg:Str->Option Value}{base:Heap}{n:Nat}{p1 p2 x qn:Str}{params:Arguments}{body:Expr}{scope:Scope}{pm jt:Value}{oc:Obj}{c k:Addr}{m:Int}{tm:Tok}{sp:vS}(S:SE p1 p2 x scope)
  (jf:oc.data=.cell (some (.int m tm))) (hb:∀u1 u2:Value,bindArgs (PySem.W.kla_fn "<lambda>" qn params body scope [(x,c)] pm (.ref k) jt) ⟨[u1,u2],[]⟩=pure [(p1,u1),(p2,u2)])
  (iH:∀(q:Str) (f:Addr) (A:Around) (outer:List Env) (s:Shared) (H:Hp) (E:XK),cm n (A.deeper (PySem.W.envX q scope s.heap.objs.size f (.ref k) [(x,c)])) ->
   ∃t:aN,PE (uq aZ P w K mg base [p1,p2,x] q scope f (.ref k) [(x,c)] A outer s H E).gb body (lE t)/\∀i j Qd,sp i j Qd->t [some (.int i),some (.int j),some (.int m)] λd _=>∃r,d=.int r/\Qd r) :
  zE P w K mg base (n+1) (PySem.W.kla_obj "<lambda>" qn params body scope [(x,c)] pm k jt) oc c k sp where
 fn:=⟨_,_,_,_,rfl⟩
 run A outer s H f t u i j Qd hr e0 gf gc hH de h:=by
  obtain⟨q,de⟩:=de
  obtain⟨tt,ht,hq⟩:=iH q f A outer s H (λ_ _ _=>False) (hr.deeper _)
  refine cs7 (v1:=.int i) (v2:=.int j) (vc:=.int m) (E:=λ_ _ _=>False) S e0 hr gf ⟨oc,gc,jf⟩ ⟨tm,rfl⟩ hH de (hb _ _) ⟨t,rfl⟩ ⟨u,rfl⟩ ht.gb ?_
  refine⟨⟨H,H⟩,H,_,[],_,?_,hq i j Qd h,λd ah v F' H' hd f1 h1 c1=>?_⟩
  ·exact ao.start (ds:=[.int i,.int j,.int m]) (vs:=[.int i,.int j,.int m]) (af.refl H) (.int (.int (.int .nil))) 0
  ·obtain⟨r,rfl,hd⟩:=hd
   have s1:=c1.top
   cases s1
   exact⟨r,rfl,hd,h1⟩
section
variable{X:Cx}{CX:e7}{n:Nat}{f:Addr}{fd:FuncData}{ps:List Str}{sp:bx}{E:XK}{x:Str}{p pos:Pos}{e:Expr}{es:List Expr}{t:cY}{tl:List Addr}
theorem cw0(hT:Tb tl X.kB)(F:aP X.prog X.w X.K X.mg X.base CX n f fd ps (zD tl (bA sp)))(hr:cm n X.A)(hg:Gl X x)(hm:X.mg x=some (.ref f))(hk:PySem.W.keepIn X.K (.ref f)=true)(hb:Binds X.K fd ps [])(hx:lY CX X E)
  (ha:PA X (e::es) (lA t)) (e8:(x==("__debug__":Str))=false:=by decide) (he:starEach (e::es) X.env=(false,eval e X.env)::starEach es X.env:=by rfl) (bU:(backTo pos (starEach es X.env)).any (·.1)=false:=by rfl) :
  PE X (.Call (.Name x p) (e::es) [] pos) (lE (nN sp t)):=by
 intro pins s σ H Q I zz
 obtain⟨B,F',δ,ts,Qd,c,q,k⟩:=zz
 have tb:=Sv I hT
 refine sX F hr hg hm hk hb .nil hx ha e8 he bU pins s σ H Q I ⟨B,F',δ,ts,_,c,q,λds aj vs F1 H1 q1 f1 h1 c1 s1=>?_⟩
 refine⟨G8 tb h1,?_⟩
 rw[iC]
 exact BJ c1 s1 q1 λd v F' H' hd hf hs c'=>k d aj v F' H' hd (f1.trans hf) (h1.trans hs) c'
end
section
variable{P:Program}{w:World}{K:PySem.W.Frag}{mg:Str->Option Value}{base:Heap}
theorem SY{x qual:Str}{st:Stmt}{f:Addr}{fd:FuncData}{N ps:List Str}{k:Nat}{sp:bx}{tl:List Addr}(F:bq K x qual st f fd)(S:bu N ps (ay st))(len:∀ds Q,sp ds Q->ds.length=ps.length)
  (iH:∀(aI:Value) (A:Around) (outer:List Env) (s:Shared) (H:Hp) (E:XK),Tb tl H->cm k (A.deeper (envOfC qual (ay st) s.heap.objs.size f aI)) ->
   ∃t:cZ,PSs (jh aZ P w K mg base N qual (ay st) f aI A outer s H E).gb (bg st) (lS (jh aZ P w K mg base N qual (ay st) f aI A outer s H E).gb t)/\∀ds Q,sp ds Q->t { nx:=λ_=>Q .au,rt:=Q } (jK N ds)):aP P w K mg base aZ (k+1) f fd ps (zD tl (bA sp)):=by
 refine F.ok S (λvs H Q E ⟨_,F,ds,Qd,e,r,h,_⟩=>by rw[<-r.length];exact len ds Qd h) λaI A outer s H vs Q E hr zz=>?_
 obtain⟨tb,F,ds,Qd,e,r,h,k⟩:=zz
 obtain⟨t,ht,hq⟩:=iH aI A outer s H E tb hr
 have fin:∀d v ah aF F' H',Qd d->ao ⟨H,F⟩ F' H' aF ah [(d,v)]->Q v H':=λd v ah aF F' H' hd c=>by
  obtain⟨A,C,r',s',nd,fr⟩:=c.own
  exact k d v F' H' A hd c.b1 c.b2 c.ext c.b3 r' (gH.mp nd).1 λa ha=>fr a (fW _ ha)
 have e1:L2.start N vs=vs.map some++br (N.length-ds.length) none:=by unfold L2.start;rw[r.length]
 refine⟨_,ht,⟨H,F⟩,F,jK N ds,_,?_,hq ds Qd h,λah aF F' H' hd c=>fin .au .au ah aF F' H' hd (c.pushS (.au .nil) rfl),fin,λ_ _ _ _ z=>z.elim,λ_ _ _ _ z=>z.elim,XL.none (λ_ _ z=>z) λ_ _ z=>z⟩
 rw[e1]
 exact ao.start e r _
theorem S0{x qual:Str}{st:Stmt}{f cc:Addr}{fd:FuncData}{N ps:List Str}{k:Nat}{sp:Sp}(F:bq K x qual st f fd)(B8:fd.code=.ref cc)(S:bu N ps (ay st))(len:∀vs H Q E,sp vs H Q E->vs.length=ps.length)
  (iH:∀(A:Around) (outer:List Env) (s:Shared) (H:Hp) (vs:List V) (Q:VK) (E:XK),cm k (A.deeper (envOfC qual (ay st) s.heap.objs.size f (.ref cc)))->sp vs H Q E ->
   ∃t,PSs (jh aZ P w K mg base N qual (ay st) f (.ref cc) A outer s H E).gb (bg st) t/\t { nx:=λ_ H'=>Q .au H',rt:=Q } (L2.start N vs) H):aP P w K mg base aZ (k+1) f fd ps sp:=by
 obtain⟨oc,od,kV,doc,pm,an,aI,ct,lZ,rfl,lk,de⟩:=F.ex
 obtain rfl:aI=.ref cc:=B8
 refine Fu lk de S len λA outer s H vs Q E hr ji=>?_
 obtain⟨t,h,q⟩:=iH A outer s H vs Q E hr ji
 exact⟨t,h.gb,q⟩
end
end L3
namespace L3
open PySem L2 PySem.Spec PyProof.Rows
theorem bQ1{ns:List Str}{xs:List D}{ws:List V}{F H:Hp}{f:Str}{d:D}(r:R F H xs ws [])(h:(ns.zip xs).lookup f=some d):∃w,(ns.zip ws).lookup f=some w/\R F H [d] [w] []:=by
 generalize e:([]:List Addr)=A at r
 induction ns generalizing xs ws A with
 | nil=>simp at h
 | cons n ns ih =>
  cases xs with
  | nil=>simp at h
  | cons x xs =>
   obtain⟨v,cQ,A1,A2,rfl,rfl,h1,h2⟩:=R.dh r
   obtain⟨rfl,rfl⟩:=EC.mp e.symm
   rw[YZ]at h ⊢
   by_cases z:f=n
   ·subst z
    rw[gD,beq_self_eq_true]at h
    cases h
    refine⟨v,?_,h1⟩
    rw[gD,beq_self_eq_true]
   ·have z':(f==n)=false:=beq_eq_false_iff_ne.mpr z
    rw[gD,z']at h
    obtain⟨w,e1,e2⟩:=ih h [] rfl h2
    refine⟨w,?_,e2⟩
    rw[gD,z']
    exact e1
theorem S1{ns:List Str}{ws:List V}{f:Str}(h:f ∉ ns):(ns.zip ws).lookup f=none:=by
 induction ns generalizing ws with
 | nil=>simp
 | cons n ns ih =>
  cases ws with
  | nil=>simp
  | cons w ws =>
   rw[YZ,gD]
   have hn:(f==n)=false:=beq_eq_false_iff_ne.mpr λz=>h (by rw[z];simp)
   simp only[hn]
   exact ih λz=>h (by simp[z])
theorem G9{F H:Hp}{C:Addr}{ns:List Str}{xs:List D}{v:V}(s:S F H [.obj C ns xs] [v]):∃p dx ws,v=.ref p/\H p=some (.ins C dx (ns.zip ws))/\ns.length=ws.length/\R F H xs ws []:=by
 cases s with
 | obj h l r _=>exact⟨_,_,_,rfl,h,l,r⟩
section
variable{X:Cx}{e o:Expr}{es:List Expr}{f m x:Str}{pos p apos:Pos}{t to:aN}{ta:cY}{n:Nat}
noncomputable def ow(K:PySem.W.Frag)(t:aN)(f:Str):aN:=λδ Q=>t δ λd ah=>∃C ns xs v,d=.obj C ns xs/\eN K C/\cP K C f/\(ns.zip xs).lookup f=some v/\Q v ah
theorem cH6(he:PE X e (lB t))(hb:attributeBase e f X.env (eval e X.env)=eval e X.env:=by rfl):PE X (.Attribute e f pos) (lB (ow X.K t f)) :=
 dn (Bt he hb) λσ H Q ⟨B,F,δ,ts,Qd,c,q,k⟩=>⟨B,F,δ,ts,_,c,q,λd ah v F' H' ⟨C,ns,xs,w,ed,hc,hn,hl,hq⟩ f1 h1 c1 s1=>by
  subst ed
  obtain⟨p,dx,ws,rfl,hp,_,r⟩:=G9 s1
  obtain⟨u,hu,ru⟩:=bQ1 r hl
  exact⟨p,C,dx,_,u,rfl,hp,hc,hn,hu,k w ah u F' H' hq f1 h1 c1 ru.s⟩⟩
structure uu(P:Program)(w:World)(K:PySem.W.Frag)(mg:Str->Option Value)(base:Heap)(n:Nat)(m:Str)(C:Addr)(sp:bx):Prop where
 cls:eN K C
 ex:∃f fd ps,Meth K C m f/\aP P w K mg base aZ n f fd ps (bA sp)/\Binds K fd ps []
noncomputable def oy(MO:Addr->bx->Prop)(m:Str)(to:aN)(ta:cY):aN:=λδ Q=>to δ λd aj=>∃C ns xs sp,d=.obj C ns xs/\MO C sp/\m ∉ ns/\ta aj λds aQ=>sp ((D.obj C ns xs::ds).map D.sh) λr=>((D.obj C ns xs::ds).all D.pl||r.fr)=true/\Q r aQ
theorem cA1{pl:Sem Bool}(ho:PE X o (lB to))(hr:cm n X.A)(ha:PA X (e::es) (lA ta))
  (dm:starEach (e::es) X.env=(false,eval e X.env)::starEach es X.env:=by rfl) (bU:(backTo pos (starEach es X.env)).any (·.1)=false:=by rfl)
  (ht:eval (.Call (.Attribute o m apos) (e::es) [] pos) X.env=(do
   let ov<-eval o X.env
   standAt apos.atName
   let (f,first)<-holding [ov] (getMethod ov m pl)
   callWith pos f first (backTo pos (starEach (e::es) X.env)) (backToKw pos (keywordEach [] X.env))):=by rfl) :
  PE X (.Call (.Attribute o m apos) (e::es) [] pos) (lE (oy (uu X.prog X.w X.K X.mg X.base n m) m to ta)):=by
 intro pins s σ H Q I zz
 obtain⟨B,F,δ,ts,Qd,c,q,k⟩:=zz
 refine PySem.W.methodCall_KW (pl:=pl) (aO (ho pins s σ H (λx H1=>∃d aj F1,S F1 H1 [d] [x]/\ao B F1 H1 σ aj ts/\af F F1/\af H H1/\∃C ns xs sp,d=.obj C ns xs/\uu X.prog X.w X.K X.mg X.base n m C sp/\m ∉ ns/\ta aj λds aQ=>sp ((D.obj C ns xs::ds).map D.sh) λr=>((D.obj C ns xs::ds).all D.pl||r.fr)=true/\Qd r aQ) I
  ⟨B,F,δ,ts,_,c,q,λd aj v F1 H1 hq f1 h1 c1 s1=>⟨d,aj,F1,s1,c1,f1,h1,hq⟩⟩) λu s1 ⟨x,H1,I1,rx,d,aj,F1,sd,c1,f1,h1,C,ns,xs,sp,ed,M,hm,hq⟩=>?_) ht
 subst ed
 obtain⟨a,dx,ws,rfl,ea,hl,r0⟩:=G9 sd
 obtain rfl:u=fC a:=rx
 obtain⟨f,fd,ps,zJ,FO,hb⟩:=M.ex
 refine Fs I1 ea M.cls zJ (S1 hm) ?_
 refine PySem.W.callWith_K (first:=[.ref a]) (h₀:=X.base) I.ok.mod.m4 zJ.kp (aO (ha pos pins s1 σ H1 (λvs H2=>∃ds aQ F2,S F2 H2 ds vs/\ao B F2 H2 σ aQ ts/\af F1 F2/\af H1 H2/\sp ((D.obj C ns xs::ds).map D.sh) λr=>((D.obj C ns xs::ds).all D.pl||r.fr)=true/\Qd r aQ) I1
  ⟨B,F1,aj,ts,_,c1,hq,λds aQ vs F2 H2 hq f2 h2 c2 s2=>⟨ds,aQ,F2,s2,c2,f2,h2,hq⟩⟩) λus s2 ⟨vs,H2,I2,r,ds,aQ,F2,Ha,c2,f2,h2,ji⟩=>⟨I2.dj,?_⟩) dm bU
 refine Bu (us:=.ref a::us) (vs:=.ref a::vs) (fI:=[]) FO hr hb .nil aW I2 (.cons rfl r) ?_
 rw[iC]
 exact BJ c2 (.obj (h2 _ _ ea) hl (r0.shared f2 h2) Ha) ji λd v F' H' hd hf hs c'=>k d aQ v F' H' hd (f1.trans (f2.trans hf)) (h1.trans (h2.trans hs)) c'
end
structure dU(x:Addr)(H H':Hp):Prop where
 get:∀b o,b≠x->H b=some o->jm o=true->H' b=some o
 tb:∀b ps,H b=some (.dw ps)->∃more,H' b=some (.dw (ps++more))
theorem dU.trans{x:Addr}{H H1 H2:Hp}(a:dU x H H1)(b:dU x H1 H2):dU x H H2 :=
 ⟨λc o n h t=>b.get c o n (a.get c o n h t) t,λc ps h=>by
  obtain⟨m1,e1⟩:=a.tb c ps h
  obtain⟨m2,e2⟩:=b.tb c _ e1
  exact⟨m1++m2,by rw[e2,yf]⟩⟩
theorem af.x{x:Addr}{H H':Hp}(h:af H H'):dU x H H':=⟨λb o _ e n=>h.get b o e n,h.tb⟩
theorem dU.upd{x C dx:Addr}{H:Hp}{o o':HO}(h:H x=some o)(n:jm o=true):dU x H (upd H x o') :=
 ⟨λb o z e _=>by rw[bb z];exact e,λb ps e=>⟨#[],by rw[bb (λz=>by rw[z,h]at e;cases e;cases n),e];simp⟩⟩
noncomputable def Hb(tl:List Addr)(C:Addr)(vT:List D->List Str->List D->Prop):Sp:=λvs H Q _=>∃x dx cQ ds ns xs,vs=.ref x::cQ/\Tb tl H/\H x=some (.ins C dx [])/\R H H ds cQ []/\vT ds ns xs /\
 ∀H' ws A,dU x H H'->H' x=some (.ins C dx (ns.zip ws))->ns.length=ws.length->R (λ_=>none) H' xs ws A->A.Nodup->(∀a∈A,H a=none)->Q .au H'
noncomputable def rD(C:Addr)(vT:List D->List Str->List D->Prop)(ta:cY):aN:=λδ Q=>ta δ λds ah=>∃ns xs,vT (ds.map D.sh) ns xs/\Q (.obj C ns (xs.map D.sh)) ah
theorem ao.made{B:Bs}{F H H':Hp}{σ:L2.St}{δ:Dl}{ts:List (D × V)}{C dx x:Addr}{ns:List Str}{xs:List D}{ws:List V}{A:List Addr}(c:ao B F H σ δ ts)(hs:af H H')(hx:H' x=some (.ins C dx (ns.zip ws)))(hl:ns.length=ws.length)
  (r:R (λ_=>none) H' xs ws A) (fr:∀a∈A,H a=none):af F (L3.cq F H' A)/\ao B (L3.cq F H' A) H' σ δ ((.obj C ns (xs.map D.sh),.ref x)::ts):=by
 have c1:=c.grow hs
 have hF:∀a∈A,F a=none:=λa ha=>c.ext.free (fr a ha)
 have r1:R F H' xs ws A:=r.keep (af.of λb o e=>by cases e) (ij.same (af.refl _)) jn.nil hF (by simp)
 have r2:=r1.cq c1.ext A (λ_ h=>h)
 have fs:af F (L3.cq F H' A):=mi c1.ext
 obtain⟨A',C',r',s',nd,Cd⟩:=c.own
 have out:∀a,(∃ws,H a=some (.lst ws))/\F a=none->L3.cq F H' A a=none:=λa zz=>by
  obtain⟨⟨ws,h⟩,hf⟩:=zz
  rw[BE (λz=>by rw[fr a z]at h;cases h)];exact hf
 have g1:=r'.grow fs hs λa ha=>out a (r'.lists a ha)
 have g2:=s'.keep fs (ij.same hs) jn.nil (λa ha=>out a (s'.lists a ha)) (by simp)
 refine⟨fs,RC c1.ext,c1.b1,c1.b2.trans fs,λa ws h=>?_,A',C',?_,g2,nd,Cd⟩
 ·by_cases z:a∈A
  ·exact .inr (c.b1.free (fr a z))
  ·rw[BE z]at h;exact c.b3 a ws h
 ·exact R.obj hx hl r2 g1
section
variable{X:Cx}{CX:e7}{n:Nat}{f C:Addr}{fd:FuncData}{ps:List Str}{vT:List D->List Str->List D->Prop}{E:XK}{x:Str}{p pos:Pos}{e:Expr}{es:List Expr}{t:cY}{tl:List Addr}
theorem S2(hT:Tb tl X.kB)(M:Mk X.K C f)(F:aP X.prog X.w X.K X.mg X.base CX n f fd ps (Hb tl C vT))(hr:cm (n+1) X.A)(hg:Gl X x)(hm:X.mg x=some (.ref C))(hb:Binds X.K fd ps [])(hx:lY CX X E)
  (ha:PA X (e::es) (lA t)) (e8:(x==("__debug__":Str))=false:=by decide) (he:starEach (e::es) X.env=(false,eval e X.env)::starEach es X.env:=by rfl) (bU:(backTo pos (starEach es X.env)).any (·.1)=false:=by rfl) :
  PE X (.Call (.Name x p) (e::es) [] pos) (lE (rD C vT t)):=by
 intro pins s σ H Q I zz
 obtain⟨B,F',δ,ts,Qd,c,q,k⟩:=zz
 have tb:=Sv I hT
 refine cw4 M F hr hg hm hb .nil hx ha e8 he bU pins s σ H Q I ⟨B,F',δ,ts,_,c,q,λds aj vs F1 H1 q1 f1 h1 c1 s1=>?_⟩
 intro x dx fL iU tD
 obtain⟨ns,xs,hI,hq⟩:=q1
 have sm:af H1 (upd (upd H1 dx (.own x)) x (.ins C dx [])):=.of λb o e=>by rw[bb (fq e fL),bb (fq e iU)];exact e
 refine⟨x,dx,vs,ds.map D.sh,ns,xs,by rw[iC],G8 (G8 tb h1) sm,cB,(s1.frozen c1.ext).shared sm sm,hI,λH' ws A S3 ff hl r nd fr=>⟨rfl,?_⟩⟩
 have s2:af H1 H':=⟨λb o e n=>S3.get b o (fq e fL) (sm.get b o e n) n,λb ps e=>by
  obtain⟨m1,e1⟩:=sm.tb b ps e
  obtain⟨m2,e2⟩:=S3.tb b _ e1
  exact⟨m1++m2,by rw[e2,yf]⟩⟩
 obtain⟨fs,c2⟩:=c1.made s2 ff hl r λa ha=>sm.free (fr a ha)
 exact k _ aj _ _ H' hq (f1.trans fs) (h1.trans s2) c2
end
end L3
namespace Mf
open PySem L2 L3
noncomputable def gm(m:Bool × Nat)(a b:Nat):Nat:=if m.1 then md (cl a b) m.2 else a*b%m.2
noncomputable def ae(m:Bool × Nat):Nat:=if m.1 then 2 ^ (bl m.2-1)else m.2
noncomputable def Ce(g:Nat->Nat->Nat)(a:Nat):Nat->Nat->List Int->Option (List Int)
 | 0,_,_=>none
 | f+1,p,acc=>if p=1 then some acc else if p<64 then Ce g a f (g p a) (acc++[(p:Int)])else none
noncomputable def Hc(g:Nat->Nat->Nat)(a:Nat):Option (List Int):=Ce g a 64 (g 1 a) [1]
noncomputable def Cf(g:Nat->Nat->Nat)(many:Nat):Nat->Nat->List Int->Option (List Int)
 | 0,_,_=>none
 | f+1,st,l=>if l.length+1<many then(match Hc g (st+1)with | some l'=>Cf g many f (st+1) l' | none=>none)else some l
noncomputable def zK(g:Nat->Nat->Nat)(many:Nat):Option (List Int):=match Hc g 1 with | some l=>Cf g many 62 1 l | none=>none
noncomputable def zL(g:Nat->Nat->Nat):vS:=λi j Q=>∃a b:Nat,i=a/\j=b/\a<64/\b<64/\Q (g a b:Nat)
noncomputable def g9:List Nat:=[7,11,13,19,25,31,37,41,47,55,59,61,67,73,87,91,97,103,109,115,117]
noncomputable def oA:List Nat:=[2,3,5,7,11,13,17,19,23,29,31,37,41,43,47,53,59,61]
noncomputable def aC:List (Bool × Nat):=g9.map (λn=>(true,n))++oA.map λn=>(false,n)
noncomputable def oB(l:List Int):Nat->List Int
 | 0=>br (l.length+1) 0
 | i+1=>(oB l i).set (l.getD i 0).toNat (i:Int)
noncomputable def eG(l:List Int):List Int:=oB l l.length
theorem zM(l:List Int):∀i,(oB l i).length=l.length+1
 | 0=>by simp[oB]
 | i+1=>by simp[oB,zM l i]
noncomputable def rE(l g:List Int)(a:Nat):List Int:=if a=0 then br (l.length+1) 0 else 0::(aM l.length).map λ(b:Nat)=>l.getD ((g.getD a 0+g.getD (b+1) 0)%(l.length:Int)).toNat 0
noncomputable def vU(l g:List Int)(n:Nat):List D:=(aM n).map λa=>D.lst true (aJ (rE l g a))
noncomputable def rF(l g:List Int):List D:=vU l g (l.length+1)
end Mf
namespace L3
open PySem L2 Mf
noncomputable def LI(H:Hp)(p:Addr)(ns:List Int):Prop:=H p=some (.lst (ns.map V.int))
theorem LI.same{H H':Hp}{p:Addr}{ns:List Int}(h:LI H p ns)(s:af H H'):LI H' p ns:=s.get _ _ h
theorem LI.upd{H:Hp}{p x:Addr}{ns:List Int}{o o':HO}(h:LI H p ns)(hx:H x=some o)(n:∀ws,o≠.lst ws):LI (upd H x o') p ns:=by
 unfold LI
 rw[bb (λz=>by rw[z]at h;unfold LI at h;rw[hx]at h;cases h;exact n _ rfl)];exact h
theorem S4{F' H' H:Hp}{v:V}{A:List Addr}{ns:List Int}(r:R F' H' [.lst true (aJ ns)] [v] A)(fr:∀a∈A,H a=none):∃p,v=.ref p/\LI H' p ns/\H p=none:=by
 cases r with
 | @own p ws xs A1 _ _ B1 hp hf r1 r2 =>
  have:=Se r1.s
  subst this
  exact⟨p,rfl,hp,fr p (by simp)⟩
structure dm1(K:PySem.W.Frag)(C f:Addr):Prop where
 cls:eN K C
 many:cP K C "many"
 wide:cP K C "wide"
 He:cP K C "powers"
 dm2:cP K C "logs"
 step:cP K C "step"
 sp:Meth K C "step_power" f
structure S5(g:Nat->Nat->Nat)(many:Nat)(l:List Int)(st:Int):Prop where
 lo:2<=many
 hi:many<=64
 step:zK g many=some l
 len:l.length+1=many
 ins:∀x∈l,0<=x/\x.toNat<=l.length
 st:l[((1:Int)%((many:Int)-1)).toNat]?=some st
noncomputable def iu(b:Str):List Str:=[b,"many","wide","powers","logs","step"]
noncomputable def Cg(n0:Int)(many:Nat)(p1 p2:Addr)(st:Int):List V:=[.int n0,.int many,.int ((bl many:Nat)-1),.ref p1,.ref p2,.int st]
theorem vV{f:Str}{v:V}:∀{fs:List (Str × V)},(∀p∈fs,p.1≠f)->fP f v fs=fs++[(f,v)]
 | [],_=>rfl
 | (g,x)::r,h=>by
  unfold fP
  rw[if_neg (h (g,x) (by simp)),vV λp hp=>h p (by simp[hp])];rfl
theorem iL.zN{H:Hp}{x C dx f c k:Addr}{fs:List (Str × V)}{o':HO}{of oc:Obj}(h:iL H f of oc c k)(hx:H x=some (.ins C dx fs)):iL (L2.upd H x o') f of oc c k:=by
 obtain⟨ψ,e,zF⟩:=h.Ge
 exact⟨by rw[bb (λz=>by rw[<-z,h.fn]at hx;cases hx)];exact h.fn,by rw[bb (λz=>by rw[<-z,h.cell]at hx;cases hx)];exact h.cell,ψ,by rw[bb (λz=>by rw[<-z,e]at hx;cases hx)];exact e,zF⟩
theorem iL.same{H H':Hp}{f c k:Addr}{of oc:Obj}(h:iL H f of oc c k)(s:af H H'):iL H' f of oc c k:=p9.mono (z:=.lam of oc c k) h λa o e _ t=>s.get a o e t
theorem zO{H:Hp}{x p:Addr}{o o':HO}(hx:H x=some o)(h:L2.upd H x o' p=none):H p=none:=by
 by_cases z:p=x
 ·subst z;rw[cB]at h;cases h
 ·rw[bb z]at h;exact h
theorem Ci{α:Type}{b f:Str}{v:α}{r:List (Str × α)}(h:b≠f):((b,v)::r).lookup f=r.lookup f:=by
 rw[gD,beq_eq_false_iff_ne.mpr (eK h)]
section
variable{H2 H3 H':Hp}{x f c p:Addr}{o1 o2:HO}
theorem zP{b:Addr}{o:HO}(e:H3 b=some o)(nb:b≠f)(nc:H3 c=none):L2.upd (L2.upd H3 f o1) c o2 b=some o:=by
 rw[bb (fq e nc),bb nb];exact e
theorem S6(hs:af H2 H3)(nf:H2 f=none)(nc:H3 c=none)(s:dU x (L2.upd (L2.upd H3 f o1) c o2) H'):dU x H2 (rem H' f c) where
 get b o n e t:=by
  have z1:=fq e nf
  have e3:=hs.get b o e t
  rw[ir z1 (fq e3 nc)]
  exact s.get b o n (zP e3 z1 nc) t
 tb b ps e:=by
  have z1:=fq e nf
  obtain⟨m,e3⟩:=hs.tb b ps e
  obtain⟨m2,e4⟩:=s.tb b _ (zP e3 z1 nc)
  exact⟨m++m2,by rw[ir z1 (fq e3 nc),e4,yf]⟩
theorem Cj(hs:af H2 H3)(h:L2.upd (L2.upd H3 f o1) c o2 p=none):H2 p=none:=by
 refine hs.free ?_
 by_cases z:p=c
 ·subst z;rw[cB]at h;cases h
 ·rw[bb z]at h
  by_cases z2:p=f
  ·subst z2;rw[cB]at h;cases h
  ·rw[bb z2]at h;exact h
theorem LI.rem{l:List Int}{φ:Heap->Prop}{y:Addr}(h:LI H' p l)(hf:H' f=some (.ext φ))(hc:H' c=some (.own y)):LI (rem H' f c) p l:=by
 unfold LI at h ⊢
 rw[ir (λz=>by rw[z,hf]at h;cases h) (λz=>by rw[z,hc]at h;cases h)];exact h
theorem S7{of oc:Obj}{k:Addr}(tD:c≠f)(nc:H3 c=none)(hk:Gd H3 k)(kf:k≠f):iL (L2.upd (L2.upd H3 f (.ext (jH of oc c f))) c (.own f)) f of oc c k:=by
 obtain⟨ψ,e,zF⟩:=hk
 exact⟨by rw[bb tD.symm,cB],cB,ψ,zP e kf nc,zF⟩
end
noncomputable def fl(m:Bool × Nat):List Int:=(zK (gm m) (ae m)).getD []
noncomputable def fst(m:Bool × Nat):Int:=(fl m).getD ((1:Int)%((ae m:Int)-1)).toNat 0
noncomputable def S8(m:Bool × Nat):Bool:=decide (2<=ae m)&&decide (ae m<=64)&&(zK (gm m) (ae m)).isSome&&decide ((fl m).length+1=ae m)&&(fl m).all (λx=>decide (0<=x)&&decide (x.toNat<=(fl m).length))&&decide (((1:Int)%((ae m:Int)-1)).toNat<(fl m).length)
theorem cq3:aC.all S8=true:=by decide +kernel
theorem da{m:Bool × Nat}(h:m∈aC):S5 (gm m) (ae m) (fl m) (fst m):=by
 have h:=du.mp cq3 m h
 simp only[S8,eD,decide_eq_true_eq,du]at h
 obtain⟨⟨⟨⟨⟨h1,h2⟩,h3⟩,h4⟩,h5⟩,h6⟩:=h
 obtain⟨l,e⟩:=YL.mp h3
 have el:fl m=l:=by unfold fl;rw[e];rfl
 refine⟨h1,h2,by rw[e,el],h4,λx hx=>h5 x hx,?_⟩
 unfold fst
 rw[aK,aL h6];rfl
theorem ce0:∀p∈oA,(decide (2<=(p:Int))&&decide ((p:Int)<=61)&&(aM ((p:Int).toNat-2)).all λi=>(p:Int)%(2+(i:Int)) != 0)=true:=by decide +kernel
theorem cp7:∀p∈g9,(decide (4<=(p:Int))&&decide ((p:Int)<=127)&&al (p:Int).toNat)=true:=by decide +kernel
theorem R.zN{F H:Hp}{x C dx:Addr}{fs:List (Str × V)}{o':HO}{ds:List D}{vs:List V}{A:List Addr}(r:R F H ds vs A)(hx:H x=some (.ins C dx fs))(hd:ds.all D.fr=true):R F (L2.upd H x o') ds vs A:=by
 have up:∀{a o},H a=some o->(∀C dx fs,o≠.ins C dx fs)->L2.upd H x o' a=some o:=λ{a o} e n=>by
  rw[bb (λz=>by rw[z,hx]at e;cases e;exact n _ _ _ rfl)];exact e
 induction r with
 | nil=>exact .nil
 | au _ ih=>exact .au (ih (by simpa[D.fr]using hd))
 | bl _ ih=>exact .bl (ih (by simpa[D.fr]using hd))
 | int _ ih=>exact .int (ih (by simpa[D.fr]using hd))
 | str _ ih=>exact .str (ih (by simpa[D.fr]using hd))
 | shr h x _ i1 ih=>simp[fg]at hd
 | own h f _ _ i1 i2 =>
  rw[dM,fg,eD,mW]at hd
  exact .own (up h λ_ _ _ z=>by cases z) f (i1 hd.1) (i2 hd.2)
 | tup h _ _ i1 i2 =>
  rw[dM,nE,eD]at hd
  exact .tup (up h λ_ _ _ z=>by cases z) (i1 hd.1) (i2 hd.2)
 | obj h l x _ i1 ih=>simp[D.fr]at hd
 | fz h x _ i1 ih=>simp[D.fr]at hd
 | @bE p z _ _ _ h r ih =>
  refine .bE ?_ (ih (by simpa[D.fr]using hd))
  cases z with
  | ext φ=>exact up h λ_ _ _ z=>by cases z
  | lam of oc c k=>exact iL.zN h hx
theorem S9(l g:List Int):(rF l g).all D.fr=true:=by
 unfold rF vU
 rw[mX,du]
 intro a _
 show(D.lst true (aJ _)).fr=true
 rw[fg,oj];rfl
theorem dU.free{x a:Addr}{H H':Hp}(s:dU x H H')(hx:H' x≠none)(h:H' a=none):H a=none:=by
 cases q:H a with
 | none=>rfl
 | some o =>
  by_cases z:a=x
  ·subst z;exact absurd h hx
  ·cases n:jm o with
   | true=>rw[s.get a o z q n]at h;cases h
   | false =>
    obtain⟨ps,rfl⟩:=Gb n
    obtain⟨m,e⟩:=s.tb a ps q
    rw[e]at h;cases h
theorem Ta(l:List Int):∀i,∀x∈oB l i,0<=x
 | 0=>λx hx=>by rw[(EE.mp hx).2];exact Int.le_refl _
 | i+1=>λx hx=>by
  unfold oB at hx
  rcases u3 hx with h | h
  ·exact Ta l i x h
  ·rw[h];exact Ph _
theorem Tc:∀p∈g9,bl p<=7:=by decide +kernel
theorem Td:∀p∈g9,1<=bl p:=by decide +kernel
theorem b72(a b:Nat):bl (cl a b)<=bl a+bl b:=by
 by_cases ha:a=0
 ·subst ha;rw[p7];exact jX _
 ·by_cases hb:b=0
  ·subst hb
   have:cl a 0=0:=rfl
   rw[this];exact jX _
  ·rw[Q4 ha hb];omega
noncomputable def vW(l g:List Int):List D:=(aM (l.length+1)).map λa=>D.lst false (aJ (rE l g a))
theorem b83(l g:List Int):(D.lst true (rF l g)).sh=.lst false (vW l g):=by
 rw[dO]
 unfold rF vU vW
 rw[cH]
 congr 1
 apply uZ
 intro a _
 show D.sh (.lst true (aJ _))=_
 rw[dO,jr]
noncomputable abbrev pD(m:Bool × Nat):List D:=[.int m.2,.int (ae m),.int ((bl (ae m):Nat)-1),.lst false (aJ (fl m)),.lst false (aJ (eG (fl m))),.int (fst m)]
noncomputable def vX(C:Addr)(p:Nat):D:=.obj C (iu "prime") (pD (false,p))
noncomputable def zQ(C:Addr)(p:Nat):D:=.obj C (iu "bits"++[("products":Str)]) (pD (true,p)++[.lst false (vW (fl (true,p)) (eG (fl (true,p))))])
noncomputable def fD(cb cp:Addr)(m:Bool × Nat):D:=if m.1 then zQ cb m.2 else vX cp m.2
end L3
namespace L3
open PySem L2 Mf
theorem zR{u p:Nat}(h:bl u<bl p):md u p=u:=yY (q:=0) (by rw[p7,pk]) h
theorem bR9{u v n:Nat}(hu:bl u<n)(hv:bl v<n):bl (u ^^^ v)<n:=by
 have h1:u<2 ^ (n-1):=eO.mp (by omega)
 have h2:v<2 ^ (n-1):=eO.mp (by omega)
 have:=eO.mpr (vx h1 h2)
 omega
theorem Ck{p:Nat}(hp:p≠0)(u v:Nat):md (u ^^^ v) p=md u p ^^^ md v p:=by
 obtain⟨⟨q1,e1⟩,l1⟩:=yX hp u
 obtain⟨⟨q2,e2⟩,l2⟩:=yX hp v
 refine yY (q:=q1 ^^^ q2) ?_ (bR9 l1 l2)
 rw[pZ,<- QU,<- e1,<- e2]
theorem Te{p:Nat}(hp:p≠0)(w:Nat):md (cl p w) p=0:=by rw[yW];exact cK1 w hp
theorem cg:∀m∈aC,0<m.2:=by decide +kernel
theorem gz(m:Bool × Nat)(a b:Nat):gm m a b=gm m b a:=by
 unfold gm
 split
 ·rw[yW]
 ·rw[mT]
theorem Tf{n:Nat}(hn:n≠0)(u c:Nat):md (cl (md u n) c) n=md (cl u c) n:=by
 obtain⟨⟨q,e⟩,_⟩:=yX hn u
 have h:cl u c=cl n (cl q c) ^^^ cl (md u n) c:=by
  conv=>lhs;rw[e]
  rw[pZ,yW n q,Q9]
 rw[h,Ck hn,Te hn,pk]
theorem ju{m:Bool × Nat}(h:0<m.2)(a b c:Nat):gm m (gm m a b) c=gm m a (gm m b c):=by
 unfold gm
 split
 ·rw[Tf (by omega),yW (md (cl b c) m.2) a,Tf (by omega),Q9 a b c,yW (cl b c) a]
 ·rw[yq,PF,<- yq,yq a (b*c%m.2),PF,<- yq,uX]
theorem Tg{m:Bool × Nat}(h:m.1=true){a:Nat}:a<ae m↔bl a<=bl m.2-1:=by
 unfold ae
 rw[if_pos h];exact eO.symm
theorem kU{m:Bool × Nat}{a:Nat}(ha:a<ae m):gm m 1 a=a:=by
 obtain⟨k,n⟩:=m
 cases k with
 | true =>
  show md (cl 1 a) n=a
  rw[FI]
  have h1:=(Tg (m:=(true,n)) rfl).mp ha
  have h1:bl a<=bl n-1:=h1
  by_cases z:bl n=0
  ·have a0:a=0:=by
    have:=eO (n:=a) (m:=0)
    have:=this.mp (by omega)
    omega
   subst a0
   have n0:n=0:=by
    have:=(eO (n:=n) (m:=0)).mp (by omega)
    omega
   subst n0
   decide
  ·exact zR (by omega)
 | false=>show 1*a%n=a;rw[Nat.one_mul];exact AZ ha
theorem oE{m:Bool × Nat}{a:Nat}(ha:a<ae m):gm m a 1=a:=by rw[gz];exact kU ha
noncomputable def lg(m:Bool × Nat)(a:Nat):Int:=(eG (fl m)).getD a 0
noncomputable def pw(m:Bool × Nat)(k:Nat):Int:=(fl m).getD k 0
noncomputable def Hf(m:Bool × Nat):Bool:=((aM (ae m-1)).all λk=>decide (1<=pw m k)&&decide (pw m k<ae m)&&decide (lg m (pw m k).toNat=k))&&((aM (ae m-1)).all λa=>decide (0<=lg m (a+1))&&decide (lg m (a+1)<(ae m:Int)-1)&&decide (pw m (lg m (a+1)).toNat=((a+1:Nat):Int)))
theorem Th:aC.all Hf=true:=by decide +kernel
theorem Cm{m:Bool × Nat}(hm:m∈aC){k:Nat}(hk:k<ae m-1):1<=pw m k/\pw m k<ae m/\lg m (pw m k).toNat=k:=by
 have h:=du.mp Th m hm
 simp only[Hf,eD,du,decide_eq_true_eq,cV]at h
 have:=h.1 k hk
 exact⟨this.1.1,this.1.2,this.2⟩
theorem Cn{m:Bool × Nat}(hm:m∈aC){a:Nat}(h1:1<=a)(h2:a<ae m):0<=lg m a/\lg m a<(ae m:Int)-1/\pw m (lg m a).toNat=a:=by
 have h:=du.mp Th m hm
 simp only[Hf,eD,du,decide_eq_true_eq,cV]at h
 have:=h.2 (a-1) (by omega)
 rw[show a-1+1=a by omega]at this
 exact⟨this.1.1,this.1.2,this.2⟩
theorem fh(m:Bool × Nat)(b:Nat)(h:0<m.2):gm m 0 b=0:=by
 unfold gm
 split
 ·rw[p7];exact zR (by rw[nq];exact ib (by omega))
 ·rw[Nat.zero_mul,Nat.zero_mod]
theorem iV(m:Bool × Nat)(b:Nat)(h:0<m.2):gm m b 0=0:=by rw[gz];exact fh m b h
noncomputable def stC(m:Bool × Nat):Bool:=decide (pw m 0=1)&&(aM (ae m-1)).all λk=>decide (gm m (pw m k).toNat (pw m (1%(ae m-1))).toNat=(pw m ((k+1)%(ae m-1))).toNat)
theorem Ti:aC.all stC=true:=by decide +kernel
theorem cq4(m:Bool × Nat)(hm:m∈aC):pw m 0=1:=by
 have h:=du.mp Ti m hm
 simp only[stC,eD,decide_eq_true_eq]at h
 exact h.1
noncomputable def pN(m:Bool × Nat)(k:Nat):Nat:=(pw m (k%(ae m-1))).toNat
theorem cJ7{m:Bool × Nat}(hm:m∈aC)(k:Nat):pN m k<ae m:=by
 have dN:=(da hm).lo
 have:=Cm hm (yr k (show 0<ae m-1 by omega))
 unfold pN
 omega
theorem Tj{m:Bool × Nat}(hm:m∈aC)(k:Nat):gm m (pN m k) (pN m 1)=pN m (k+1):=by
 have dN:=(da hm).lo
 have h:=du.mp Ti m hm
 simp only[stC,eD,decide_eq_true_eq,du,cV]at h
 have h2:=h.2 (k%(ae m-1)) (yr k (by omega))
 rw[EM]at h2
 exact h2
theorem Tn{m:Bool × Nat}(hm:m∈aC)(i:Nat):∀j,gm m (pN m i) (pN m j)=pN m (i+j)
 | 0=>by
  have e:pN m 0=1:=by unfold pN;rw[Nat.zero_mod,cq4 m hm];rfl
  rw[e,oE (cJ7 hm i)];rfl
 | j+1=>by rw[<-Tj hm j,<- ju (cg m hm),Tn hm i j,Tj hm];rfl
theorem Hg{m:Bool × Nat}(hm:m∈aC){a b:Nat}(a1:1<=a)(a2:a<ae m)(b1:1<=b)(b2:b<ae m):((gm m a b:Nat):Int)=pw m ((lg m a+lg m b)%((ae m:Int)-1)).toNat:=by
 have dN:=(da hm).lo
 obtain⟨g0,g1,g2⟩:=Cn hm a1 a2
 obtain⟨f0,f1,f2⟩:=Cn hm b1 b2
 have ea:pN m (lg m a).toNat=a:=by unfold pN;rw[AZ (by omega),g2];rfl
 have eb:pN m (lg m b).toNat=b:=by unfold pN;rw[AZ (by omega),f2];rfl
 have e:=Tn hm (lg m a).toNat (lg m b).toNat
 rw[ea,eb]at e
 rw[e]
 have ei:((lg m a+lg m b)%((ae m:Int)-1)).toNat=((lg m a).toNat+(lg m b).toNat)%(ae m-1):=by
  have:(((lg m a).toNat+(lg m b).toNat)%(ae m-1):Nat)=((lg m a+lg m b)%((ae m:Int)-1)):=by
   rw[sI,PH,A6 g0,A6 f0,Int.natCast_sub (by omega)];rfl
  omega
 rw[ei]
 have:=Cm hm (yr ((lg m a).toNat+(lg m b).toNat) (show 0<ae m-1 by omega))
 unfold pN
 omega
theorem cq5{p a:Nat}(hp:p∈g9)(ha:a<ae (true,p)):rE (fl (true,p)) (eG (fl (true,p))) a=(aM (ae (true,p))).map λb=>((gm (true,p) a b:Nat):Int):=by
 have hm:(true,p)∈aC:=fW _ (EN hp)
 have h0:=cg _ hm
 have hF:=da hm
 have hlen:=hF.len
 unfold rE
 split
 ·rename_i h
  subst h
  rw[hlen]
  refine EO (by simp) λi h1 h2=>?_
  simp[fh _ _ h0]
 ·rename_i h
  rw[<-hlen,YX,dB,cH,iV _ _ h0]
  congr 1
  apply uZ
  intro b hb
  have hb:=cV.mp hb
  show(fl (true,p)).getD (((eG (fl (true,p))).getD a 0+(eG (fl (true,p))).getD (b+1) 0)%((fl (true,p)).length:Int)).toNat 0=((gm (true,p) a (b+1):Nat):Int)
  rw[Hg hm (by omega) ha (by omega) (by omega),show(((fl (true,p)).length:Nat):Int)=(ae (true,p):Int)-1 by omega]
  rfl
theorem Hh{p a b:Nat}(hp:p∈g9)(ha:a<ae (true,p))(hb:b<ae (true,p)):eo (aJ (rE (fl (true,p)) (eG (fl (true,p))) a)) (b:Int)=some (.int (gm (true,p) a b:Nat)):=by
 refine pV (by omega) ?_
 rw[cq5 hp ha]
 unfold aJ
 rw[dQ,bZ,bZ,gU hb];rfl
theorem Hi{p a:Nat}(hp:p∈g9)(ha:a<ae (true,p)):eo (vW (fl (true,p)) (eG (fl (true,p)))) (a:Int)=some (.lst false (aJ (rE (fl (true,p)) (eG (fl (true,p))) a))):=by
 have hF:=da (m:=(true,p)) (fW _ (EN hp))
 refine pV (by omega) ?_
 unfold vW
 rw[dQ,bZ,gU (by rw[hF.len];exact ha)];rfl
end L3
namespace L3
open PySem L2 Mf
theorem cz2(C:Addr)(p:Nat):D.obj C (iu "bits"++[("products":Str)]) (EI D.sh [.int p,.int (ae (true,p)),.int ((bl (ae (true,p)):Nat)-1),.lst true (aJ (fl (true,p))),.lst true (aJ (eG (fl (true,p)))),.int (fst (true,p)),.lst true (rF (fl (true,p)) (eG (fl (true,p))))])=zQ C p:=by
 simp only[dB,jY]
 rw[b83]
 simp only[dO,kS,jr];rfl
theorem cb5(C:Addr)(p:Nat):D.obj C (iu "prime") (EI D.sh [.int p,.int p,.int ((bl p:Nat)-1),.lst true (aJ (fl (false,p))),.lst true (aJ (eG (fl (false,p)))),.int (fst (false,p))])=vX C p:=by
 simp only[dB,jY,dO,kS,jr];rfl
theorem zS{n:Nat}(h:(true,n)∈aC):n∈g9:=by
 rcases cJ.mp h with h | h
 ·obtain⟨x,hx,e⟩:=bO.mp h
  cases e;exact hx
 ·obtain⟨x,hx,e⟩:=bO.mp h
  cases e
theorem bI2{n:Nat}(h:(false,n)∈aC):n∈oA:=by
 rcases cJ.mp h with h | h
 ·obtain⟨x,hx,e⟩:=bO.mp h
  cases e
 ·obtain⟨x,hx,e⟩:=bO.mp h
  cases e;exact hx
open Classical in
theorem To{α:Type}{sh:Bool}{xs:List D}{aD:List (Str × Nat)}{n:Nat}{g0:iM}{te:aN}{aj:Dl}{Q:D->Dl->Prop}(l:List α)(e g:α->D)(js:xs.map D.sh=l.map e)(inj:∀a b,e a=e b->a=b)
  (hx:∀a∈l,g0 (e a) (fK aD n aj) λaQ=>te aQ λd _=>d=g a) (hg:∀d δ (P P':Dl->Prop),(∀ah,P ah->P' ah)->g0 d δ P->g0 d δ P') (eP:(sh&&aD.all (ik aj))=true\/∀a∈l,(g a).fr=true) (hl:l.length<=sizeLine) (hq:Q (.lst true (l.map g)) aj):vE sh xs aD n g0 ke te aj Q:=by
 let f:D->D:=λx=>if h:∃a∈l,e a=x then g h.choose else .au
 have hf:∀a∈l,f (e a)=g a:=λa ha=>by
  have h:∃b∈l,e b=e a:=⟨a,ha,rfl⟩
  show(if h:∃b∈l,e b=e a then g h.choose else .au)=g a
  rw[dif_pos h]
  exact congrArg g (inj _ _ h.choose_spec.2)
 refine⟨λ_=>true,f,λx h=>?_,eP.imp id λh x hx _=>?_,?_,?_⟩
 ·rw[js]at h
  obtain⟨a,ha,rfl⟩:=bO.mp h
  rw[hf a ha]
  exact hg _ _ _ _ (λah h=>⟨rfl,λ_=>h⟩) (hx a ha)
 ·rw[js]at hx
  obtain⟨a,ha,rfl⟩:=bO.mp hx
  rw[hf a ha];exact h a ha
 ·have:=congrArg AO js
  simp at this
  omega
 ·rw[js,YV.mpr (λ_ _=>rfl),cH,show l.map (f ∘ e)=l.map g from uZ λa ha=>hf a ha]
  exact hq
theorem Tp{i1 i2:Nat}(d:D)(δ:Dl)(P P':Dl->Prop)(h:∀ah,P ah->P' ah)(q:iT i1 i2 d δ P):iT i1 i2 d δ P':=by
 unfold iT at q ⊢
 split at q
 ·exact h _ q
 ·exact q
theorem bU8(xs ys:List Int):(dP (aJ xs) (aJ ys)).map D.sh=(xs.zip ys).map λz=>D.tup [.int z.1,.int z.2]:=by
 rw[GW,jr,jr]
 unfold dP aJ
 rw[EK,ER,EJ]
theorem cq9{p x y:Nat}(hp:p≠0)(hx:bl x<bl p):md (cl x y) p=(if y%2=1 then x else 0) ^^^ md (cl (if bl (2*x)=bl p then 2*x ^^^ p else 2*x) (y/2)) p:=by
 have e0:md (if y%2=1 then x else 0) p=(if y%2=1 then x else 0):=by
  split
  ·exact zR hx
  ·exact zR (by rw[nq];exact ib hp)
 rw[Q1,Ck hp,e0]
 congr 1
 split
 ·rw[pZ,Ck hp,Te hp,lL]
 ·rfl
theorem cw8{p x:Nat}(hp:p≠0)(hx:bl x<bl p):bl (if bl (2*x)=bl p then 2*x ^^^ p else 2*x)<bl p:=by
 have h2:=cC7 x
 have h0:=ib hp
 split
 ·rename_i h
  have n0:2*x≠0:=λz=>by rw[z,nq]at h;omega
  have a1:=jk (2*x)
  have a2:=jk p
  have b1:=vv n0
  have b2:=vv hp
  rw[h]at a1 b1
  obtain⟨k,hk⟩:∃k,bl p=k+1:=⟨bl p-1,by omega⟩
  rw[hk]at a1 a2 b1 b2 ⊢
  have:=eO.mpr (QS a1 a2 b1 b2)
  omega
 ·omega
end L3
namespace L3
open PySem L2 PySem.Spec PyProof.Rows
structure Co(P:Program)(w:World)(K:PySem.W.Frag)(mg:Str->Option Value)(base:Heap)(n:Nat)(m:Str)(C:Addr)(sp:q9):Prop where
 cls:eN K C
 ex:∃f fd ps,Meth K C m f/\aP P w K mg base (nD P w) n f fd ps (zx sp)/\Binds K fd ps []
section
variable{X:Cx}{e o:Expr}{es:List Expr}{f m x:Str}{pos p apos:Pos}{to:aN}{ta:cY}{n:Nat}
noncomputable def oF(MO:Addr->q9->Prop)(m:Str)(to:aN)(ta:cY):aN:=λδ Q=>to δ λd aj=>∃C ns xs sp,d=.obj C ns xs/\MO C sp/\m ∉ ns/\ta aj λds aQ=>sp ((D.obj C ns xs::ds).map D.sh) (λr=>((D.obj C ns xs::ds).all D.pl||r.fr)=true/\Q r aQ) λ_=>False
theorem cw5{pl:Sem Bool}(ho:PE X o (lB to))(hr:cm n X.A)(ha:PA X (e::es) (lA ta))
  (dm:starEach (e::es) X.env=(false,eval e X.env)::starEach es X.env:=by rfl) (bU:(backTo pos (starEach es X.env)).any (·.1)=false:=by rfl)
  (ht:eval (.Call (.Attribute o m apos) (e::es) [] pos) X.env=(do
   let ov<-eval o X.env
   standAt apos.atName
   let (f,first)<-holding [ov] (getMethod ov m pl)
   callWith pos f first (backTo pos (starEach (e::es) X.env)) (backToKw pos (keywordEach [] X.env))):=by rfl) :
  PE X (.Call (.Attribute o m apos) (e::es) [] pos) (lE (oF (Co X.prog X.w X.K X.mg X.base n m) m to ta)):=by
 intro pins s σ H Q I zz
 obtain⟨B,F,δ,ts,Qd,c,q,k⟩:=zz
 refine PySem.W.methodCall_KW (pl:=pl) (aO (ho pins s σ H (λx H1=>∃d aj F1,S F1 H1 [d] [x]/\ao B F1 H1 σ aj ts/\af F F1/\af H H1/\∃C ns xs sp,d=.obj C ns xs/\Co X.prog X.w X.K X.mg X.base n m C sp/\m ∉ ns/\ta aj λds aQ=>sp ((D.obj C ns xs::ds).map D.sh) (λr=>((D.obj C ns xs::ds).all D.pl||r.fr)=true/\Qd r aQ) λ_=>False) I
  ⟨B,F,δ,ts,_,c,q,λd aj v F1 H1 hq f1 h1 c1 s1=>⟨d,aj,F1,s1,c1,f1,h1,hq⟩⟩) λu s1 ⟨x,H1,I1,rx,d,aj,F1,sd,c1,f1,h1,C,ns,xs,sp,ed,M,hm,hq⟩=>?_) ht
 subst ed
 obtain⟨a,dx,ws,rfl,ea,hl,r0⟩:=G9 sd
 obtain rfl:u=fC a:=rx
 obtain⟨f,fd,ps,zJ,FO,hb⟩:=M.ex
 refine Fs I1 ea M.cls zJ (S1 hm) ?_
 refine PySem.W.callWith_K (first:=[.ref a]) (h₀:=X.base) I.ok.mod.m4 zJ.kp (aO (ha pos pins s1 σ H1 (λvs H2=>∃ds aQ F2,S F2 H2 ds vs/\ao B F2 H2 σ aQ ts/\af F1 F2/\af H1 H2/\sp ((D.obj C ns xs::ds).map D.sh) (λr=>((D.obj C ns xs::ds).all D.pl||r.fr)=true/\Qd r aQ) λ_=>False) I1
  ⟨B,F1,aj,ts,_,c1,hq,λds aQ vs F2 H2 hq f2 h2 c2 s2=>⟨ds,aQ,F2,s2,c2,f2,h2,hq⟩⟩) λus s2 ⟨vs,H2,I2,r,ds,aQ,F2,Ha,c2,f2,h2,ji⟩=>⟨I2.dj,?_⟩) dm bU
 refine Bu (us:=.ref a::us) (vs:=.ref a::vs) (fI:=[]) (GV FO) hr hb .nil GU I2 (.cons rfl r) ?_
 rw[iC]
 exact BJ (sp:=λds Q=>sp ds Q λ_=>False) c2 (.obj (h2 _ _ ea) hl (r0.shared f2 h2) Ha) ji λd v F' H' hd hf hs c'=>k d aQ v F' H' hd (f1.trans (f2.trans hf)) (h1.trans (h2.trans hs)) c'
end
section
variable{X:Cx}{tb th:cZ}{body dh1:List Stmt}{dh2:Stmt}{K:Str}{Kc:Addr}{kp dh3 pos:Pos}
end
structure Tq(K:PySem.W.Frag)(C:Addr):Prop where
 cls:eN K C
 ha:PySem.W.findIn K (.ref C) "__class__"=some (some (.builtin "object.__class__"))
 hn:PySem.W.specialIn K (.builtin "object.__class__") "__get__"=some (some (.builtin "getset_descriptor.__get__"))
 Ft:PySem.W.takesIn K (.builtin "object.__class__")=some true
 hm:PySem.W.mroIn K C (.type "object")=some true
end L3
namespace L3
open PySem L2 Mf
theorem Tr{m:Bool × Nat}(hm:m∈aC){a b:Nat}(a1:1<=a)(a2:a<ae m)(b1:1<=b)(b2:b<ae m):∃r:Nat,pw m ((lg m a-lg m b)%((ae m:Int)-1)).toNat=r/\r<ae m/\gm m r b=a:=by
 have hF:=da hm
 have dN:=hF.lo
 have n0:=jZ (lg m a-lg m b) (show(ae m:Int)-1≠0 by omega)
 have n1:=j5 (lg m a-lg m b) (show(0:Int)<(ae m:Int)-1 by omega)
 obtain⟨p1,p2,p3⟩:=Cm hm (k:=((lg m a-lg m b)%((ae m:Int)-1)).toNat) (by omega)
 obtain⟨g0,g1,g2⟩:=Cn hm a1 a2
 refine⟨(pw m ((lg m a-lg m b)%((ae m:Int)-1)).toNat).toNat,by omega,by omega,?_⟩
 have e:=Hg hm (a:=(pw m ((lg m a-lg m b)%((ae m:Int)-1)).toNat).toNat) (by omega) (by omega) b1 b2
 rw[p3,A6 n0,Int.emod_add_emod,Int.sub_add_cancel,Int.emod_eq_of_lt g0 g1,g2]at e
 omega
end L3
namespace L3
open PySem L2 PySem.Spec PyProof.Rows
section
variable{X:Cx}{e o a:Expr}{es:List Expr}{f m y:Str}{pos p apos q:Pos}{t to ta':aN}{ta:cY}{n:Nat}{P:Program}{w:World}{K:PySem.W.Frag}{mg:Str->Option Value}{base:Heap}
theorem kW(he:PE X e (lB t))(hK:K=X.K:=by rfl)(hb:attributeBase e f X.env (eval e X.env)=eval e X.env:=by rfl):PE X (.Attribute e f pos) (lB (ow K t f)):=by
 subst hK;exact cH6 he hb
theorem uv{pl:Sem Bool}(ho:PE X o (lB to))(hr:cm n X.A)(ha:PA X (e::es) (lA ta))(hP:P=X.prog:=by rfl)(hw:w=X.w:=by rfl)(hK:K=X.K:=by rfl)(hm:mg=X.mg:=by rfl)(hb:base=X.base:=by rfl)
  (dm:starEach (e::es) X.env=(false,eval e X.env)::starEach es X.env:=by rfl) (bU:(backTo pos (starEach es X.env)).any (·.1)=false:=by rfl)
  (ht:eval (.Call (.Attribute o m apos) (e::es) [] pos) X.env=(do
   let ov<-eval o X.env
   standAt apos.atName
   let (f,first)<-holding [ov] (getMethod ov m pl)
   callWith pos f first (backTo pos (starEach (e::es) X.env)) (backToKw pos (keywordEach [] X.env))):=by rfl) :
  PE X (.Call (.Attribute o m apos) (e::es) [] pos) (lE (oy (uu P w K mg base n m) m to ta)):=by
 subst hP hw hK hm hb;exact cA1 ho hr ha dm bU ht
theorem Hj{pl:Sem Bool}(ho:PE X o (lB to))(hr:cm n X.A)(ha:PA X (e::es) (lA ta))(hP:P=X.prog:=by rfl)(hw:w=X.w:=by rfl)(hK:K=X.K:=by rfl)(hm:mg=X.mg:=by rfl)(hb:base=X.base:=by rfl)
  (dm:starEach (e::es) X.env=(false,eval e X.env)::starEach es X.env:=by rfl) (bU:(backTo pos (starEach es X.env)).any (·.1)=false:=by rfl)
  (ht:eval (.Call (.Attribute o m apos) (e::es) [] pos) X.env=(do
   let ov<-eval o X.env
   standAt apos.atName
   let (f,first)<-holding [ov] (getMethod ov m pl)
   callWith pos f first (backTo pos (starEach (e::es) X.env)) (backToKw pos (keywordEach [] X.env))):=by rfl) :
  PE X (.Call (.Attribute o m apos) (e::es) [] pos) (lE (oF (Co P w K mg base n m) m to ta)):=by
 subst hP hw hK hm hb;exact cw5 ho hr ha dm bU ht
end
theorem zT:∀m∈Mf.aC,1<=Mf.bl m.2/\Mf.bl m.2<=7:=by decide +kernel
end L3
namespace L3
open PySem L2 Mf
noncomputable def gp(m:Bool × Nat)(a b:Nat):Nat:=if m.1 then a ^^^ b else(a+b)%m.2
noncomputable def gl(m:Bool × Nat)(a b:Nat):Int:=if m.1 then(a ^^^ b:Nat)else((a:Int)-b)%m.2
noncomputable def gd(m:Bool × Nat)(xs ys:List Nat):Nat:=(eE (gm m) xs ys).foldl (gp m) 0
noncomputable def rG(c:Int):Bool × Nat:=if c%2=0 then(true,g9.getD (c/2%21).toNat 0)else(false,oA.getD (c/2%18).toNat 0)
theorem b86(c:Int):rG c∈aC:=by
 unfold rG
 split
 ·refine fW _ (bO.mpr ⟨_,?_,rfl⟩)
  have h:(c/2%21).toNat<g9.length:=by
   have:=j5 (c/2) (show(0:Int)<21 by decide)
   show _<21
   omega
  rw[aK,aL h]
  exact dv _
 ·refine dY _ (bO.mpr ⟨_,?_,rfl⟩)
  have h:(c/2%18).toNat<oA.length:=by
   have:=j5 (c/2) (show(0:Int)<18 by decide)
   show _<18
   omega
  rw[aK,aL h]
  exact dv _
noncomputable def cF(m:Bool × Nat):D:=.tup [.bl m.1,.int m.2]
theorem rH(cb cp:Addr)(m:Bool × Nat):fD cb cp m=.obj (if m.1 then cb else cp) (if m.1 then iu "bits"++[("products":Str)]else iu "prime") (if m.1 then pD (true,m.2)++[.lst false (vW (fl (true,m.2)) (eG (fl (true,m.2))))]else pD (false,m.2)):=by
 obtain⟨k,n⟩:=m
 cases k<;>rfl
theorem Hk(m:Bool × Nat)(x:Str)(h:x ∉ (["bits","prime","many","wide","powers","logs","step","products"]:List Str)):x ∉ (if m.1 then iu "bits"++[("products":Str)]else iu "prime"):=by
 obtain⟨k,n⟩:=m
 intro z
 apply h
 cases k
 ·have z:x∈iu "prime":=z
  simp[iu]at z
  simp only[cA]
  rcases z with z | z | z | z | z | z<;>simp[z]
 ·have z:x∈iu "bits"++[("products":Str)]:=z
  simp[iu]at z
  simp only[cA]
  rcases z with z | z | z | z | z | z | z<;>simp[z]
theorem cH4(cb cp:Addr)(m:Bool × Nat):(fD cb cp m).sh=fD cb cp m:=by rw[rH];rfl
theorem cJ2(cb cp:Addr)(m:Bool × Nat):(fD cb cp m).pl=true:=by rw[rH];rfl
theorem cr2(m:Bool × Nat):(cF m).sh=cF m:=rfl
theorem cu5(m:Bool × Nat):(cF m).pl=true:=rfl
theorem oG(m:Bool × Nat)(a b:Nat):gp m a b=gp m b a:=by
 unfold gp
 split
 ·rw[Po]
 ·rw[Eo]
theorem Cp(m:Bool × Nat)(a b c:Nat):gp m (gp m a b) c=gp m a (gp m b c):=by
 unfold gp
 split
 ·rw[sG]
 ·rw[EM,Nat.add_mod_mod,Nat.add_assoc]
theorem Hl{m:Bool × Nat}(h:0<m.2)(a b c:Nat):gm m (gp m a b) c=gp m (gm m a c) (gm m b c):=by
 unfold gm gp
 split
 ·rw[pZ,Ck (by omega)]
 ·rw[yq,PF,<- yq,Nat.add_mul,EM,Nat.add_mod_mod]
theorem Ts{m:Bool × Nat}(h:0<m.2)(a b c:Nat):gm m c (gp m a b)=gp m (gm m c a) (gm m c b):=by rw[gz,Hl h,gz m a,gz m b]
theorem cg7:∀m∈aC,m.1=true->2<=bl m.2:=by decide +kernel
theorem Hm{m:Bool × Nat}(hm:m∈aC){a b:Nat}(ha:a<ae m)(hb:b<ae m):gp m a b<ae m:=by
 have h0:=cg m hm
 obtain⟨k,n⟩:=m
 cases k with
 | true=>exact vx ha hb
 | false=>exact yr _ h0
theorem bY{m:Bool × Nat}(hm:m∈aC)(a b:Nat):gm m a b<ae m:=by
 have h0:=cg m hm
 obtain⟨k,n⟩:=m
 cases k with
 | true =>
  have h2:=cg7 (true,n) hm rfl
  have:=(yX (show n≠0 by have:0<n:=h0;omega) (cl a b)).2
  refine(Tg rfl).mpr ?_
  show bl (md (cl a b) n)<=bl n-1
  omega
 | false=>exact yr _ h0
theorem zU{m:Bool × Nat}{a:Nat}(ha:a<ae m):gp m 0 a=a:=by
 obtain⟨k,n⟩:=m
 cases k with
 | true=>exact pk a
 | false=>show(0+a)%n=a;rw[Nat.zero_add];exact AZ ha
theorem oH{m:Bool × Nat}{a:Nat}(ha:a<ae m):gp m a 0=a:=by rw[oG];exact zU ha
theorem cH1{m:Bool × Nat}(hm:m∈aC){a b:Nat}(ha:a<ae m)(hb:b<ae m):∃r:Nat,gl m a b=r/\r<ae m/\gp m r b=a:=by
 have h0:=cg m hm
 obtain⟨k,n⟩:=m
 cases k with
 | true=>exact⟨a ^^^ b,rfl,vx ha hb,by show a ^^^ b ^^^ b=a;rw[sG,AW,lL]⟩
 | false =>
  have h0:0<n:=h0
  have ha:a<n:=ha
  have hb:b<n:=hb
  refine⟨(a+(n-b))%n,?_,yr _ h0,?_⟩
  ·show((a:Int)-b)%n=_
   rw[sI,PH,Int.natCast_sub (by omega),show((a:Int)+((n:Int)-b))=((a:Int)-b)+n by omega,Int.add_emod_right]
  ·show((a+(n-b))%n+b)%n=a
   rw[EM,show a+(n-b)+b=a+n by omega,Nat.add_mod_right,AZ ha]
noncomputable def eS(m:Bool × Nat)(n:Int):Nat:=(pw m (n%((ae m:Int)-1)).toNat).toNat
theorem Cq{m:Bool × Nat}(hm:m∈aC)(n:Int):1<=eS m n/\eS m n<ae m/\lg m (eS m n)=n%((ae m:Int)-1)/\pw m (n%((ae m:Int)-1)).toNat=eS m n:=by
 have dN:=(da hm).lo
 have n0:=jZ n (show(ae m:Int)-1≠0 by omega)
 have n1:=j5 n (show(0:Int)<(ae m:Int)-1 by omega)
 obtain⟨p1,p2,p3⟩:=Cm hm (k:=(n%((ae m:Int)-1)).toNat) (by omega)
 unfold eS
 rw[p3]
 omega
theorem cH5{m:Bool × Nat}(hm:m∈aC)(a b:Int):gm m (eS m a) (eS m b)=eS m (a+b):=by
 obtain⟨a1,a2,a3,_⟩:=Cq hm a
 obtain⟨b1,b2,b3,_⟩:=Cq hm b
 have e:=Hg hm a1 a2 b1 b2
 rw[a3,b3,<- Int.add_emod]at e
 have c:=(Cq hm (a+b)).2.2.2
 rw[c]at e
 omega
theorem Tt{m:Bool × Nat}(hm:m∈aC){a:Nat}(h1:1<=a)(h2:a<ae m):eS m (lg m a)=a:=by
 obtain⟨g0,g1,g2⟩:=Cn hm h1 h2
 unfold eS
 rw[Int.emod_eq_of_lt g0 g1,g2];rfl
theorem cG8{m:Bool × Nat}(hm:m∈aC){a b:Nat}(a1:1<=a)(a2:a<ae m)(b1:1<=b)(b2:b<ae m):gm m a b≠0:=by
 rw[<-Tt hm a1 a2,<- Tt hm b1 b2,cH5 hm]
 have:=(Cq hm (lg m a+lg m b)).1
 omega
end L3
namespace L2
open PySem PySem.Spec PyProof.Rows
section
variable{X:Cx}{a:Expr}{ta:TA}{p pos:Pos}{tg:Expr}
end
end L2
namespace L3
open PySem L2 PySem.Spec PyProof.Rows
section
variable{F H:Hp}{K:PySem.W.Frag}{p:Addr}{ws:List V}{xs:List D}
end
section
variable{X:Cx}{a:Expr}{ta:cY}{p pos:Pos}{tg:Expr}
end
end L3
namespace L3
open PySem L2 Mf
noncomputable def px(m:Bool × Nat)(x:Nat):Nat->Nat
 | 0=>1
 | k+1=>gm m (px m x k) x
noncomputable def AllLt(n:Nat)(l:List Nat):Prop:=∀a∈l,a<n
theorem AllLt.getD{n:Nat}{l:List Nat}(h:AllLt n l)(h0:0<n)(k:Nat):l.getD k 0<n:=by
 rw[aK]
 cases e:l[k]? with
 | none=>exact h0
 | some v=>exact h v (uV e)
end L3
namespace L3
open PySem L2 PySem.Spec PyProof.Rows
theorem b06(n:Nat)(l:List Nat):(ak l).all (aR n)=true:=by
 rw[cu,mX,du]
 intro a _
 exact qZ n _
theorem rJ(n:Nat)(o:Bool)(l:List Nat):aR (n+1) (.lst o (ak l))=true:=b06 n l
theorem uw(o o':Bool)(a b:List Nat):bL (.lst o (ak a)) (.lst o' (ak b))=decide (a=b):=by
 unfold ak
 rw[q0]
 congr 1
 apply propext
 constructor
 ·intro h
  have:=congrArg (EI Int.toNat) h
  have e:(Int.toNat ∘ λ(n:Nat)=>(n:Int))=id:=by funext x;rfl
  rw[cH,cH,e,List.map_id,List.map_id]at this
  exact this
 ·intro h;rw[h]
theorem fR{l:List Nat}{k:Int}(h0:0<=k)(h:k.toNat<l.length):eo (ak l) k=some (.int ((l.getD k.toNat 0:Nat):Int)):=by
 refine pV h0 ?_
 rw[cu,bZ,aL h,aK,aL h];rfl
theorem uz{n:Nat}{k:Int}(h0:0<=k)(h:k.toNat<n):iJ n k=some k.toNat:=by
 unfold iJ
 rw[if_pos h0,if_pos (by omega)]
theorem kX{n:Nat}(k:Int)(h:k=n):(((aM k.toNat).map λ(k:Nat)=>D.int (0+(k:Int))).map D.sh)=(aM n).map λ(i:Nat)=>D.int (i:Int):=by
 subst h
 rw[zd,dQ]
 simp
theorem vY(l:List Nat)(k v:Nat):(ak l).set k (.int (v:Nat))=ak (l.set k v):=by
 rw[cu,cu,List.map_set]
theorem cc6(l:List Nat):(ak l).all D.fr=true:=oj _
theorem jv(o:Bool)(l:List Nat):(D.lst o (ak l)).sh=.lst false (ak l):=by rw[dO,mE]
theorem iW(l:List Nat):(D.lst true (ak l)).fr=true:=by rw[fg,cc6];rfl
theorem cb3{a:Int}{n i:Nat}{d:D}(h:((aM n).map λ(k:Nat)=>D.int (a+(k:Int)))[i]?=some d):i<n/\d=.int (a+i):=by
 have hi:i<n:=by
  have:=(jW.mp h).1
  simpa using this
 refine⟨hi,?_⟩
 rw[bZ,gU hi]at h
 exact(cW h).symm
section
variable{X:Cx}
noncomputable def oI:jN:=λds Q=>match ds with
 | [.int i]=>Q (.int i)
 | [.bl b]=>Q (.int (if b then 1 else 0))
 | _=>False
theorem cF0:jq X (.type "int") oI:=jq.of bZ5 λvs H Q zz=>by
 obtain⟨B,F,σ,δ,ts,ds,Qd,c,s,q,k⟩:=zz
 unfold oI at q
 split at q
 ·obtain⟨v,rfl,s1⟩:=kN s
  cases s1
  exact .inl ⟨_,rfl,k _ _ _ q (af.refl _) (c.pushS (.int .nil) rfl)⟩
 ·obtain⟨v,rfl,s1⟩:=kN s
  cases s1
  exact .inr ⟨_,rfl,k _ _ _ q (af.refl _) (c.pushS (.int .nil) rfl)⟩
 ·exact q.elim
end
end L3
namespace L3
open PySem L2 Mf
noncomputable def bW(m:Bool × Nat)(a b:Nat):Nat:=(gl m a b).toNat
theorem mG{m:Bool × Nat}(hm:m∈aC){a b:Nat}(ha:a<ae m)(hb:b<ae m):gl m a b=(bW m a b:Nat)/\bW m a b<ae m/\gp m (bW m a b) b=a:=by
 obtain⟨r,e,h1,h2⟩:=cH1 hm ha hb
 have:bW m a b=r:=by unfold bW;rw[e];rfl
 rw[this]
 exact⟨e,h1,h2⟩
theorem Cr{n:Nat}{f:Nat->Nat->Nat}:∀{a b:List Nat},(∀x∈a,∀y∈b,f x y<n)->AllLt n (eE f a b)
 | [],_,_=>by intro x hx;simp at hx
 | _::_,[],_=>by intro x hx;simp at hx
 | x::a,y::b,h=>by
  intro z hz
  rw[List.zipWith_cons_cons]at hz
  rcases cA.mp hz with rfl | hz
  ·exact h x (by simp) y (by simp)
  ·exact Cr (λx hx y hy=>h x (by simp[hx]) y (by simp[hy])) z hz
theorem bQ5(xs ys:List Nat):(dP (ak xs) (ak ys)).map D.sh=(xs.zip ys).map λz=>D.tup [.int (z.1:Int),.int (z.2:Int)]:=by
 unfold ak
 rw[bU8,List.zip_map,cH];rfl
theorem Tu{sh:Bool}{aD:List (Str × Nat)}{n i1 i2:Nat}{te:aN}{aj:Dl}{Q:D->Dl->Prop}(f:Nat->Nat->Nat){A B:List Nat}(hx:∀x∈A,∀y∈B,iT i1 i2 (.tup [.int (x:Int),.int (y:Int)]) (fK aD n aj) λaQ=>te aQ λd _=>d=.int ((f x y:Nat):Int))
  (hl:A.length<=100000) (hq:Q (.lst true (ak (eE f A B))) aj):vE sh (dP (ak A) (ak B)) aD n (iT i1 i2) ke te aj Q:=by
 refine To (A.zip B) (λz=>D.tup [.int (z.1:Int),.int (z.2:Int)]) (λz=>D.int ((f z.1 z.2:Nat):Int)) (bQ5 A B) (λa b h=>?_) (λz hz=>hx z.1 (AN hz).1 z.2 (AN hz).2) Tp (.inr λ_ _=>rfl) (by rw[ES,sL];omega) ?_
 ·injection h with h
  simp at h
  exact Prod.ext (by omega) (by omega)
 ·rw[show((A.zip B).map λz=>D.int ((f z.1 z.2:Nat):Int))=ak (eE f A B) by rw[cu,ER,EJ,EJ]]
  exact hq
end L3
namespace L3
open PySem L2 PySem.Spec PyProof.Rows
theorem ao.dp3{B:Bs}{F H:Hp}{σ:L2.St}{δ:Dl}{ps ts:List (D × V)}{p:Addr}{o:HO}{A1:List Addr}(c:ao B F H σ δ (ps++ts))(hp:H p=none)(r:R F (upd H p o) (ps.map (·.1)) (ps.map (·.2)) A1):p ∉ A1:=λh=>by
 obtain⟨A,C,r0,_,_,_⟩:=c.own
 rw[fY,fY]at r0
 obtain⟨v1,v2,B1,B2,e,rfl,h1,h2⟩:=R.split r0
 have l1:(ps.map (·.2)).length=v1.length:=by rw[<-h1.length];simp
 obtain⟨rfl,rfl⟩:=AX e l1
 have g1:=h1.grow (af.refl F) (af.upd (o:=o) hp) λa ha=>(h1.lists a ha).2
 have:A1=B1:=R.inj r g1
 subst this
 obtain⟨ws,e⟩:=(h1.lists p h).1
 rw[hp]at e;cases e
theorem ao.join{B:Bs}{F H:Hp}{σ:L2.St}{δ:Dl}{ts:List (D × V)}{p p' r:Addr}{xs ys:List D}{ws eQ:List V}(c:ao B F H σ δ ((.lst true ys,.ref p')::(.lst true xs,.ref p)::ts))(e1:H p=some (.lst ws))(e2:H p'=some (.lst eQ))(hr:H r=none) :
  ao B F (upd H r (.lst (ws++eQ))) σ δ ((.lst true (xs++ys),.ref r)::ts):=by
 refine ao.pack (ps:=[(.lst true ys,.ref p'),(.lst true xs,.ref p)]) c (af.upd hr) λA1 r1 nd=>?_
 have nin:=ao.dp3 (ps:=[(.lst true ys,.ref p'),(.lst true xs,.ref p)]) (ts:=ts) c hr r1
 have n1:p≠r:=λz=>by rw[z,hr]at e1;cases e1
 have n2:p'≠r:=λz=>by rw[z,hr]at e2;cases e2
 have r1:R F (upd H r (.lst (ws++eQ))) [.lst true ys,.lst true xs] [.ref p',.ref p] A1:=r1
 cases r1 with
 | @own _ wy _ Ay _ _ By hy fy ry rb =>
  cases rb with
  | @own _ wx _ Ax _ _ Bx hx fx rx rc =>
   cases rc
   rw[bb n2,e2]at hy;cases hy
   rw[bb n1,e1]at hx;cases hx
   refine⟨r::(Ax++Ay),by simpa using R.own cB (c.ext.free hr) (rx.append ry) .nil,?_,λa ha=>?_⟩
   ·refine jy.mpr ⟨λz=>nin ?_,?_⟩
    ·rcases cJ.mp z with z | z<;>simp[z]
    ·have sl:(Ay++Ax).Sublist (p'::Ay++(p::Ax++[])):=by
      rw[iC]
      exact(((Y0 p Ax).append_left Ay).trans (Y0 p' _))
     exact pH.nodup_iff.mp (nd.sublist sl)
   ·simp only[cA,cJ]at ha ⊢
    rcases ha with rfl | ha | ha
    ·exact .inr hr
    ·simp[ha]
    ·simp[ha]
section
variable{X:Cx}{a b:Expr}{ta tb:aN}{pos:Pos}
noncomputable def rK(ta tb:aN):aN:=λδ Q=>ta δ λx aj=>tb aj λy aQ=>∃xs ys,x=.lst true xs/\y=.lst true ys/\xs.length+ys.length<=sizeLine/\Q (.lst true (xs++ys)) aQ
theorem cD4(ha:PE X a (lE ta))(hb:PE X b (lE tb)):PE X (.BinOp a .Add b pos) (lE (rK ta tb)) :=
 dn (yL QN ha hb) λσ H Q ⟨B,F,δ,ts,Qd,c,q,k⟩ =>
  ⟨B,F,δ,ts,_,c,q,λx aj v F1 H1 q1 f1 h1 c1=>⟨B,F1,aj,(x,v)::ts,_,c1,q1,λy aQ w F2 H2 q2 f2 h2 c2=>by
   obtain⟨xs,ys,rfl,rfl,hz,hq⟩:=q2
   obtain⟨p',eQ,rfl,e2,s2⟩:=gv c2.top c2.ext
   obtain⟨p,ws,rfl,e1,s1⟩:=gv c2.pop.top c2.ext
   refine⟨p,p',ws,eQ,rfl,rfl,e1,e2,by rw[<-s1.length,<- s2.length];exact hz,λr hr=>?_⟩
   exact k _ aQ _ F2 _ hq (f1.trans f2) ((h1.trans h2).trans (af.upd hr)) (c2.join e1 e2 hr)⟩⟩
end
theorem b65{a b:List Nat}(h:ak a=ak b):a=b:=by
 have:=uw true true a b
 rw[h,show bL (D.lst true (ak b)) (D.lst true (ak b))=true from(uw _ _ _ _).trans (decide_eq_true rfl)]at this
 exact of_decide_eq_true this.symm
theorem mH{o:Bool}(a b:List Nat)(h:D.lst o (ak a)=D.lst o (ak b)):a=b:=b65 (by injection h)
end L3
namespace L3
open PySem L2 Mf
end L3
namespace L2
open PySem PySem.Spec PyProof.Rows
end L2
namespace L3
open PySem L2 PySem.Spec PyProof.Rows Mf
theorem Tv{m:Bool × Nat}(hm:m∈aC)(xs ys:List Nat):gd m xs ys<ae m:=by
 have dN:=(da hm).lo
 unfold gd
 have:∀(l:List Nat) (a:Nat),a<ae m->AllLt (ae m) l->l.foldl (gp m) a<ae m:=by
  intro l
  induction l with
  | nil=>exact λa ha _=>ha
  | cons x l ih=>exact λa ha h=>ih _ (Hm hm ha (h x (by simp))) λy hy=>h y (by simp[hy])
 exact this _ _ (by omega) (Cr λx _ y _=>bY hm x y)
end L3
namespace L3
open PySem L2 Mf
noncomputable def cf(l:List Nat)(k:Nat):Nat:=l.getD k 0
theorem kY{l:List Nat}{k:Nat}(h:l.length<=k):cf l k=0:=by
 unfold cf;rw[aK,fF h];rfl
theorem dA{m:Bool × Nat}(hm:m∈aC){l:List Nat}(h:AllLt (ae m) l)(k:Nat):cf l k<ae m:=h.getD (by have:=(da hm).lo;omega) k
theorem Ho(n k:Nat):cf (br n 0) k=0:=by
 unfold cf
 rw[aK,AQ]
 split<;>rfl
theorem Tw(m:Bool × Nat)(x:Nat):bW m x x=0:=by
 obtain⟨k,n⟩:=m
 cases k with
 | true=>show(((x ^^^ x:Nat):Int)).toNat=0;rw[AW];rfl
 | false=>show(((x:Int)-(x:Int))%(n:Int)).toNat=0;rw[Int.sub_self,Int.zero_emod];rfl
end L3
namespace L3
open PySem L2 PySem.Spec PyProof.Rows
section
variable{B:Bs}{F H:Hp}{σ:L2.St}{δ:Dl}{ts ps:List (D × V)}{i k:Nat}{p q:Addr}{l1 l2 ys Ry:List D}{ws vK:List V}
end
section
variable{X:Cx}{F H:Hp}{e b:Expr}{pos p p2 p3 pr apos cN GO:Pos}{t ti te:aN}{x y:Str}{i j:Nat}
end
end L3
namespace L3
structure Rg(N:Nat)(p q:Nat->Nat->Nat):Prop where
 pc:∀a b,p a b=p b a
 pa:∀a b c,p (p a b) c=p a (p b c)
 mc:∀a b,q a b=q b a
 ma:∀{a b c},a<N->b<N->c<N->q (q a b) c=q a (q b c)
 dl:∀a b c,q a (p b c)=p (q a b) (q a c)
 z:∀{a},a<N->p 0 a=a
 qz:∀a,q a 0=0
 one:∀{a},a<N->q 1 a=a
 lp:∀{a b},a<N->b<N->p a b<N
 lq:∀a b,q a b<N
 ng:∀{a},a<N->∃b,b<N/\p a b=0
section
variable{N:Nat}{p q:Nat->Nat->Nat}
noncomputable def sm(p:Nat->Nat->Nat):Nat->(Nat->Nat)->Nat
 | 0,_=>0
 | n+1,f=>p (sm p n f) (f n)
theorem Rg.pos(r:Rg N p q):0<N:=pq (jX _) (r.lq 0 0)
theorem Rg.z'(r:Rg N p q){a:Nat}(h:a<N):p a 0=a:=by rw[r.pc];exact r.z h
theorem Rg.Tx(r:Rg N p q){a b c:Nat}(ha:a<N)(hb:b<N)(hc:c<N)(h:p a c=p b c):a=b:=by
 obtain⟨d,_,e⟩:=r.ng hc
 have:=congrArg (λx=>p x d) h
 simp only[r.pa,e]at this
 rw[r.z' ha,r.z' hb]at this
 exact this
theorem Rg.cn(r:Rg N p q){a b:Nat}(ha:a<N)(hb:b<N)(h:p a b=b):a=0:=r.Tx ha r.pos hb (by rw[h,r.z hb])
theorem bQ{f g:Nat->Nat}:∀{n:Nat},(∀j,j<n->f j=g j)->sm p n f=sm p n g
 | 0,_=>rfl
 | n+1,h=>by rw[sm,sm,bQ λj hj=>h j (by omega),h n (by omega)]
theorem iy(r:Rg N p q){f:Nat->Nat}:∀{n:Nat},(∀j,j<n->f j<N)->sm p n f<N
 | 0,_=>r.pos
 | n+1,h=>r.lp (iy r λj hj=>h j (by omega)) (h n (by omega))
theorem eH(r:Rg N p q){f:Nat->Nat}:∀{n:Nat},(∀j,j<n->f j=0)->sm p n f=0
 | 0,_=>rfl
 | n+1,h=>by rw[sm,eH r λj hj=>h j (by omega),h n (by omega)];exact r.z r.pos
theorem Rg.four(r:Rg N p q)(a b c d:Nat):p (p a b) (p c d)=p (p a c) (p b d):=by
 rw[r.pa,r.pa,<- r.pa b,<- r.pa c,r.pc b c]
theorem mI(r:Rg N p q)(f g:Nat->Nat):∀n,sm p n (λj=>p (f j) (g j))=p (sm p n f) (sm p n g)
 | 0=>(r.z r.pos).symm
 | n+1=>by rw[sm,mI r f g n,sm,sm,r.four]
theorem kZ(r:Rg N p q)(c:Nat)(f:Nat->Nat):∀n,sm p n (λj=>q c (f j))=q c (sm p n f)
 | 0=>(r.qz c).symm
 | n+1=>by rw[sm,kZ r c f n,sm,r.dl]
theorem Hq(r:Rg N p q)(F:Nat->Nat->Nat)(k:Nat):∀n,sm p n (λi=>sm p k λj=>F i j)=sm p k λj=>sm p n λi=>F i j
 | 0=>(eH r λ_ _=>rfl).symm
 | n+1=>by
  rw[sm,Hq r F k n,<- mI r];rfl
theorem rL(r:Rg N p q){f:Nat->Nat}(n:Nat):∀k,(∀j,j<n+k->f j<N)->sm p (n+k) f=p (sm p n f) (sm p k λj=>f (n+j))
 | 0,h=>(r.z' (iy r λj hj=>h j (by omega))).symm
 | k+1,h=>by
  rw[<-Nat.add_assoc,sm,rL r n k λj hj=>h j (by omega),sm,r.pa]
theorem cE1(r:Rg N p q){f:Nat->Nat}{n n':Nat}(hn:n<=n')(h:∀j,j<n'->f j<N)(hz:∀j,n<=j->j<n'->f j=0):sm p n' f=sm p n f:=by
 obtain⟨k,rfl⟩:=Y1 hn
 rw[rL r n k h,eH r (f:=λj=>f (n+j)) λj hj=>hz _ (by omega) (by omega),r.z' (iy r λj hj=>h j (by omega))]
theorem cc3(r:Rg N p q){f:Nat->Nat}(n:Nat)(h:∀j,j<n+1->f j<N):sm p (n+1) f=p (f 0) (sm p n λj=>f (j+1)):=by
 rw[Eo n 1,rL r 1 n λj hj=>h j (by omega)]
 show p (p 0 (f 0)) _=_
 rw[r.z (h 0 (by omega))]
 congr 1
 exact bQ λj _=>by rw[Eo]
noncomputable def ds(p q:Nat->Nat->Nat)(s c:Nat->Nat)(n:Nat):Nat:=sm p (n+1) λj=>q (c j) (s (n-j))
theorem cH7(r:Rg N p q)(s c:Nat->Nat)(n:Nat):ds p q s c n<N:=iy r λj _=>r.lq _ _
noncomputable def hE(k:Nat)(b:Nat->Nat)(j:Nat):Nat:=if j<k then 0 else b (j-k)
theorem Tz(r:Rg N p q)(s b:Nat->Nat){k n:Nat}(h:k<=n):ds p q s (hE k b) n=ds p q s b (n-k):=by
 unfold ds
 obtain⟨d,rfl⟩:=Y1 h
 rw[show k+d+1=k+(d+1) by omega,rL r k (d+1) λj _=>r.lq _ _,eH r (n:=k),r.z (iy r λj _=>r.lq _ _)]
 ·rw[yt]
  refine bQ λj _=>?_
  unfold hE
  rw[if_neg (by omega),yt,show k+d-(k+j)=d-j by omega]
 ·intro j hj
  unfold hE
  rw[if_pos hj,r.mc,r.qz]
structure BI(N:Nat)(p q:Nat->Nat->Nat)(s:Nat->Nat)(n L:Nat)(c b:Nat->Nat)(o:Nat):Prop where
 c0:c 0=1
 cz:∀j,L<j->c j=0
 cl:∀j,c j<N
 ln:L<=n
 kp:∀i,L<=i->i<n->ds p q s c i=0
 mn:∀L1 c1,c1 0=1->(∀j,L1<j->c1 j=0)->(∀j,c1 j<N)->(∀i,L1<=i->i<n->ds p q s c1 i=0)->L<=L1
 b0:b 0=0
 bz:∀j,n+1-L<j->b j=0
 bl:∀j,b j<N
 bk:∀i,n+1-L<=i->i<n->ds p q s b i=0
 bo:n+1-L<=n->ds p q s b n=o
theorem TB(r:Rg N p q){b:Nat->Nat}(h:∀j,b j<N)(j:Nat):hE 1 b j<N:=by
 unfold hE
 split
 ·exact r.pos
 ·exact h _
theorem TC{b:Nat->Nat}{n:Nat}(h:∀j,n<j->b j=0)(j:Nat)(hj:n+1<j):hE 1 b j=0:=by
 unfold hE
 rw[if_neg (by omega)]
 exact h _ (by omega)
theorem BI.same(r:Rg N p q){s c b:Nat->Nat}{n L o:Nat}(I:BI N p q s n L c b o)(h:ds p q s c n=0):BI N p q s (n+1) L c (hE 1 b) o where
 c0:=I.c0
 cz:=I.cz
 cl:=I.cl
 ln:=by have:=I.ln;omega
 kp:=λi h1 h2=>by
  by_cases e:i=n
  ·rw[e];exact h
  ·exact I.kp i h1 (by omega)
 mn:=λL1 c1 h1 h2 h3 h4=>I.mn L1 c1 h1 h2 h3 λi a b=>h4 i a (by omega)
 b0:=rfl
 bz:=λj hj=>TC I.bz j (by have:=I.ln;omega)
 bl:=TB r I.bl
 bk:=λi h1 h2=>by
  have:=I.ln
  rw[Tz r s b (show 1<=i by omega)]
  exact I.bk _ (by omega) (by omega)
 bo:=λh1=>by
  rw[Tz r s b (by omega)]
  exact I.bo (by have:=I.ln;omega)
end
end L3
namespace L3
section
variable{N:Nat}{p q:Nat->Nat->Nat}
theorem TF{s:Nat->Nat}{j n:Nat}(h:n<j):hE j s n=0:=if_pos h
theorem zV(s:Nat->Nat){j n:Nat}(h:j<=n):hE j s n=s (n-j):=if_neg (by omega)
theorem Rg.zq(r:Rg N p q)(a:Nat):q 0 a=0:=by rw[r.mc];exact r.qz a
theorem Ct(r:Rg N p q)(s c:Nat->Nat){n M:Nat}(h:n<M):ds p q s c n=sm p M λj=>q (c j) (hE j s n):=by
 unfold ds
 rw[cE1 r (show n+1<=M by omega) (λj _=>r.lq _ _) λj h1 _=>by rw[TF (by omega),r.qz]]
 exact bQ λj hj=>by rw[zV s (by omega)]
theorem cq1(r:Rg N p q)(s a b:Nat->Nat)(n:Nat):ds p q s (λj=>p (a j) (b j)) n=p (ds p q s a n) (ds p q s b n):=by
 unfold ds
 rw[<-mI r]
 exact bQ λj _=>by rw[r.mc (p _ _),r.dl,r.mc (a j),r.mc (b j)]
theorem cu7(r:Rg N p q)(s t c:Nat->Nat)(n:Nat):ds p q (λj=>p (s j) (t j)) c n=p (ds p q s c n) (ds p q t c n):=by
 unfold ds
 rw[<-mI r]
 exact bQ λj _=>r.dl _ _ _
theorem cf4(r:Rg N p q){a b s:Nat->Nat}(ha:∀j,a j<N)(hb:∀j,b j<N)(hs:∀j,s j<N)(n:Nat):ds p q s (ds p q b a) n=ds p q (ds p q s b) a n:=by
 have pX:∀(s:Nat->Nat) (k j:Nat),(∀j,s j<N)->hE k s j<N:=λs k j h=>by
  unfold hE
  split
  ·exact r.pos
  ·exact h _
 rw[Ct r (ds p q s b) a (yh n),Ct r s (ds p q b a) (yh n)]
 have e1:sm p (n+1) (λk=>q (ds p q b a k) (hE k s n))=sm p (n+1) λk=>sm p (n+1) λi=>q (a i) (q (hE i b k) (hE k s n)):=bQ λk hk=>by
  rw[Ct r b a hk,r.mc,<- kZ r]
  exact bQ λi _=>by rw[r.mc,r.ma (ha i) (pX b i k hb) (pX s k n hs)]
 rw[e1,Hq r]
 refine bQ λi hi=>?_
 rw[kZ r (a i)]
 congr 1
 rw[zV _ (by omega),Ct r s b (show n-i<n+1-i by omega),show n+1=i+(n+1-i) by omega,rL r i _ λj _=>r.lq _ _,eH r (n:=i) λj hj=>by rw[TF hj,r.zq]]
 rw[r.z (iy r λj _=>r.lq _ _),yt]
 refine bQ λj hj=>?_
 rw[zV b (by omega),yt,zV s (by omega),zV s (by omega),show n-(i+j)=n-i-j by omega]
theorem cy1(r:Rg N p q){u s:Nat->Nat}{d e:Nat}(hu:∀j,d<=j->u j=0)(hs:∀j,e<=j->s j=0)(n:Nat)(h:d+e<=n):ds p q s u n=0:=eH r λj _=>by
 by_cases h1:d<=j
 ·rw[hu j h1,r.zq]
 ·rw[hs _ (by omega),r.qz]
noncomputable def Mk(N:Nat)(p q:Nat->Nat->Nat)(a r0 r1:Nat->Nat):Prop:=∃(u0 u1:Nat->Nat) (d:Nat),(∀j,u0 j<N)/\(∀j,u1 j<N)/\(∀j,d<=j->u0 j=0)/\(∀j,d<=j->u1 j=0)/\∀k,a k=p (ds p q r0 u0 k) (ds p q r1 u1 k)
theorem Mk.next(r:Rg N p q){a r0 r1 r2 t:Nat->Nat}{e:Nat}(h:Mk N p q a r0 r1)(l1:∀j,r1 j<N)(lt:∀j,t j<N)(ft:∀j,e<=j->t j=0)(h2:∀k,r0 k=p (ds p q r1 t k) (r2 k)):Mk N p q a r1 r2:=by
 obtain⟨u0,u1,d,a1,a2,a3,a4,a5⟩:=h
 refine⟨λj=>p (ds p q t u0 j) (u1 j),u0,d+e,λj=>r.lp (cH7 r _ _ _) (a2 j),a1,λj hj=>?_,λj hj=>a3 j (by omega),λk=>?_⟩
 ·show p (ds p q t u0 j) (u1 j)=0
  rw[cy1 r a3 ft j hj,a4 j (by omega)];exact r.z r.pos
 ·rw[a5 k,cq1 r,cf4 r a1 lt l1,show r0=λk=>p (ds p q r1 t k) (r2 k) from funext h2,cu7 r,r.pa,r.pa,r.pc (ds p q r2 u0 k)]
end
end L3
namespace L3
open PySem L2 Mf
theorem rg{m:Bool × Nat}(hm:m∈aC):Rg (ae m) (gp m) (gm m) where
 pc:=oG m
 pa:=Cp m
 mc:=gz m
 ma:=λ_ _ _=>ju (cg m hm) _ _ _
 dl:=λa b c=>Ts (cg m hm) b c a
 z:=zU
 qz:=λa=>iV m a (cg m hm)
 one:=kU
 lp:=Hm hm
 lq:=bY hm
 ng:=λ{a} ha=>by
  have g:=mG hm (a:=0) (b:=a) (by omega) ha
  exact⟨_,g.2.1,(oG m _ _).trans g.2.2⟩
theorem b76(p:Nat->Nat->Nat)(l:List Nat):l.foldl p 0=sm p l.length λj=>l.getD j 0:=by
 have key:∀n,n<=l.length->(l.take n).foldl p 0=sm p n λj=>l.getD j 0:=by
  intro n
  induction n with
  | zero=>intro _;rfl
  | succ n ih =>
   intro h
   rw[lM,aL (by omega),A7,ih (by omega),sm,aK,aL (show n<l.length by omega)]
   rfl
 have:=key l.length (bP _)
 rw[pE]at this
 exact this
theorem Cu{m:Bool × Nat}(hm:m∈aC)(f:Nat)(b:List Nat)(j:Nat):cf (b.map (gm m f)) j=gm m f (cf b j):=by
 unfold cf
 rw[aK,bZ,aK]
 cases b[j]? with
 | none=>exact(iV m f (cg m hm)).symm
 | some x=>rfl
theorem Hr{m:Bool × Nat}(hm:m∈aC){a b:Nat}(ha:a<ae m)(hb:b<ae m)(h0:b≠0):∃r,r<ae m/\gm m r b=a:=by
 by_cases a0:a=0
 ·exact⟨0,by have:=(da hm).lo;omega,by rw[a0];exact fh m b (cg m hm)⟩
 ·obtain⟨r,_,h1,h2⟩:=Tr hm (show 1<=a by omega) ha (show 1<=b by omega) hb
  exact⟨r,h1,h2⟩
theorem Hs{p q:Nat->Nat->Nat}{s s' c:Nat->Nat}{n:Nat}(h:∀j,j<n+1->s j=s' j):ds p q s c n=ds p q s' c n:=bQ λj hj=>by rw[h (n-j) (by omega)]
theorem BI.other{N:Nat}{p q:Nat->Nat->Nat}(r:Rg N p q){s s' c b:Nat->Nat}{n L o:Nat}(I:BI N p q s n L c b o)(h:∀j,j<n->s j=s' j):BI N p q s' n L c b o where
 c0:=I.c0
 cz:=I.cz
 cl:=I.cl
 ln:=I.ln
 kp:=λi h1 h2=>by rw[<-Hs λj hj=>h j (by omega)];exact I.kp i h1 h2
 mn:=λL1 c1 h1 h2 h3 h4=>I.mn L1 c1 h1 h2 h3 λi a b=>by rw[Hs λj hj=>h j (by omega)];exact h4 i a b
 b0:=I.b0
 bz:=I.bz
 bl:=I.bl
 bk:=λi h1 h2=>by rw[<-Hs λj hj=>h j (by omega)];exact I.bk i h1 h2
 bo:=λh1=>by
  rw[<-I.bo h1]
  refine bQ λj hj=>?_
  by_cases e:j=0
  ·rw[e,I.b0,r.mc,r.qz,r.mc,r.qz]
  ·rw[h (n-j) (by omega)]
theorem BI.start{m:Bool × Nat}(hm:m∈aC)(s:Nat->Nat):BI (ae m) (gp m) (gm m) s 0 0 (cf [1]) (hE 1 (cf [1])) 1:=by
 have lo:=(da hm).lo
 have cl:∀j,cf [1] j<ae m:=λj=>by
  cases j with
  | zero=>exact lo
  | succ j=>exact cS (show 0<2 by decide) lo
 have cz:∀j,0<j->cf [1] j=0:=λj hj=>kY (show([1]:List Nat).length<=j from hj)
 exact⟨rfl,cz,cl,bP _,λi _ h=>absurd h (PJ i),λ_ _ _ _ _ _=>jX _,rfl,λj hj=>TC cz j hj,TB (rg hm) cl,λi _ h=>absurd h (PJ i),λh=>absurd h (by omega)⟩
end L3
namespace L3
open PySem L2 PySem.Spec PyProof.Rows
section
variable{X:Cx}{i j:Nat}{x y:Str}{p pos pos' apos cN:Pos}
end
section
variable{X:Cx}{e:Expr}{t:aN}{p pos:Pos}
end
section
variable{X:Cx}
theorem cg8(i:Int)(ns:List Int):s8 (.int i) (ns.map V.int)=decide (i∈ns):=by
 unfold s8
 rw[PD,sH,Ey,decide_eq_true_iff]
 exact⟨λ⟨x,hx,he⟩=>(show x=i by simpa[j9]using he) ▸ hx,λhx=>⟨i,hx,by simp[j9]⟩⟩
noncomputable def oJ:cO:=λx y Q=>match x,y with
 | .int i,.lst _ xs=>∃ns:List Int,xs=aJ ns/\Q (.bl (!decide (i∈ns)))
 | _,_=>False
theorem cy7:bV X (compareOp .NotIn) oJ :=
 ⟨_,bF0,λ{B F H σ δ ts x y v w Q Qd} c sx sy h k=>by
  unfold oJ at h
  split at h
  ·rename_i i o xs
   obtain⟨ns,rfl,q⟩:=h
   obtain⟨p,ws,rfl,e1,s1⟩:=gv sy c.ext
   have e:=B0 s1
   subst e
   cases sx
   refine⟨p,_,rfl,.inl (bJ.of e1),rfl,by simp[me],?_⟩
   rw[if_pos rfl,cg8]
   exact k _ _ _ q (af.refl _) (c.pushS (.bl .nil) rfl)
  ·exact h.elim⟩
end
end L3
namespace L3
open PySem L2 Mf
noncomputable def aB(o:Bool)(T:List (List Nat)):List D:=T.map λr=>.lst o (ak r)
theorem lh(o:Bool)(T:List (List Nat)):(aB o T).length=T.length:=by unfold aB;rw[bG]
theorem eU(o:Bool)(T:List (List Nat)):(aB o T).map D.sh=aB false T:=by
 unfold aB
 rw[cH]
 exact uZ λr _=>jv o r
theorem rM(T:List (List Nat)):(aB false T).all D.pl=true:=by
 unfold aB
 rw[mX,du]
 intro r _
 show(D.lst false (ak r)).pl=true
 rw[gh,jP];rfl
theorem rN(T:List (List Nat)):(aB true T).all D.fr=true:=by
 unfold aB
 rw[mX,du]
 intro r _
 exact iW r
theorem vZ(o:Bool)(S T:List (List Nat)):aB o S++aB o T=aB o (S++T):=by unfold aB;rw[fY]
theorem rO(o:Bool)(T:List (List Nat))(lo hi:Option Int):eF (aB o T) lo hi=aB o (eF T lo hi):=by
 unfold aB eF
 rw[bG,PB,Pz]
theorem rP(o:Bool){T:List (List Nat)}{i:Nat}(h:i<T.length):eo (aB o T) (i:Int)=some (.lst o (ak T[i])):=by
 refine L3.Bv ?_
 unfold aB
 rw[bZ,aL h];rfl
theorem bZ2(n:Nat)(o:Bool)(T:List (List Nat)):(aB o T).all (aR (n+1))=true:=by
 unfold aB
 rw[mX,du]
 intro r _
 exact rJ _ _ _
theorem Cv(n:Nat)(o o':Bool)(T:List (List Nat)):aR (n+2) (.lst o (aB o' T))=true:=bZ2 n o' T
theorem TH(o o':Bool):∀(a b:List (List Nat)),bL.fQ (aB o a) (aB o' b)=decide (a=b)
 | [],[]=>rfl
 | [],_::_=>by simp[aB,bL.fQ]
 | _::_,[]=>by simp[aB,bL.fQ]
 | x::xs,y::ys=>by
  show(bL (.lst o (ak x)) (.lst o' (ak y))&&bL.fQ (aB o xs) (aB o' ys))=_
  rw[TH o o' xs ys,uw,sH];simp
theorem TJ(o o' o1 o2:Bool)(a b:List (List Nat)):bL (.lst o (aB o1 a)) (.lst o' (aB o2 b))=decide (a=b):=TH o1 o2 a b
open Classical in
theorem uA{α:Type}{sh:Bool}{xs:List D}{aD:List (Str × Nat)}{n:Nat}{g0:iM}{tt:fJ}{te:aN}{aj:Dl}{Q:D->Dl->Prop}(l:List α)(e g:α->D)(kp:α->Bool)(js:xs.map D.sh=l.map e)(inj:∀a b,e a=e b->a=b)
  (hx:∀a∈l,g0 (e a) (fK aD n aj) λaQ=>tt aQ λb gq=>b=kp a/\(kp a=true->te gq λd _=>d=g a)) (eP:(sh&&aD.all (ik aj))=true\/∀a∈l,kp a=true->(g a).fr=true) (hl:l.length<=sizeLine) (hq:Q (.lst true ((l.filter kp).map g)) aj):vE sh xs aD n g0 tt te aj Q:=by
 have pick:∀{β:Type} (h:α->β) (z:β),∃f:D->β,∀a∈l,f (e a)=h a:=λh z=>⟨λx=>if w:∃a∈l,e a=x then h w.choose else z,λa ha=>by
  have w:∃b∈l,e b=e a:=⟨a,ha,rfl⟩
  show(if w:∃b∈l,e b=e a then h w.choose else z)=h a
  rw[dif_pos w]
  exact congrArg h (inj _ _ w.choose_spec.2)⟩
 obtain⟨f,hf⟩:=pick g .au
 obtain⟨p,hp⟩:=pick kp false
 refine⟨p,f,λx h=>?_,eP.imp id λh x ff=>?_,?_,?_⟩
 ·rw[js]at h
  obtain⟨a,ha,rfl⟩:=bO.mp h
  rw[hp a ha,hf a ha]
  exact hx a ha
 ·rw[js]at ff
  obtain⟨a,ha,rfl⟩:=bO.mp ff
  rw[hp a ha,hf a ha];exact h a ha
 ·have:=congrArg AO js
  simp at this
  omega
 ·rw[js,List.filter_map,cH,show l.filter (p ∘ e)=l.filter kp from List.filter_congr λa ha=>hp a ha,show(l.filter kp).map (f ∘ e)=(l.filter kp).map g from uZ λa ha=>hf a (ku.mp ha).1]
  exact hq
theorem TK{o:Bool}{G:List (List Nat)}{i:Nat}{d:D}(h:(gx (aB o G))[i]?=some d):∃hi:i<G.length,d=.tup [.int i,.lst o (ak G[i])]:=by
 unfold gx aB at h
 rw[uY,bZ]at h
 by_cases hi:i<G.length
 ·rw[aL hi]at h
  exact⟨hi,(cW h).symm⟩
 ·rw[fF (by omega)]at h;cases h
theorem TL(r:List Nat):(gx (ak r)).map D.sh=(aM r.length).map λ(i:Nat)=>D.tup [.int (i:Int),.int ((r.getD i 0:Nat):Int)]:=by
 apply yo
 intro i
 unfold gx
 rw[cu,bZ,uY,bZ,bZ]
 by_cases hi:i<r.length
 ·have e:r.getD i 0=r[i]:=by rw[aK,aL hi];rfl
  rw[aL hi,gU hi]
  show _=some (D.tup [D.int (i:Int),D.int ((r.getD i 0:Nat):Int)])
  rw[e];rfl
 ·rw[fF (show r.length<=i by omega),fF (show(aM r.length).length<=i by simpa using hi)];rfl
theorem TM{r:List Nat}(h:∃x∈r,x≠0):((aM r.length).filter λi=>r.getD i 0 != 0)[0]?=some (r.findIdx (· != 0)):=by
 obtain⟨x,hx,h0⟩:=h
 have hl:r.findIdx (· != 0)<r.length:=PK ⟨x,hx,by simpa using h0⟩
 rw[<-List.head?_eq_getElem?,List.head?_filter,List.find?_range_eq_some]
 refine⟨?_,cV.mpr hl,λj hj=>?_⟩
 ·rw[aK,aL hl]
  exact Y2 (w:=hl)
 ·have:=List.not_of_lt_findIdx hj
  rw[aK,aL (by omega)]
  simpa using this
noncomputable def ai(T:List (List Nat)):Nat:=(T.headD []).length
noncomputable def jQ(T:List (List Nat))(j:Nat):Option Nat:=T.findIdx? λr=>r.getD j 0 != 0
noncomputable def gM(m:Bool × Nat)(T:List (List Nat))(l:List Nat)(j:Nat):List (List Nat):=T.map λr=>eE (λx y=>bW m x (gm m (r.getD j 0) y)) r l
noncomputable def jR(m:Bool × Nat)(b:Nat):Nat:=((aM (ae m)).find? λr=>gm m r b==1).getD 0
theorem v7{m:Bool × Nat}(hm:m∈aC){b r:Nat}(hr:r<ae m)(h:gm m r b=1):jR m b=r:=by
 have m0:=cg m hm
 unfold jR
 cases e:(aM (ae m)).find? λr=>gm m r b==1 with
 | none =>
  have:=PL.mp e r (cV.mpr hr)
  simp[h]at this
 | some r' =>
  have h':gm m r' b=1:=by simpa using List.find?_some e
  have l':r'<ae m:=cV.mp (Py e)
  show r'=r
  rw[<-oE hr,<- h',<- ju m0,gz m r r',ju m0,h,oE l']
noncomputable def RT(N w:Nat)(T:List (List Nat)):Prop:=∀r∈T,r.length=w/\AllLt N r
theorem RT.app{N w:Nat}{S T:List (List Nat)}(a:RT N w S)(b:RT N w T):RT N w (S++T):=λr hr=>(cJ.mp hr).elim (a r) (b r)
theorem TN{m:Bool × Nat}(hm:m∈aC){w j:Nat}{T:List (List Nat)}{l:List Nat}(h:RT (ae m) w T)(hl:l.length=w):RT (ae m) w (gM m T l j):=λr hr=>by
 obtain⟨r,h1,rfl⟩:=bO.mp hr
 obtain⟨a,b⟩:=h r h1
 exact⟨by rw[kA,a,hl,yn],Cr λx hx y hy=>(mG hm (b x hx) (bY hm _ y)).2.1⟩
noncomputable def dW(m:Bool × Nat)(T:List (List Nat))(i p:Nat):List Nat:=(T.getD i []).map (gm m (jR m ((T.getD i []).getD p 0)))
noncomputable def iz(m:Bool × Nat)(s:List (List Nat) × List (List Nat))(p:Nat):List (List Nat) × List (List Nat):=match jQ s.2 p with
 | none=>s
 | some i=>(gM m s.1 (dW m s.2 i p) p++[dW m s.2 i p],gM m (s.2.take i++s.2.drop (i+1)) (dW m s.2 i p) p)
noncomputable def jw(m:Bool × Nat)(G:List (List Nat))(k:Nat):List (List Nat) × List (List Nat):=(aM k).foldl (iz m) ([],G)
noncomputable def bH(m:Bool × Nat)(G:List (List Nat)):List (List Nat):=(jw m G (ai G)).1
theorem Ht(m:Bool × Nat)(G:List (List Nat))(k:Nat):jw m G (k+1)=iz m (jw m G k) k:=by
 unfold jw
 rw[PM,A7];rfl
theorem Cw{T:List (List Nat)}{j i:Nat}(h:jQ T j=some i):∃hi:i<T.length,T[i].getD j 0≠0/\T.getD i []=T[i]:=by
 obtain⟨hi,h1,_⟩:=Y3.mp h
 exact⟨hi,by simpa using h1,by rw[aK,aL hi];rfl⟩
structure zW(N w n:Nat)(s:List (List Nat) × List (List Nat)):Prop where
 a:RT N w s.1
 b:RT N w s.2
 l:s.1.length+s.2.length<=n
theorem cf0{m:Bool × Nat}(hm:m∈aC){w n p:Nat}{s:List (List Nat) × List (List Nat)}(h:zW (ae m) w n s):zW (ae m) w n (iz m s p):=by
 unfold iz
 split
 ·exact h
 ·rename_i i e
  obtain⟨hi,h1,h2⟩:=Cw e
  have hl:(dW m s.2 i p).length=w:=by unfold dW;rw[bG,h2];exact(h.b _ (dv hi)).1
  have hr:RT (ae m) w [dW m s.2 i p]:=λr hr=>by
   rw[e5]at hr
   refine⟨by rw[hr];exact hl,λx hx=>?_⟩
   rw[hr]at hx
   obtain⟨y,_,rfl⟩:=bO.mp hx
   exact bY hm _ _
  refine⟨(TN hm h.a hl).app hr,TN hm (λr hr=>h.b r ?_) hl,?_⟩
  ·rcases cJ.mp hr with hr | hr
   ·exact pJ hr
   ·exact pI hr
  ·have:=h.l
   unfold gM
   rw[fN,bG,bG,fN,eZ,iD]
   show s.1.length+1+_<=n
   omega
theorem zX{m:Bool × Nat}(hm:m∈aC){w:Nat}{G:List (List Nat)}(h:RT (ae m) w G):∀k,zW (ae m) w G.length (jw m G k)
 | 0=>⟨(λr hr=>nomatch hr),h,AM (Nat.zero_add _)⟩
 | k+1=>by rw[Ht];exact cf0 hm (zX hm h k)
theorem b82(j:Nat)(l:List Nat):decide ((j:Int)∈l.map λ(n:Nat)=>(n:Int))=l.contains j:=by
 rw[sH,decide_eq_true_iff,ET,bO]
 exact⟨λ⟨a,h,e⟩=>(show a=j by omega) ▸ h,λh=>⟨j,h,rfl⟩⟩
theorem cq7{o:Bool}{G:List (List Nat)}{f:List Nat->Nat}{k:Nat}{d:D}(h:(dP (ak (G.map f)) (aB o G))[k]?=some d):∃hk:k<G.length,d=.tup [.int ((f G[k]:Nat):Int),.lst o (ak G[k])]:=by
 unfold dP aB at h
 rw[cu,sJ,bZ,bZ,bZ]at h
 by_cases hk:k<G.length
 ·rw[aL hk]at h
  exact⟨hk,(cW h).symm⟩
 ·rw[fF (by omega)]at h;cases h
theorem Hu{α:Type}(a:α->Nat)(b:α->Nat):∀(l:List α) (x:List Nat),(l.foldl (λx z=>x.set (a z) (b z)) x).length=x.length
 | [],_=>rfl
 | z::l,x=>by rw[yi,Hu a b l,i7]
end L3
namespace L2
open PySem PySem.Spec PyProof.Rows
theorem bQ6{M:Model}{A:Around}{E:Value->Shared->Prop}{s:Shared}{scope:Scope}{globals:Addr}{cl:List (Str × Addr)}{qual:Str}{env:Env}{bi:Addr}{Q:Env->Shared->Prop}
  (hQ:Q (newEnv scope s.heap.objs.size globals (cellsFrom (s.heap.objs.size+1) scope.names cl) qual none .none (some env) bi) { s with heap:=pushCells (s.heap.push { cls:=.type "dict",data:=.dict #[] }) scope.names }) :
  wpAny M A (newFunctionEnv scope globals cl [] qual none .none (some env) bi) Q E s:=by
 simp only[newFunctionEnv,Option.isSome_some,if_true]
 refine wpAny_bind (wpAny_alloc (wpAny_bind (wpAny_layCells _ (λname kind cells=>by cases e:kind==EU<;>simp[e]) _ _ _ _ ?_)))
 rw[List.forIn_nil]
 refine wpAny_bind (wpAny_pure (wpAny_pure ?_))
 have z:({ s with heap:=s.heap.push { cls:=.type "dict",data:=.dict #[] } }:Shared).heap.objs.size=s.heap.objs.size+1:=yg ..
 rw[z]
 exact hQ
theorem zY:∀(ns:List (Str × NameKind)) (n:Nat) (acc:List (Str × Addr)) (y:Str) (c:Addr),(cellsFrom n ns acc).lookup y=some c->(n<=c/\(y,EU)∈ns)\/acc.lookup y=some c
 | [],_,_,_,_,h=>.inr h
 | (z,k)::r,n,acc,y,c,h=>by
  unfold cellsFrom at h
  split at h
  ·rename_i hk
   rcases zY r (n+1) _ y c h with⟨h1,h2⟩ | h1
   ·exact .inl ⟨by omega,eJ _ h2⟩
   ·rw[gD]at h1
    cases q:y==z with
    | true =>
     rw[q]at h1;cases h1
     exact .inl ⟨bP _,by rw[eq_of_beq q,eq_of_beq hk];exact gS⟩
    | false=>rw[q]at h1;exact .inr h1
  ·rcases zY r n acc y c h with⟨h1,h2⟩ | h1
   ·exact .inl ⟨h1,eJ _ h2⟩
   ·exact .inr h1
theorem Hv:∀(ns:List (Str × NameKind)) (n:Nat) (acc:List (Str × Addr)),(∀y z c,acc.lookup y=some c->acc.lookup z=some c->y=z)->(∀y c,acc.lookup y=some c->c<n) ->
  ∀y z c,(cellsFrom n ns acc).lookup y=some c->(cellsFrom n ns acc).lookup z=some c->y=z
 | [],_,_,i,_,y,z,c,h1,h2=>i y z c h1 h2
 | (u,k)::r,n,acc,i,b,y,z,c,h1,h2=>by
  unfold cellsFrom at h1 h2
  split at h1
  ·rw[if_pos (by assumption)]at h2
   refine Hv r (n+1) ((u,n)::acc) (λy z c e1 e2=>?_) (λy c e=>?_) y z c h1 h2
   ·rw[gD]at e1 e2
    cases q1:y==u with
    | true =>
     rw[q1]at e1;cases e1
     cases q2:z==u with
     | true=>rw[eq_of_beq q1,eq_of_beq q2]
     | false=>rw[q2]at e2;exact absurd (b _ _ e2) (fV _)
    | false =>
     rw[q1]at e1
     cases q2:z==u with
     | true=>rw[q2]at e2;cases e2;exact absurd (b _ _ e1) (fV _)
     | false=>rw[q2]at e2;exact i y z c e1 e2
   ·rw[gD]at e
    cases q:y==u with
    | true=>rw[q]at e;cases e;exact yh _
    | false=>rw[q]at e;exact Nat.lt_succ_of_lt (b _ _ e)
  ·rw[if_neg (by assumption)]at h2
   exact Hv r n acc i b y z c h1 h2
theorem Hw:∀(ns:List (Str × NameKind)) (n:Nat) (acc:List (Str × Addr)) (y:Str) (c:Addr),(y,EU)∈ns->(cellsFrom n ns acc).lookup y=some c->n<=c
 | [],_,_,_,_,m,_=>nomatch m
 | (z,k)::r,n,acc,y,c,m,h=>by
  unfold cellsFrom at h
  split at h
  ·rename_i hk
   rcases cA.mp m with e | m
   ·have e1:y=z:=(Prod.mk.inj e).1
    rcases zY r (n+1) _ y c h with⟨h1,_⟩ | h1
    ·exact A8 h1
    ·rw[gD,e1,beq_self_eq_true]at h1
     exact AM (cW h1)
   ·exact A8 (Hw r (n+1) _ y c m h)
  ·rename_i hk
   rcases cA.mp m with e | m
   ·cases e;exact absurd rfl hk
   ·exact Hw r n acc y c m h
noncomputable def dX(X:Cx)(scope:Scope)(N:List Str)(cl:List (Str × Addr))(C:Addr)(s:Shared)(H:Hp)(fp:List Addr):Cx :=
 { BA X scope N (cellsFrom (C+1) scope.names cl) C s H fp with fn:=λy=>scope.names.contains (y,EU) }
section
variable{X:Cx}{scope:Scope}{cl:List (Str × Addr)}
theorem ce5{pins:List (Addr × Obj)}{σ:St}{H:Hp}{s:Shared}{fp:List Addr}{C:Addr}(I:Inv X pins σ H s)(jj:scope.kind=.function)(hC:s.heap.objs.size<=C)
  (g8:∀y c,cl.lookup y=some c->X.env.cells.lookup y=some c) (dr3:∀y,((relabel scope X.env).names.lookup y=some .cell\/(relabel scope X.env).names.lookup y=some .free)->∃c,(cellsFrom (C+1) scope.names cl).lookup y=some c)
  (hf:∀b∈fp,jg X pins H b) (ho:∀b∈fp,∃o,s.heap.get? b=some o/\∀v,o.data≠.cell v) (N:List Str):(dX X scope N cl C s H fp).Ok where
 mod:=I.ok.mod
 kind:=jj
 glob:=I.ok.glob
 blt:=I.ok.blt
 above:=hC
 inj:=Hv scope.names (C+1) cl (λy z c h1 h2=>I.ok.inj y z c (g8 _ _ h1) (g8 _ _ h2)) λy c e=>by
  obtain⟨v,o,ho,_⟩:=I.cell y c (g8 y c e)
  exact Nat.lt_succ_of_le (uO (cS (bX ho) hC))
 has:=dr3
 sR:=λy c h e=>fi hC (A8 (Hw _ _ _ y c (ET.mp h) e))
 hd:=I.ok.hd
 frames:=I.ok.frames
 yz:=.inl rfl
 yA:=λb hb=>⟨by
  obtain⟨o,e,_⟩:=ho b hb
  exact eI (cS (bX e) hC),λy c e z=>by
  rcases zY _ _ _ y c e with⟨h1,_⟩ | h1
  ·obtain⟨o,e,_⟩:=ho b hb
   rw[z]at h1
   exact absurd (cS (bX e) (fi hC (A8 h1))) (fV _)
  ·exact(hf b hb).2.2.2.2.1 y c (g8 _ _ h1) z⟩
 bs:=I.bs
 jc:=fi I.ok.jc I.sz
 vh:=λb o e hb=>by
  rcases(hf b hb).2.2.2.1 with z | z
  ·exact I.ok.vh b o e z
  ·exact absurd (cS (bX (I.ok.bs b o e).1) z) (fV _)
 vi:=λb hb z=>(cA.mp (I.yC b z)).elim (hf b hb).2.1 (hf b hb).2.2.1
 gF:=I.stack
 jB:=I.Bd
end
theorem Hx:∀(ns:List (Str × NameKind)) (h:Heap) (acc:List (Str × Addr)) (y:Str) (c:Addr),(cellsFrom h.objs.size ns acc).lookup y=some c->(∃o,(pushCells h ns).get? c=some o/\o.data=.cell none)\/acc.lookup y=some c
 | [],_,_,_,_,e=>.inr e
 | (z,k)::r,h,acc,y,c,e=>by
  unfold cellsFrom at e
  unfold pushCells
  split at e
  ·rename_i hk
   rw[if_pos hk]
   rw[<-yg h { cls:=.type "cell",data:=.cell none }]at e
   rcases Hx r _ _ y c e with h1 | h1
   ·exact .inl h1
   ·rw[gD]at h1
    cases q:y==z with
    | true =>
     rw[q]at h1;cases h1
     exact .inl ⟨_,pushCells_keeps _ _ _ _ (hW _ rfl),rfl⟩
    | false=>rw[q]at h1;exact .inr h1
  ·rename_i hk
   rw[if_neg hk]
   exact Hx r h acc y c e
end L2
namespace L2
open PySem PySem.Spec PyProof.Rows
section
variable{X:Cx}{elt iter tg:Expr}{pos:Pos}{ifs:List Expr}{scope:Scope}{cl:List (Str × Addr)}{wi:TI}{tt:TT}{te:TE}{g:TG}
theorem TQ(aD:List (Str × Nat))(cj:List Str)(hc:X.calm=true)(hi:PI X tg iter wi)
  (hg:∀C s H fp,PG (dX X scope (aD.map (·.1)++cj) cl C s H fp) tg g)
  (ht:∀C s H fp,nz (dX X scope (aD.map (·.1)++cj) cl C s H fp) ifs tt) (he:∀C s H fp,PE (dX X scope (aD.map (·.1)++cj) cl C s H fp) elt te)
  (oK:closureFor scope X.env=pure cl) (oM:nB X cl) (oN:∀C:Addr,nC (cellsFrom (C+1) scope.names cl) (relabel scope X.env).names) (oO:∀C:Addr,nv X scope (cellsFrom (C+1) scope.names cl) aD)
  (jj:scope.kind=.function) (oQ:∀y∈scope.names,y.2=.local->scope.names.lookup y.1=some .local)
  (hs:∀x,foldedSetIterable iter X.env x=pure x:=by intro _;rfl) {pins:List (Addr × Obj)} {s:Shared} {σ:L2.St} {H:Hp} {Q:VK} {use:Option (Value->Sem Unit)} {cN:Pos} {Rf:Value->Shared->Prop} (I:Inv X pins σ H s) (h:BB wi aD cj.length g tt te σ H Q)
  (dr4:∀(s':Shared) (H':Hp) (C Da:Addr) (m:Str->Option Value),Inv X pins σ H' s'->s'.heap.Ns C m->H' C=none->C≠X.env.locals->X.cL.heap.objs.size<=C->(∀x c,X.env.cells.lookup x=some c->c≠C)->(∀p∈X.pn++pins,p.1≠C)->C ∉ X.fs->Q (.ref Da) H' ->
   compPost (model X.prog X.w) X.A X.xe use Rf (.ref Da) C (.ok .next) s') :
  wpAny (model X.prog X.w) X.A (comprehension (.ListComp elt [⟨tg,iter,ifs,0⟩] scope pos) scope X.env cN (newList []) false (eval iter X.env) use) Rf X.xe s:=by
 have g8:=oM.all
 refine wpAny_comprehension_free (use:=use) rfl hs oK jj oQ (aO (hi pins s σ H _ I h) λv s1 h1=>aO h1 λFf s2 h2=>?_)
 obtain⟨it,fp,tn,J,H2,e,I2,T,yJ,f2,q⟩:=h2
 subst e
 refine wpAny_newList ?_
 refine bQ6 ?_
 have hD:H2 s2.heap.objs.size=none:=I2.aH.fresh (bP _)
 obtain⟨W,⟨m0,w0⟩,turn⟩:=q s2.heap.objs.size hD
 generalize Hy:s2.heap.push { cls:=.type "list",data:=.seq ([]:List Value).toArray }=g0 at ⊢
 have hCs:g0.objs.size=s2.heap.objs.size+1:=by rw[<-Hy,yg]
 have hDC:s2.heap.objs.size≠g0.objs.size:=by omega
 have hle:s2.heap.objs.size<=g0.objs.size:=by omega
 have vk:∀b o,s2.heap.get? b=some o->b≠g0.objs.size:=λb o e=>eI (cS (bX e) hle)
 obtain⟨g1,Cy⟩:∃g1,g1=pushCells (g0.push { cls:=.type "dict",data:=.dict #[] }) scope.names:=⟨_,rfl⟩
 have ns1:g1.Ns g0.objs.size (λ_=>none):=by rw[Cy];exact(Heap.Ns.new g0 (.type "dict")).keeps (pushCells_keeps _ _)
 have TR:∀b o,g0.get? b=some o->g1.get? b=some o:=λb o e=>by rw[Cy];exact pushCells_keeps _ _ b o (fj _ e)
 have old:∀b o,s2.heap.get? b=some o->g1.get? b=some o:=λb o e=>TR b o (Hy ▸ fj _ e)
 rw[<-Cy]
 have hDg:g1.get? s2.heap.objs.size=some { cls:=.type "list",data:=.seq ([]:List Value).toArray }:=TR _ _ (Hy ▸ hW _ rfl)
 have TU:∀b∈fp,∃o,s2.heap.get? b=some o/\∀v,o.data≠.cell v:=T.obj _ _ yJ
 have Cz:=ce5 (scope:=scope) (cl:=cl) (C:=g0.objs.size) I2 jj hle g8 (oN g0.objs.size).all f2 TU (aD.map (·.1)++cj)
 have I4:Inv (dX X scope (aD.map (·.1)++cj) cl g0.objs.size s2 H2 fp) [] (ig aD cj.length σ) (upd H2 s2.heap.objs.size (.lst [])) { s2 with heap:=g1 }:=by
  refine⟨Cz,rfl,I2.bare,Un.laid old (bP _) hD,⟨_,ns1,λi y v h1 h2 h3=>?_⟩,λy c e=>?_,?_,λy c e=>?_,λp hp=>absurd hp (by simp[dX,BA]),I2.aH.laid old (bP _) ⟨jX _,[],0,.nil,hDg⟩,by simp[ig,dX,BA]⟩
  ·by_cases Hz:i<aD.length
   case neg =>
    have jG:((aD.map λp=>(σ[p.2]?).getD none)++br cj.length none)[i]?=some (some v):=h2
    rw[sA (by simpa using Hz),AQ]at jG
    split at jG<;>cases jG
   case pos =>
    have kb:(aD.map (·.1))[i]?=some y:=by
     have z:(aD.map (·.1)++cj)[i]?=some y:=h1
     rwa [uU (by simpa using Hz)]at z
    have jG:(aD.map λp=>(σ[p.2]?).getD none)[i]?=some (some v):=by
     have z:((aD.map λp=>(σ[p.2]?).getD none)++br cj.length none)[i]?=some (some v):=h2
     rwa [uU (by simpa using Hz)]at z
    rw[bZ]at kb jG
    cases hj:aD[i]? with
    | none=>rw[hj]at kb;cases kb
    | some p =>
     rw[hj]at kb jG
     have ey:p.1=y:=cW kb
     have ev:(σ[p.2]?).getD none=some v:=cW jG
     obtain⟨hN,hk,mJ,c,e1,e2⟩:=(oO g0.objs.size).at p (uV hj)
     obtain⟨m,hn,hl⟩:=I2.loc
     have es:σ[p.2]?=some (some v):=by
      cases z:σ[p.2]? with
      | none=>rw[z]at ev;cases ev
      | some o=>rw[z]at ev;exact congrArg some ev
     obtain⟨u,ru,lk⟩:=hl p.2 p.1 v hN es (hk.elim (λz=>.inr (.inl z)) λz=>.inr (.inr z))
     refine⟨u,ru,?_⟩
     rcases lk with⟨lk,_⟩ | ⟨_,c',e3,ic⟩
     ·rcases hk with hk | hk
      ·have:=hk.symm.trans lk;cases this
      ·have:=hk.symm.trans lk;cases this
     ·rw[e2]at e3
      cases e3
      subst ey
      obtain⟨oc,jf,G5⟩:=ic
      exact .inr ⟨mJ,c,e1,oc,old _ _ jf,G5⟩
  ·rcases Hx _ _ _ y c (show(cellsFrom (g0.push { cls:=.type "dict",data:=.dict #[] }).objs.size scope.names cl).lookup y=some c by rw[yg];exact e)with h1 | h1
   ·rw[<-Cy]at h1
    exact⟨none,h1⟩
   ·obtain⟨v,o,ho,hd⟩:=I2.cell y c (g8 y c h1)
    exact⟨v,o,old _ _ ho,hd⟩
  ·show upd H2 _ _ g0.objs.size=none
   rw[bb (eK hDC)]
   exact I2.aH.fresh hle
  ·rcases zY _ _ _ y c e with⟨h1,_⟩ | h1
   ·rw[bb (Pg (pq hle h1))]
    exact I2.aH.fresh (fi hle (A8 h1))
   ·obtain⟨v,o,ho,hd⟩:=I2.cell y c (g8 y c h1)
    rw[bb (eI (bX ho))]
    exact I2.je y c (g8 y c h1)
 have fin:∀(s':Shared) (H':Hp) (aF:L2.St),Inv (dX X scope (aD.map (·.1)++cj) cl g0.objs.size s2 H2 fp) [] aF H' s'->Q (.ref s2.heap.objs.size) H' ->
   compPost (model X.prog X.w) X.A X.xe use Rf (.ref s2.heap.objs.size) g0.objs.size (.ok .next) s':=by
  intro s' H' aF I' q'
  obtain⟨m,hn,_⟩:=I'.loc
  have u:=I'.base
  have hC':H' g0.objs.size=none:=I'.free
  have IX:Inv X pins σ H' s':=I2.Zx (s':=s') (ch:=fp) I'.os ⟨u.keep,u.slot,u.free,u.there,u.gW,u.gE,u.fO⟩ I'.aH I'.bare λb hb=>by
   obtain⟨_,y1,y2,y3,y4,y5⟩:=f2 b hb
   exact⟨y3,y1,y4,y5⟩
  have TV:∀b,(∃o,s2.heap.get? b=some o)->b≠g0.objs.size:=λb ⟨o,e⟩=>vk b o e
  refine dr4 s' H' g0.objs.size s2.heap.objs.size m IX hn hC' (λz=>?_) (fi I2.sz hle) (λx c e z=>?_) (λp hp z=>?_) (λz=>?_) q'
  ·have h0:X.env.locals<s2.heap.objs.size:=I2.lt
   rw[<-z]at h0
   exact fV _ (cS h0 hle)
  ·obtain⟨v,o,ho,_⟩:=I2.cell x c e
   exact TV c ⟨o,ho⟩ z
  ·exact TV p.1 ⟨_,(I2.pin p hp).1⟩ z
  ·exact I2.P0 hle z
 have HA:∀(H':Hp),(∀b∈fp,H' b=none)->∀b∈fp,jg (dX X scope (aD.map (·.1)++cj) cl g0.objs.size s2 H2 fp) [] H' b:=λH' hn b hb =>
  ⟨hn b hb,(Cz.yA b hb).1,Cz.vi b hb,.inl hb,(Cz.yA b hb).2,λp hp=>absurd hp (by simp[dX,BA])⟩
 have loop:codeAny (model X.prog X.w) X.A (.compLoop (.ListComp elt [⟨tg,iter,ifs,0⟩] scope pos) 0 (.ref it) (.ref s2.heap.objs.size) (compEnvC scope (cellsFrom (g0.objs.size+1) scope.names cl) g0.objs.size X.env))
   (compPost (model X.prog X.w) X.A X.xe use Rf (.ref s2.heap.objs.size) g0.objs.size) { s2 with heap:=g1 }:=by
  refine bD0 (λn s'=>∃i acc H',Inv (dX X scope (aD.map (·.1)++cj) cl g0.objs.size s2 H2 fp) [] (ig aD cj.length σ) H' s'/\tn i s'.heap/\(∀b∈fp,H' b=none)/\W i n acc H') ?_ m0
   ⟨0,[],_,I4,T.keep _ _ _ yJ λb hb o e=>old b o e,λb hb=>?_,w0⟩
  ·rintro n s' ⟨i,acc,H',I',pQ,Cd,w'⟩
   obtain⟨zh,⟨stop,qn⟩ | ⟨go,step⟩⟩:=turn i n acc H' w'
   ·refine aO (T.done (dX X scope (aD.map (·.1)++cj) cl g0.objs.size s2 H2 fp) rfl rfl rfl hc i [] s' _ H' (λ_ _=>False) I' (HA H' Cd) pQ stop) λr t1 zz=>?_
    obtain⟨hr,I1⟩:=zz
    subst hr
    exact fin _ _ _ I1 qn
   ·refine aO (T.item (dX X scope (aD.map (·.1)++cj) cl g0.objs.size s2 H2 fp) rfl rfl rfl hc i [] s' _ H' (λ_ _=>False) I' (HA H' Cd) pQ go) λr t1 zz=>?_
    obtain⟨u,hr,h4⟩:=zz
    subst hr
    refine aO h4 λ_ t2 zz=>?_
    obtain⟨x5,H5,I5,r5,y5,sT,Fj⟩:=zz
    obtain⟨BP,st6⟩:=step x5 H5 y5
    have Fl:=I5.pinned (HA H5 Fj) (T.obj _ _ sT)
    refine aO (hg _ _ _ _ _ t2 _ H5 x5 u _ Fl r5 st6) λ_ t3 zz=>?_
    obtain⟨Fm,H6,I6,⟨ds0,ds1⟩,st7⟩:=zz
    have back:∀(s7:Shared) (H7:Hp) (HB:List V) (m7:Nat),Inv (dX X scope (aD.map (·.1)++cj) cl g0.objs.size s2 H2 fp) ([]++yH fp t2.heap) Fm H7 s7->W (i+1) m7 HB H7 ->
      ∃i acc H',Inv (dX X scope (aD.map (·.1)++cj) cl g0.objs.size s2 H2 fp) [] (ig aD cj.length σ) H' s7/\tn i s7.heap/\(∀b∈fp,H' b=none)/\W i m7 acc H':=λs7 H7 HB m7 I7 w7 =>
     ⟨i+1,HB,H7,(I7.yI).weak ds0.symm λj v z=>by
       by_cases hj:j<aD.length
       ·rw[ds1 j hj];exact z
       ·have z':((aD.map λp=>(σ[p.2]?).getD none)++br cj.length none)[j]?=some (some v):=z
        rw[sA (by simpa using hj),AQ]at z'
        split at z'<;>(cases z'),
      T.keep _ _ _ sT λb hb o e=>(I7.pin (b,o) (dY _ (dY _ (Bo hb e)))).1,λb hb=>by
       obtain⟨o,e,d⟩:=T.obj _ _ sT b hb
       exact(I7.pin (b,o) (dY _ (dY _ (Bo hb e)))).2.1,w7⟩
    refine aO (ht _ _ _ _ _ t3 _ H6 _ I6 st7) λok t4 zz=>?_
    obtain⟨H7,I7,hD7,q7⟩:=zz
    cases ok with
    | false =>
     obtain⟨m',hm,w7⟩:=(show ∃m',m'<n/\W (i+1) m' acc H7 from q7)
     exact⟨m',hm,back t4 H7 acc m' I7 w7⟩
    | true =>
     refine aO (he _ _ _ _ _ t4 _ H7 _ I7 q7) λy t5 zz=>?_
     obtain⟨v8,H8,I8,r8,hD8,hl8,m',hm,w8⟩:=zz
     exact aO (QM _ t5 _ H8 (.ref s2.heap.objs.size) [v8] (.ref s2.heap.objs.size) [y] (λ_ H9=>H9=upd H8 s2.heap.objs.size (.lst (acc++[v8]))) I8 rfl (.cons r8 .nil) ⟨_,acc,v8,rfl,rfl,hD8,hl8,rfl⟩) λ_ t6 zz=>by
      obtain⟨_,H9,I9,_,e9⟩:=zz
      subst e9
      exact⟨m',hm,back t6 _ _ m' I9 w8⟩
  ·obtain⟨o,e,_⟩:=TU b hb
   rw[bb (eI (bX e))]
   exact(f2 b hb).1
 exact codeAny_compStart_list loop (T.self _ 0 _ _ _ (T.keep _ _ _ yJ λb hb o e=>old b o e) loop)
theorem b78(aD:List (Str × Nat))(cj:List Str)(hc:X.calm=true)(hi:PI X tg iter wi)
  (hg:∀C s H fp,PG (dX X scope (aD.map (·.1)++cj) cl C s H fp) tg g)
  (ht:∀C s H fp,nz (dX X scope (aD.map (·.1)++cj) cl C s H fp) ifs tt) (he:∀C s H fp,PE (dX X scope (aD.map (·.1)++cj) cl C s H fp) elt te)
  (oK:closureFor scope X.env=pure cl) (oM:nB X cl) (oN:∀C:Addr,nC (cellsFrom (C+1) scope.names cl) (relabel scope X.env).names) (oO:∀C:Addr,nv X scope (cellsFrom (C+1) scope.names cl) aD)
  (jj:scope.kind=.function) (oQ:∀y∈scope.names,y.2=.local->scope.names.lookup y.1=some .local)
  (hs:∀x,foldedSetIterable iter X.env x=pure x:=by intro _;rfl):PE X (.ListComp elt [⟨tg,iter,ifs,0⟩] scope pos) (BB wi aD cj.length g tt te):=by
 intro pins s σ H Q I h
 rw[eval_ListComp]
 refine TQ aD cj hc hi hg ht he oK oM oN oO jj oQ hs I h λs' H' C Da m IX hn hC hL h1 h2 h3 h4 q'=>?_
 exact⟨m,hn,λh' sb=>⟨.ref Da,H',IX.turned (t':=s'.toks) (λb o hb e=>sb.extBut b o hb e) hC hL (.inr h1) h2 h3,rfl,q'⟩⟩
theorem b84{i:Nat}{x:Str}{pos' apos:Pos}(hN:X.N.Nodup)(rj:X.N[i]?=some x)(hx:Loc X.env.scope x)(hf:X.fn x=true\/X.env.scope.names.lookup x=some .local)(aD:List (Str × Nat))(cj:List Str)(hc:X.calm=true)(hi:PI X tg iter wi)
  (hg:∀C s H fp,PG (dX X scope (aD.map (·.1)++cj) cl C s H fp) tg g)
  (ht:∀C s H fp,nz (dX X scope (aD.map (·.1)++cj) cl C s H fp) ifs tt) (he:∀C s H fp,PE (dX X scope (aD.map (·.1)++cj) cl C s H fp) elt te)
  (oK:closureFor scope X.env=pure cl) (oM:nB X cl) (oN:∀C:Addr,nC (cellsFrom (C+1) scope.names cl) (relabel scope X.env).names) (oO:∀C:Addr,nv X scope (cellsFrom (C+1) scope.names cl) aD)
  (jj:scope.kind=.function) (oQ:∀y∈scope.names,y.2=.local->scope.names.lookup y.1=some .local)
  (zw:swapsWith (.ListComp elt [⟨tg,iter,ifs,0⟩] scope pos) (some (.Name x pos')) apos.line X.env=pure true) (hs:∀x,foldedSetIterable iter X.env x=pure x:=by intro _;rfl):PS X (.Assign [.Name x pos'] (.ListComp elt [⟨tg,iter,ifs,0⟩] scope pos) apos) (Fe (BB wi aD cj.length g tt te) (Bj i)):=by
 intro pins s σ H D I h
 rw[exec_Assign_Name_used x pos' _ apos zw]
 refine wpAny_bind (wpAny_standAt (wpAny_bind ?_))
 have hh:BB wi aD cj.length g tt te σ H λv H1=>D.nx (σ.set i (some v)) H1:=h
 show wpAny _ _ (comprehension (.ListComp elt [⟨tg,iter,ifs,0⟩] scope pos) scope X.env (firstIterPos [⟨tg,iter,ifs,0⟩] pos) (newList []) false (eval iter X.env) (some (assign (.Name x pos') X.env)) >>= λ_=>pure ()) _ _ _
 refine wpAny_bind (TQ (use:=some (assign (.Name x pos') X.env)) (pos:=pos) aD cj hc hi hg ht he oK oM oN oO jj oQ hs I hh λs' H' C Da m IX hn hC hL h1 h2 h3 h4 q'=>?_)
 obtain⟨oC,es,ep,hoC,TX,eM⟩:=id hn
 have IP:Inv X (pins++[(C,oC)]) σ H' s':=⟨IX.ok,IX.os,IX.bare,IX.base,IX.loc,IX.cell,IX.free,IX.je,λp hp=>by
  rcases cJ.mp hp with z | z
  ·exact IX.pin p (fW _ z)
  ·rcases cJ.mp z with z | z
   ·exact IX.pin p (dY _ z)
   ·obtain rfl:=e5.mp z
    exact⟨hoC,hC,hL,h4,λv w=>by rw[TX]at w;cases w⟩,IX.aH,IX.len⟩
 refine aO (Bk (X:=X) hN rj hx hf _ s' σ H' (.ref Da) (.ref Da) (λlW H2=>lW=σ.set i (some (.ref Da))/\H2=H') IP rfl ⟨rfl,rfl⟩) λ_ s2 zz=>?_
 obtain⟨lW,H2,I2,e1,e2⟩:=zz
 subst e1 e2
 have pC:=I2.pin (C,oC) (dY _ (dY _ (by simp)))
 refine⟨m,⟨oC,es,ep,pC.1,TX,eM⟩,λh' sb=>wpAny_pure (wpAny_pure ?_)⟩
 exact⟨σ.set i (some (.ref Da)),H2,(I2.yI).turned (t':=s2.toks) (λb o hb e=>sb.extBut b o hb e) hC hL (.inr h1) h2 h3,q'⟩
end
end L2
namespace L3
open PySem L2 PySem.Spec PyProof.Rows
section
variable{X:Cx}{elt iter tg:Expr}{pos:Pos}{ifs:List Expr}{scope:Scope}{cl:List (Str × Addr)}{ti:jo}{tt:fJ}{te:aN}{g:iM}
theorem dq(aD:List (Str × Nat))(cj:List Str)(hc:X.calm=true)(hi:PI X tg iter (lI ti))
  (hg:∀C s H fp,PG (dX X scope (aD.map (·.1)++cj) cl C s H fp) tg (lG aD.length g))
  (ht:∀C s H fp,nz (dX X scope (aD.map (·.1)++cj) cl C s H fp) ifs (lT tt)) (he:∀C s H fp,PE (dX X scope (aD.map (·.1)++cj) cl C s H fp) elt (lE te))
  (oK:closureFor scope X.env=pure cl) (oM:nB X cl) (oN:∀C:Addr,nC (cellsFrom (C+1) scope.names cl) (relabel scope X.env).names) (oO:∀C:Addr,nv X scope (cellsFrom (C+1) scope.names cl) aD)
  (jj:scope.kind=.function) (oQ:∀y∈scope.names,y.2=.local->scope.names.lookup y.1=some .local)
  (hs:∀x,foldedSetIterable iter X.env x=pure x:=by intro _;rfl):PE X (.ListComp elt [⟨tg,iter,ifs,0⟩] scope pos) (lE (nV ti aD cj.length g tt te)) :=
 dn (b78 aD cj hc hi hg ht he oK oM oN oO jj oQ hs) λσ H Q ⟨B,F,δ,ts,Qd,c,q,k⟩=>⟨B,F,δ,ts,_,c,q,λsh xs aj J F1 H1 hq f1 h1 c1 tH ze=>by
  obtain⟨p,f,hx,eP,hlen,hQ⟩:=hq
  exact RQ c1 tH ze p f hx eP hlen hQ λd ah v F' H' hd hf hs c'=>k d ah v F' H' hd (f1.trans hf) (h1.trans hs) c'⟩
theorem CA{i:Nat}{x:Str}{pos' apos:Pos}(hN:X.N.Nodup)(rj:X.N[i]?=some x)(hx:L2.Loc X.env.scope x)(aD:List (Str × Nat))(cj:List Str)(hc:X.calm=true)(hi:PI X tg iter (lI ti))
  (hg:∀C s H fp,PG (dX X scope (aD.map (·.1)++cj) cl C s H fp) tg (lG aD.length g))
  (ht:∀C s H fp,nz (dX X scope (aD.map (·.1)++cj) cl C s H fp) ifs (lT tt)) (he:∀C s H fp,PE (dX X scope (aD.map (·.1)++cj) cl C s H fp) elt (lE te))
  (oK:closureFor scope X.env=pure cl) (oM:nB X cl) (oN:∀C:Addr,nC (cellsFrom (C+1) scope.names cl) (relabel scope X.env).names) (oO:∀C:Addr,nv X scope (cellsFrom (C+1) scope.names cl) aD)
  (jj:scope.kind=.function) (oQ:∀y∈scope.names,y.2=.local->scope.names.lookup y.1=some .local)
  (zw:swapsWith (.ListComp elt [⟨tg,iter,ifs,0⟩] scope pos) (some (.Name x pos')) apos.line X.env=pure true:=by rfl) (hf:X.fn x=true\/X.env.scope.names.lookup x=some .local:=by first | exact .inl rfl | exact .inr rfl)
  (hs:∀x,foldedSetIterable iter X.env x=pure x:=by intro _;rfl):PS X (.Assign [.Name x pos'] (.ListComp elt [⟨tg,iter,ifs,0⟩] scope pos) apos) (lS X (nQ i (nV ti aD cj.length g tt te))) :=
 nG (b84 hN rj hx hf aD cj hc hi hg ht he oK oM oN oO jj oQ zw hs) λEn σ H ⟨B,F,δ,Dd,c,q,k1,k2,k3,k4⟩=>⟨B,F,δ,[],_,c,q,λsh xs aj J F1 H1 hq f1 h1 c1 tH ze=>by
  obtain⟨p,f,hx,eP,hlen,hQ⟩:=hq
  exact RQ (Qd:=λd ah=>Dd.nx (ah.set i (some d))) c1 tH ze p f hx eP hlen hQ λd ah v F' H' hd hf hs c'=>k1 _ _ F' H' hd (c'.store i)⟩
end
end L3
namespace L3
open PySem L2 Mf
theorem lo1{m:Bool × Nat}(hm:m∈aC):1<ae m:=by have:=(da hm).lo;omega
inductive Sp(N:Nat)(p q:Nat->Nat->Nat)(S:(Nat->Nat)->Prop):(Nat->Nat)->Prop
 | mem {f:Nat->Nat}:S f->Sp N p q S f
 | zero:Sp N p q S λ_=>0
 | add {f g:Nat->Nat}:Sp N p q S f->Sp N p q S g->Sp N p q S λk=>p (f k) (g k)
 | mul {f:Nat->Nat} (c:Nat):c<N->Sp N p q S f->Sp N p q S λk=>q c (f k)
theorem Sp.trans{N:Nat}{p q:Nat->Nat->Nat}{S S':(Nat->Nat)->Prop}(h:∀f,S f->Sp N p q S' f){f:Nat->Nat}(s:Sp N p q S f):Sp N p q S' f:=by
 induction s with
 | mem a=>exact h _ a
 | zero=>exact .zero
 | add _ _ a b=>exact .add a b
 | mul c hc _ a=>exact .mul c hc a
theorem Sp.lt{N:Nat}{p q:Nat->Nat->Nat}(r:Rg N p q){S:(Nat->Nat)->Prop}(h:∀f,S f->∀k,f k<N){f:Nat->Nat}(s:Sp N p q S f):∀k,f k<N:=by
 induction s with
 | mem a=>exact h _ a
 | zero=>exact λ_=>r.pos
 | add _ _ a b=>exact λk=>r.lp (a k) (b k)
 | mul c hc _ a=>exact λk=>r.lq _ _
noncomputable def Gn(T:List (List Nat))(f:Nat->Nat):Prop:=∃r∈T,f=cf r
noncomputable def cw(m:Bool × Nat)(T:List (List Nat))(f:Nat->Nat):Prop:=Sp (ae m) (gp m) (gm m) (Gn T) f
theorem Gn.lt{m:Bool × Nat}(hm:m∈aC){w:Nat}{T:List (List Nat)}(h:RT (ae m) w T)(f:Nat->Nat)(g:Gn T f):∀k,f k<ae m:=by
 obtain⟨r,hr,rfl⟩:=g
 exact dA hm (h r hr).2
theorem cw.of{m:Bool × Nat}{T:List (List Nat)}{r:List Nat}(h:r∈T):cw m T (cf r):=.mem ⟨r,h,rfl⟩
theorem cg4{m:Bool × Nat}(hm:m∈aC){a:Nat}(ha:a<ae m){f f' l:Nat->Nat}(hf':∀k,f' k<ae m)(hl:∀k,l k<ae m)(h:∀k,gp m (f' k) (gm m a (l k))=f k):∃b,b<ae m/\f'=λk=>gp m (f k) (gm m b (l k)):=by
 have r:=rg hm
 obtain⟨b,hb,e⟩:=r.ng ha
 refine⟨b,hb,funext λk=>?_⟩
 rw[<-h k,r.pa,r.mc a,r.mc b,<- r.dl,e,r.qz,r.z' (hf' k)]
theorem HC{m:Bool × Nat}(hm:m∈aC){r l:List Nat}{w:Nat}(hr:r.length=w)(hl:l.length=w)(a k:Nat):cf (eE (λx y=>bW m x (gm m a y)) r l) k=bW m (cf r k) (gm m a (cf l k)):=by
 by_cases h:k<w
 ·unfold cf
  rw[aK,sJ,aL (by omega),aL (by omega),aK,aL (by omega),aK,aL (by omega)]
  rfl
 ·rw[kY (by rw[kA];omega),kY (l:=r) (by omega),kY (l:=l) (by omega),iV m _ (cg m hm),Tw]
theorem CB{m:Bool × Nat}(hm:m∈aC){r l:List Nat}{w a:Nat}(hr:r.length=w)(hl:l.length=w)(ar:AllLt (ae m) r)(k:Nat):gp m (cf (eE (λx y=>bW m x (gm m a y)) r l) k) (gm m a (cf l k))=cf r k:=by
 rw[HC hm hr hl]
 exact(mG hm (dA hm ar k) (bY hm _ _)).2.2
theorem HD{m:Bool × Nat}(hm:m∈aC){r l:List Nat}{w:Nat}(hr:r.length=w)(hl:l.length=w)(ar:AllLt (ae m) r)(a k:Nat):cf (eE (λx y=>bW m x (gm m a y)) r l) k<ae m:=by
 rw[HC hm hr hl]
 exact(mG hm (dA hm ar k) (bY hm _ _)).2.1
theorem TY{m:Bool × Nat}(hm:m∈aC){w p i:Nat}{T:List (List Nat)}(hT:RT (ae m) w T)(e:jQ T p=some i):∃(g:List Nat) (c:Nat),g∈T/\T.getD i []=g/\g.length=w/\AllLt (ae m) g/\c<ae m/\gm m c (cf g p)=1/\(dW m T i p).length=w/\AllLt (ae m) (dW m T i p)/\(∀k,cf (dW m T i p) k=gm m c (cf g k))/\cf (dW m T i p) p=1/\∀k,gm m (cf g p) (cf (dW m T i p) k)=cf g k:=by
 obtain⟨hi,h1,h2⟩:=Cw e
 obtain⟨a,b⟩:=hT _ (dv hi)
 have l1:1<ae m:=lo1 hm
 obtain⟨c,hc,CC⟩:=Hr hm l1 (dA hm b p) h1
 have ec:jR m (cf T[i] p)=c:=v7 hm hc CC
 have el:dW m T i p=T[i].map (gm m c):=by unfold dW;rw[h2,<- ec];rfl
 have ek:∀k,cf (dW m T i p) k=gm m c (cf T[i] k):=λk=>by rw[el];exact Cu hm _ _ _
 refine⟨T[i],c,dv hi,h2,a,b,hc,CC,by rw[el,bG,a],λx hx=>?_,ek,by rw[ek];exact CC,λk=>?_⟩
 ·rw[el]at hx
  obtain⟨y,_,rfl⟩:=bO.mp hx
  exact bY hm _ _
 ·rw[ek,<- ju (cg m hm),gz m _ c,CC,kU (dA hm b k)]
theorem TZ{m:Bool × Nat}{s:List (List Nat) × List (List Nat)}{p i:Nat}(e:jQ s.2 p=some i):iz m s p=(gM m s.1 (dW m s.2 i p) p++[dW m s.2 i p],gM m (s.2.take i++s.2.drop (i+1)) (dW m s.2 i p) p):=by unfold iz;rw[e]
theorem T1{m:Bool × Nat}{s:List (List Nat) × List (List Nat)}{p:Nat}(e:jQ s.2 p=none):iz m s p=s:=by unfold iz;rw[e]
theorem CD{α:Type}{T:List α}{i:Nat}{r:α}(h:r∈T.take i++T.drop (i+1)):r∈T:=(cJ.mp h).elim pJ pI
theorem cf9{α:Type}{T:List α}{i:Nat}{r:α}(h:r∈T)(hi:i<T.length):r=T[i]\/r∈T.take i++T.drop (i+1):=by
 obtain⟨j,hj,rfl⟩:=fX h
 rcases Nat.lt_trichotomy j i with h | h | h
 ·exact .inr (cJ.mpr (.inl (List.mem_take_iff_getElem.mpr ⟨j,by omega,rfl⟩)))
 ·subst h;exact .inl rfl
 ·exact .inr (cJ.mpr (.inr (List.mem_drop_iff_getElem.mpr ⟨j-(i+1),by omega,by congr 1;omega⟩)))
theorem bP6{m:Bool × Nat}(hm:m∈aC){w n p:Nat}{s:List (List Nat) × List (List Nat)}(h:zW (ae m) w n s)(f:Nat->Nat):cw m (s.1++s.2) f↔cw m ((iz m s p).1++(iz m s p).2) f:=by
 cases e:jQ s.2 p with
 | none=>rw[T1 e]
 | some i =>
  obtain⟨g,c,g1,g2,g3,g4,c1,c2,l1,l2,l3,l4,l5⟩:=TY hm h.b e
  obtain⟨hi,_,hg⟩:=Cw e
  rw[TZ e]
  generalize dW m s.2 i p=l at l1 l2 l3 l4 l5
  have ll:=dA hm l2
  have row:∀{T:List (List Nat)},RT (ae m) w T->∀r'∈gM m T l p,∃r∈T,∃b,b<ae m/\cf r'=λk=>gp m (cf r k) (gm m b (cf l k)):=λ{T} hT r' aX=>by
   obtain⟨r,hr,rfl⟩:=bO.mp aX
   obtain⟨a1,a2⟩:=hT r hr
   exact⟨r,hr,cg4 hm (dA hm a2 p) (HD hm a1 l1 a2 _) ll (CB hm a1 l1 a2)⟩
  have T2:∀{T:List (List Nat)},RT (ae m) w T->∀r∈T,∃r'∈gM m T l p,cf r=λk=>gp m (cf r' k) (gm m (cf r p) (cf l k)):=λ{T} hT r hr=>by
   obtain⟨a1,a2⟩:=hT r hr
   exact⟨_,bO.mpr ⟨r,hr,rfl⟩,funext λk=>(CB hm a1 l1 a2 k).symm⟩
  have hB:RT (ae m) w (s.2.take i++s.2.drop (i+1)):=λr hr=>h.b r (CD hr)
  constructor
  ·refine Sp.trans ?_
   rintro f ⟨r,hr,rfl⟩
   have hl:cw m ((gM m s.1 l p++[l])++gM m (s.2.take i++s.2.drop (i+1)) l p) (cf l):=cw.of (by simp)
   rcases cJ.mp hr with hr | hr
   ·obtain⟨r',h1,h2⟩:=T2 h.a r hr
    rw[h2]
    exact .add (cw.of (by simp[h1])) (.mul _ (dA hm (h.a r hr).2 p) hl)
   ·rcases cf9 hr hi with e' | aX
    ·have:cf r=λk=>gm m (cf g p) (cf l k):=funext λk=>by rw[l5 k,e',<- hg,g2]
     rw[this]
     exact .mul _ (dA hm g4 p) hl
    ·obtain⟨r',h1,h2⟩:=T2 hB r aX
     rw[h2]
     exact .add (cw.of (by simp[h1])) (.mul _ (dA hm (h.b r hr).2 p) hl)
  ·refine Sp.trans ?_
   rintro f ⟨r,hr,rfl⟩
   have hl:cw m (s.1++s.2) (cf l):=by
    have:cf l=λk=>gm m c (cf g k):=funext l3
    rw[this]
    exact .mul _ c1 (cw.of (dY _ g1))
   rcases cJ.mp hr with hr | hr
   ·rcases cJ.mp hr with hr | hr
    ·obtain⟨r1,h1,b,hb,h2⟩:=row h.a r hr
     rw[h2]
     exact .add (cw.of (fW _ h1)) (.mul _ hb hl)
    ·rw[e5]at hr
     rw[hr];exact hl
   ·obtain⟨r1,h1,b,hb,h2⟩:=row hB r hr
    rw[h2]
    exact .add (cw.of (dY _ (CD h1))) (.mul _ hb hl)
structure RR(w:Nat)(R:List (List Nat))(H:Nat->Nat):Prop where
 u:∀i j,i<R.length->j<R.length->cf (R.getD i []) (H j)=if i=j then 1 else 0
 z:∀i,i<R.length->∀t,t<H i->cf (R.getD i []) t=0
 i:∀i j,i<j->j<R.length->H i<H j
 l:∀i,i<R.length->H i<w
theorem v9{α β:Type}(f:α->β){l:List α}{i:Nat}(h:i<l.length)(a:α)(b:β):(l.map f).getD i b=f (l.getD i a):=by
 rw[aK,bZ,aK,aL h];rfl
theorem bN{α:Type}{l:List α}{i:Nat}(h:i<l.length)(a:α):l.getD i a∈l:=by
 rw[aK,aL h];exact dv h
theorem bJ7{m:Bool × Nat}(hm:m∈aC){w n p:Nat}{s:List (List Nat) × List (List Nat)}(h:zW (ae m) w n s){H:Nat->Nat}(I:RR p s.1 H)(e2:∀r∈s.2,∀t,t<p->cf r t=0):∃H',RR (p+1) (iz m s p).1 H'/\∀r∈(iz m s p).2,∀t,t<p+1->cf r t=0:=by
 cases e:jQ s.2 p with
 | none =>
  rw[T1 e]
  refine⟨H,⟨I.u,I.z,I.i,λi hi=>Nat.lt_succ_of_lt (I.l i hi)⟩,λr hr t ht=>?_⟩
  rcases yu t p with h1 | h1
  ·exact e2 r hr t h1
  ·have:=Y4.mp e r hr
   have z:r.getD p 0=0:=by simpa using this
   rw[show t=p by omega]
   exact z
 | some i0 =>
  obtain⟨g,c,g1,g2,g3,g4,c1,c2,l1,l2,l3,l4,l5⟩:=TY hm h.b e
  rw[TZ e]
  generalize dW m s.2 i0 p=l at l1 l2 l3 l4 l5
  have m0:=cg m hm
  have lz:∀t,t<p->cf l t=0:=λt ht=>by rw[l3,e2 g g1 t ht,iV m _ m0]
  have zZ:∀{r:List Nat},r.length=w->AllLt (ae m) r->(∀t,t<p->cf (eE (λx y=>bW m x (gm m (r.getD p 0) y)) r l) t=cf r t)/\cf (eE (λx y=>bW m x (gm m (r.getD p 0) y)) r l) p=0:=λ{r} a1 a2=>by
   constructor
   ·intro t ht
    have:=CB hm (a:=r.getD p 0) a1 l1 a2 t
    rw[lz t ht,iV m _ m0,oH (HD hm a1 l1 a2 _ _)]at this
    exact this
   ·rw[HC hm a1 l1,l4]
    show bW m (r.getD p 0) (gm m (r.getD p 0) 1)=0
    rw[oE (show r.getD p 0<ae m from dA hm a2 p),Tw]
  have nl:(gM m s.1 l p).length=s.1.length:=by unfold gM;rw[bG]
  have T3:∀i,i<s.1.length->∃r,s.1.getD i []=r/\r.length=w/\AllLt (ae m) r/\(gM m s.1 l p++[l]).getD i []=eE (λx y=>bW m x (gm m (r.getD p 0) y)) r l:=λi hi=>by
   refine⟨_,rfl,(h.a _ (bN hi [])).1,(h.a _ (bN hi [])).2,?_⟩
   rw[aK,uU (by omega),<- aK]
   exact v9 _ hi [] []
  have T4:(gM m s.1 l p++[l]).getD s.1.length []=l:=by
   rw[aK,sA (by omega),nl,EL];rfl
  have le:(gM m s.1 l p++[l]).length=s.1.length+1:=by rw[fN,nl];rfl
  refine⟨λi=>if i<s.1.length then H i else p,⟨λi j hi hj=>?_,λi hi t ht=>?_,λi j z4 hj=>?_,λi hi=>?_⟩,λr hr t ht=>?_⟩
  ·show cf ((gM m s.1 l p++[l]).getD i []) _=_
   dsimp only at hi hj ⊢
   rw[le]at hi hj
   by_cases h1:i<s.1.length
   ·obtain⟨r,r1,r2,r3,r4⟩:=T3 i h1
    rw[r4]
    by_cases h2:j<s.1.length
    ·rw[if_pos h2,(zZ r2 r3).1 _ (I.l j h2),<- r1]
     exact I.u i j h1 h2
    ·rw[if_neg h2,(zZ r2 r3).2,if_neg (by omega)]
   ·have e1:i=s.1.length:=by omega
    rw[e1,T4]
    by_cases h2:j<s.1.length
    ·rw[if_pos h2,lz _ (I.l j h2),if_neg (by omega)]
    ·rw[if_neg h2,l4,if_pos (by omega)]
  ·dsimp only at hi ht ⊢
   rw[le]at hi
   by_cases h1:i<s.1.length
   ·rw[if_pos h1]at ht
    obtain⟨r,r1,r2,r3,r4⟩:=T3 i h1
    rw[r4,(zZ r2 r3).1 _ (by have:=I.l i h1;omega),<- r1]
    exact I.z i h1 t ht
   ·rw[if_neg h1]at ht
    have e1:i=s.1.length:=by omega
    rw[e1,T4];exact lz t ht
  ·dsimp only at hj ⊢
   rw[le]at hj
   rw[if_pos (by omega)]
   by_cases h2:j<s.1.length
   ·rw[if_pos h2];exact I.i i j z4 h2
   ·rw[if_neg h2];exact I.l i (by omega)
  ·dsimp only at hi ⊢
   rw[le]at hi
   split
   ·have:=I.l i (by omega);omega
   ·omega
  ·obtain⟨r1,z5,rfl⟩:=bO.mp hr
   obtain⟨a1,a2⟩:=h.b r1 (CD z5)
   rcases yu t p with h1 | h1
   ·rw[(zZ a1 a2).1 t h1];exact e2 _ (CD z5) t h1
   ·rw[show t=p by omega];exact(zZ a1 a2).2
theorem T5{m:Bool × Nat}(hm:m∈aC){w:Nat}{G:List (List Nat)}(h:RT (ae m) w G):∀k,(∃H,RR k (jw m G k).1 H/\∀r∈(jw m G k).2,∀t,t<k->cf r t=0)/\∀f,cw m G f↔cw m ((jw m G k).1++(jw m G k).2) f
 | 0=>⟨⟨λ_=>0,⟨(λ_ _ h=>nomatch h),(λ_ h=>nomatch h),(λ_ _ _ h=>nomatch h),(λ_ h=>nomatch h)⟩,λr _ t ht=>nomatch ht⟩,λf=>.rfl⟩
 | k+1=>by
  obtain⟨⟨H,h1,h2⟩,h3⟩:=T5 hm h k
  have D:=zX hm h k
  rw[Ht]
  exact⟨bJ7 hm D h1 h2,λf=>(h3 f).trans (bP6 hm D f)⟩
theorem mK{m:Bool × Nat}(hm:m∈aC){G:List (List Nat)}(h:RT (ae m) (ai G) G):(∃H,RR (ai G) (bH m G) H)/\RT (ae m) (ai G) (bH m G)/\(bH m G).length<=G.length/\∀f,cw m G f↔cw m (bH m G) f:=by
 obtain⟨⟨H,h1,h2⟩,h3⟩:=T5 hm h (ai G)
 have D:=zX hm h (ai G)
 refine⟨⟨H,h1⟩,D.a,by have:=D.l;show(jw m G (ai G)).1.length<=_;omega,λf=>(h3 f).trans ⟨Sp.trans ?_,Sp.trans ?_⟩⟩
 ·rintro f ⟨r,hr,rfl⟩
  rcases cJ.mp hr with hr | hr
  ·exact cw.of hr
  ·have:cf r=λ_=>0:=funext λt=>by
    rcases yu t (ai G)with h4 | h4
    ·exact h2 r hr t h4
    ·exact kY (by rw[(D.b r hr).1];exact h4)
   rw[this];exact .zero
 ·rintro f ⟨r,hr,rfl⟩
  exact cw.of (fW _ hr)
theorem lj{N:Nat}{p q:Nat->Nat->Nat}(r:Rg N p q){f:Nat->Nat}{j0:Nat}(hf:f j0<N):∀{n:Nat},j0<n->(∀j,j<n->j≠j0->f j=0)->sm p n f=f j0
 | 0,h,_=>nomatch h
 | n+1,h,hz=>by
  rw[sm]
  by_cases e:j0=n
  ·subst e
   rw[eH r λj hj=>hz j (by omega) (by omega),r.z hf]
  ·rw[lj r hf (by omega) λj hj=>hz j (by omega),hz n (by omega) (by omega),r.z' hf]
theorem RR.own{m:Bool × Nat}(hm:m∈aC){w:Nat}{R:List (List Nat)}{H:Nat->Nat}(hR:RT (ae m) w R)(I:RR w R H){f:Nat->Nat}(s:cw m R f):∀k,f k=sm (gp m) R.length λi=>gm m (f (H i)) (cf (R.getD i []) k):=by
 have r:=rg hm
 have m0:=cg m hm
 induction s with
 | mem a =>
  intro k
  obtain⟨x,hx,rfl⟩:=a
  obtain⟨i,hi,rfl⟩:=fX hx
  have ei:R[i]=R.getD i []:=by rw[aK,aL hi];rfl
  have one:gm m (cf R[i] (H i)) (cf (R.getD i []) k)=cf R[i] k:=by
   rw[ei,I.u i i hi hi,if_pos rfl]
   exact kU (dA hm (hR _ (bN hi [])).2 k)
  refine((lj r (f:=λa=>gm m (cf R[i] (H a)) (cf (R.getD a []) k)) (j0:=i) (bY hm _ _) hi λj hj hn=>?_).trans one).symm
  rw[ei,I.u i j hi hj,if_neg (by omega),fh m _ m0]
 | zero=>exact λk=>(eH r λj _=>fh m _ m0).symm
 | add _ _ a b =>
  intro k
  dsimp only
  rw[a k,b k,<- mI r]
  refine bQ λj _=>?_
  rw[r.mc (gp m _ _),r.dl,r.mc _ (cf _ k),r.mc _ (cf _ k)]
 | mul c hc _ a =>
  intro k
  dsimp only
  rw[a k,<- kZ r]
  refine bQ λj _=>?_
  rw[ju m0]
theorem cw.sum{m:Bool × Nat}(hm:m∈aC){w:Nat}{R:List (List Nat)}(hR:RT (ae m) w R){f:Nat->Nat}(s:cw m R f):∃c:Nat->Nat,(∀i,c i<ae m)/\∀k,f k=sm (gp m) R.length λi=>gm m (c i) (cf (R.getD i []) k):=by
 have r:=rg hm
 have m0:=cg m hm
 have l1:=lo1 hm
 induction s with
 | mem a =>
  obtain⟨x,hx,rfl⟩:=a
  obtain⟨i,hi,rfl⟩:=fX hx
  have ei:R[i]=R.getD i []:=by rw[aK,aL hi];rfl
  refine⟨λj=>if j=i then 1 else 0,λj=>by dsimp only;split<;>omega,λk=>?_⟩
  refine((lj r (f:=λa=>gm m (if a=i then 1 else 0) (cf (R.getD a []) k)) (j0:=i) (bY hm _ _) hi λj hj hn=>?_).trans ?_).symm
  ·rw[if_neg hn,fh m _ m0]
  ·rw[if_pos rfl,ei]
   exact kU (dA hm (hR _ (bN hi [])).2 k)
 | zero=>exact⟨λ_=>0,λ_=>r.pos,λk=>(eH r λj _=>fh m _ m0).symm⟩
 | add _ _ a b =>
  obtain⟨c,hc,a⟩:=a
  obtain⟨d,hd,b⟩:=b
  refine⟨λi=>gp m (c i) (d i),λi=>r.lp (hc i) (hd i),λk=>?_⟩
  dsimp only
  rw[a k,b k,<- mI r]
  refine bQ λj _=>?_
  rw[r.mc (gp m _ _),r.dl,r.mc _ (cf _ k),r.mc _ (cf _ k)]
 | mul e he _ a =>
  obtain⟨c,hc,a⟩:=a
  refine⟨λi=>gm m e (c i),λi=>bY hm _ _,λk=>?_⟩
  dsimp only
  rw[a k,<- kZ r]
  refine bQ λj _=>?_
  rw[ju m0]
theorem cw.ann{m:Bool × Nat}(hm:m∈aC){R:List (List Nat)}{n:Nat}{y:Nat->Nat}(h:∀x∈R,sm (gp m) n (λj=>gm m (cf x j) (y j))=0){f:Nat->Nat}(s:cw m R f):sm (gp m) n (λj=>gm m (f j) (y j))=0:=by
 have r:=rg hm
 have m0:=cg m hm
 induction s with
 | mem a=>obtain⟨x,hx,rfl⟩:=a;exact h x hx
 | zero=>exact eH r λj _=>fh m _ m0
 | @add f g _ _ a b =>
  rw[bQ (g:=λj=>gp m (gm m (f j) (y j)) (gm m (g j) (y j))) λj _=>by dsimp only;rw[r.mc (gp m _ _),r.dl,r.mc (y j),r.mc (y j)],mI r,a,b,r.z r.pos]
 | @mul f e he _ a =>
  rw[bQ (g:=λj=>gm m e (gm m (f j) (y j))) λj _=>ju m0 _ _ _,kZ r,a,r.qz]
theorem RR.wa{m:Bool × Nat}(hm:m∈aC){w:Nat}{R:List (List Nat)}{H:Nat->Nat}(hR:RT (ae m) w R)(I:RR w R H){i:Nat}(hi:i<R.length):(R.getD i []).findIdx (· != 0)=H i/\∃x∈R.getD i [],x≠0:=by
 have a:=(hR _ (bN hi [])).1
 have l:=I.l i hi
 have u:=I.u i i hi hi
 rw[if_pos rfl]at u
 have eu:(R.getD i [])[H i]'(by omega)=1:=by
  unfold cf at u
  rw[aK (l:=R.getD i []),aL (by omega)]at u
  exact u
 refine⟨?_,_,dv (show H i<(R.getD i []).length by omega),by rw[eu];decide⟩
 rw[List.findIdx_eq (by omega)]
 refine⟨by rw[eu];rfl,λj hj=>?_⟩
 have z:=I.z i hi j hj
 unfold cf at z
 rw[aK (l:=R.getD i []),aL (by omega)]at z
 simpa using z
theorem T6{a b:List Nat}{w:Nat}(ha:a.length=w)(hb:b.length=w)(h:∀k,k<w->cf a k=cf b k):a=b:=by
 refine EO (ha.trans hb.symm) λk h1 h2=>?_
 have:=h k (by omega)
 unfold cf at this
 rw[aK,aK,aL h1,aL h2]at this
 exact this
theorem HE(f:Nat->Nat){w k:Nat}(h:k<w):cf ((aM w).map f) k=f k:=by
 unfold cf
 rw[aK,bZ,gU h];rfl
theorem wb(m:Bool × Nat){xs ys:List Nat}(h:xs.length=ys.length):gd m xs ys=sm (gp m) xs.length λj=>gm m (cf xs j) (cf ys j):=by
 unfold gd
 rw[b76,kA,h,yn]
 refine bQ λj hj=>?_
 unfold cf
 rw[aK,sJ,aL (by omega),aL (by omega),aK,aL (by omega),aK,aL (by omega)]
 rfl
noncomputable def kj(m:Bool × Nat)(xs:List Nat)(T:List (List Nat))(w:Nat):List Nat:=(aM w).map λk=>gd m xs (T.map λr=>r.getD k 0)
theorem T7{T:List (List Nat)}(k i:Nat):cf (T.map λr=>r.getD k 0) i=cf (T.getD i []) k:=by
 by_cases h:i<T.length
 ·exact v9 (λr:List Nat=>r.getD k 0) h [] 0
 ·rw[kY (by rw[bG];omega),aK,fF (by omega)];rfl
theorem HF(m:Bool × Nat)(xs:List Nat)(T:List (List Nat))(w:Nat):(kj m xs T w).length=w:=by unfold kj;rw[bG,cK]
theorem T8(m:Bool × Nat){xs:List Nat}{T:List (List Nat)}{w k:Nat}(h:xs.length=T.length)(hk:k<w):cf (kj m xs T w) k=sm (gp m) T.length λi=>gm m (cf xs i) (cf (T.getD i []) k):=by
 unfold kj
 rw[HE _ hk,wb m (by rw[bG,h]),h]
 exact bQ λj _=>by rw[T7]
theorem cz9{m:Bool × Nat}(hm:m∈aC){xs ys:List Nat}(h:xs.length=ys.length):gd m xs ys<ae m:=by
 rw[wb m h];exact iy (rg hm) λj _=>bY hm _ _
theorem cA4{m:Bool × Nat}(hm:m∈aC){xs:List Nat}{T:List (List Nat)}(w:Nat)(h:xs.length=T.length):AllLt (ae m) (kj m xs T w):=λx hx=>by
 obtain⟨k,_,rfl⟩:=bO.mp hx
 exact cz9 hm (by rw[bG,h])
theorem cD5{m:Bool × Nat}{xs u:List Nat}{T:List (List Nat)}{w:Nat}(h:xs.length=T.length)(hu:u.length=w)(hk:∀k,k<w->cf u k=sm (gp m) T.length λi=>gm m (cf xs i) (cf (T.getD i []) k)):kj m xs T w=u :=
 T6 (HF m xs T w) hu λk h1=>by rw[T8 m h h1,hk k h1]
noncomputable def aT(r:List Nat):Nat:=r.findIdx (· != 0)
theorem CF{α:Type}(a b:α->Nat){j:Nat}:∀(l:List α) (x:List Nat),(∀z∈l,a z≠j)->cf (l.foldl (λx z=>x.set (a z) (b z)) x) j=cf x j
 | [],_,_=>rfl
 | z::l,x,h=>by
  rw[yi,CF a b l _ λy hy=>h y (eJ _ hy)]
  unfold cf
  rw[aK,uQ (h z gS),<- aK]
theorem T9{α:Type}(a b:α->Nat):∀(l:List α) (x:List Nat),l.Pairwise (λy z=>a y≠a z)->∀z∈l,a z<x.length->cf (l.foldl (λx z=>x.set (a z) (b z)) x) (a z)=b z
 | [],_,_,_,h,_=>nomatch h
 | y::l,x,hp,z,hz,hl=>by
  rw[yi]
  rw[u4]at hp
  rcases cA.mp hz with rfl | hz
  ·rw[CF a b l _ λy hy=>eK (hp.1 y hy)]
   unfold cf
   rw[aK,Ek hl];rfl
  ·exact T9 a b l _ hp.2 z hz (by rw[i7];exact hl)
theorem Ua{α:Type}(a b:α->Nat):∀(l:List α) (x:List Nat),(l.foldl (λx z=>x.set (a z) (b z)) x).length=x.length
 | [],_=>rfl
 | z::l,x=>by rw[yi,Ua a b l,i7]
theorem cG6{m:Bool × Nat}(hm:m∈aC):∃e,e<ae m/\gp m 1 e=0/\e≠0/\∀{a b},a<ae m->b<ae m->(gp m a (gm m b e)=0↔a=b):=by
 have r:=rg hm
 obtain⟨e,he,h⟩:=r.ng (lo1 hm)
 refine⟨e,he,h,λz=>?_,λ{a b} ha hb=>?_⟩
 ·rw[z,r.z' (lo1 hm)]at h;omega
 ·have k:gp m b (gm m b e)=0:=by
   have:=r.dl b 1 e
   rw[h,r.qz,oE hb]at this
   exact this.symm
  exact⟨λh1=>r.Tx ha hb (bY hm b e) (h1.trans k.symm),λh1=>h1 ▸ k⟩
noncomputable def fw(T:List (List Nat)):List (List Nat):=(aM (ai T)).map λj=>T.map λr=>r.getD j 0
theorem Ub{T:List (List Nat)}{a:Nat}(h:a<ai T):(fw T).getD a []=T.map λr=>r.getD a 0:=by
 unfold fw
 rw[aK,bZ,gU h];rfl
theorem Uc{N:Nat}{T:List (List Nat)}(h0:0<N)(hw:0<ai T)(hT:RT N (ai T) T):(fw T).length=ai T/\ai (fw T)=T.length/\RT N T.length (fw T):=by
 have a:(fw T).length=ai T:=by unfold fw;rw[bG,cK]
 have c:RT N T.length (fw T):=λr hr=>by
  obtain⟨j,_,rfl⟩:=bO.mp hr
  refine⟨bG _,λx hx=>?_⟩
  obtain⟨y,hy,rfl⟩:=bO.mp hx
  exact(hT y hy).2.getD h0 j
 refine⟨a,?_,c⟩
 have:=Ub hw
 have e:ai (fw T)=((fw T).getD 0 []).length:=by
  unfold ai
  cases fw T<;>rfl
 rw[e,this,bG]
end L3
namespace L3
open PySem L2 Mf
noncomputable def cG(T:List (List Nat))(w:Nat):List Nat:=(aM w).filter λj=>!(T.map aT).contains j
noncomputable def dH(m:Bool × Nat)(T:List (List Nat))(w f:Nat):List Nat:=(((T.map aT).zip T).foldl (λx z=>x.set z.1 (bW m 0 (z.2.getD f 0))) ((br w 0).set f 1))
noncomputable def CG(m:Bool × Nat)(T:List (List Nat))(w:Nat):List (List Nat):=(cG T w).map (dH m T w)
theorem RR.heads{m:Bool × Nat}(hm:m∈aC){w:Nat}{R:List (List Nat)}{H:Nat->Nat}(hR:RT (ae m) w R)(I:RR w R H):R.map aT=(aM R.length).map H:=by
 refine EO (by rw[bG,bG,cK]) λi h1 h2=>?_
 rw[bG]at h1
 rw[A9,A9,PN,<- (I.wa hm hR h1).1,aK,aL h1];rfl
theorem RR.mem{m:Bool × Nat}(hm:m∈aC){w:Nat}{R:List (List Nat)}{H:Nat->Nat}(hR:RT (ae m) w R)(I:RR w R H)(j:Nat):j∈R.map aT↔∃i,i<R.length/\H i=j:=by
 rw[I.heads hm hR,bO]
 exact⟨λ⟨i,a,b⟩=>⟨i,cV.mp a,b⟩,λ⟨i,a,b⟩=>⟨i,cV.mpr a,b⟩⟩
theorem RR.free{m:Bool × Nat}(hm:m∈aC){w:Nat}{R:List (List Nat)}{H:Nat->Nat}(hR:RT (ae m) w R)(I:RR w R H)(j:Nat):j∈cG R w↔j<w/\∀i,i<R.length->H i≠j:=by
 unfold cG
 rw[ku,cV,Bool.not_eq_true',<- Bool.not_eq_true,ET,I.mem hm hR]
 exact and_congr_right λ_=>⟨λh i a b=>h ⟨i,a,b⟩,λh ⟨i,a,b⟩=>h i a b⟩
theorem RR.Ud{m:Bool × Nat}(hm:m∈aC){w:Nat}{R:List (List Nat)}{H:Nat->Nat}(hR:RT (ae m) w R)(I:RR w R H):(cG R w).length+R.length=w:=by
 have nd:(R.map aT).Nodup:=by
  rw[I.heads hm hR]
  unfold List.Nodup
  rw[PQ]
  intro i j hi hj z4
  rw[bG,cK]at hi hj
  rw[A9,A9,PN,PN]
  have:=I.i i j z4 hj
  omega
 have pe:((aM w).filter λj=>(R.map aT).contains j).Perm (R.map aT):=by
  refine(Y5 (Y6 _ List.nodup_range) nd).mpr λj=>?_
  rw[ku,ET,cV]
  refine⟨λh=>h.2,λh=>⟨?_,h⟩⟩
  obtain⟨i,hi,rfl⟩:=(I.mem hm hR j).mp h
  exact I.l i hi
 have l1:=pe.length_eq
 rw[bG]at l1
 have l2:=List.length_eq_countP_add_countP (λj=>(R.map aT).contains j) (l:=aM w)
 rw[cK,Y7,Y7,l1]at l2
 unfold cG
 have e:((aM w).filter λa=>decide ¬(R.map aT).contains a=true)=(aM w).filter λj=>!(R.map aT).contains j:=List.filter_congr λx _=>by
  cases(R.map aT).contains x<;>rfl
 rw[e]at l2
 omega
theorem by4{m:Bool × Nat}(hm:m∈aC){w f:Nat}{R:List (List Nat)}{H:Nat->Nat}(hR:RT (ae m) w R)(I:RR w R H)(hf:f∈cG R w):(dH m R w f).length=w/\AllLt (ae m) (dH m R w f)/\cf (dH m R w f) f=1/\(∀i,i<R.length->cf (dH m R w f) (H i)=bW m 0 (cf (R.getD i []) f))/\∀j,j≠f->(∀i,i<R.length->H i≠j)->cf (dH m R w f) j=0:=by
 obtain⟨f1,f2⟩:=(I.free hm hR f).mp hf
 have l1:=lo1 hm
 have zl:((R.map aT).zip R).length=R.length:=by rw[ES,bG,yn]
 have zg:∀i (h:i<R.length),((R.map aT).zip R)[i]'(by omega)=(H i,R.getD i []):=λi h=>by
  rw[List.getElem_zip,A9]
  have e:R.getD i []=R[i]:=by rw[aK,aL h];rfl
  have:=(I.wa hm hR h).1
  rw[e]at this ⊢
  exact Prod.ext this rfl
 have zm:∀z∈(R.map aT).zip R,∃i,i<R.length/\z=(H i,R.getD i []):=λz hz=>by
  obtain⟨i,hi,rfl⟩:=fX hz
  exact⟨i,by omega,zg i (by omega)⟩
 have mz:∀i,i<R.length->(H i,R.getD i [])∈(R.map aT).zip R:=λi h=>by
  rw[<-zg i h];exact dv _
 have bd:∀z∈(R.map aT).zip R,bW m 0 (z.2.getD f 0)<ae m:=λz hz=>by
  obtain⟨i,hi,rfl⟩:=zm z hz
  exact(mG hm (by omega) (dA hm (hR _ (bN hi [])).2 f)).2.1
 refine⟨?_,?_,?_,λi hi=>?_,λj hj hj2=>?_⟩
 ·unfold dH
  rw[Ua (λz:Nat × List Nat=>z.1) (λz=>bW m 0 (z.2.getD f 0)),i7,sC]
 ·have key:∀(l:List (Nat × List Nat)) (x:List Nat),(∀z∈l,bW m 0 (z.2.getD f 0)<ae m)->AllLt (ae m) x->AllLt (ae m) (l.foldl (λx z=>x.set z.1 (bW m 0 (z.2.getD f 0))) x):=by
   intro l
   induction l with
   | nil=>exact λx _ h=>h
   | cons z l ih =>
    intro x hz h
    rw[yi]
    refine ih _ (λy hy=>hz y (eJ _ hy)) λy hy=>?_
    rcases u3 hy with h1 | h1
    ·exact h y h1
    ·rw[h1];exact hz z gS
  refine key _ _ bd λx hx=>?_
  rcases u3 hx with h1 | h1
  ·rw[(EE.mp h1).2];omega
  ·omega
 ·unfold dH
  rw[CF (λz:Nat × List Nat=>z.1) (λz=>bW m 0 (z.2.getD f 0)) _ _ λz hz=>?_]
  ·unfold cf
   rw[aK,Ek (by rw[sC];exact f1)];rfl
  ·obtain⟨i,hi,rfl⟩:=zm z hz
   exact f2 i hi
 ·have hp:((R.map aT).zip R).Pairwise (λy z:Nat × List Nat=>y.1≠z.1):=by
   rw[PQ]
   intro i j hi hj z4
   rw[zg i (by omega),zg j (by omega)]
   have:=I.i i j z4 (by omega)
   show H i≠H j
   omega
  exact T9 (λz:Nat × List Nat=>z.1) (λz=>bW m 0 (z.2.getD f 0)) _ _ hp _ (mz i hi) (by rw[i7,sC];exact I.l i hi)
 ·unfold dH
  rw[CF (λz:Nat × List Nat=>z.1) (λz=>bW m 0 (z.2.getD f 0)) _ _ λz hz=>?_]
  ·unfold cf
   rw[aK,uQ (eK hj),AQ]
   split<;>rfl
  ·obtain⟨i,hi,rfl⟩:=zm z hz
   exact hj2 i hi
theorem cA5{N:Nat}{p q:Nat->Nat->Nat}(r:Rg N p q){f:Nat->Nat}{a b n:Nat}(ha:a<n)(hb:b<n)(hn:a≠b)(fa:f a<N)(fb:f b<N)(hz:∀j,j<n->j≠a->j≠b->f j=0):sm p n f=p (f a) (f b):=by
 have h1:=lj r (f:=λj=>if j=a then f a else 0) (j0:=a) (n:=n) (by rw[if_pos rfl];exact fa) ha λj _ h=>if_neg h
 have h2:=lj r (f:=λj=>if j=b then f b else 0) (j0:=b) (n:=n) (by rw[if_pos rfl];exact fb) hb λj _ h=>if_neg h
 rw[if_pos rfl]at h1 h2
 rw[<-h1,<- h2,<- mI r]
 refine bQ λj hj=>?_
 by_cases ja:j=a
 ·rw[if_pos ja,if_neg (by omega),r.z' fa,ja]
 ·by_cases jb:j=b
  ·rw[if_neg ja,if_pos jb,r.z fb,jb]
  ·rw[if_neg ja,if_neg jb,hz j hj ja jb,r.z r.pos]
noncomputable def dt(m:Bool × Nat)(w:Nat)(x y:Nat->Nat):Nat:=sm (gp m) w λj=>gm m (x j) (y j)
theorem cI7{m:Bool × Nat}(hm:m∈aC)(w:Nat)(x y:Nat->Nat):dt m w x y<ae m:=iy (rg hm) λ_ _=>bY hm _ _
theorem HG{m:Bool × Nat}(hm:m∈aC)(w:Nat)(x y z:Nat->Nat):dt m w x (λk=>gp m (y k) (z k))=gp m (dt m w x y) (dt m w x z):=by
 have r:=rg hm
 unfold dt
 rw[<-mI r]
 exact bQ λj _=>r.dl _ _ _
theorem Ue{m:Bool × Nat}(hm:m∈aC)(w c:Nat)(x y:Nat->Nat):dt m w x (λk=>gm m c (y k))=gm m c (dt m w x y):=by
 have r:=rg hm
 have m0:=cg m hm
 unfold dt
 rw[<-kZ r]
 exact bQ λj _=>by rw[<-ju m0,gz m (x j),ju m0]
theorem Ug{m:Bool × Nat}(hm:m∈aC)(w:Nat)(x:Nat->Nat)(c:Nat->Nat)(F:Nat->Nat->Nat):∀n,dt m w x (λk=>sm (gp m) n λi=>gm m (c i) (F i k))=sm (gp m) n λi=>gm m (c i) (dt m w x (F i))
 | 0=>eH (rg hm) λj _=>(rg hm).qz _
 | n+1=>by
  rw[sm,<- Ug hm w x c F n,<- Ue hm,<- HG hm];rfl
theorem HH{m:Bool × Nat}(hm:m∈aC){w f:Nat}{R:List (List Nat)}{H:Nat->Nat}(hR:RT (ae m) w R)(I:RR w R H)(hf:f∈cG R w){i:Nat}(hi:i<R.length):dt m w (cf (R.getD i [])) (cf (dH m R w f))=0:=by
 have r:=rg hm
 obtain⟨f1,f2⟩:=(I.free hm hR f).mp hf
 obtain⟨k1,k2,k3,k4,k5⟩:=by4 hm hR I hf
 have il:=dA hm (hR _ (bN hi [])).2
 have g:=mG hm (a:=0) r.pos (il f)
 unfold dt
 rw[cA5 r (f:=λj=>gm m (cf (R.getD i []) j) (cf (dH m R w f) j)) (a:=H i) (b:=f) (I.l i hi) f1 (f2 i hi) (bY hm _ _) (bY hm _ _) λj hj ja jb=>?_]
 ·rw[k3,k4 i hi,I.u i i hi hi,if_pos rfl,kU g.2.1,oE (il f)]
  exact g.2.2
 ·by_cases c:∃i',i'<R.length/\H i'=j
  ·obtain⟨i',h1,rfl⟩:=c
   rw[I.u i i' hi h1,if_neg (λz:i=i'=>ja (by rw[z])),fh m _ (cg m hm)]
  ·rw[k5 j jb λi' h1 h2=>c ⟨i',h1,h2⟩,r.qz]
theorem cw.dt{m:Bool × Nat}(hm:m∈aC){R:List (List Nat)}{n:Nat}{y:Nat->Nat}(h:∀i,i<R.length->dt m n (cf (R.getD i [])) y=0){f:Nat->Nat}(s:cw m R f):dt m n f y=0:=by
 refine s.ann hm λx hx=>?_
 obtain⟨i,hi,rfl⟩:=fX hx
 have:=h i hi
 rw[aK,aL hi]at this
 exact this
theorem RR.ker{m:Bool × Nat}(hm:m∈aC){w:Nat}{R:List (List Nat)}{H:Nat->Nat}(hR:RT (ae m) w R)(I:RR w R H){z:Nat->Nat}(hz:∀k,z k<ae m)(h:∀i,i<R.length->dt m w (cf (R.getD i [])) z=0){k:Nat}(hk:k<w):z k=sm (gp m) (cG R w).length λa=>gm m (z ((cG R w).getD a 0)) (cf (dH m R w ((cG R w).getD a 0)) k):=by
 have r:=rg hm
 have m0:=cg m hm
 obtain⟨e,e1,e2,e3,e4⟩:=cG6 hm
 let z':=λk=>sm (gp m) (cG R w).length λa=>gm m (z ((cG R w).getD a 0)) (cf (dH m R w ((cG R w).getD a 0)) k)
 have z6:∀k,z' k<ae m:=λk=>iy r λ_ _=>bY hm _ _
 let d:=λk=>gp m (z k) (gm m e (z' k))
 have dk:∀k,d k=0↔z k=z' k:=λk=>by
  show gp m (z k) (gm m e (z' k))=0↔_
  rw[gz m e]
  exact e4 (hz k) (z6 k)
 have dz:∀i,i<R.length->dt m w (cf (R.getD i [])) d=0:=λi hi=>by
  show dt m w (cf (R.getD i [])) (λk=>gp m (z k) (gm m e (z' k)))=0
  rw[HG hm,Ue hm,h i hi,Ug hm,eH r λa ha=>?_,r.qz,r.z r.pos]
  rw[HH hm hR I (bN ha 0) hi,r.qz]
 have zf:∀f,f∈cG R w->z' f=z f:=λf hf=>by
  obtain⟨a,ha,rfl⟩:=fX hf
  have ea:(cG R w)[a]=(cG R w).getD a 0:=by rw[aK,aL ha];rfl
  show sm (gp m) (cG R w).length (λb=>gm m (z ((cG R w).getD b 0)) (cf (dH m R w ((cG R w).getD b 0)) _))=_
  rw[ea,lj r (f:=λb=>gm m (z ((cG R w).getD b 0)) (cf (dH m R w ((cG R w).getD b 0)) ((cG R w).getD a 0))) (bY hm _ _) ha λb hb hn=>?_]
  ·rw[(by4 hm hR I (bN ha 0)).2.2.1,oE (hz _)]
  ·have nd:(cG R w).Nodup:=Y6 _ List.nodup_range
   rw[(by4 hm hR I (bN hb 0)).2.2.2.2 _ ?_ ((I.free hm hR _).mp (bN ha 0)).2,r.qz]
   intro c
   rw[aK,aL ha,aK,aL hb]at c
   exact hn ((List.getElem_inj nd).mp (cW (congrArg some c))).symm
 have key:d k=0:=by
  by_cases c:∃i,i<R.length/\H i=k
  ·obtain⟨i,hi,rfl⟩:=c
   have:=dz i hi
   unfold dt at this
   rw[lj r (f:=λj=>gm m (cf (R.getD i []) j) (d j)) (j0:=H i) (bY hm _ _) hk λj hj hn=>?_,I.u i i hi hi,if_pos rfl,kU (r.lp (hz _) (bY hm _ _))]at this
   ·exact this
   ·by_cases c:∃i',i'<R.length/\H i'=j
    ·obtain⟨i',h1,rfl⟩:=c
     rw[I.u i i' hi h1,if_neg (λz:i=i'=>hn (by rw[z])),fh m _ m0]
    ·have hf:=(I.free hm hR j).mpr ⟨hj,λi' h1 h2=>c ⟨i',h1,h2⟩⟩
     have:d j=0:=(dk j).mpr (zf j hf).symm
     rw[this,r.qz]
  ·have hf:=(I.free hm hR k).mpr ⟨hk,λi' h1 h2=>c ⟨i',h1,h2⟩⟩
   exact(dk k).mpr (zf k hf).symm
 exact(dk k).mp key
theorem wc{N n:Nat}{M:List (List Nat)}(h:RT N n M)(h0:M≠[]):ai M=n:=by
 cases M with
 | nil=>exact absurd rfl h0
 | cons g M=>exact(h g gS).1
theorem cJ8{m:Bool × Nat}(hm:m∈aC){n:Nat}{M:List (List Nat)}(h:RT (ae m) n M)(hl:M.length<n):∃(x:Nat->Nat) (f:Nat),f<n/\(∀k,x k<ae m)/\x f=1/\∀i,i<M.length->dt m n (cf (M.getD i [])) x=0:=by
 by_cases h0:M=[]
 ·subst h0
  exact⟨λ_=>1,0,hl,λ_=>lo1 hm,rfl,λi hi=>nomatch hi⟩
 ·have hw:=wc h h0
  obtain⟨⟨H,I⟩,iR,il,sp⟩:=mK hm (G:=M) (by rw[hw];exact h)
  rw[hw]at I iR
  have fl:=I.Ud hm iR
  have f0:0<(cG (bH m M) n).length:=by omega
  have hf:=bN f0 0
  obtain⟨k1,k2,k3,k4,k5⟩:=by4 hm iR I hf
  refine⟨cf (dH m (bH m M) n ((cG (bH m M) n).getD 0 0)),_,((I.free hm iR _).mp hf).1,dA hm k2,k3,λi hi=>?_⟩
  exact cw.dt hm (λi' fc=>HH hm iR I hf fc) ((sp _).mp (cw.of (bN hi [])))
theorem RR.HI{m:Bool × Nat}(hm:m∈aC){w v:Nat}{S R:List (List Nat)}{H:Nat->Nat}(hS:RT (ae m) w S)(I:RR w S H)(hR:RT (ae m) v R)(h:∀i,i<S.length->cw m R (cf (S.getD i []))):S.length<=R.length:=by
 have r:=rg hm
 refine AS λhl=>?_
 have hc:∀i,∃c:Nat->Nat,i<S.length->(∀j,c j<ae m)/\∀k,cf (S.getD i []) k=sm (gp m) R.length λj=>gm m (c j) (cf (R.getD j []) k):=λi=>by
  by_cases hi:i<S.length
  ·obtain⟨c,a,b⟩:=(h i hi).sum hm hR
   exact⟨c,λ_=>⟨a,b⟩⟩
  ·exact⟨λ_=>0,λz=>absurd z hi⟩
 obtain⟨C,hC⟩:=Classical.axiomOfChoice hc
 have cl:∀i,i<S.length->∀j,C i j<ae m:=λi hi=>(hC i hi).1
 obtain⟨x,f,f1,x1,x2,x3⟩:=cJ8 hm (n:=S.length) (M:=(aM R.length).map λj=>(aM S.length).map λi=>C i j) (λy hy=>by
  obtain⟨j,_,rfl⟩:=bO.mp hy
  refine⟨by rw[bG,cK],λz hz=>?_⟩
  obtain⟨i,hi,rfl⟩:=bO.mp hz
  exact cl i (cV.mp hi) j) (by rw[bG,cK];exact hl)
 rw[bG,cK]at x3
 have x4:∀j,j<R.length->sm (gp m) S.length (λi=>gm m (C i j) (x i))=0:=λj hj=>by
  rw[<-x3 j hj]
  refine bQ λi hi=>?_
  rw[v9 (λj=>(aM S.length).map λi=>C i j) (by rw[cK];exact hj) 0 [],HE _ hi,aK,gU hj];rfl
 have x5:∀k,sm (gp m) S.length (λi=>gm m (x i) (cf (S.getD i []) k))=0:=λk=>by
  rw[bQ (g:=λi=>sm (gp m) R.length λj=>gm m (gm m (C i j) (x i)) (cf (R.getD j []) k)) λi hi=>?_,Hq r,eH r λj hj=>?_]
  ·rw[bQ (g:=λi=>gm m (cf (R.getD j []) k) (gm m (C i j) (x i))) λi hi=>gz m _ _,kZ r,x4 j hj,r.qz]
  ·rw[(hC i hi).2 k,<- kZ r]
   exact bQ λj _=>by rw[<-ju (cg m hm),gz m (x i)]
 have:=x5 (H f)
 rw[lj r (f:=λi=>gm m (x i) (cf (S.getD i []) (H f))) (bY hm _ _) f1 λj hj hn=>by rw[I.u j f hj f1,if_neg hn,r.qz],I.u f f f1 f1,if_pos rfl,x2,kU (lo1 hm)]at this
 omega
theorem Sp.sm{N:Nat}{p q:Nat->Nat->Nat}{S:(Nat->Nat)->Prop}{c:Nat->Nat}{F:Nat->Nat->Nat}:∀{n:Nat},(∀i,i<n->c i<N)->(∀i,i<n->Sp N p q S (F i))->Sp N p q S λk=>L3.sm p n λi=>q (c i) (F i k)
 | 0,_,_=>.zero
 | n+1,hc,h=>.add (Sp.sm (λi hi=>hc i (by omega)) λi hi=>h i (by omega)) (.mul _ (hc n (by omega)) (h n (by omega)))
theorem jS{T:List (List Nat)}{i:Nat}(h:i<T.length):T.getD i []=T[i]:=by rw[aK,aL h];rfl
end L3
namespace L3
open PySem L2 PySem.Spec PyProof.Rows
section
variable{X:Cx}{F H:Hp}{e b:Expr}{pos pos' p p2 p3 apos cN:Pos}{ti te:aN}{x y:Str}{i j:Nat}
end
section
variable{X:Cx}
end
section
variable{X:Cx}{es:List Expr}{tr:cY}{pos:Pos}
theorem Uh(h:PA X es (lA tr)):PE X (.List es pos) (lB (nM tr)) :=
 dn (Qo h) λσ H Q ⟨B,F,δ,ts,Qd,c,q,k⟩=>⟨B,F,δ,ts,_,c,q,λds aj vs F1 H1 q1 f1 h1 c1 s1=>⟨by rw[<-s1.length];exact q1.1,λp hp=>k _ aj _ F1 _ q1.2 f1 (h1.trans (af.upd hp)) (c1.grow (af.upd hp)) (.own cB (s1.mono (af.refl _) (af.upd hp)) .nil)⟩⟩
end
end L3
namespace L3
open PySem L2 Mf
theorem RR.lead{m:Bool × Nat}(hm:m∈aC){w:Nat}{R:List (List Nat)}{H:Nat->Nat}(hR:RT (ae m) w R)(I:RR w R H){f:Nat->Nat}(s:cw m R f){t:Nat}(h1:f t≠0)(h2:∀j,j<t->f j=0):∃i,i<R.length/\H i=t:=by
 refine yl λc=>h1 ?_
 rw[I.own hm hR s t]
 refine eH (rg hm) λi hi=>?_
 rcases Nat.lt_trichotomy (H i) t with h | h | h
 ·rw[h2 _ h,fh m _ (cg m hm)]
 ·exact absurd ⟨i,hi,h⟩ c
 ·rw[I.z i hi t h,(rg hm).qz]
theorem RR.same{m:Bool × Nat}(hm:m∈aC){w:Nat}{R R':List (List Nat)}{H H':Nat->Nat}(hR:RT (ae m) w R)(I:RR w R H)(CH:RT (ae m) w R')(I':RR w R' H')(h:∀x∈R,cw m R' (cf x))(h':∀x∈R',cw m R (cf x)):R=R':=by
 have l:R.length=R'.length:=Nat.le_antisymm (I.HI hm hR CH λi hi=>h _ (bN hi [])) (I'.HI hm CH hR λi hi=>h' _ (bN hi []))
 have a:∀i,i<R.length->∃j,j<R'.length/\H' j=H i:=λi hi=>I'.lead hm CH (h _ (bN hi [])) (by rw[I.u i i hi hi,if_pos rfl];decide) λj hj=>I.z i hi j hj
 have a':∀i,i<R'.length->∃j,j<R.length/\H j=H' i:=λi hi=>I.lead hm hR (h' _ (bN hi [])) (by rw[I'.u i i hi hi,if_pos rfl];decide) λj hj=>I'.z i hi j hj
 have e:∀n i,i<n->i<R.length->H i=H' i:=by
  intro n
  induction n with
  | zero=>exact λi hi=>nomatch hi
  | succ n ih =>
   intro i hi hl
   by_cases hn:i<n
   ·exact ih i hn hl
   obtain rfl:i=n:=by omega
   obtain⟨j,j1,j2⟩:=a i hl
   obtain⟨j',j3,j4⟩:=a' i (by omega)
   have b1:i<=j:=AS λc=>by
    have:=ih j c (by omega)
    have:=I.i j i c hl
    omega
   have b2:i<=j':=AS λc=>by
    have:=ih j' c (by omega)
    have:=I'.i j' i c (by omega)
    omega
   have c1:H' i<=H' j:=by
    rcases yu i j with c | c
    ·exact uO (I'.i i j c j1)
    ·rw[show i=j by omega];exact bP _
   have c2:H i<=H j':=by
    rcases yu i j' with c | c
    ·exact uO (I.i i j' c j3)
    ·rw[show i=j' by omega];exact bP _
   omega
 refine EO l λi h1 h2=>?_
 rw[<-jS h1,<- jS h2]
 refine T6 (hR _ (bN h1 [])).1 (CH _ (bN h2 [])).1 λk _=>?_
 rw[I.own hm hR (h' _ (bN h2 [])) k,lj (rg hm) (f:=λj=>gm m (cf (R'.getD i []) (H j)) (cf (R.getD j []) k)) (bY hm _ _) h1 λj hj hn=>?_]
 ·rw[e (i+1) i (by omega) h1,I'.u i i h2 h2,if_pos rfl,kU (dA hm (hR _ (bN h1 [])).2 k)]
 ·rw[e (j+1) j (by omega) hj,I'.u i j h2 (by omega),if_neg (λz:i=j=>hn z.symm),fh m _ (cg m hm)]
end L3
namespace L3
open PySem L2 Mf
noncomputable def eX(n i:Nat):List Nat:=(aM n).map λj=>if j=i then 1 else 0
theorem z7(n i:Nat):(eX n i).length=n:=by unfold eX;rw[bG,cK]
theorem CI{n i j:Nat}(h:i<n):cf (eX n i) j=if j=i then 1 else 0:=by
 by_cases hj:j<n
 ·exact HE _ hj
 ·rw[kY (by rw[z7];omega),if_neg (by omega)]
theorem Ui{N:Nat}(h:1<N)(n i:Nat):AllLt N (eX n i):=λx hx=>by
 obtain⟨j,_,rfl⟩:=bO.mp hx
 split<;>omega
noncomputable def cR(G:List (List Nat)):List (List Nat):=G.mapIdx λi r=>r++eX G.length i
theorem uB(G:List (List Nat)):(cR G).length=G.length:=by unfold cR;rw[List.length_mapIdx]
theorem Uj{G:List (List Nat)}{i:Nat}(h:i<G.length):(cR G).getD i []=G.getD i []++eX G.length i:=by
 unfold cR
 rw[aK,uY,aK,aL h];rfl
theorem cy9(a b:List Nat)(k:Nat):cf (a++b) k=if k<a.length then cf a k else cf b (k-a.length):=by
 unfold cf
 rw[aK,List.getElem?_append]
 split<;>rw[aK]
theorem CJ{N:Nat}{G:List (List Nat)}(h1:1<N)(h0:0<G.length)(hG:RT N (ai G) G):ai (cR G)=ai G+G.length/\RT N (ai G+G.length) (cR G):=by
 have rt:RT N (ai G+G.length) (cR G):=λr hr=>by
  obtain⟨i,hi,rfl⟩:=fX hr
  rw[<-jS hi,Uj (by rw[uB]at hi;exact hi)]
  rw[uB]at hi
  obtain⟨a,b⟩:=hG _ (bN hi [])
  refine⟨by rw[fN,a,z7],λx hx=>?_⟩
  rcases cJ.mp hx with hx | hx
  ·exact b x hx
  ·exact Ui h1 _ _ x hx
 exact⟨wc rt λz=>by have:=uB G;rw[z]at this;simp at this;omega,rt⟩
theorem Uk{m:Bool × Nat}(hm:m∈aC){G:List (List Nat)}(h0:0<G.length)(hG:RT (ae m) (ai G) G){f:Nat->Nat}:cw m (cR G) f↔(∀k,f k<ae m)/\(∀k,ai G+G.length<=k->f k=0)/\∀k,k<ai G->f k=sm (gp m) G.length λi=>gm m (f (ai G+i)) (cf (G.getD i []) k):=by
 have r:=rg hm
 have m0:=cg m hm
 obtain⟨b1,b2⟩:=CJ (lo1 hm) h0 hG
 have bc:∀i,i<G.length->∀k,cf ((cR G).getD i []) k=if k<ai G then cf (G.getD i []) k else if k-ai G=i then 1 else 0:=λi hi k=>by
  rw[Uj hi,cy9,(hG _ (bN hi [])).1,CI hi]
 have comb:∀c:Nat->Nat,(∀i,c i<ae m)->∀k,sm (gp m) G.length (λi=>gm m (c i) (cf ((cR G).getD i []) k))=if k<ai G then sm (gp m) G.length (λi=>gm m (c i) (cf (G.getD i []) k))else if k-ai G<G.length then c (k-ai G)else 0:=λc hc k=>by
  by_cases hk:k<ai G
  ·rw[if_pos hk]
   exact bQ λi hi=>by rw[bc i hi,if_pos hk]
  ·rw[if_neg hk]
   by_cases oR:k-ai G<G.length
   ·rw[if_pos oR,lj r (f:=λi=>gm m (c i) (cf ((cR G).getD i []) k)) (bY hm _ _) oR λj hj hn=>by rw[bc j hj,if_neg hk,if_neg (λz=>hn z.symm),r.qz],bc _ oR,if_neg hk,if_pos rfl,oE (hc _)]
   ·rw[if_neg oR]
    exact eH r λi hi=>by rw[bc i hi,if_neg hk,if_neg (by omega),r.qz]
 constructor
 ·intro s
  obtain⟨c,hc,h⟩:=s.sum hm b2
  rw[uB]at h
  have hf:∀k,f k=_:=λk=>(h k).trans (comb c hc k)
  refine⟨λk=>by rw[h k];exact iy r λ_ _=>bY hm _ _,λk hk=>by rw[hf k,if_neg (by omega),if_neg (by omega)],λk hk=>?_⟩
  rw[hf k,if_pos hk]
  exact bQ λi hi=>by rw[hf (ai G+i),if_neg (by omega),if_pos (by omega),yt]
 ·rintro⟨h1,h2,h3⟩
  have:f=λk=>sm (gp m) G.length λi=>gm m (f (ai G+i)) (cf ((cR G).getD i []) k):=funext λk=>by
   rw[comb (λi=>f (ai G+i)) λi=>h1 _]
   by_cases hk:k<ai G
   ·rw[if_pos hk];exact h3 k hk
   ·rw[if_neg hk]
    by_cases oR:k-ai G<G.length
    ·rw[if_pos oR,show ai G+(k-ai G)=k by omega]
    ·rw[if_neg oR];exact h2 k (by omega)
  rw[this]
  exact Sp.sm (λi _=>h1 _) λi hi=>cw.of (bN (by rw[uB];exact hi) [])
noncomputable def we(m:Bool × Nat)(G:List (List Nat)):Option (List (List Nat)):=if((bH m (cR G)).take (ai G)).map aT=aM (ai G)then some (((bH m (cR G)).take (ai G)).map λr=>r.drop (ai G))else none
theorem bZ0{m:Bool × Nat}(hm:m∈aC){G:List (List Nat)}(hG:RT (ae m) (ai G) G)(h:cG (bH m G) (ai G)=[]){k:Nat}(hk:k<ai G):cw m G λj=>if j=k then 1 else 0:=by
 have r:=rg hm
 obtain⟨⟨H,I⟩,iR,il,sp⟩:=mK hm hG
 refine(sp _).mpr ?_
 have hs:∀j,j<ai G->∃i,i<(bH m G).length/\H i=j:=λj hj=>yl λc=>by
  have:=(I.free hm iR j).mpr ⟨hj,λi a b=>c ⟨i,a,b⟩⟩
  rw[h]at this;simp at this
 obtain⟨i,hi,rfl⟩:=hs k hk
 have:(λj=>if j=H i then 1 else 0)=cf ((bH m G).getD i []):=funext λj=>by
  by_cases hj:j<ai G
  ·obtain⟨i',fc,rfl⟩:=hs j hj
   rw[I.u i i' hi fc]
   by_cases e:i=i'
   ·rw[if_pos e,if_pos (by rw[e])]
   ·rw[if_neg e,if_neg]
    intro z
    rcases Nat.lt_or_gt_of_ne e with c | c
    ·have:=I.i i i' c fc;omega
    ·have:=I.i i' i c hi;omega
  ·rw[kY (by rw[(iR _ (bN hi [])).1];omega),if_neg (by omega)]
 rw[this]
 exact cw.of (bN hi [])
theorem cf6{m:Bool × Nat}(hm:m∈aC){G V:List (List Nat)}(h0:0<G.length)(hG:RT (ae m) (ai G) G)(h:we m G=some V):V.length=ai G/\RT (ae m) G.length V/\(∀k,k<ai G->kj m (V.getD k []) G (ai G)=eX (ai G) k)/\cG (bH m G) (ai G)=[]:=by
 have r:=rg hm
 obtain⟨b1,b2⟩:=CJ (lo1 hm) h0 hG
 obtain⟨⟨H,I⟩,iR,il,sp⟩:=mK hm (G:=cR G) (by rw[b1];exact b2)
 rw[b1]at I iR
 unfold we at h
 by_cases c:((bH m (cR G)).take (ai G)).map aT=aM (ai G)
 ·rw[if_pos c]at h
  have hl:=congrArg AO c
  rw[bG,eZ,cK]at hl
  have hH:∀i,i<ai G->H i=i:=λi hi=>by
   have:=congrArg (λl=>l[i]?) c
   rw[bZ,AY,if_pos hi,gU hi,aL (show i<(bH m (cR G)).length by omega)]at this
   rw[<-(I.wa hm iR (show i<(bH m (cR G)).length by omega)).1,jS (by omega)]
   exact cW this
  have eV:V=((bH m (cR G)).take (ai G)).map λr=>r.drop (ai G):=(cW h).symm
  have lV:V.length=ai G:=by rw[eV,bG,eZ];omega
  have gV:∀k,k<ai G->V.getD k []=((bH m (cR G)).getD k []).drop (ai G):=λk hk=>by
   rw[eV,aK,bZ,AY,if_pos hk,aL (show k<(bH m (cR G)).length by omega),jS (show k<(bH m (cR G)).length by omega)];rfl
  have rV:RT (ae m) G.length V:=λx hx=>by
   obtain⟨k,hk,rfl⟩:=fX hx
   rw[<-jS hk,gV k (by omega)]
   obtain⟨a,b⟩:=iR _ (bN (show k<(bH m (cR G)).length by omega) [])
   exact⟨by rw[iD,a];omega,λx hx=>b x (pI hx)⟩
  have un:∀k,k<ai G->kj m (V.getD k []) G (ai G)=eX (ai G) k:=λk hk=>by
   have mJ:k<(bH m (cR G)).length:=by omega
   obtain⟨s1,s2,s3⟩:=(Uk hm h0 hG).mp ((sp _).mpr (cw.of (bN mJ [])))
   refine cD5 (rV _ (bN (by omega) [])).1 (z7 _ _) λj hj=>?_
   have e1:cf (eX (ai G) k) j=cf ((bH m (cR G)).getD k []) j:=by
    have:=I.u k j mJ (by omega)
    rw[hH j hj]at this
    rw[this,CI hk]
    by_cases z:j=k
    ·rw[if_pos z,if_pos z.symm]
    ·rw[if_neg z,if_neg (eK z)]
   rw[e1,s3 j hj]
   refine bQ λi hi=>?_
   rw[gV k hk]
   congr 1
   unfold cf
   rw[aK (l:=List.drop _ _),EG,<- aK]
  refine⟨lV,rV,un,?_⟩
  obtain⟨⟨H2,I2⟩,Ul,il2,sp2⟩:=mK hm hG
  have fl:=I2.Ud hm Ul
  have key:ai G<=(bH m G).length:=by
   have:=RR.HI hm (w:=ai G) (S:=(aM (ai G)).map (eX (ai G))) (H:=λi=>i) (R:=bH m G) (λx hx=>by
    obtain⟨i,_,rfl⟩:=bO.mp hx
    exact⟨z7 _ _,Ui (lo1 hm) _ _⟩) (by
    have le:((aM (ai G)).map (eX (ai G))).length=ai G:=by rw[bG,cK]
    have gt:∀i,i<ai G->((aM (ai G)).map (eX (ai G))).getD i []=eX (ai G) i:=λi hi=>by
     rw[aK,bZ,gU hi];rfl
    refine⟨λi j hi hj=>?_,λi hi t ht=>?_,λi j h _=>h,λi hi=>by rw[le]at hi;exact hi⟩
    ·rw[le]at hi hj
     rw[gt i hi,CI hi]
     by_cases z:i=j
     ·rw[if_pos z.symm,if_pos z]
     ·rw[if_neg (eK z),if_neg z]
    ·rw[le]at hi
     rw[gt i hi,CI hi,if_neg (by omega)]) Ul (λi hi=>by
    rw[bG,cK]at hi
    rw[show((aM (ai G)).map (eX (ai G))).getD i []=eX (ai G) i by rw[aK,bZ,gU hi];rfl,<- un i hi]
    refine(sp2 _).mp ?_
    have hv:=(rV _ (bN (show i<V.length by omega) [])).1
    have:cf (kj m (V.getD i []) G (ai G))=λk=>sm (gp m) G.length λa=>gm m (cf (V.getD i []) a) (cf (G.getD a []) k):=funext λk=>by
     by_cases hk:k<ai G
     ·exact T8 m hv hk
     ·rw[kY (by rw[HF];omega),eH r λa ha=>?_]
      rw[kY (l:=G.getD a []) (by rw[(hG _ (bN ha [])).1];omega),r.qz]
    rw[this]
    exact Sp.sm (λa _=>dA hm (rV _ (bN (show i<V.length by omega) [])).2 a) λa ha=>cw.of (bN ha []))
   rw[bG,cK]at this
   exact this
  exact EV.mp (by omega)
 ·rw[if_neg c]at h;cases h
theorem cg6{m:Bool × Nat}(hm:m∈aC){G:List (List Nat)}(h0:0<G.length)(hG:RT (ae m) (ai G) G)(h:cG (bH m G) (ai G)=[]):∃V,we m G=some V:=by
 have r:=rg hm
 obtain⟨b1,b2⟩:=CJ (lo1 hm) h0 hG
 obtain⟨⟨H,I⟩,iR,il,sp⟩:=mK hm (G:=cR G) (by rw[b1];exact b2)
 rw[b1]at I iR
 have hs:∀k,k<ai G->∃i,i<(bH m (cR G)).length/\H i=k:=λk hk=>by
  obtain⟨c,hc,hf⟩:=(bZ0 hm hG h hk).sum hm hG
  have s:cw m (cR G) λj=>if j<ai G then(if j=k then 1 else 0)else if j-ai G<G.length then c (j-ai G)else 0:=(Uk hm h0 hG).mpr ⟨λj=>by
   have:=lo1 hm
   split
   ·split<;>omega
   ·split
    ·exact hc _
    ·omega,λj hj=>by rw[if_neg (by omega),if_neg (by omega)],λj hj=>by
   rw[if_pos hj,hf j]
   exact bQ λi hi=>by rw[if_neg (by omega),if_pos (by omega),yt]⟩
  exact I.lead hm iR ((sp _).mp s) (t:=k) (by rw[if_pos hk,if_pos rfl];decide) λj hj=>by rw[if_pos (by omega),if_neg (by omega)]
 have hH:∀n i,i<n->i<ai G->i<(bH m (cR G)).length/\H i=i:=by
  intro n
  induction n with
  | zero=>exact λi hi=>nomatch hi
  | succ n ih =>
   intro i hi hw
   by_cases hn:i<n
   ·exact ih i hn hw
   obtain rfl:i=n:=by omega
   obtain⟨j,j1,j2⟩:=hs i hw
   have hj:i<=j:=AS λc=>by
    have:=(ih j c (by omega)).2
    omega
   have fc:i<(bH m (cR G)).length:=by omega
   have gi:i<=H i:=by
    by_cases z:i=0
    ·omega
    ·have:=(ih (i-1) (by omega) (by omega)).2
     have:=I.i (i-1) i (by omega) fc
     omega
   refine⟨fc,?_⟩
   rcases yu i j with c | c
   ·have:=I.i i j c j1;omega
   ·rw[show i=j by omega];omega
 unfold we
 rw[if_pos]
 ·exact⟨_,rfl⟩
 ·refine yo λi=>?_
  rw[bZ,AY]
  by_cases hi:i<ai G
  ·obtain⟨h1,h2⟩:=hH (i+1) i (by omega) hi
   rw[if_pos hi,gU hi,aL h1]
   have:=(I.wa hm iR h1).1
   rw[jS h1,h2]at this
   exact congrArg some this
  ·rw[if_neg hi,fF (by rw[cK];omega)];rfl
theorem Um{m:Bool × Nat}(hm:m∈aC){G:List (List Nat)}(hG:RT (ae m) (ai G) G){f:Nat}(hf:f∈cG (bH m G) (ai G)):∀r∈G,dt m (ai G) (cf r) (cf (dH m (bH m G) (ai G) f))=0:=λr hr=>by
 obtain⟨⟨H,I⟩,iR,il,sp⟩:=mK hm hG
 exact cw.dt hm (λi hi=>HH hm iR I hf hi) ((sp _).mp (cw.of hr))
end L3
namespace L3
open PySem L2 Mf
theorem HJ{r:List Nat}{k v:Nat}(hk:k<r.length)(j:Nat):cf (r.set k v) j=if j=k then v else cf r j:=by
 unfold cf
 rw[aK,List.getElem?_set,aK]
 by_cases h:k=j
 ·subst h
  rw[if_pos rfl,if_pos rfl,if_pos hk];rfl
 ·rw[if_neg h,if_neg (eK h)]
end L3
namespace L2
open PySem PySem.Spec PyProof.Rows
section
variable{X:Cx}
theorem Uo:∀{ns:List Int} {its:List Value},Vals (ns.map V.int) its->ns.length=its.length/\∀(i:Nat) (v:Value),its[i]?=some v->∃n t,ns[i]?=some n/\v=pd n t
 | [],_,r=>by cases r;exact⟨rfl,λi v h=>by simp at h⟩
 | n::ns,_,r=>by
  cases r with
  | cons a b =>
   obtain⟨h1,h2⟩:=Uo b
   obtain⟨t,rfl⟩:=a
   refine⟨by simp[h1],λi v h=>?_⟩
   cases i with
   | zero=>simp at h;exact⟨n,t,rfl,h.symm⟩
   | succ i=>simpa using h2 i v (by simpa using h)
theorem b04(hc:X.calm=true):iF X (.builtin "any") (λxs H Q=>∃(p:Addr) (ns:List Int),xs=[.ref p]/\bJ X.K H p (ns.map V.int)/\Q (.bl (ns.any (· != 0))) H):=by
 intro pins s σ H xs us Q I r h
 obtain⟨p,ns,rfl,hS,q⟩:=h
 obtain⟨u,rfl,ru⟩:=r.one
 cases ru
 obtain⟨its,rv,pl,hz⟩:=I.list hS
 obtain⟨hlen,FQ⟩:=Uo rv
 have hl:=pl.isList
 have ie:p<s.heap.objs.size:=by obtain⟨_,e,_⟩:=hl;exact bX e
 refine call_any_walk (wpAny_pyIter_list hl ?_)
 refine⟨s.heap.objs.size,[s.heap.objs.size,p],[s.heap.objs.size],its.toArray.size,_,_,λi=>((ns.map (· != 0))[i]?).getD false,rfl,Walks.list (A:=X.A.in1) (I.ok.hd hc) _ p (eI ie) its.toArray,
  ⟨⟨_,hW _ rfl,rfl,rfl⟩,hl.push _⟩,λi v s' Q' E' hP hQ=>?_,λh' tk hk=>?_⟩
 ·obtain⟨n,t,e,rfl⟩:=FQ i v (by simpa using hP)
  simp only[bZ,e,sM,pz]at hQ
  exact PyProof.Rows.truthy_int hQ
 ·have e:((aM its.toArray.size).any λi=>((ns.map (· != 0))[i]?).getD false)=(ns.map (· != 0)).any id:=by
   rw[eC,<- hlen,<- bG (f:=(· != 0)) (as:=ns)];exact cc0 _
  rw[e,PD]
  exact⟨.bl _,H,I.kept (h':=h') (t':=tk) (Rl hk),rfl,q⟩
end
end L2
namespace L3
open PySem L2 PySem.Spec PyProof.Rows
section
variable{X:Cx}
noncomputable def oS:jN:=λds Q=>match ds with
 | [.lst _ xs]=>∃ns,xs=aJ ns/\Q (.bl (ns.any (· != 0)))
 | _=>False
theorem cE5(hc:X.calm=true):jq X (.builtin "any") oS:=jq.of (b04 hc) λvs H Q zz=>by
 obtain⟨B,F,σ,δ,ts,ds,Qd,c,s,q,k⟩:=zz
 unfold oS at q
 split at q
 ·obtain⟨v,rfl,s1⟩:=kN s
  obtain⟨ns,rfl,q⟩:=q
  obtain⟨p,ws,rfl,h,t⟩:=nW s1 c.ext rfl
  rw[B0 t]at h
  exact⟨p,ns,rfl,kh h,k _ _ _ q (af.refl _) (c.pushS (.bl .nil) rfl)⟩
 ·exact q.elim
end
end L3
namespace L2
open PySem PySem.Spec PyProof.Rows
section
variable{X:Cx}{a:Expr}{ta:TE}{p p2 pos km:Pos}
noncomputable def tLR(ta:TE):TE:=λσ H Q=>ta σ H λv H1=>∃j:Nat,v=.int (j:Int)/\j<=1000/\∀l,H1 l=none->Q (.ref l) (upd H1 l (.lst ((aM j).map λ(k:Nat)=>V.int (k:Int))))
theorem bP9{n:Nat}{acc:Array Value}(h:ItemsOf (λ(i:Nat) (v:Value)=>∃t,v=pd ((0:Int)+(i:Int)*1) t) acc n):Vals ((aM n).map λ(k:Nat)=>V.int (k:Int)) acc.toList:=by
 have key:∀(l:List Value) (b:Nat),(∀(i:Nat) (v:Value),l[i]?=some v->∃t,v=pd ((b+i:Nat):Int) t)->Vals ((List.range' b l.length).map λ(k:Nat)=>V.int (k:Int)) l:=by
  intro l
  induction l with
  | nil=>exact λb _=>.nil
  | cons v l ih =>
   intro b hb
   rw[ia,List.range'_succ,dB]
   refine .cons ?_ (ih (b+1) λi v hv=>?_)
   ·obtain⟨t,rfl⟩:=hb 0 v rfl
    exact⟨t,rfl⟩
   ·obtain⟨t,e⟩:=hb (i+1) v (by simpa using hv)
    exact⟨t,by rw[e];congr 1;omega⟩
 have hl:acc.toList.length=n:=by rw[uR];exact h.1
 rw[List.range_eq_range',<- hl]
 refine key acc.toList 0 λi v hv=>?_
 obtain⟨t,e⟩:=h.2 i v (by simpa using hv)
 exact⟨t,by rw[e];congr 1;omega⟩
theorem bE4(hc:X.calm=true)(hg:Gl X "list")(hm:X.mg "list"=none)(zu:Gl X "range")(vM:X.mg "range"=none)(ha:PE X a ta)
  (hs:starEach [.Call (.Name "range" p2) [a] [] km] X.env=(false,eval (.Call (.Name "range" p2) [a] [] km) X.env)::starEach [] X.env:=by rfl) (bU:(backTo pos (starEach [] X.env)).any (·.1)=false:=by rfl)
  (fG:starEach [a] X.env=(false,eval a X.env)::starEach [] X.env:=by rfl) (HK:(backTo km (starEach [] X.env)).any (·.1)=false:=by rfl) (HL:starEach [] X.env=[]:=by rfl) :
  PE X (.Call (.Name "list" p) [.Call (.Name "range" p2) [a] [] km] [] pos) (tLR ta):=by
 intro pins s σ H Q I h
 refine wpAny_Call_Name_kw (m6 I hg hm s9 ?_ (by decide) (by decide))
 refine uS ?_ hs bU
 rw[hs]
 show wpAny _ _ (spliced ((false,eval (.Call (.Name "range" p2) [a] [] km) X.env)::backTo pos (starEach [] X.env))) _ _ s
 refine Pk ?_
 refine wpAny_Call_Name_kw (m6 I zu vM b87 ?_ (by decide) (by decide))
 refine uS ?_ fG HK
 rw[fG]
 show wpAny _ _ (spliced ((false,eval a X.env)::backTo km (starEach [] X.env))) _ _ s
 refine Pk (aO (ha pins s σ H _ I h) λu s1 zz=>?_)
 obtain⟨x,H1,I1,r1,q1⟩:=zz
 obtain⟨j,rfl,hj,q⟩:=q1
 obtain⟨t,rfl⟩:=r1
 rw[HL]
 refine Pj ?_
 refine call_range_1 ?_
 refine Pj ?_
 have I2:Inv X pins σ H1 { s1 with heap:=s1.heap.push { cls:=.type "range",data:=.fields #[.int 0 s1.toks,.int j t,.int 1 (s1.toks+1)] },toks:=s1.toks+1+1 }:=I1.kept λb o e=>fj _ e
 refine call_list_range (n:=j) (I2.ok.hd hc) (IsRange.new ..) (small_one (by omega) (by omega) (by omega) (by omega)) (by rw[rangeSize_one];split<;>omega) (by omega) λh' tk dv2 c' kp e zh=>?_
 have hv:=bP9 zh
 exact⟨.ref _,_,I2.laid (t':=tk) kp (by omega) (show dR X.prog X.w _ h' _ (.lst _) from⟨by rw[bG,cK];have:=sV;unfold sizeLine;omega,dv2.toList,c',hv,by simpa using e⟩),rfl,q _ (I2.aH.fresh (bP _))⟩
end
end L2
namespace L3
open PySem L2 PySem.Spec PyProof.Rows
section
variable{X:Cx}{a:Expr}{t:aN}{p p2 pos km:Pos}
noncomputable def rQ(t:aN):aN:=λδ Q=>t δ λd aj=>∃j:Nat,d=.int (j:Int)/\j<=1000/\Q (.lst true (ak (aM j))) aj
theorem bI5(hc:X.calm=true)(hg:Gl X "list")(hm:X.mg "list"=none)(zu:Gl X "range")(vM:X.mg "range"=none)(ha:PE X a (lB t))
  (hs:starEach [.Call (.Name "range" p2) [a] [] km] X.env=(false,eval (.Call (.Name "range" p2) [a] [] km) X.env)::starEach [] X.env:=by rfl) (bU:(backTo pos (starEach [] X.env)).any (·.1)=false:=by rfl)
  (fG:starEach [a] X.env=(false,eval a X.env)::starEach [] X.env:=by rfl) (HK:(backTo km (starEach [] X.env)).any (·.1)=false:=by rfl) (HL:starEach [] X.env=[]:=by rfl) :
  PE X (.Call (.Name "list" p) [.Call (.Name "range" p2) [a] [] km] [] pos) (lE (rQ t)) :=
 dn (bE4 hc hg hm zu vM ha hs bU fG HK HL) λσ H Q ⟨B,F,δ,ts,Qd,c,q,k⟩=>⟨B,F,δ,ts,_,c,q,λd aj v F1 H1 q1 f1 h1 c1 s1=>by
  obtain⟨j,rfl,hj,hq⟩:=q1
  cases s1
  refine⟨j,rfl,hj,λl hl=>?_⟩
  have sn:∀ns:List Nat,S F1 H1 (ak ns) (ns.map λ(k:Nat)=>V.int (k:Int)):=λns=>by
   induction ns with
   | nil=>exact .nil
   | cons n ns ih=>exact .int ih
  exact k _ aj _ F1 _ hq f1 (h1.trans (af.upd hl)) (c1.nF hl (sn _) (jP _))⟩
end
end L3
namespace L3
open PySem L2 PySem.Spec PyProof.Rows
section
variable{F H:Hp}
theorem R.take1{xs:List D}{ws:List V}{A:List Addr}(n:Nat)(r:R F H xs ws A)(nd:A.Nodup):∃A',R F H (xs.take n) (ws.take n) A'/\A'.Nodup/\∀a∈A',a∈A:=by
 have r':R F H (xs.take n++xs.drop n) ws A:=by rw[yv];exact r
 obtain⟨v1,v2,A1,A2,rfl,rfl,h1,h2⟩:=R.split r'
 have l1:=h1.length
 have l2:=h2.length
 rw[eZ]at l1
 rw[iD]at l2
 have e:(v1++v2).take n=v1:=by
  by_cases c:n<=xs.length
  ·exact List.take_left' (by omega)
  ·have:v2=[]:=EV.mp (by omega)
   rw[this,iC]
   exact ym (by omega)
 rw[e]
 exact⟨A1,h1,(gH.mp nd).1,λa ha=>fW _ ha⟩
theorem R.dv4{xs:List D}{ws:List V}{A:List Addr}(n:Nat)(r:R F H xs ws A)(nd:A.Nodup):∃A',R F H (xs.drop n) (ws.drop n) A'/\A'.Nodup/\∀a∈A',a∈A:=by
 have r':R F H (xs.take n++xs.drop n) ws A:=by rw[yv];exact r
 obtain⟨v1,v2,A1,A2,rfl,rfl,h1,h2⟩:=R.split r'
 have l1:=h1.length
 have l2:=h2.length
 rw[eZ]at l1
 rw[iD]at l2
 have e:(v1++v2).drop n=v2:=by
  by_cases c:n<=xs.length
  ·exact List.drop_left' (by omega)
  ·have:v2=[]:=EV.mp (by omega)
   rw[this,iC]
   exact EH (by omega)
 rw[e]
 exact⟨A2,h2,(gH.mp nd).2.1,λa ha=>dY _ ha⟩
theorem R.dv5{xs:List D}{ws:List V}{A:List Addr}(lo hi:Option Int)(r:R F H xs ws A)(nd:A.Nodup):∃A',R F H (eF xs lo hi) (kI ws lo hi) A'/\A'.Nodup/\∀a∈A',a∈A:=by
 unfold eF kI
 rw[<-r.length]
 obtain⟨A1,r1,n1,s1⟩:=r.dv4 (HT.cU xs.length 0 lo) nd
 obtain⟨A2,r2,n2,s2⟩:=r1.take1 (HT.cU xs.length xs.length hi-HT.cU xs.length 0 lo) n1
 exact⟨A2,r2,n2,λa ha=>s1 a (s2 a ha)⟩
theorem ao.dv6{B:Bs}{σ:L2.St}{δ:Dl}{ts:List (D × V)}{p r:Addr}{xs:List D}{ws:List V}(c:ao B F H σ δ ((.lst true xs,.ref p)::ts))(e1:H p=some (.lst ws))(hr:H r=none)(lo hi:Option Int) :
  ao B F (upd H r (.lst (kI ws lo hi))) σ δ ((.lst true (eF xs lo hi),.ref r)::ts):=by
 refine ao.pack (ps:=[(.lst true xs,.ref p)]) c (af.upd hr) λA1 r1 nd=>?_
 have n1:p≠r:=λz=>by rw[z,hr]at e1;cases e1
 have r1:R F (upd H r (.lst (kI ws lo hi))) [.lst true xs] [.ref p] A1:=r1
 have nr:r ∉ A1:=λh=>by
  obtain⟨A,C,r0,_,_,_⟩:=c.own
  have r0':R F H ([D.lst true xs]++ts.map (·.1)) ([V.ref p]++ts.map (·.2)) A:=by simpa using r0
  obtain⟨v1,v2,B1,B2,e,rfl,h1,h2⟩:=R.split r0'
  have l1:[V.ref p].length=v1.length:=by rw[<-h1.length];rfl
  obtain⟨rfl,rfl⟩:=AX e l1
  have g1:=h1.grow (af.refl F) (af.upd (o:=.lst (kI ws lo hi)) hr) λa ha=>(h1.lists a ha).2
  have e3:A1=B1:=R.inj r1 g1
  subst e3
  obtain⟨⟨_,q⟩,_⟩:=h1.lists r h
  rw[hr]at q;cases q
 cases r1 with
 | @own _ wx _ Ax _ _ Bx hx fx rx rc =>
  cases rc
  rw[bb n1,e1]at hx;cases hx
  rw[iC]at nd nr ⊢
  rw[jy]at nd
  obtain⟨A2,r2,nd2,s2⟩:=rx.dv5 lo hi nd.2
  refine⟨r::A2,by simpa using R.own (F:=F) cB (c.ext.free hr) r2 .nil,?_,λa ha=>?_⟩
  ·rw[jy];exact⟨λz=>nr (eJ _ (s2 r z)),nd2⟩
  ·rcases cA.mp ha with rfl | ha
   ·exact .inr hr
   ·exact .inl (eJ _ (s2 a ha))
end
section
variable{X:Cx}{e:Expr}{t:aN}{p2 pos:Pos}
noncomputable def rR(t:aN)(tl th:qR):aN:=λδ Q=>t δ λx aj=>∃xs,x=.lst true xs/\tl aj λl aQ=>th aQ λu gq=>Q (.lst true (eF xs l u)) gq
theorem b79{lo hi:Option Expr}{tl th:qR}(he:PE X e (lE t))(hl:PO X lo (lP tl))(hu:PO X hi (lP th)):PE X (.Subscript e (.Slice lo hi none p2) pos) (lE (rR t tl th)) :=
 dn (Qx QF he hl hu) λσ H Q ⟨B,F,δ,ts,Qd,c,q,k⟩=>⟨B,F,δ,ts,_,c,q,λx aj v F1 H1 q1 f1 h1 c1=>by
  obtain⟨xs,rfl,q1⟩:=q1
  exact⟨B,F1,aj,(.lst true xs,v)::ts,_,c1,q1,λl aQ F2 H2 q2 f2 h2 c2=>⟨B,F2,aQ,(.lst true xs,v)::ts,_,c2,q2,λu gq F3 H3 q3 f3 h3 c3=>by
   obtain⟨p,ws,rfl,e1,s1⟩:=gv c3.top c3.ext
   exact⟨p,ws,rfl,(kh (.inl e1)),λr hr=>k _ gq _ F3 _ q3 ((f1.trans f2).trans f3) (((h1.trans h2).trans h3).trans (af.upd hr)) (c3.dv6 e1 hr l u)⟩⟩⟩⟩
end
end L3
namespace L3
open PySem L2 PySem.Spec PyProof.Rows
noncomputable def FL(A:List Addr)(H:Hp):Hp:=λa=>if a∈A then none else H a
section
variable{F H:Hp}
end
section
variable{P:Program}{w:World}{K:PySem.W.Frag}{mg:Str->Option Value}{base:Heap}
end
section
variable{X:Cx}{CX:e7}{n i:Nat}{f:Addr}{fd:FuncData}{ps:List Str}{sp:bx}{E:XK}{fn x:Str}{e:Expr}{te:aN}{p p2 pos pos' km:Pos}
end
end L3
namespace L2
section
variable{α:Type}{P:List α->Prop}
theorem cD1(h:P []):∀us:List α,us.length=0->P us:=by
 intro us hl;rcases us with _ | ⟨a,t⟩
 ·exact h
 ·cases hl
theorem iX(h:∀a,P [a]):∀us:List α,us.length=1->P us:=by
 intro us hl;rcases us with _ | ⟨a,t⟩
 ·cases hl
 ·exact cD1 (P:=λt=>P (a::t)) (h a) t (yw hl)
theorem fM(h:∀a b,P [a,b]):∀us:List α,us.length=2->P us:=by
 intro us hl;rcases us with _ | ⟨a,t⟩
 ·cases hl
 ·exact iX (P:=λt=>P (a::t)) (h a) t (yw hl)
theorem gO(h:∀a b c,P [a,b,c]):∀us:List α,us.length=3->P us:=by
 intro us hl;rcases us with _ | ⟨a,t⟩
 ·cases hl
 ·exact fM (P:=λt=>P (a::t)) (h a) t (yw hl)
theorem rS(h:∀a b c d,P [a,b,c,d]):∀us:List α,us.length=4->P us:=by
 intro us hl;rcases us with _ | ⟨a,t⟩
 ·cases hl
 ·exact gO (P:=λt=>P (a::t)) (h a) t (yw hl)
theorem Up(h:∀a b c d e,P [a,b,c,d,e]):∀us:List α,us.length=5->P us:=by
 intro us hl;rcases us with _ | ⟨a,t⟩
 ·cases hl
 ·exact rS (P:=λt=>P (a::t)) (h a) t (yw hl)
theorem cD8(h:∀a b c d e f,P [a,b,c,d,e,f]):∀us:List α,us.length=6->P us:=by
 intro us hl;rcases us with _ | ⟨a,t⟩
 ·cases hl
 ·exact Up (P:=λt=>P (a::t)) (h a) t (yw hl)
end
end L2
namespace L3
open PySem L2 PySem.Spec PyProof.Rows
section
variable{B:Bs}{F H:Hp}{σ:L2.St}{δ:Dl}{ts:List (D × V)}
theorem ao.apart{j:Nat}{p q:Addr}{xs ys:List D}(c:ao B F H σ δ ((.lst true xs,.ref q)::ts))(e:δ[j]?=some (some (.lst true ys)))(e2:σ[j]?=some (some (.ref p))):p≠q:=by
 obtain⟨A,C,r,s,nd,fr⟩:=c.own
 obtain⟨v,A',C',e1,h1,h2,pm⟩:=s.pick e
 rw[e2]at e1;cases e1
 intro z
 subst z
 have i1:p∈A:=by
  cases r with
  | own h f x r=>simp
 have i2:p∈C:=by
  refine pm.mem_iff.mpr ?_
  cases h1 with
  | own h f x r=>simp
 exact(gH.mp nd).2.2 p i1 i2
end
section
variable{X:Cx}{elt iter tg:Expr}{pos:Pos}{scope:Scope}{cl:List (Str × Addr)}{ti:jo}{te:aN}{g:iM}
end
end L3
namespace L2
open PySem PySem.Spec PyProof.Rows
section
variable{X:Cx}
end
end L2
namespace L3
open PySem L2 PySem.Spec PyProof.Rows
section
variable{X:Cx}
end
end L3
namespace L3
open PySem L2 Mf
theorem HM{m:Bool × Nat}(hm:m∈aC){a b:Nat}(ha:a<ae m)(hb:b<ae m):gm m a b=0↔a=0\/b=0:=by
 constructor
 ·intro h
  by_cases a0:a=0
  ·exact .inl a0
  ·by_cases b0:b=0
   ·exact .inr b0
   ·exact absurd h (cG8 hm (by omega) ha (by omega) hb)
 ·rintro (rfl | rfl)
  ·exact fh m _ (cg m hm)
  ·exact iV m _ (cg m hm)
noncomputable def CK(l:List Nat)(z:Nat->Nat):Nat->List Nat
 | 0=>l
 | t+1=>(CK l z t).eraseIdx (z t%(CK l z t).length)
noncomputable def drawn(l:List Nat)(z:Nat->Nat)(t:Nat):Nat:=(CK l z t).getD (z t%(CK l z t).length) 0
theorem bT7(l:List Nat):ak l=aJ (l.map λ(n:Nat)=>(n:Int)):=by rw[cu];unfold aJ;rw[cH];rfl
theorem Uq{xs ys:List Nat}{i:Nat}{d:D}(h:(dP (ak xs) (ak ys))[i]?=some d):∃(hi:i<xs.length) (hj:i<ys.length),d=.tup [.int (xs[i]:Nat),.int (ys[i]:Nat)]:=by
 unfold dP at h
 rw[cu,cu,EK]at h
 have hl:=(jW.mp h).1
 rw[kA]at hl
 have hi:i<xs.length:=by omega
 have hj:i<ys.length:=by omega
 rw[sJ,aL hi,aL hj]at h
 exact⟨hi,hj,(cW h).symm⟩
theorem Ur(xs ys:List Nat):(dP (ak xs) (ak ys)).length=min xs.length ys.length:=by unfold dP;rw[kA,eT,eT]
end L3
namespace L3
open PySem L2 Mf
noncomputable def gP(m:Bool × Nat)(c:List Nat)(os:List (List Nat)):List (List Nat):=os.map λo =>
 (eE (λx y=>bW m x (gm m (gm m (o.getD (aT c) 0) (jR m (c.getD (aT c) 0))) y)) o c).take (aT c)++(eE (λx y=>bW m x (gm m (gm m (o.getD (aT c) 0) (jR m (c.getD (aT c) 0))) y)) o c).drop (aT c+1)
noncomputable abbrev Cs:=List Nat × List (List Nat)
noncomputable def nul(c:List Nat):Bool:=c.all (·==0)
noncomputable def iY(m:Bool × Nat)(w:Nat)(z:Cs × Nat):Cs:=(z.1.1++[w-z.1.2.length+z.2],gP m (z.1.2.getD z.2 []) (z.1.2.drop (z.2+1)))
noncomputable def fA(s:Cs):List (Cs × Nat):=(aM s.2.length).map λi=>(s,i)
noncomputable def dJ(l:List Cs):List (Cs × Nat):=l.flatMap fA
noncomputable def oU(z:Cs × Nat):Bool:=nul (z.1.2.getD z.2 [])
noncomputable def uC(m:Bool × Nat)(w:Nat):Nat->List Cs->Option (List Nat)
 | 0,_=>none
 | f+1,l=>if l=[]then none else match (dJ l).find? oU with
  | some z=>some (z.1.1++[w-z.1.2.length+z.2])
  | none=>uC m w f ((dJ l).map (iY m w))
noncomputable def cX(m:Bool × Nat)(C:Nat->Nat->Nat)(ps:List Nat)(c:Nat->Nat)(k:Nat):Nat:=sm (gp m) ps.length λt=>gm m (c t) (C (ps.getD t 0) k)
noncomputable def kn(m:Bool × Nat)(C:Nat->Nat->Nat)(ps:List Nat):Prop:=∀c:Nat->Nat,(∀t,c t<ae m)->(∀k,cX m C ps c k=0)->∀t,t<ps.length->c t=0
structure Gs(m:Bool × Nat)(C:Nat->Nat->Nat)(w:Nat)(s:Cs):Prop where
 le:s.2.length<=w
 inc:s.1.Pairwise (· < ·)
 off:∀p∈s.1,p<w-s.2.length
 nx:∀j,(∀p∈s.1,p<j)->w-s.2.length<=j
 rt:∃h,RT (ae m) h s.2
 rel:∀a:Nat->Nat,(∀i,a i<ae m)->((∀k,sm (gp m) s.2.length (λi=>gm m (a i) (cf (s.2.getD i []) k))=0)↔∃c:Nat->Nat,(∀t,c t<ae m)/\∀k,gp m (sm (gp m) s.2.length λi=>gm m (a i) (C (w-s.2.length+i) k)) (cX m C s.1 c k)=0)
 ind:kn m C s.1
section
variable{m:Bool × Nat}{C:Nat->Nat->Nat}{w:Nat}
theorem Us(hm:m∈aC)(C:Nat->Nat->Nat)(ps:List Nat)(c:Nat->Nat)(k:Nat):cX m C ps c k<ae m:=iy (rg hm) λ_ _=>bY hm _ _
theorem z8(hm:m∈aC)(C:Nat->Nat->Nat)(ps:List Nat)(j:Nat)(c:Nat->Nat)(k:Nat):cX m C (ps++[j]) c k=gp m (cX m C ps c k) (gm m (c ps.length) (C j k)):=by
 unfold cX
 rw[fN,YN,sm]
 congr 1
 ·refine bQ λt ht=>?_
  rw[aK,uU ht,<- aK]
 ·rw[aK,sA (bP _),EL];rfl
theorem HN{ps:List Nat}{c c':Nat->Nat}{k:Nat}(h:∀t,t<ps.length->c t=c' t):cX m C ps c k=cX m C ps c' k:=bQ λt ht=>by rw[h t ht]
theorem rT(hm:m∈aC){n i e:Nat}(hi:i<n)(a' X:Nat->Nat):sm (gp m) n (λj=>gm m (if j<i then 0 else if j=i then e else a' (j-i-1)) (X j))=gp m (sm (gp m) (n-i-1) λj=>gm m (a' j) (X (i+1+j))) (gm m e (X i)):=by
 have r:=rg hm
 have h0:=cg m hm
 obtain⟨d,rfl⟩:∃d,n=(i+1)+d:=⟨n-i-1,by omega⟩
 rw[rL r (i+1) d λ_ _=>bY hm _ _,sm,eH r λj hj=>by rw[if_pos hj,fh m _ h0],if_neg (fV _),if_pos rfl,r.z (bY hm _ _),oG]
 congr 1
 rw[show i+1+d-i-1=d by omega]
 refine bQ λj hj=>?_
 rw[if_neg (by omega),if_neg (by omega),show i+1+j-i-1=j by omega]
theorem Ut{c:List Nat}:nul c=true↔∀k,cf c k=0:=by
 unfold nul
 rw[du]
 constructor
 ·intro h k
  by_cases hk:k<c.length
  ·unfold cf
   have:=h _ (bN hk 0)
   exact beq_iff_eq.mp this
  ·exact kY (by omega)
 ·intro h x hx
  obtain⟨k,hk,rfl⟩:=fX hx
  have:=h k
  unfold cf at this
  rw[aK,aL hk]at this
  exact beq_iff_eq.mpr this
theorem HP{c:List Nat}(h:nul c=false):aT c<c.length/\cf c (aT c)≠0:=by
 have hx:∃x∈c,(x != 0)=true:=by
  refine yl λz=>?_
  have:nul c=true:=by
   unfold nul
   rw[du]
   intro x hx
   refine yl λy=>z ⟨x,hx,?_⟩
   simpa using y
  rw[h]at this;cases this
 have hl:aT c<c.length:=PK hx
 refine⟨hl,?_⟩
 have h2:(c[aT c] != 0)=true:=Y2 (xs:=c) (p:=(· != 0)) (w:=hl)
 unfold cf
 rw[aK,aL hl]
 simpa using h2
theorem cu3(hm:m∈aC){b:List Nat}{os:List (List Nat)}{h:Nat}(hb:b.length=h)(ab:AllLt (ae m) b)(lu:RT (ae m) h os)(nb:nul b=false){a:Nat->Nat}(ha:∀i,a i<ae m) :
  (∀k,sm (gp m) os.length (λj=>gm m (a j) (cf ((gP m b os).getD j []) k))=0)↔∃e,e<ae m/\∀k,gp m (sm (gp m) os.length λj=>gm m (a j) (cf (os.getD j []) k)) (gm m e (cf b k))=0:=by
 have r:=rg hm
 have h0:=cg m hm
 have dN:=lo1 hm
 obtain⟨hp,bp⟩:=HP nb
 have Uu:=dA hm ab (aT b)
 obtain⟨iv,iv1,Uv⟩:=Hr hm (a:=1) (by omega) Uu bp
 have z9:jR m (b.getD (aT b) 0)=iv:=v7 hm iv1 Uv
 obtain⟨D,hD⟩:∃D:Nat->List Nat,∀j,D j=eE (λx y=>bW m x (gm m (gm m ((os.getD j []).getD (aT b) 0) iv) y)) (os.getD j []) b:=⟨_,λ_=>rfl⟩
 have Uw:∀j,j<os.length->∀k,gp m (cf (D j) k) (gm m (gm m (cf (os.getD j []) (aT b)) iv) (cf b k))=cf (os.getD j []) k:=λj hj k=>by
  rw[hD]
  exact CB hm (lu _ (bN hj [])).1 hb (lu _ (bN hj [])).2 k
 have Dlt:∀j,j<os.length->∀k,cf (D j) k<ae m:=λj hj k=>by
  rw[hD]
  exact HD hm (lu _ (bN hj [])).1 hb (lu _ (bN hj [])).2 _ k
 have Dp:∀j,j<os.length->cf (D j) (aT b)=0:=λj hj=>by
  have l1:=dA hm (lu _ (bN hj [])).2 (aT b)
  have:=Uw j hj (aT b)
  rw[ju h0,Uv,oE l1]at this
  exact r.cn (Dlt j hj _) l1 this
 have dw6:∀j,j<os.length->(D j).length=h:=λj hj=>by
  rw[hD,kA,(lu _ (bN hj [])).1,hb,yn]
 have HQ:∀j,j<os.length->∀k,cf ((gP m b os).getD j []) k=cf (D j) (if k<aT b then k else k+1):=λj hj k=>by
  have e1:(gP m b os).getD j []=(D j).take (aT b)++(D j).drop (aT b+1):=by
   unfold gP
   rw[v9 _ hj [] [],z9,hD]
  rw[e1]
  have lt:((D j).take (aT b)).length=aT b:=by rw[eZ,dw6 j hj];omega
  unfold cf
  by_cases hk:k<aT b
  ·rw[if_pos hk,aK,uU (by omega),YM hk,<- aK]
  ·rw[if_neg hk,aK,sA (by omega),lt,EG,show aT b+1+(k-aT b)=k+1 by omega,<- aK]
 obtain⟨F,hF⟩:∃F,F=sm (gp m) os.length λj=>gm m (a j) (gm m (cf (os.getD j []) (aT b)) iv):=⟨_,rfl⟩
 have Flt:F<ae m:=by rw[hF];exact iy r λ_ _=>bY hm _ _
 have Ux:∀k,(sm (gp m) os.length λj=>gm m (a j) (cf (os.getD j []) k))=gp m (sm (gp m) os.length λj=>gm m (a j) (cf (D j) k)) (gm m F (cf b k)):=λk=>by
  rw[bQ (g:=λj=>gp m (gm m (a j) (cf (D j) k)) (gm m (cf b k) (gm m (a j) (gm m (cf (os.getD j []) (aT b)) iv)))) λj hj=>?_,mI r,kZ r,<- hF,gz m (cf b k)]
  rw[<-Uw j hj k,Ts h0]
  congr 1
  rw[<-ju h0,gz m _ (cf b k)]
 have Sf:(∀k,sm (gp m) os.length (λj=>gm m (a j) (cf ((gP m b os).getD j []) k))=0)↔∀k,sm (gp m) os.length (λj=>gm m (a j) (cf (D j) k))=0:=by
  constructor
  ·intro h k
   by_cases e:k=aT b
   ·exact eH r λj hj=>by rw[e,Dp j hj,iV m _ h0]
   ·by_cases c:k<aT b
    ·rw[<-h k]
     exact bQ λj hj=>by rw[HQ j hj,if_pos c]
    ·rw[<-h (k-1)]
     exact bQ λj hj=>by rw[HQ j hj,if_neg (by omega),show k-1+1=k by omega]
  ·intro h k
   rw[bQ λj hj=>by rw[HQ j hj]]
   exact h _
 rw[Sf]
 constructor
 ·intro h
  obtain⟨e,e1,e2⟩:=r.ng Flt
  refine⟨e,e1,λk=>?_⟩
  rw[Ux k,h k,r.z (bY hm _ _),<- Hl h0,e2,fh m _ h0]
 ·rintro⟨e,e1,h⟩
  have key:∀k,gp m (sm (gp m) os.length λj=>gm m (a j) (cf (D j) k)) (gm m (gp m F e) (cf b k))=0:=λk=>by
   rw[Hl h0,<- Cp,<- Ux k]
   exact h k
  have fe:gp m F e=0:=by
   have:=key (aT b)
   rw[eH r λj hj=>by rw[Dp j hj,iV m _ h0],r.z (bY hm _ _)]at this
   rcases(HM hm (Hm hm Flt e1) Uu).mp this with z | z
   ·exact z
   ·exact absurd z bp
  intro k
  have:=key k
  rw[fe,fh m _ h0,oH (iy r λ_ _=>bY hm _ _)]at this
  exact this
theorem Uy(m:Bool × Nat)(b:List Nat)(os:List (List Nat)):(gP m b os).length=os.length:=by unfold gP;rw[bG]
theorem cE7(hm:m∈aC){b:List Nat}{os:List (List Nat)}{h:Nat}(hb:b.length=h)(lu:RT (ae m) h os)(nb:nul b=false):RT (ae m) (h-1) (gP m b os):=λx hx=>by
 obtain⟨o,ho,rfl⟩:=bO.mp hx
 obtain⟨hp,_⟩:=HP nb
 obtain⟨l1,l2⟩:=lu o ho
 refine⟨by rw[fN,eZ,iD,kA,l1,hb];omega,λy hy=>?_⟩
 have:AllLt (ae m) (eE (λx y=>bW m x (gm m (gm m (o.getD (aT b) 0) (jR m (b.getD (aT b) 0))) y)) o b):=Cr λx hx y _=>(mG hm (l2 x hx) (bY hm _ y)).2.1
 rcases cJ.mp hy with z | z
 ·exact this y (pJ z)
 ·exact this y (pI z)
theorem Gs.next(hm:m∈aC){s:Cs}(G:Gs m C w s){i:Nat}(hi:i<s.2.length)(nb:nul (s.2.getD i [])=false)(hC:∀j k,C j k<ae m):Gs m C w (iY m w (s,i)):=by
 have r:=rg hm
 have h0:=cg m hm
 have dN:=lo1 hm
 have hle:=G.le
 obtain⟨h,CL⟩:=G.rt
 obtain⟨bl,ba⟩:=CL _ (bN hi [])
 have Uz:RT (ae m) h (s.2.drop (i+1)):=λx hx=>CL x (pI hx)
 have kl:(iY m w (s,i)).2.length=s.2.length-i-1:=by
  show(gP m _ _).length=_
  rw[Uy,iD]
  show s.2.length-(i+1)=_
  omega
 have dl:(s.2.drop (i+1)).length=s.2.length-i-1:=by rw[iD];omega
 have ko:w-(iY m w (s,i)).2.length=w-s.2.length+i+1:=by omega
 have dg:∀j,(s.2.drop (i+1)).getD j []=s.2.getD (i+1+j) []:=λj=>by rw[aK,EG,<- aK]
 refine⟨by omega,?_,λp hp=>?_,λj hj=>?_,⟨h-1,cE7 hm bl Uz nb⟩,λa ha=>?_,λc hc hz t ht=>?_⟩
 ·refine u5.mpr ⟨G.inc,EW _ _,λx hx y hy=>?_⟩
  rw[e5.mp hy]
  have:=G.off x hx
  show x<w-s.2.length+i
  omega
 ·rw[ko]
  rcases cJ.mp hp with z | z
  ·have:=G.off p z;omega
  ·rw[e5.mp z];exact yh _
 ·rw[ko]
  have:=hj (w-s.2.length+i) (dY _ (e5.mpr rfl))
  omega
 ·have e1:(∀k,sm (gp m) (iY m w (s,i)).2.length (λj=>gm m (a j) (cf ((iY m w (s,i)).2.getD j []) k))=0)↔∃e,e<ae m/\∀k,gp m (sm (gp m) (s.2.length-i-1) λj=>gm m (a j) (cf (s.2.getD (i+1+j) []) k)) (gm m e (cf (s.2.getD i []) k))=0:=by
   have:=cu3 hm bl ba Uz nb ha
   rw[dl]at this
   rw[kl]
   refine this.trans ?_
   constructor
   ·rintro⟨e,e1,e2⟩
    exact⟨e,e1,λk=>by rw[<-e2 k,bQ λj _=>by rw[<-dg j]]⟩
   ·rintro⟨e,e1,e2⟩
    exact⟨e,e1,λk=>by rw[<-e2 k,bQ λj _=>by rw[dg j]]⟩
  rw[e1]
  have al:∀e,e<ae m->∀j,(if j<i then 0 else if j=i then e else a (j-i-1))<ae m:=λe he j=>by
   split
   ·omega
   ·split
    ·exact he
    ·exact ha _
  have UA:∀(c:Nat->Nat) (e k:Nat),gp m (sm (gp m) s.2.length λj=>gm m (if j<i then 0 else if j=i then e else a (j-i-1)) (C (w-s.2.length+j) k)) (cX m C s.1 c k)=gp m (sm (gp m) (s.2.length-i-1) λj=>gm m (a j) (C (w-s.2.length+i+1+j) k)) (gp m (cX m C s.1 c k) (gm m e (C (w-s.2.length+i) k))):=λc e k=>by
   rw[rT hm hi a (λj=>C (w-s.2.length+j) k),Cp,oG m (gm m e _)]
   congr 1
   exact bQ λj _=>by rw[show w-s.2.length+(i+1+j)=w-s.2.length+i+1+j by omega]
  have ln:∀c k,cX m C (iY m w (s,i)).1 c k=gp m (cX m C s.1 c k) (gm m (c s.1.length) (C (w-s.2.length+i) k)):=λc k=>z8 hm C s.1 _ c k
  constructor
  ·rintro⟨e,e1,e2⟩
   obtain⟨c,c1,c2⟩:=(G.rel _ (al e e1)).mp λk=>by
    rw[rT hm hi a (λj=>cf (s.2.getD j []) k)]
    exact e2 k
   refine⟨λt=>if t=s.1.length then e else c t,λt=>by
    show(if t=s.1.length then e else c t)<ae m
    split
    ·exact e1
    ·exact c1 t,λk=>?_⟩
   rw[ln,ko,kl,if_pos rfl,HN (c':=c) λt ht=>if_neg (eI ht),<- UA c e k]
   exact c2 k
  ·rintro⟨c,c1,c2⟩
   refine⟨c s.1.length,c1 _,λk=>?_⟩
   have:=(G.rel _ (al _ (c1 s.1.length))).mpr ⟨c,c1,λk=>by
    rw[UA c _ k]
    have:=c2 k
    rw[ln,ko,kl]at this
    exact this⟩ k
   rw[rT hm hi a (λj=>cf (s.2.getD j []) k)]at this
   exact this
 ·have ln:∀k,gp m (cX m C s.1 c k) (gm m (c s.1.length) (C (w-s.2.length+i) k))=0:=λk=>by
   rw[<-z8 hm C s.1 _ c k]
   exact hz k
  have e0:c s.1.length=0:=by
   refine yl λz=>?_
   have al:∀j,(if j<i then 0 else if j=i then c s.1.length else(λ_=>0) (j-i-1))<ae m:=λj=>by
    split
    ·omega
    ·split
     ·exact hc _
     ·show 0<_;omega
   have z0:∀(n:Nat) (X:Nat->Nat),sm (gp m) n (λj=>gm m ((λ_=>0) j) (X j))=0:=λn X=>eH r λ_ _=>fh m _ h0
   have:=(G.rel _ al).mpr ⟨c,hc,λk=>by
    rw[rT hm hi (λ_=>0) (λj=>C (w-s.2.length+j) k),z0,r.z (bY hm _ _),oG]
    exact ln k⟩
   have nn:nul (s.2.getD i [])=true:=Ut.mpr λk=>by
    have q:=this k
    rw[rT hm hi (λ_=>0) (λj=>cf (s.2.getD j []) k),z0,r.z (bY hm _ _)]at q
    rcases(HM hm (hc _) (dA hm ba k)).mp q with y | y
    ·exact absurd y z
    ·exact y
   rw[nb]at nn;cases nn
  have hs:∀k,cX m C s.1 c k=0:=λk=>by
   have:=ln k
   rw[e0,fh m _ h0,oH (Us hm C _ c k)]at this
   exact this
  have hl:(iY m w (s,i)).1.length=s.1.length+1:=by show(s.1++[_]).length=_;rw[fN];rfl
  by_cases ct:t<s.1.length
  ·exact G.ind c hc hs t ct
  ·rw[show t=s.1.length by omega];exact e0
theorem Gs.bound(hm:m∈aC){s:Cs}(G:Gs m C w s){i:Nat}(hi:i<s.2.length)(hC:∀j k,C j k<ae m):nul (s.2.getD i [])=true↔∃c:Nat->Nat,(∀t,c t<ae m)/\c s.1.length=1/\∀k,cX m C (s.1++[w-s.2.length+i]) c k=0:=by
 have r:=rg hm
 have h0:=cg m hm
 have dN:=lo1 hm
 obtain⟨h,CL⟩:=G.rt
 obtain⟨bl,ba⟩:=CL _ (bN hi [])
 have al:∀j,(if j<i then 0 else if j=i then 1 else(λ_=>0) (j-i-1))<ae m:=λj=>by
  split
  ·omega
  ·split
   ·omega
   ·show 0<_;omega
 have z0:∀(n:Nat) (X:Nat->Nat),sm (gp m) n (λj=>gm m ((λ_=>0) j) (X j))=0:=λn X=>eH r λ_ _=>fh m _ h0
 have e1:nul (s.2.getD i [])=true↔∀k,sm (gp m) s.2.length (λj=>gm m (if j<i then 0 else if j=i then 1 else(λ_=>0) (j-i-1)) (cf (s.2.getD j []) k))=0:=by
  rw[Ut]
  refine forall_congr' λk=>?_
  rw[rT hm hi (λ_=>0) (λj=>cf (s.2.getD j []) k),z0,r.z (bY hm _ _),kU (dA hm ba k)]
 rw[e1,G.rel _ al]
 constructor
 ·rintro⟨c,c1,c2⟩
  refine⟨λt=>if t=s.1.length then 1 else c t,λt=>by
   show(if t=s.1.length then 1 else c t)<ae m
   split
   ·omega
   ·exact c1 t,if_pos rfl,λk=>?_⟩
  rw[z8 hm,if_pos rfl,HN (c':=c) λt ht=>if_neg (eI ht),oG,<- c2 k,rT hm hi (λ_=>0) (λj=>C (w-s.2.length+j) k),z0,r.z (bY hm _ _)]
 ·rintro⟨c,c1,c2,c3⟩
  refine⟨c,c1,λk=>?_⟩
  have:=c3 k
  rw[z8 hm,c2]at this
  rw[rT hm hi (λ_=>0) (λj=>C (w-s.2.length+j) k),z0,r.z (bY hm _ _),oG]
  exact this
end
end L3
namespace L3
open PySem L2 Mf
noncomputable def iA:List Nat->List Nat->Prop
 | a::as,b::bs=>a<b\/(a=b/\iA as bs)
 | _,_=>False
theorem HR:∀l:List Nat,¬ iA l l
 | [],h=>h
 | a::l,h=>h.elim (λz=>fV _ z) λz=>HR l z.2
theorem UB:∀a b:List Nat,iA a b->¬ iA b a
 | [],_,h,_=>h
 | _::_,[],h,_=>h
 | a::as,b::bs,h,h'=>by
  rcases h with h | ⟨rfl,h⟩
  ·rcases h' with h' | ⟨e,_⟩
   ·omega
   ·omega
  ·rcases h' with h' | ⟨_,h'⟩
   ·omega
   ·exact UB as bs h h'
theorem UC:∀(a b:List Nat) (x y:List Nat),a.length=b.length->iA a b->iA (a++x) (b++y)
 | [],_,_,_,_,h=>h.elim
 | _::_,[],_,_,_,h=>h.elim
 | a::as,b::bs,x,y,hl,h=>by
  rcases h with h | ⟨e,h⟩
  ·exact .inl h
  ·exact .inr ⟨e,UC as bs x y (by simpa using hl) h⟩
theorem UD:∀(a:List Nat) (x y:Nat),x<y->iA (a++[x]) (a++[y])
 | [],_,_,h=>.inl h
 | _::as,x,y,h=>.inr ⟨rfl,UD as x y h⟩
noncomputable def dr(w:Nat)(S:List Nat):Prop:=S.Pairwise (· < ·)/\∀x∈S,x<w
theorem UE:∀(S:List Nat) (lo w:Nat),S.Pairwise (· < ·)->(∀x∈S,lo<=x/\x<w)->S.length<=w-lo
 | [],_,_,_,_=>jX _
 | a::S,lo,w,hp,h=>by
  rw[u4]at hp
  have ih:=UE S (a+1) w hp.2 λx hx=>⟨hp.1 x hx,(h x (eJ _ hx)).2⟩
  have ha:=h a (gS ..)
  rw[ia]
  omega
theorem dr.len{S:List Nat}{w:Nat}(h:dr w S):S.length<=w:=UE S 0 w h.1 λx hx=>⟨jX _,h.2 x hx⟩
theorem dr.take{S:List Nat}{w:Nat}(h:dr w S)(k:Nat):dr w (S.take k):=⟨h.1.sublist (List.take_sublist k S),λx hx=>h.2 x (pJ hx)⟩
noncomputable def jT(w:Nat)(z:Cs × Nat):List Nat:=z.1.1++[w-z.1.2.length+z.2]
structure Lv(m:Bool × Nat)(C:Nat->Nat->Nat)(w k:Nat)(l:List Cs):Prop where
 gs:∀s∈l,Gs m C w s/\s.1.length=k
 all:∀S,dr w S->S.length=k->∃s∈l,s.1=S
 ord:(l.map (·.1)).Pairwise iA
theorem wg{l:List Cs}{z:Cs × Nat}:z∈dJ l↔z.1∈l/\z.2<z.1.2.length:=by
 unfold dJ
 rw[List.mem_flatMap]
 constructor
 ·rintro⟨s,hs,hz⟩
  obtain⟨i,hi,rfl⟩:=bO.mp hz
  exact⟨hs,cV.mp hi⟩
 ·rintro⟨h1,h2⟩
  exact⟨z.1,h1,bO.mpr ⟨z.2,cV.mpr h2,rfl⟩⟩
section
variable{m:Bool × Nat}{C:Nat->Nat->Nat}{w:Nat}
theorem HS{k:Nat}:∀{l:List Cs},(∀s∈l,s.1.length=k)->(l.map (·.1)).Pairwise iA->((dJ l).map (jT w)).Pairwise iA
 | [],_,_=>Pm
 | s::l,hl,ho=>by
  rw[dB,u4]at ho
  show(((fA s)++dJ l).map (jT w)).Pairwise iA
  rw[fY,u5]
  refine⟨?_,HS (λs hs=>hl s (eJ _ hs)) ho.2,λa ha b hb=>?_⟩
  ·unfold fA
   rw[cH]
   refine List.pairwise_map.mpr (Y8.imp λ{a b} hab=>?_)
   exact UD s.1 _ _ (show w-s.2.length+a<w-s.2.length+b by omega)
  ·obtain⟨z,hz,rfl⟩:=bO.mp ha
   obtain⟨i,_,rfl⟩:=bO.mp hz
   obtain⟨y,hy,rfl⟩:=bO.mp hb
   obtain⟨h1,_⟩:=wg.mp hy
   exact UC _ _ _ _ (by rw[hl s (gS ..),hl _ (eJ _ h1)]) (ho.1 _ (bO.mpr ⟨_,h1,rfl⟩))
theorem Lv.meets(L:Lv m C w k l){S:List Nat}(hS:dr w S)(hk:S.length=k+1):∃z∈dJ l,jT w z=S:=by
 have e:S=S.take k++[S.getD k 0]:=by
  have h1:S.drop k=[S.getD k 0]:=by
   rw[List.drop_eq_getElem_cons (by omega),List.drop_of_length_le (by omega),aK,aL (by omega)];rfl
  conv=>lhs;rw[<-yv k S,h1]
 obtain⟨s,hs,es⟩:=L.all _ (hS.take k) (by rw[eZ];omega)
 obtain⟨G,_⟩:=L.gs s hs
 have hj:∀p∈s.1,p<S.getD k 0:=λp hp=>by
  rw[es]at hp
  have:=hS.1
  rw[e,u5]at this
  exact this.2.2 p hp _ (e5.mpr rfl)
 have h1:=G.nx _ hj
 have h2:=hS.2 (S.getD k 0) (bN (by omega) 0)
 have h3:=G.le
 refine⟨(s,S.getD k 0-(w-s.2.length)),wg.mpr ⟨hs,?_⟩,?_⟩
 ·show S.getD k 0-(w-s.2.length)<s.2.length
  omega
 ·show s.1++[w-s.2.length+(S.getD k 0-(w-s.2.length))]=S
  rw[show w-s.2.length+(S.getD k 0-(w-s.2.length))=S.getD k 0 by omega,es]
  exact e.symm
theorem Lv.next(hm:m∈aC)(hC:∀j k,C j k<ae m)(L:Lv m C w k l)(hn:∀z∈dJ l,oU z=false):Lv m C w (k+1) ((dJ l).map (iY m w)) where
 gs:=λs hs=>by
  obtain⟨z,hz,rfl⟩:=bO.mp hs
  obtain⟨h1,h2⟩:=wg.mp hz
  obtain⟨G,hl⟩:=L.gs _ h1
  refine⟨G.next hm h2 (hn z hz) hC,?_⟩
  show(z.1.1++[_]).length=_
  rw[fN,hl];rfl
 all:=λS hS hk=>by
  obtain⟨z,hz,e⟩:=L.meets hS hk
  exact⟨iY m w z,bO.mpr ⟨z,hz,rfl⟩,e⟩
 ord:=by
  rw[cH]
  exact HS (λs hs=>(L.gs s hs).2) L.ord
theorem HU(hm:m∈aC)(hC:∀j k,C j k<ae m):∀(f k:Nat) (l:List Cs),Lv m C w k l->w+1<=f+k ->
  match uC m w f l with
  | none=>∀S,dr w S->k<=S.length->kn m C S
  | some F=>dr w F/\k<F.length/\(∃c:Nat->Nat,(∀t,c t<ae m)/\c (F.length-1)=1/\∀j,cX m C F c j=0)/\∀S,dr w S->k<=S.length->S.length<F.length\/(S.length=F.length/\iA S F)->kn m C S
 | 0,k,l,L,hf=>λS hS hk=>absurd hS.len (by omega)
 | f+1,k,l,L,hf=>by
  have here:∀S,dr w S->S.length=k->kn m C S:=λS hS hk=>by
   obtain⟨s,hs,rfl⟩:=L.all S hS hk
   exact(L.gs s hs).1.ind
  rw[uC]
  by_cases l0:l=[]
  ·rw[if_pos l0]
   subst l0
   intro S hS hk
   obtain⟨s,hs,_⟩:=L.all (S.take k) (hS.take k) (by rw[eZ];omega)
   cases hs
  ·rw[if_neg l0]
   cases e:(dJ l).find? oU with
   | some z =>
    obtain⟨hz,as,bs,eL,rU⟩:=Y9.mp e
    obtain⟨h1,h2⟩:=wg.mp (Py e)
    obtain⟨G,hl⟩:=L.gs _ h1
    have hle:=G.le
    have fl:(jT w z).length=k+1:=by show(z.1.1++[_]).length=_;rw[fN,hl];rfl
    refine⟨⟨?_,λx hx=>?_⟩,by show k<(jT w z).length;omega,?_,λS hS hk hc=>?_⟩
    ·refine u5.mpr ⟨G.inc,EW _ _,λx hx y hy=>?_⟩
     rw[e5.mp hy]
     have:=G.off x hx
     omega
    ·rcases cJ.mp hx with q | q
     ·have:=G.off x q;omega
     ·rw[e5.mp q];omega
    ·obtain⟨c,c1,c2,c3⟩:=(G.bound hm h2 hC).mp hz
     refine⟨c,c1,?_,c3⟩
     show c ((jT w z).length-1)=1
     rw[fl,Nat.add_sub_cancel,<- hl]
     exact c2
    ·by_cases ck:S.length=k
     ·exact here S hS ck
     have cl:S.length=k+1/\iA S (jT w z):=by
      rcases hc with q | ⟨q1,q2⟩
      ·exact absurd (show S.length<(jT w z).length from q) (by omega)
      ·exact⟨(show S.length=(jT w z).length from q1).trans fl,q2⟩
     obtain⟨y,hy,ey⟩:=L.meets hS cl.1
     obtain⟨y1,y2⟩:=wg.mp hy
     obtain⟨Gy,_⟩:=L.gs _ y1
     cases ny:oU y with
     | false =>
      have:=(Gy.next hm y2 ny hC).ind
      rwa [show(iY m w (y.1,y.2)).1=S from ey]at this
     | true =>
      exfalso
      have od:=HS (w:=w) (λs hs=>(L.gs s hs).2) L.ord
      rw[eL]at hy od
      rw[fY,dB,u5]at od
      have HV:=(u4.mp od.2.1).1
      rcases cJ.mp hy with q | q
      ·have:=rU y q
       rw[ny]at this;simp at this
      ·rcases cA.mp q with q | q
       ·rw[q]at ey
        rw[<-ey]at cl
        exact HR _ cl.2
       ·have:=HV _ (bO.mpr ⟨y,q,rfl⟩)
        rw[ey]at this
        exact UB _ _ this cl.2
   | none =>
    have hn:∀z∈dJ l,oU z=false:=λz hz=>by
     have:=PL.mp e z hz
     simpa using this
    have ih:=HU hm hC f (k+1) _ (L.next hm hC hn) (by omega)
    dsimp only
    split
    ·rename_i e2
     rw[e2]at ih
     intro S hS hk
     by_cases ck:S.length=k
     ·exact here S hS ck
     ·exact ih S hS (by omega)
    ·rename_i F e2
     rw[e2]at ih
     obtain⟨i1,i2,i3,i4⟩:=ih
     refine⟨i1,by omega,i3,λS hS hk hc=>?_⟩
     by_cases ck:S.length=k
     ·exact here S hS ck
     ·exact i4 S hS (by omega) hc
end
end L3
namespace L3
open PySem L2 Mf
noncomputable def di(T:List (List Nat))(j k:Nat):Nat:=cf (T.getD k []) j
theorem HW{m:Bool × Nat}(hm:m∈aC){w:Nat}{T:List (List Nat)}(hT:RT (ae m) w T)(j k:Nat):di T j k<ae m:=by
 unfold di
 by_cases hk:k<T.length
 ·exact dA hm (hT _ (bN hk [])).2 j
 ·have e:T.getD k []=[]:=by rw[aK,fF (by omega)];rfl
  rw[e]
  have:=lo1 hm
  show 0<_
  omega
theorem Lv.start{m:Bool × Nat}(hm:m∈aC){T:List (List Nat)}(hw:0<ai T)(hT:RT (ae m) (ai T) T):Lv m (di T) (ai T) 0 [([],fw T)]:=by
 have r:=rg hm
 obtain⟨t1,t2,t3⟩:=Uc (Nat.lt_trans Nat.zero_lt_one (lo1 hm)) hw hT
 refine⟨λs hs=>?_,λS _ h=>⟨_,e5.mpr rfl,(EV.mp h).symm⟩,EW _ _⟩
 rw[e5.mp hs]
 refine⟨⟨AM t1,Pm,λp hp=>absurd hp (i8),λj _=>by show ai T-(fw T).length<=j;omega,⟨_,t3⟩,λa ha=>?_,λc _ _ t ht=>absurd ht (by show ¬ t<0;omega)⟩,rfl⟩
 have e:∀k,sm (gp m) (fw T).length (λi=>gm m (a i) (cf ((fw T).getD i []) k))=sm (gp m) (fw T).length λi=>gm m (a i) (di T (ai T-(fw T).length+i) k):=λk=>bQ λi hi=>by
  rw[Ub (by omega),T7,show ai T-(fw T).length+i=i by omega];rfl
 have z:∀c k,cX m (di T) [] c k=0:=λ_ _=>rfl
 constructor
 ·intro h
  refine⟨λ_=>0,λ_=>by have:=lo1 hm;show 0<_;omega,λk=>?_⟩
  rw[z,oH (iy r λ_ _=>bY hm _ _),<- e k]
  exact h k
 ·rintro⟨c,_,h⟩ k
  have:=h k
  rw[z,oH (iy r λ_ _=>bY hm _ _),<- e k]at this
  exact this
noncomputable def eY(m:Bool × Nat)(T:List (List Nat)):Option (List Nat):=uC m (ai T) (ai T+1) [([],fw T)]
section
variable{m:Bool × Nat}{C:Nat->Nat->Nat}
theorem UG(F:List Nat)(t0 t:Nat):(F.eraseIdx t0).getD t 0=if t<t0 then F.getD t 0 else F.getD (t+1) 0:=by
 rw[aK,List.getElem?_eraseIdx]
 split
 ·rw[<-aK]
 ·rw[<-aK]
theorem bZ4(hm:m∈aC){F:List Nat}{t0:Nat}(h:t0<F.length){x:Nat->Nat}(hx:x t0=0)(k:Nat):cX m C (F.eraseIdx t0) (λt=>if t<t0 then x t else x (t+1)) k=cX m C F x k:=by
 have r:=rg hm
 unfold cX
 obtain⟨d,hd⟩:∃d,F.length=t0+1+d:=⟨F.length-t0-1,by omega⟩
 rw[Za h,hd,show t0+1+d-1=t0+d by omega,rL r t0 d λ_ _=>bY hm _ _,rL r (t0+1) d λ_ _=>bY hm _ _,sm,hx,fh m _ (cg m hm),oH (iy r λ_ _=>bY hm _ _)]
 congr 1
 ·exact bQ λt ht=>by rw[if_pos ht,UG,if_pos ht]
 ·exact bQ λt _=>by rw[if_neg (by omega),UG,if_neg (by omega),show t0+t+1=t0+1+t by omega]
theorem dr.erase{w:Nat}{F:List Nat}(h:dr w F)(t0:Nat):dr w (F.eraseIdx t0):=⟨h.1.sublist (List.eraseIdx_sublist F t0),λx hx=>h.2 x (List.mem_of_mem_eraseIdx hx)⟩
theorem cs6(hm:m∈aC){w:Nat}{F:List Nat}(hF:dr w F)(hS:∀S,dr w S->S.length<F.length->kn m C S){x:Nat->Nat}(hx:∀t,x t<ae m)(h:∀k,cX m C F x k=0){t1:Nat}(h1:t1<F.length)(x1:x t1≠0):∀t,t<F.length->x t≠0:=λt0 h0 z=>by
 have l1:(F.eraseIdx t0).length=F.length-1:=Za h0
 have I:=hS _ (hF.erase t0) (by omega) (λt=>if t<t0 then x t else x (t+1)) (λt=>by
  show(if t<t0 then x t else x (t+1))<ae m
  split
  ·exact hx _
  ·exact hx _) λk=>by rw[bZ4 hm h0 z];exact h k
 by_cases c:t1<t0
 ·have:=I t1 (by omega)
  rw[if_pos c]at this
  exact x1 this
 ·have ne:t1≠t0:=λq=>x1 (q ▸ z)
  have:=I (t1-1) (by omega)
  rw[if_neg (by omega),show t1-1+1=t1 by omega]at this
  exact x1 this
end
noncomputable def bS(T:List (List Nat))(F:List Nat):List (List Nat):=T.map λr=>F.map λj=>r.getD j 0
theorem Aa{N w:Nat}{T:List (List Nat)}{F:List Nat}(h0:0<N)(hT:RT N w T):RT N F.length (bS T F)/\(bS T F).length=T.length:=by
 refine⟨λx hx=>?_,by unfold bS;rw[bG]⟩
 obtain⟨r,hr,rfl⟩:=bO.mp hx
 refine⟨by rw[bG],λy hy=>?_⟩
 obtain⟨j,_,rfl⟩:=bO.mp hy
 exact(hT r hr).2.getD h0 j
theorem cA0{T:List (List Nat)}{F:List Nat}{k t:Nat}(hk:k<T.length)(ht:t<F.length):cf ((bS T F).getD k []) t=di T (F.getD t 0) k:=by
 unfold bS di cf
 rw[v9 _ hk [] [],v9 _ ht 0 0]
theorem HX(m:Bool × Nat){T:List (List Nat)}{F:List Nat}{k:Nat}(hk:k<T.length)(x:Nat->Nat):dt m F.length (cf ((bS T F).getD k [])) x=cX m (di T) F x k:=by
 unfold dt cX
 exact bQ λt ht=>by rw[cA0 hk ht,gz]
theorem cK7{m:Bool × Nat}(hm:m∈aC){w:Nat}{T:List (List Nat)}{F:List Nat}(hT:RT (ae m) w T)(Ab:T≠[])(hF:dr w F)(hS:∀S,dr w S->S.length<F.length->kn m (di T) S){c:Nat->Nat}(c1:∀t,c t<ae m)(c2:c (F.length-1)=1)(c3:∀k,cX m (di T) F c k=0)(uD:0<F.length) :
  ∃f fs,cG (bH m (bS T F)) F.length=f::fs/\(dH m (bH m (bS T F)) F.length f).length=F.length/\AllLt (ae m) (dH m (bH m (bS T F)) F.length f)/\(∀t,t<F.length->cf (dH m (bH m (bS T F)) F.length f) t≠0)/\∀k,cX m (di T) F (cf (dH m (bH m (bS T F)) F.length f)) k=0:=by
 have dN:=lo1 hm
 obtain⟨p1,p2⟩:=Aa (F:=F) (by omega) hT
 have pn:bS T F≠[]:=λz=>Ab (by unfold bS at z;exact PR.mp z)
 have eW:=wc p1 pn
 rw[<-eW]at p1
 obtain⟨⟨H,I⟩,iR,il,sp⟩:=mK hm p1
 have dz:∀x:Nat->Nat,(∀k,cX m (di T) F x k=0)->∀r∈bS T F,dt m F.length (cf r) x=0:=λx hx r hr=>by
  obtain⟨k,hk,rfl⟩:=fX hr
  have:=HX m (T:=T) (F:=F) (k:=k) (by omega) x
  rw[aK,aL hk]at this
  rw[show dt m F.length (cf (bS T F)[k]) x=_ from this]
  exact hx k
 cases ef:cG (bH m (bS T F)) F.length with
 | nil =>
  exfalso
  have hz:∀i,i<(bH m (bS T F)).length->dt m (ai (bS T F)) (cf ((bH m (bS T F)).getD i [])) c=0:=λi hi=>by
   rw[eW]
   exact cw.ann hm (n:=F.length) (y:=c) (dz c c3) ((sp _).mpr (cw.of (bN hi [])))
  have:=RR.ker hm iR I c1 hz (k:=F.length-1) (by omega)
  rw[eW,ef,c2]at this
  exact absurd this (by show ¬ (1=0);omega)
 | cons f fs =>
  have fm:f∈cG (bH m (bS T F)) (ai (bS T F)):=by rw[eW,ef];exact gS ..
  obtain⟨k1,k2,k3,_⟩:=by4 hm iR I fm
  rw[eW]at k1 k2 k3
  have fl:f<F.length:=by
   have:=cV.mp (ku.mp fm).1
   omega
  have lz:∀k,cX m (di T) F (cf (dH m (bH m (bS T F)) F.length f)) k=0:=λk=>by
   by_cases hk:k<T.length
   ·have:=Um hm p1 fm _ (bN (show k<(bS T F).length by omega) [])
    rw[eW,HX m hk]at this
    exact this
   ·refine eH (rg hm) λt _=>?_
    have e:di T (F.getD t 0) k=0:=by
     unfold di
     rw[show T.getD k []=[] by rw[aK,fF (by omega)];rfl];rfl
    rw[e,iV m _ (cg m hm)]
  exact⟨f,fs,rfl,k1,k2,cs6 hm hF hS (dA hm k2) lz fl (by rw[k3];omega),lz⟩
theorem UH{o:Bool}{G:List (List Nat)}{i:Nat}{d:D}(hd:(aB o G)[i]?=some d):∃hi:i<G.length,d=.lst o (ak G[i]):=by
 unfold aB at hd
 rw[bZ]at hd
 by_cases hi:i<G.length
 ·rw[aL hi]at hd
  exact⟨hi,(cW hd).symm⟩
 ·rw[fF (by omega)]at hd;cases hd
end L3
namespace L3
open PySem L2 PySem.Spec PyProof.Rows
section
variable{B:Bs}{F H:Hp}{σ:L2.St}{δ:Dl}{ts:List (D × V)}
theorem ao.dx2{p:Addr}{d:D}{xs:List D}{ws:List V}{z:V}(c:ao B F H σ δ ((.lst true (d::xs),.ref p)::ts))(e1:H p=some (.lst (z::ws))):ao B F H σ δ ((d,z)::ts):=by
 refine ao.pack (ps:=[(.lst true (d::xs),.ref p)]) c (af.refl _) λA1 r1 nd=>?_
 have r1:R F H [.lst true (d::xs)] [.ref p] A1:=r1
 cases r1 with
 | @own _ wx _ Ax _ _ Bx hx fx rx rc =>
  cases rc
  rw[e1]at hx;cases hx
  obtain⟨v,cQ,B1,B2,e,rfl,h1,h2⟩:=R.dh rx
  obtain⟨rfl,rfl⟩:=pG e
  rw[iC,jy]at nd
  exact⟨B1,h1,(gH.mp nd.2).1,λa ha=>.inl (by simp[ha])⟩
end
section
variable{X:Cx}{a:Expr}{ta:aN}{pos p2:Pos}{tk:Nat}
noncomputable def rW(ta:aN):aN:=λδ Q=>ta δ λx aj=>∃d xs,x=.lst true (d::xs)/\Q d aj
theorem cH8(ha:PE X a (lE ta))(hs:Fx (.Constant (.int 0) tk p2)):PE X (.Subscript a (.Constant (.int 0) tk p2) pos) (lE (rW ta)) :=
 dn (Qz QE ha vo hs) λσ H Q ⟨B,F,δ,ts,Qd,c,q,k⟩=>⟨B,F,δ,ts,_,c,q,λx aj v F1 H1 q1 f1 h1 c1=>by
  obtain⟨d,xs,rfl,hq⟩:=q1
  obtain⟨p,ws,rfl,e1,s1⟩:=gv c1.top c1.ext
  obtain⟨z,vs,rfl,_,_⟩:=S.dh s1
  exact⟨p,_,0,z,rfl,rfl,kh (.inl e1),(by unfold eo;rw[uz (Int.le_refl 0) (by show 0<(z::vs).length;simp)];rfl),k _ aj z F1 H1 hq f1 h1 (c1.dx2 e1)⟩⟩
end
end L3
namespace L3
open PySem L2 PySem.Spec PyProof.Rows
section
variable{X:Cx}{a b:Expr}{ta tb:aN}{elts:List Expr}{x1:Nat}{pS p pos:Pos}
noncomputable def rX(ta tb:aN):jo:=λδ Q=>ta δ λd1 aj=>tb aj λd2 aQ=>∃xs ys,iN d1=some xs/\d2=.lst true ys/\d1.pl=true/\Q true (dP xs (ys.map D.sh)) aQ
theorem cC6(hg:Gl X "zip")(hm:X.mg "zip"=none)(ha:PE X a (lB ta))(hb:PE X b (lE tb))(hs:starEach [a,b] X.env=[(false,eval a X.env),(false,eval b X.env)]:=by rfl)(fG:starEach [b] X.env=[(false,eval b X.env)]:=by rfl)
  (ly:starEach [a,b] X.env=(false,eval a X.env)::starEach [b] X.env:=by rfl) (hs4:starEach [b] X.env=(false,eval b X.env)::starEach [] X.env:=by rfl) :
  PI X (.Tuple elts x1 pS) (.Call (.Name "zip" p) [a,b] [] pos) (lI (rX ta tb)) :=
 tG (Rz hg hm (fH ha (fH hb jE hs4) ly) hs fG) λσ H Q ⟨B,F,δ,ts,Qd,c,q,k⟩=>⟨B,F,δ,ts,_,c,q,λd1 aj v1 F1 H1 q1 f1 h1 c1 s1=>⟨B,F1,aj,ts,_,c1,q1,λd2 aQ v2 F2 H2 q2 f2 h2 c2=>by
  obtain⟨xs,ys,i1,rfl,hp,hq⟩:=q2
  obtain⟨F3,f3,c3⟩:=c2.Gk
  have tp:=c3.top
  have kO:=(s1.mono f2 h2).mono f3 (af.refl _)
  have e2:=c3.ext
  have sn:=qa e2
  have UI:(D.lst true ys).sh.pl=true:=by
   rw[dO]
   cases tp with
   | @shr _ _ _ _ _ Gw r' _ =>
    have z:=r'.pl
    rw[Gf]at z
    rw[gh,z];rfl
  obtain⟨p1,w1,rfl,r1,t1,u1⟩:=zy kO e2 i1
  obtain⟨p2,w2,rfl,r2,t2,u2⟩:=zy (xs:=ys.map D.sh) tp e2 (by rw[dO];rfl)
  refine⟨p1,p2,rfl,⟨w1,.inl r1⟩,⟨w2,.inl r2⟩,k _ _ aQ _ _ H2 hq (((f1.trans f2).trans f3).trans sn) (h1.trans h2) c3.pop.snap ?_ λz=>?_⟩
  ·rw[GW]
   exact BY r1 t1 r2 t2 (Full.refl _)
  ·obtain⟨a1,a2,a3⟩:=u1 hp
   obtain⟨b1,b2,b3⟩:=u2 UI
   exact⟨So a1 b1,BY (gZ a2 sn) (a3.shared sn (af.refl _)) (gZ b2 sn) (b3.shared sn (af.refl _)) tE⟩⟩⟩
end
end L3
namespace L3
open PySem L2 Mf
section
variable{m:Bool × Nat}
theorem UJ(hm:m∈aC){T:List (List Nat)}(hw:0<ai T)(hT:RT (ae m) (ai T) T)(h:eY m T=none):∀S,dr (ai T) S->kn m (di T) S:=by
 have:=HU hm (HW hm hT) (ai T+1) 0 _ (Lv.start hm hw hT) (by omega)
 unfold eY at h
 rw[h]at this
 exact λS hS=>this S hS (jX _)
theorem rY(hm:m∈aC){T:List (List Nat)}(hw:0<ai T)(hT:RT (ae m) (ai T) T){F:List Nat}(h:eY m T=some F):dr (ai T) F/\0<F.length/\(∃c:Nat->Nat,(∀t,c t<ae m)/\c (F.length-1)=1/\∀j,cX m (di T) F c j=0)/\∀S,dr (ai T) S->S.length<F.length\/(S.length=F.length/\iA S F)->kn m (di T) S:=by
 have:=HU hm (HW hm hT) (ai T+1) 0 _ (Lv.start hm hw hT) (by omega)
 unfold eY at h
 rw[h]at this
 obtain⟨a,b,c,d⟩:=this
 exact⟨a,b,c,λS hS=>d S hS (jX _)⟩
theorem HY(hm:m∈aC){w:Nat}:∀(F s x:List Nat),F.length=s.length->F.Pairwise (· < ·)->(∀p∈F,p<w)->x.length=w->AllLt (ae m) x->AllLt (ae m) s->(∀p∈F,cf x p=0) ->
  ((F.zip s).foldl (λr z=>r.set z.1 z.2) x).length=w/\AllLt (ae m) ((F.zip s).foldl (λr z=>r.set z.1 z.2) x)/\(∀p,p ∉ F->cf ((F.zip s).foldl (λr z=>r.set z.1 z.2) x) p=cf x p)/\(∀t,t<F.length->cf ((F.zip s).foldl (λr z=>r.set z.1 z.2) x) (F.getD t 0)=cf s t) /\
  ∀r:Nat->Nat,dt m w r (cf ((F.zip s).foldl (λr z=>r.set z.1 z.2) x))=gp m (dt m w r (cf x)) (sm (gp m) F.length λt=>gm m (r (F.getD t 0)) (cf s t))
 | [],s,x,_,_,_,h1,h2,_,_=>⟨h1,h2,λ_ _=>rfl,λt ht=>(nomatch ht),λr=>(oH (cI7 hm w r _)).symm⟩
 | p::F,[],x,hl,_,_,_,_,_,_=>nomatch hl
 | p::F,v::s,x,hl,hp,hw,h1,h2,h3,hz=>by
  rw[u4]at hp
  have pw:=hw p (gS ..)
  have hv:v<ae m:=h3 v (gS ..)
  have cs:∀j,cf (x.set p v) j=if j=p then v else cf x j:=HJ (by omega)
  obtain⟨a1,a2,a3,a4,a5⟩:=HY hm F s (x.set p v) (by simpa using hl) hp.2 (λq hq=>hw q (eJ _ hq)) (by rw[i7];exact h1) (λy hy=>by
   rcases u3 hy with h | h
   ·exact h2 y h
   ·rw[h];exact hv) (λy hy=>h3 y (eJ _ hy)) (λq hq=>by
   rw[cs,if_neg (by have:=hp.1 q hq;omega)]
   exact hz q (eJ _ hq))
  have pF:p ∉ F:=λh=>fV _ (hp.1 p h)
  refine⟨a1,a2,λq hq=>?_,λt ht=>?_,λr=>?_⟩
  ·rw[cA,not_or]at hq
   show cf ((F.zip s).foldl (λr z=>r.set z.1 z.2) (x.set p v)) q=_
   rw[a3 q hq.2,cs,if_neg hq.1]
  ·cases t with
   | zero =>
    show cf ((F.zip s).foldl (λr z=>r.set z.1 z.2) (x.set p v)) p=v
    rw[a3 p pF,cs,if_pos rfl]
   | succ t=>exact a4 t (by simpa using ht)
  ·show dt m w r (cf ((F.zip s).foldl (λr z=>r.set z.1 z.2) (x.set p v)))=_
   rw[a5 r]
   have e1:dt m w r (cf (x.set p v))=gp m (dt m w r (cf x)) (gm m (r p) v):=by
    have:cf (x.set p v)=λk=>gp m (cf x k) (if k=p then v else 0):=by
     funext k
     rw[cs]
     by_cases e:k=p
     ·rw[if_pos e,if_pos e,e,hz p (gS ..),zU hv]
     ·rw[if_neg e,if_neg e,oH (dA hm h2 k)]
    rw[this,HG hm]
    congr 1
    have:=lj (rg hm) (f:=λk=>gm m (r k) (if k=p then v else 0)) (j0:=p) (bY hm _ _) pw (λj _ hj=>by
     show gm m (r j) (if j=p then v else 0)=0
     rw[if_neg hj,iV m _ (cg m hm)])
    show sm (gp m) w (λk=>gm m (r k) (if k=p then v else 0))=_
    rw[this]
    show gm m (r p) (if p=p then v else 0)=_
    rw[if_pos rfl]
   rw[e1,ia,cc3 (rg hm) F.length λ_ _=>bY hm _ _,Cp]
   rfl
noncomputable def gA(m:Bool × Nat)(T:List (List Nat))(F:List Nat):List Nat:=dH m (bH m (bS T F)) F.length ((cG (bH m (bS T F)) F.length).headD 0)
noncomputable def gB(m:Bool × Nat)(T:List (List Nat))(F:List Nat):List Nat:=(gA m T F).map (gm m (jR m ((gA m T F).getD 0 0)))
noncomputable def jU(m:Bool × Nat)(T:List (List Nat))(F:List Nat):List Nat:=(F.zip (gB m T F)).foldl (λr z=>r.set z.1 z.2) (br (ai T) 0)
theorem UK(hm:m∈aC){T:List (List Nat)}(hw:0<ai T)(hT:RT (ae m) (ai T) T){F:List Nat}(h:eY m T=some F):(∃f fs,cG (bH m (bS T F)) F.length=f::fs)/\(gA m T F).length=F.length/\AllLt (ae m) (gA m T F)/\(∀t,t<F.length->cf (gA m T F) t≠0)/\∀k,cX m (di T) F (cf (gA m T F)) k=0:=by
 obtain⟨a1,a2,⟨c,c1,c2,c3⟩,a4⟩:=rY hm hw hT h
 have Ab:T≠[]:=λz=>by rw[z]at hw;exact absurd hw (by decide)
 obtain⟨f,fs,e,l1,l2,l3,l4⟩:=cK7 hm hT Ab a1 (λS hS hl=>a4 S hS (.inl hl)) c1 c2 c3 a2
 have ek:gA m T F=dH m (bH m (bS T F)) F.length f:=by unfold gA;rw[e];rfl
 rw[ek]
 exact⟨⟨f,fs,e⟩,l1,l2,l3,l4⟩
theorem UL(hm:m∈aC){T:List (List Nat)}(hw:0<ai T)(hT:RT (ae m) (ai T) T){F:List Nat}(h:eY m T=some F):(gB m T F).length=F.length/\AllLt (ae m) (gB m T F)/\cf (gB m T F) 0=1/\(∀t,t<F.length->cf (gB m T F) t≠0)/\∀k,cX m (di T) F (cf (gB m T F)) k=0:=by
 obtain⟨_,k1,k2,k3,k4⟩:=UK hm hw hT h
 obtain⟨_,a2,_,_⟩:=rY hm hw hT h
 have k0:=k3 0 a2
 have kl:=dA hm k2 0
 obtain⟨iv,i1,i2⟩:=Hr hm (lo1 hm) kl k0
 have ei:jR m ((gA m T F).getD 0 0)=iv:=v7 hm i1 i2
 unfold gB
 rw[ei]
 have ivn:iv≠0:=λz=>by rw[z,fh m _ (cg m hm)]at i2;cases i2
 refine⟨by rw[bG];exact k1,λy hy=>by
  obtain⟨z,_,rfl⟩:=bO.mp hy
  exact bY hm _ _,by rw[Cu hm];exact i2,λt ht=>?_,λk=>?_⟩
 ·rw[Cu hm]
  intro z
  rcases(HM hm i1 (dA hm k2 t)).mp z with z | z
  ·exact ivn z
  ·exact k3 t ht z
 ·have:cX m (di T) F (cf ((gA m T F).map (gm m iv))) k=gm m iv (cX m (di T) F (cf (gA m T F)) k):=by
   unfold cX
   rw[<-kZ (rg hm)]
   refine bQ λt _=>?_
   rw[Cu hm,ju (cg m hm)]
  rw[this,k4,iV m _ (cg m hm)]
theorem cF3(hm:m∈aC){T:List (List Nat)}(hw:0<ai T)(hT:RT (ae m) (ai T) T){F:List Nat}(h:eY m T=some F):(jU m T F).length=ai T/\AllLt (ae m) (jU m T F)/\(∀p,cf (jU m T F) p≠0↔p∈F)/\cf (jU m T F) (F.getD 0 0)=1/\∀r∈T,gd m r (jU m T F)=0:=by
 obtain⟨s1,s2,s3,s4,s5⟩:=UL hm hw hT h
 obtain⟨a1,a2,_,_⟩:=rY hm hw hT h
 have dN:=lo1 hm
 obtain⟨p1,p2,p3,p4,p5⟩:=HY hm (w:=ai T) F (gB m T F) (br (ai T) 0) s1.symm a1.1 a1.2 (sC ..) (λy hy=>by rw[(EE.mp hy).2];omega) s2 (λp _=>Ho _ _)
 refine⟨p1,p2,λp=>⟨λhp=>?_,λhp=>?_⟩,?_,λr hr=>?_⟩
 ·by_cases c:p∈F
  ·exact c
  ·exact absurd ((p3 p c).trans (Ho _ _)) hp
 ·obtain⟨t,ht,e⟩:=fX hp
  have:=p4 t ht
  rw[aK,aL ht]at this
  have e':(some F[t]).getD 0=p:=e
  rw[e']at this
  show cf ((F.zip (gB m T F)).foldl _ _) p≠0
  rw[this]
  exact s4 t ht
 ·exact(p4 0 a2).trans s3
 ·obtain⟨k,hk,rfl⟩:=fX hr
  have hl:=(hT _ hr).1
  rw[wb m (by show _=(jU m T F).length;rw[show(jU m T F).length=ai T from p1];exact hl),hl]
  have:=p5 (cf T[k])
  show dt m (ai T) (cf T[k]) (cf (jU m T F))=0
  rw[show dt m (ai T) (cf T[k]) (cf (jU m T F))=_ from this]
  have z1:dt m (ai T) (cf T[k]) (cf (br (ai T) 0))=0:=eH (rg hm) λj _=>by
   show gm m _ (cf (br (ai T) 0) j)=0
   rw[Ho,iV m _ (cg m hm)]
  have z2:(sm (gp m) F.length λt=>gm m (cf T[k] (F.getD t 0)) (cf (gB m T F) t))=0:=by
   refine Eq.trans ?_ (s5 k)
   unfold cX
   refine bQ λt _=>?_
   rw[gz]
   unfold di
   rw[jS hk]
  rw[z1,z2]
  exact zU (by omega)
end
end L3
namespace HK28
open PySem.W (Frag codeHdIn nsIn fnOf codeIn keepIn findIn isFn specialIn takesIn mroIn mg_of mg_none_of CodeHd)
open PySem L2 L3 Mf
seal L2.PSs L2.PS L2.PE L2.PT L2.PA L2.PI L2.PG L2.PO L2.PW
local macro_rules | `(tactic| walk_at "l3") => do
  let l ← (("qm nQ qo nR dT kK mj mm dC nH nN nL nK nM ql mx qQ oh qS qT qf qg qh qi qj qk nI n8 n9 nX qA nZ qB qC qD qE qF qG iI gK qH qI qJ qK n5 n6 kM qM qN gN qU qP qp qt qu qv qw qy qV qX nV ke fK iP ik pz ph sM u6 nO jK iN og q8 rf rh uh ki rn oq rk iT uk ui uj dB jY pL pj ia u7 br mY mZ jz jA sN exists_eq_left' exists_eq_left D.bl.injEq D.int.injEq D.lst.injEq D.fz.injEq D.str.injEq D.tup.injEq pM and_true true_and dM pK kz mW tK tL tM tN tO tP gh jI kS tT tU tV tW tX dO jJ qY tQ tR tS fg nE u9 vb su iE vd ve sD t8 t9 ua ub ud ue uf kT mB oj jr om tZ q5 tY qZ t7 iS q0 if_true vf if_false reduceIte ug decide_eq_true_eq eT jP mE uo rq um qq rA oF rm ow oy rD oI rK oS rQ rR eU rM lh rO oJ rW rX sL cH4 cJ2 cr2 cu5 rJ uw".splitOn " ").toArray.map fun (s : String) => Lean.mkIdent s.toName).mapM fun i => `(Lean.Parser.Tactic.simpLemma| $i:term)
  `(tactic| simp only [$l,*])
noncomputable def top (i:Nat):Stmt:=PySem.Challenge.pw_mendfield_k28_first_bound_set.main.body.getD i (.Pass ⟨0,0,0,0⟩)
noncomputable abbrev wj:Stmt:=top 41
theorem HZ:bu ["_law_cell_here","_law_some","_law_primes"] ["_law_cell_here"] (ay wj):=⟨rfl,rfl,rfl,by decide +kernel,rfl,by decide +kernel,by decide +kernel⟩
noncomputable abbrev wk:Stmt:=top 26
theorem CM:bu ["a","product","found","power"] ["a","product"] (ay wk):=⟨rfl,rfl,rfl,by decide +kernel,rfl,by decide +kernel,by decide +kernel⟩
noncomputable abbrev wm:Stmt:=top 27
theorem Ac:bu ["many","product","step","found"] ["many","product"] (ay wm):=⟨rfl,rfl,rfl,by decide +kernel,rfl,by decide +kernel,by decide +kernel⟩
noncomputable abbrev wo:Stmt:=top 28
theorem Ia:bu ["powers","logs","n","a"] ["powers"] (ay wo):=⟨rfl,rfl,rfl,by decide +kernel,rfl,by decide +kernel,by decide +kernel⟩
noncomputable abbrev wq:Stmt:=jF (top 32) 8
theorem aD6:bu ["self","n"] ["self","n"] (ay wq):=⟨rfl,rfl,rfl,by decide +kernel,rfl,by decide +kernel,by decide +kernel⟩
noncomputable abbrev wu:Stmt:=jF (top 32) 0
theorem aN7:bu ["self","many","product"] ["self","many","product"] (ay wu):=⟨rfl,rfl,rfl,by decide +kernel,rfl,by decide +kernel,by decide +kernel⟩
noncomputable abbrev wz:Stmt:=top 31
theorem aB2:bu ["prime"] ["prime"] (ay wz):=⟨rfl,rfl,rfl,by decide +kernel,rfl,by decide +kernel,by decide +kernel⟩
noncomputable abbrev oV:Stmt:=jF (top 34) 0
theorem aE5:bu ["self","prime"] ["self","prime"] (ay oV):=⟨rfl,rfl,rfl,by decide +kernel,rfl,by decide +kernel,by decide +kernel⟩
noncomputable abbrev wA:Stmt:=top 29
theorem CN:bu ["powers","logs","many","rows","a"] ["powers","logs"] (ay wA):=⟨rfl,rfl,rfl,by decide +kernel,rfl,by decide +kernel,by decide +kernel⟩
noncomputable abbrev wB:Stmt:=top 23
theorem wC:bu ["a","b","quotient","rest","shift"] ["a","b"] (ay wB):=⟨rfl,rfl,rfl,by decide +kernel,rfl,by decide +kernel,by decide +kernel⟩
noncomputable abbrev wD:Stmt:=top 24
theorem Ib:bu ["a","half","b"] ["a"] (ay wD):=⟨rfl,rfl,rfl,by decide +kernel,rfl,by decide +kernel,by decide +kernel⟩
noncomputable abbrev wF:Stmt:=top 30
theorem aE6:bu ["bits"] ["bits"] (ay wF):=⟨rfl,rfl,rfl,by decide +kernel,rfl,by decide +kernel,by decide +kernel⟩
noncomputable abbrev wG:Stmt:=top 22
theorem CO:bu ["a","b","product","k"] ["a","b"] (ay wG):=⟨rfl,rfl,rfl,by decide +kernel,rfl,by decide +kernel,by decide +kernel⟩
noncomputable abbrev oW:Stmt:=jF (top 33) 0
theorem UM:bu ["self","bits","many"] ["self","bits"] (ay oW):=⟨rfl,rfl,rfl,by decide +kernel,rfl,by decide +kernel,by decide +kernel⟩
noncomputable abbrev wH:Stmt:=top 46
theorem aN8:bu ["_law_told_here"] ["_law_told_here"] (ay wH):=⟨rfl,rfl,rfl,by decide +kernel,rfl,by decide +kernel,by decide +kernel⟩
noncomputable abbrev wI:Stmt:=top 43
theorem aP8:bu ["_law_told_here","_law_a","_law_b"] ["_law_told_here","_law_a","_law_b"] (ay wI):=⟨rfl,rfl,rfl,by decide +kernel,rfl,by decide +kernel,by decide +kernel⟩
noncomputable abbrev wJ:Stmt:=top 45
theorem wK:bu ["_law_told_here","_law_a","_law_b","_law_total"] ["_law_told_here","_law_a","_law_b"] (ay wJ):=⟨rfl,rfl,rfl,by decide +kernel,rfl,by decide +kernel,by decide +kernel⟩
noncomputable abbrev wL:Stmt:=top 47
theorem CP:bu ["_law_told_here","_law_xs","_law_ys","_law_total","_law_x","_law_y"] ["_law_told_here","_law_xs","_law_ys"] (ay wL):=⟨rfl,rfl,rfl,by decide +kernel,rfl,by decide +kernel,by decide +kernel⟩
noncomputable abbrev wM:Stmt:=top 48
theorem aM6:bu ["_law_told_here","_law_xs","_law_table_here","_law_wide"] ["_law_told_here","_law_xs","_law_table_here","_law_wide"] (ay wM):=⟨rfl,rfl,rfl,by decide +kernel,rfl,by decide +kernel,by decide +kernel⟩
noncomputable abbrev wN:Stmt:=top 39
theorem aP9:bu ["_law_script","_law_k"] ["_law_script","_law_k"] (ay wN):=⟨rfl,rfl,rfl,by decide +kernel,rfl,by decide +kernel,by decide +kernel⟩
noncomputable abbrev wO:Stmt:=top 42
theorem aQ0:bu ["_law_told_here"] ["_law_told_here"] (ay wO):=⟨rfl,rfl,rfl,by decide +kernel,rfl,by decide +kernel,by decide +kernel⟩
noncomputable abbrev wQ:Stmt:=top 49
theorem wR:bu ["_law_told_here","_law_script","_law_begin","_law_rows","_law_wide","_law_way","_law_table_here","_law_i","_law_row"] ["_law_told_here","_law_script","_law_begin","_law_rows","_law_wide","_law_way"] (ay wQ):=⟨rfl,rfl,rfl,by decide +kernel,rfl,by decide +kernel,by decide +kernel⟩
noncomputable abbrev wU:Stmt:=top 52
theorem aQ1:bu ["_law_table_here"] ["_law_table_here"] (ay wU):=⟨rfl,rfl,rfl,by decide +kernel,rfl,by decide +kernel,by decide +kernel⟩
noncomputable abbrev wV:Stmt:=top 2
theorem aS9:bu ["table"] ["table"] (ay wV):=⟨rfl,rfl,rfl,by decide +kernel,rfl,by decide +kernel,by decide +kernel⟩
noncomputable abbrev wW:Stmt:=top 3
theorem aV8:bu ["table"] ["table"] (ay wW):=⟨rfl,rfl,rfl,by decide +kernel,rfl,by decide +kernel,by decide +kernel⟩
noncomputable abbrev wX:Stmt:=top 13
theorem aQ2:bu ["column"] ["column"] (ay wX):=⟨rfl,rfl,rfl,by decide +kernel,rfl,by decide +kernel,by decide +kernel⟩
noncomputable abbrev wY:Stmt:=jF (top 32) 5
theorem aN9:bu ["self","a","b"] ["self","a","b"] (ay wY):=⟨rfl,rfl,rfl,by decide +kernel,rfl,by decide +kernel,by decide +kernel⟩
noncomputable abbrev wZ:Stmt:=jF (top 33) 7
theorem UN:bu ["self","row","a","other","by_a"] ["self","row","a","other"] (ay wZ):=⟨rfl,rfl,rfl,by decide +kernel,rfl,by decide +kernel,by decide +kernel⟩
noncomputable abbrev w4:Stmt:=jF (top 34) 7
theorem UO:bu ["self","row","a","other","prime"] ["self","row","a","other"] (ay w4):=⟨rfl,rfl,rfl,by decide +kernel,rfl,by decide +kernel,by decide +kernel⟩
noncomputable abbrev w5:Stmt:=jF (top 33) 3
theorem aI0:bu ["self","a","b"] ["self","a","b"] (ay w5):=⟨rfl,rfl,rfl,by decide +kernel,rfl,by decide +kernel,by decide +kernel⟩
noncomputable abbrev w6:Stmt:=jF (top 34) 3
theorem aD7:bu ["self","a","b"] ["self","a","b"] (ay w6):=⟨rfl,rfl,rfl,by decide +kernel,rfl,by decide +kernel,by decide +kernel⟩
noncomputable abbrev w9:Stmt:=top 14
theorem xb:bu ["field","column","others","place","inverse","found","other","left"] ["field","column","others"] (ay w9):=⟨rfl,rfl,rfl,by decide +kernel,rfl,by decide +kernel,by decide +kernel⟩
noncomputable abbrev xf:Stmt:=top 15
theorem rZ:bu ["field","table","width","sets","larger","places","behind","number","column","bigger"] ["field","table"] (ay xf):=⟨rfl,rfl,rfl,by decide +kernel,rfl,by decide +kernel,by decide +kernel⟩
noncomputable abbrev xg:Stmt:=top 58
theorem UP:bu ["_law_cell_here","_law_wide","_law_found","_law_at"] ["_law_cell_here","_law_wide","_law_found"] (ay xg):=⟨rfl,rfl,rfl,by decide +kernel,rfl,by decide +kernel,by decide +kernel⟩
noncomputable abbrev xh:Stmt:=top 44
theorem aQ3:bu ["_law_told_here","_law_a","_law_b"] ["_law_told_here","_law_a","_law_b"] (ay xh):=⟨rfl,rfl,rfl,by decide +kernel,rfl,by decide +kernel,by decide +kernel⟩
noncomputable abbrev xi:Stmt:=top 57
theorem CQ:bu ["_law_told_here","_law_table_here","_law_signs","_law_at","_law_made","_law_row","_law_line"] ["_law_told_here","_law_table_here","_law_signs","_law_at"] (ay xi):=⟨rfl,rfl,rfl,by decide +kernel,rfl,by decide +kernel,by decide +kernel⟩
noncomputable abbrev xj:Stmt:=top 56
theorem UQ:bu ["_law_one","_law_other","_law_a","_law_b"] ["_law_one","_law_other"] (ay xj):=⟨rfl,rfl,rfl,by decide +kernel,rfl,by decide +kernel,by decide +kernel⟩
noncomputable abbrev xk:Stmt:=top 40
theorem aO0:bu ["_law_x"] ["_law_x"] (ay xk):=⟨rfl,rfl,rfl,by decide +kernel,rfl,by decide +kernel,by decide +kernel⟩
noncomputable abbrev xm:Stmt:=top 50
theorem aK0:bu ["_law_row","_law_wide","_law_many_here"] ["_law_row","_law_wide","_law_many_here"] (ay xm):=⟨rfl,rfl,rfl,by decide +kernel,rfl,by decide +kernel,by decide +kernel⟩
noncomputable abbrev xn:Stmt:=top 51
theorem aE7:bu ["_law_table_here","_law_rows","_law_wide","_law_many_here"] ["_law_table_here","_law_rows","_law_wide","_law_many_here"] (ay xn):=⟨rfl,rfl,rfl,by decide +kernel,rfl,by decide +kernel,by decide +kernel⟩
noncomputable abbrev xo:Stmt:=top 53
theorem Ic:bu ["_law_told_here","_law_table_here","_law_found","_law_wide","_law_k"] ["_law_told_here","_law_table_here","_law_found"] (ay xo):=⟨rfl,rfl,rfl,by decide +kernel,rfl,by decide +kernel,by decide +kernel⟩
noncomputable abbrev xp:Stmt:=top 5
theorem UR:bu ["rows","place","number","row"] ["rows","place"] (ay xp):=⟨rfl,rfl,rfl,by decide +kernel,rfl,by decide +kernel,by decide +kernel⟩
noncomputable abbrev xq:Stmt:=jF (top 33) 6
theorem US:bu ["self","a","row","by_a"] ["self","a","row"] (ay xq):=⟨rfl,rfl,rfl,by decide +kernel,rfl,by decide +kernel,by decide +kernel⟩
noncomputable abbrev xt:Stmt:=jF (top 34) 6
theorem UT:bu ["self","a","row","prime"] ["self","a","row"] (ay xt):=⟨rfl,rfl,rfl,by decide +kernel,rfl,by decide +kernel,by decide +kernel⟩
noncomputable abbrev xu:Stmt:=top 6
theorem aU9:bu ["field","rows","lead_row","place"] ["field","rows","lead_row","place"] (ay xu):=⟨rfl,rfl,rfl,by decide +kernel,rfl,by decide +kernel,by decide +kernel⟩
noncomputable abbrev xv:Stmt:=top 7
theorem r6:bu ["field","table","done","left","place","number","lead_row"] ["field","table"] (ay xv):=⟨rfl,rfl,rfl,by decide +kernel,rfl,by decide +kernel,by decide +kernel⟩
noncomputable abbrev xw:Stmt:=top 8
theorem b99:bu ["rows"] ["rows"] (ay xw):=⟨rfl,rfl,rfl,by decide +kernel,rfl,by decide +kernel,by decide +kernel⟩
noncomputable abbrev xx:Stmt:=top 36
theorem aT0:bu ["width","place"] ["width","place"] (ay xx):=⟨rfl,rfl,rfl,by decide +kernel,rfl,by decide +kernel,by decide +kernel⟩
noncomputable abbrev xy:Stmt:=top 37
theorem CS:bu ["field","table","width","beside","rows"] ["field","table"] (ay xy):=⟨rfl,rfl,rfl,by decide +kernel,rfl,by decide +kernel,by decide +kernel⟩
noncomputable abbrev xA:Stmt:=top 59
theorem UU:bu ["_law_told_here","_law_field_here","_law_table_here","_law_places_here","_law_found","_law_part"] ["_law_told_here","_law_field_here","_law_table_here","_law_places_here","_law_found"] (ay xA):=⟨rfl,rfl,rfl,by decide +kernel,rfl,by decide +kernel,by decide +kernel⟩
noncomputable abbrev xB:Stmt:=top 9
theorem UW:bu ["rows","width","taken"] ["rows","width"] (ay xB):=⟨rfl,rfl,rfl,by decide +kernel,rfl,by decide +kernel,by decide +kernel⟩
noncomputable abbrev xC:Stmt:=jF (top 33) 2
theorem aI1:bu ["self","a","b"] ["self","a","b"] (ay xC):=⟨rfl,rfl,rfl,by decide +kernel,rfl,by decide +kernel,by decide +kernel⟩
noncomputable abbrev xD:Stmt:=jF (top 34) 2
theorem aD8:bu ["self","a","b"] ["self","a","b"] (ay xD):=⟨rfl,rfl,rfl,by decide +kernel,rfl,by decide +kernel,by decide +kernel⟩
noncomputable abbrev xE:Stmt:=top 10
theorem xF:bu ["field","rows","width","taken","found","free","x","lead","row"] ["field","rows","width"] (ay xE):=⟨rfl,rfl,rfl,by decide +kernel,rfl,by decide +kernel,by decide +kernel⟩
noncomputable abbrev xG:Stmt:=top 11
theorem aV9:bu ["field","table"] ["field","table"] (ay xG):=⟨rfl,rfl,rfl,by decide +kernel,rfl,by decide +kernel,by decide +kernel⟩
noncomputable abbrev xH:Stmt:=top 4
theorem aW0:bu ["table","places"] ["table","places"] (ay xH):=⟨rfl,rfl,rfl,by decide +kernel,rfl,by decide +kernel,by decide +kernel⟩
noncomputable abbrev xI:Stmt:=top 16
theorem xJ:bu ["field","table","places","signs","inverse","row","place","sign"] ["field","table"] (ay xI):=⟨rfl,rfl,rfl,by decide +kernel,rfl,by decide +kernel,by decide +kernel⟩
noncomputable abbrev xK:Stmt:=top 54
theorem aM7:bu ["_law_found","_law_wide"] ["_law_found","_law_wide"] (ay xK):=⟨rfl,rfl,rfl,by decide +kernel,rfl,by decide +kernel,by decide +kernel⟩
noncomputable abbrev xM:Stmt:=top 55
theorem UX:bu ["_law_told_here","_law_table_here","_law_found","_law_row","_law_wide"] ["_law_told_here","_law_table_here","_law_found","_law_row"] (ay xM):=⟨rfl,rfl,rfl,by decide +kernel,rfl,by decide +kernel,by decide +kernel⟩
noncomputable abbrev oX:Stmt:=top 60
theorem iZ:bu ["_law_script","_law_told_here","_law_field_here","_law_rows","_law_wide","_law_table_here","_law_signs","_law_k","_law_sign","_law_built","_law_at","_law_handed","_law_found","_law_places_here"] ["_law_script"] (ay oX):=⟨rfl,rfl,rfl,by decide +kernel,rfl,by decide +kernel,by decide +kernel⟩
set_option genInjectivity false in
set_option genSizeOf false in
structure ka where
 Ie:Addr
 Ig:FuncData
 Ih:Addr
 Ii:FuncData
 Ij:Addr
 Ik:FuncData
 Il:Addr
 Im:FuncData
 Ad:Addr
 Io:FuncData
 Ip:Addr
 Iq:FuncData
 Ir:Addr
 Iu:FuncData
 Iw:Addr
 CT:FuncData
 Iy:Addr
 Iz:FuncData
 IA:Addr
 IB:FuncData
 IC:Addr
 ID:FuncData
 IE:Addr
 IF:FuncData
 IG:Addr
 IH:FuncData
 II:Addr
 CU:FuncData
 IJ:Addr
 IK:FuncData
 IL:Addr
 IM:FuncData
 IQ:Addr
 IS:FuncData
 IT:Addr
 IU:FuncData
 IV:Addr
 IW:FuncData
 IY:Addr
 IZ:FuncData
 I0:Addr
 Ja:FuncData
 Jb:Addr
 Jc:FuncData
 Jd:Addr
 Je:FuncData
 Jf:Addr
 Jg:FuncData
 Jh:Addr
 Ji:FuncData
 Jj:Addr
 Jk:FuncData
 CV:Addr
 Jl:FuncData
 Jm:Addr
 Jn:FuncData
 Jo:Addr
 Jp:FuncData
 Jq:Addr
 Jr:FuncData
 Js:Addr
 Jt:FuncData
 Ju:Addr
 Jv:FuncData
 Jw:Addr
 Jx:FuncData
 Jy:Addr
 Jz:FuncData
 JA:Addr
 JB:FuncData
 JC:Addr
 JE:FuncData
 JF:Addr
 JG:FuncData
 JH:Addr
 JI:FuncData
 JJ:Addr
 JK:FuncData
 JL:Addr
 JM:FuncData
 JN:Addr
 JO:FuncData
 JP:Addr
 JQ:FuncData
 JR:Addr
 JS:FuncData
 JT:Addr
 JU:FuncData
 JV:Addr
 JW:FuncData
 JX:Addr
 JY:FuncData
 JZ:Addr
 J0:FuncData
 J1:Addr
 J2:FuncData
 J3:Addr
 J4:FuncData
 J5:Addr
 J6:FuncData
 J7:Addr
 J8:FuncData
 J9:Addr
 Ka:FuncData
 Kb:Addr
 Kd:FuncData
 Ke:Addr
 Kf:FuncData
 Kg:Addr
 Kh:FuncData
 Ki:Addr
 Kj:FuncData
 Kk:Addr
 Kl:FuncData
 Km:Addr
 Kn:FuncData
 Ko:Addr
 Kp:FuncData
 Kq:Addr
 Kr:FuncData
 UY:Addr
 lC:Addr
 UZ:Addr
 lD:Addr
 aU:Addr
 iB:Addr
 lF:Addr
 aV:Addr
structure Txt(K:Frag)(mg:Str->Option Value)(t:ka):Prop where
 U0:bq K "_law_told" "_law_told" wj t.Ie t.Ig
 aT1:mg "_law_told"=some (.ref t.Ie)
 aT2:Binds K t.Ig ["_law_cell_here"] []
 Ks:bq K "powers_of" "powers_of" wk t.Ih t.Ii
 U1:mg "powers_of"=some (.ref t.Ih)
 U2:Binds K t.Ii ["a","product"] []
 U3:bq K "step_powers" "step_powers" wm t.Ij t.Ik
 dA9:mg "step_powers"=some (.ref t.Ij)
 dB0:Binds K t.Ik ["many","product"] []
 U4:bq K "logs_of" "logs_of" wo t.Il t.Im
 dB1:mg "logs_of"=some (.ref t.Il)
 dB2:Binds K t.Im ["powers"] []
 aE9:bq K "step_power" "Field.step_power" wq t.Ad t.Io
 Kt:Binds K t.Io ["self","n"] []
 aQ4:bq K "__init__" "Field.__init__" wu t.Ip t.Iq
 U5:Binds K t.Iq ["self","many","product"] []
 U6:bq K "makes_prime_field" "makes_prime_field" wz t.Ir t.Iu
 dB5:mg "makes_prime_field"=some (.ref t.Ir)
 dB6:Binds K t.Iu ["prime"] []
 aI2:bq K "__init__" "PrimeField.__init__" oV t.Iw t.CT
 aI3:Binds K t.CT ["self","prime"] []
 U7:bq K "product_rows" "product_rows" wA t.Iy t.Iz
 dB9:mg "product_rows"=some (.ref t.Iy)
 dC0:Binds K t.Iz ["powers","logs"] []
 Ku:bq K "bits_divided" "bits_divided" wB t.IA t.IB
 U8:mg "bits_divided"=some (.ref t.IA)
 U9:Binds K t.IB ["a","b"] []
 Va:bq K "stands_alone" "stands_alone" wD t.IC t.ID
 dC1:mg "stands_alone"=some (.ref t.IC)
 dC2:Binds K t.ID ["a"] []
 Vb:bq K "makes_bit_field" "makes_bit_field" wF t.IE t.IF
 dC3:mg "makes_bit_field"=some (.ref t.IE)
 dC4:Binds K t.IF ["bits"] []
 Vc:bq K "bits_times" "bits_times" wG t.IG t.IH
 dC5:mg "bits_times"=some (.ref t.IG)
 dC6:Binds K t.IH ["a","b"] []
 aL3:bq K "__init__" "BitField.__init__" oW t.II t.CU
 aL4:Binds K t.CU ["self","bits"] []
 Vd:bq K "_law_field" "_law_field" wH t.IJ t.IK
 aQ5:mg "_law_field"=some (.ref t.IJ)
 aQ6:Binds K t.IK ["_law_told_here"] []
 Ve:bq K "_law_plus" "_law_plus" wI t.IL t.IM
 aT3:mg "_law_plus"=some (.ref t.IL)
 aT4:Binds K t.IM ["_law_told_here","_law_a","_law_b"] []
 Vf:bq K "_law_times" "_law_times" wJ t.IQ t.IS
 aQ7:mg "_law_times"=some (.ref t.IQ)
 aQ8:Binds K t.IS ["_law_told_here","_law_a","_law_b"] []
 CW:bq K "_law_dot" "_law_dot" wL t.IT t.IU
 Kv:mg "_law_dot"=some (.ref t.IT)
 Kw:Binds K t.IU ["_law_told_here","_law_xs","_law_ys"] []
 at2:bq K "_law_by_row" "_law_by_row" wM t.IV t.IW
 Vg:mg "_law_by_row"=some (.ref t.IV)
 Vh:Binds K t.IW ["_law_told_here","_law_xs","_law_table_here","_law_wide"] []
 lH:bq K "_law_cell" "_law_cell" wN t.IY t.IZ
 mL:mg "_law_cell"=some (.ref t.IY)
 mM:Binds K t.IZ ["_law_script","_law_k"] []
 Ae:bq K "_law_many" "_law_many" wO t.I0 t.Ja
 CY:mg "_law_many"=some (.ref t.I0)
 CZ:Binds K t.Ja ["_law_told_here"] []
 Vi:bq K "_law_table" "_law_table" wQ t.Jb t.Jc
 aQ9:mg "_law_table"=some (.ref t.Jb)
 aR0:Binds K t.Jc ["_law_told_here","_law_script","_law_begin","_law_rows","_law_wide","_law_way"] []
 Kx:bq K "_law_copy" "_law_copy" wU t.Jd t.Je
 Vj:mg "_law_copy"=some (.ref t.Jd)
 Vk:Binds K t.Je ["_law_table_here"] []
 uE:bq K "width_of" "width_of" wV t.Jf t.Jg
 xN:mg "width_of"=some (.ref t.Jf)
 xO:Binds K t.Jg ["table"] []
 Vl:bq K "turned" "turned" wW t.Jh t.Ji
 dD7:mg "turned"=some (.ref t.Jh)
 dD8:Binds K t.Ji ["table"] []
 Vm:bq K "is_nought" "is_nought" wX t.Jj t.Jk
 dD9:mg "is_nought"=some (.ref t.Jj)
 dE0:Binds K t.Jk ["column"] []
 aR1:bq K "over" "Field.over" wY t.CV t.Jl
 Vn:Binds K t.Jl ["self","a","b"] []
 aD9:bq K "lessened" "BitField.lessened" wZ t.Jm t.Jn
 aE0:Binds K t.Jn ["self","row","a","other"] []
 aA7:bq K "lessened" "PrimeField.lessened" w4 t.Jo t.Jp
 aA8:Binds K t.Jp ["self","row","a","other"] []
 aK1:bq K "times" "BitField.times" w5 t.Jq t.Jr
 aK2:Binds K t.Jr ["self","a","b"] []
 aF5:bq K "times" "PrimeField.times" w6 t.Js t.Jt
 aF6:Binds K t.Jt ["self","a","b"] []
 Vo:bq K "past" "past" w9 t.Ju t.Jv
 dF0:mg "past"=some (.ref t.Ju)
 dF1:Binds K t.Jv ["field","column","others"] []
 Ky:bq K "first_bound" "first_bound" xf t.Jw t.Jx
 Vp:mg "first_bound"=some (.ref t.Jw)
 Vq:Binds K t.Jx ["field","table"] []
 Vr:bq K "_law_set" "_law_set" xg t.Jy t.Jz
 aV0:mg "_law_set"=some (.ref t.Jy)
 aV1:Binds K t.Jz ["_law_cell_here","_law_wide","_law_found"] []
 Vs:bq K "_law_less" "_law_less" xh t.JA t.JB
 aT5:mg "_law_less"=some (.ref t.JA)
 aT6:Binds K t.JB ["_law_told_here","_law_a","_law_b"] []
 Vt:bq K "_law_put" "_law_put" xi t.JC t.JE
 aV2:mg "_law_put"=some (.ref t.JC)
 aV3:Binds K t.JE ["_law_told_here","_law_table_here","_law_signs","_law_at"] []
 Kz:bq K "_law_ahead" "_law_ahead" xj t.JF t.JG
 Vu:mg "_law_ahead"=some (.ref t.JF)
 Vv:Binds K t.JG ["_law_one","_law_other"] []
 KA:bq K "_law_whole" "_law_whole" xk t.JH t.JI
 Vw:mg "_law_whole"=some (.ref t.JH)
 Vx:Binds K t.JI ["_law_x"] []
 KC:bq K "_law_row_kind" "_law_row_kind" xm t.JJ t.JK
 Vy:mg "_law_row_kind"=some (.ref t.JJ)
 Vz:Binds K t.JK ["_law_row","_law_wide","_law_many_here"] []
 VA:bq K "_law_table_kind" "_law_table_kind" xn t.JL t.JM
 aI4:mg "_law_table_kind"=some (.ref t.JL)
 aI5:Binds K t.JM ["_law_table_here","_law_rows","_law_wide","_law_many_here"] []
 VB:bq K "_law_leads_back" "_law_leads_back" xo t.JN t.JO
 aI6:mg "_law_leads_back"=some (.ref t.JN)
 aI7:Binds K t.JO ["_law_told_here","_law_table_here","_law_found"] []
 VC:bq K "first_with" "first_with" xp t.JP t.JQ
 dG2:mg "first_with"=some (.ref t.JP)
 dG3:Binds K t.JQ ["rows","place"] []
 aI8:bq K "scaled" "BitField.scaled" xq t.JR t.JS
 aI9:Binds K t.JS ["self","a","row"] []
 aE1:bq K "scaled" "PrimeField.scaled" xt t.JT t.JU
 aE2:Binds K t.JU ["self","a","row"] []
 KD:bq K "cleared" "cleared" xu t.JV t.JW
 VD:mg "cleared"=some (.ref t.JV)
 VE:Binds K t.JW ["field","rows","lead_row","place"] []
 KG:bq K "reduced" "reduced" xv t.JX t.JY
 VF:mg "reduced"=some (.ref t.JX)
 VG:Binds K t.JY ["field","table"] []
 C2:bq K "leads" "leads" xw t.JZ t.J0
 KH:mg "leads"=some (.ref t.JZ)
 KI:Binds K t.J0 ["rows"] []
 VH:bq K "unit_row" "unit_row" xx t.J1 t.J2
 dG8:mg "unit_row"=some (.ref t.J1)
 dG9:Binds K t.J2 ["width","place"] []
 VI:bq K "way_back" "way_back" xy t.J3 t.J4
 dH0:mg "way_back"=some (.ref t.J3)
 dH1:Binds K t.J4 ["field","table"] []
 VJ:bq K "_law_free" "_law_free" xA t.J5 t.J6
 aT7:mg "_law_free"=some (.ref t.J5)
 aT8:Binds K t.J6 ["_law_told_here","_law_field_here","_law_table_here","_law_places_here","_law_found"] []
 VL:bq K "free_places" "free_places" xB t.J7 t.J8
 dH4:mg "free_places"=some (.ref t.J7)
 dH5:Binds K t.J8 ["rows","width"] []
 aK3:bq K "minus" "BitField.minus" xC t.J9 t.Ka
 aK4:Binds K t.Ka ["self","a","b"] []
 aG1:bq K "minus" "PrimeField.minus" xD t.Kb t.Kd
 aG2:Binds K t.Kd ["self","a","b"] []
 VM:bq K "kernel_of_reduced" "kernel_of_reduced" xE t.Ke t.Kf
 dI0:mg "kernel_of_reduced"=some (.ref t.Ke)
 dI1:Binds K t.Kf ["field","rows","width"] []
 VN:bq K "kernel" "kernel" xG t.Kg t.Kh
 dI2:mg "kernel"=some (.ref t.Kg)
 dI3:Binds K t.Kh ["field","table"] []
 VO:bq K "picked" "picked" xH t.Ki t.Kj
 dI4:mg "picked"=some (.ref t.Ki)
 dI5:Binds K t.Kj ["table","places"] []
 KJ:bq K "lightest_row" "lightest_row" xI t.Kk t.Kl
 VP:mg "lightest_row"=some (.ref t.Kk)
 VQ:Binds K t.Kl ["field","table"] []
 VR:bq K "_law_places" "_law_places" xK t.Km t.Kn
 aO1:mg "_law_places"=some (.ref t.Km)
 aO2:Binds K t.Kn ["_law_found","_law_wide"] []
 VS:bq K "_law_light" "_law_light" xM t.Ko t.Kp
 aR2:mg "_law_light"=some (.ref t.Ko)
 aR3:Binds K t.Kp ["_law_told_here","_law_table_here","_law_found","_law_row"] []
 dJ0:bq K "law" "law" oX t.Kq t.Kr
 eS3:mg "law"=some (.ref t.Kq)
 eS4:Binds K t.Kr ["_law_script"] []
 aG4:t.CT.code=.ref t.UY
 aG5:codeHdIn K t.UY t.lC=true
 aK5:t.CU.code=.ref t.UZ
 aK6:codeHdIn K t.UZ t.lD=true
 hJ:eN K t.aU
 Af:Mk K t.aU t.II
 aW8:Tq K t.aU
 Ag:cP K t.aU "bits"
 r9:cP K t.aU "logs"
 xP:cP K t.aU "many"
 uF:cP K t.aU "powers"
 C3:cP K t.aU "prime"
 se:cP K t.aU "products"
 Ah:cP K t.aU "step"
 Ai:cP K t.aU "wide"
 Aj:Meth K t.aU "lessened" t.Jm
 Ak:Meth K t.aU "minus" t.J9
 Al:Meth K t.aU "over" t.CV
 Am:Meth K t.aU "scaled" t.JR
 xQ:Meth K t.aU "step_power" t.Ad
 An:Meth K t.aU "times" t.Jq
 i5:eN K t.aV
 Ao:Mk K t.aV t.Iw
 aW7:Tq K t.aV
 C4:cP K t.aV "bits"
 uG:cP K t.aV "logs"
 xR:cP K t.aV "many"
 xS:cP K t.aV "powers"
 oY:cP K t.aV "prime"
 C5:cP K t.aV "products"
 Ap:cP K t.aV "step"
 Aq:cP K t.aV "wide"
 Ar:Meth K t.aV "lessened" t.Jo
 As:Meth K t.aV "minus" t.Kb
 Au:Meth K t.aV "over" t.CV
 Av:Meth K t.aV "scaled" t.JT
 xT:Meth K t.aV "step_power" t.Ad
 Aw:Meth K t.aV "times" t.Js
 VT:Cc K t.lF "__init__" t.Ip
 xU:mg "all"=none
 dJ5:mg "any"=none
 dJ6:mg "bool"=none
 xV:mg "enumerate"=none
 VU:mg "int"=none
 Az:mg "isinstance"=none
 gC:mg "len"=none
 uH:mg "list"=none
 fS:mg "range"=none
 xW:mg "zip"=none
 AA:mg "BitField"=some (.ref t.aU)
 AB:mg "ByNought"=some (.ref t.iB)
 xX:mg "Field"=some (.ref t.lF)
 AD:mg "PrimeField"=some (.ref t.aV)
 VV:GS K mg "ByNought" t.iB
 aW9:c90 K t.iB
section
variable{P:Program}{w:World}{K:Frag}{mg:Str->Option Value}{base:Heap}{t:ka}
noncomputable abbrev aR4:bx:=λds Q=>∃c:Int,ds=[.int c]/\Q (cF (rG c))
theorem aR5(T:Txt K mg t):aP P w K mg base aZ 1 t.Ie t.Ig ["_law_cell_here"] (bA (aR4 )):=by
 refine bM T.U0 HZ ?_ ?_
 ·intro ds Q h
  obtain⟨c,rfl,q⟩:=h<;>rfl
 ·intro aI A outer s H E hr
  refine⟨_,(aA (bj (i:=1) HZ.nd rfl (aq rfl) (Sh (ns:=[7,11,13,19,25,31,37,41,47,55,59,61,67,73,87,91,97,103,109,115,117]) (by decide +kernel)))
   (aA (bj (i:=2) HZ.nd rfl (aq rfl) (Sh (ns:=[2,3,5,7,11,13,17,19,23,29,31,37,41,43,47,53,59,61]) (by decide +kernel)))
   (aA (cy (bR (fv (cI hr)) (aa (aG dy (bv 0) (aa aw))) (aa aw) (bK _)) (aE (aS (zb (fu gj (fu (df (bB (bv 1) (aa (aG dy (aa (aG kL (bv 0) (aa aw))) (aa aw))) (λ_ _=>rfl))) dF))))) cC)
   (aE (aS (zb (fu gj (fu (df (bB (bv 2) (aa (aG dy (aa (aG kL (bv 0) (aa aw))) (aa aw))) (λ_ _=>rfl))) dF)))))))),λds Q h=>?_⟩
  obtain⟨c,rfl,q⟩:=h
  refine az λU hU=>?_
  walk_at"l3"
  refine⟨by decide,hU _ ?_⟩
  clear hU U
  refine az λU hU=>?_
  walk_at"l3"
  refine⟨by decide,hU _ ?_⟩
  clear hU U
  refine az λU hU=>?_
  walk_at"l3"
  refine⟨by decide,?_⟩
  have n1:=jZ (c/2) (show(21:Int)≠0 by decide)
  have n2:=j5 (c/2) (show(0:Int)<21 by decide)
  have n3:=jZ (c/2) (show(18:Int)≠0 by decide)
  have n4:=j5 (c/2) (show(0:Int)<18 by decide)
  split
  ·rename_i hc
   refine⟨kg (by decide) (by decide),by decide,_,mC n1 (by simpa using n2),rfl,by decide,?_⟩
   have e:cF (rG c)=.tup [.bl true,.int (([7,11,13,19,25,31,37,41,47,55,59,61,67,73,87,91,97,103,109,115,117]:List Int).getD (c/2%21).toNat 0)]:=by
    unfold rG cF
    rw[if_pos hc]
    have:∀k:Nat,((g9.getD k 0:Nat):Int)=([7,11,13,19,25,31,37,41,47,55,59,61,67,73,87,91,97,103,109,115,117]:List Int).getD k 0:=λk=>by
     show _=(g9.map (λ(n:Nat)=>(n:Int))).getD k ((0:Nat):Int)
     rw[aK,aK,bZ]
     cases g9[k]?<;>rfl
    rw[<-this]
   rw[<-e];exact q
  ·rename_i hc
   refine hU _ ?_
   walk_at"l3"
   refine⟨kg (by decide) (by decide),by decide,_,mC n3 (by simpa using n4),rfl,by decide,?_⟩
   have e:cF (rG c)=.tup [.bl false,.int (([2,3,5,7,11,13,17,19,23,29,31,37,41,43,47,53,59,61]:List Int).getD (c/2%18).toNat 0)]:=by
    unfold rG cF
    rw[if_neg hc]
    have:∀k:Nat,((oA.getD k 0:Nat):Int)=([2,3,5,7,11,13,17,19,23,29,31,37,41,43,47,53,59,61]:List Int).getD k 0:=λk=>by
     show _=(oA.map (λ(n:Nat)=>(n:Int))).getD k ((0:Nat):Int)
     rw[aK,aK,bZ]
     cases oA[k]?<;>rfl
    rw[<-this]
   rw[<-e];exact q
noncomputable abbrev aR6(L:Obj->Obj->Addr->Addr->vS->Prop):bx:=λds Q=>∃(a:Nat) (of oc:Obj) (c k:Addr) (g:Nat->Nat->Nat) (l:List Int),ds=[.int a,.bE (.lam of oc c k)]/\L of oc c k (zL g)/\a<64/\Hc g a=some l/\Q (.lst true (aJ l))
theorem VW(T:Txt K mg t):aP P w K mg base aZ 5 t.Ih t.Ii ["a","product"] (bA (aR6 (zE P w K mg base 4))):=by
 refine bM T.Ks CM ?_ ?_
 ·intro ds Q h
  obtain⟨a,of,oc,c,k,g,l,rfl,hL,ha,hp,q⟩:=h<;>rfl
 ·intro aI A outer s H E hr
  refine⟨_,(aA (bj (i:=2) CM.nd rfl (aq rfl) (eR (fu aw dF)))
   (aA (bj (i:=3) CM.nd rfl (aq rfl) (SH (n:=4) (i:=1) rfl (by first | exact aq rfl | exact aY (aq rfl)) (hr.mono (by decide)) (ag (aa aw) (ag (bv 0) ax))))
   (aA (zc fk (bR (g7 (cI hr)) (bv 3) (aa aw) (bK _))
    (aA (qW (i:=2) rfl (by first | exact aq rfl | exact aY (aq rfl)) (df (bv 3)))
    (aE (bj (i:=3) CM.nd rfl (aq rfl) (SH (n:=4) (i:=1) rfl (by first | exact aq rfl | exact aY (aq rfl)) (hr.mono (by decide)) (ag (bv 3) (ag (bv 0) ax)))))))
   (aE (aS (em 2)))))),λds Q h=>?_⟩
  obtain⟨a,of,oc,c,k,g,l,rfl,hL,ha,hp,q⟩:=h
  refine az λU hU=>?_
  walk_at"l3"
  refine⟨by decide,hU _ ?_⟩
  clear hU U
  refine az λU hU=>?_
  walk_at"l3"
  refine⟨of,oc,c,k,zL g,rfl,hL,1,a,⟨rfl,rfl⟩,1,a,rfl,rfl,by decide,ha,hU _ ?_⟩
  clear hU U
  refine az λU hU=>?_
  walk_at"l3"
  refine⟨λm δ=>∃(p:Nat) (acc:List Int),δ=[some (.int a),some (.bE (.lam of oc c k)),some (.lst true (aJ acc)),some (.int p)]/\acc.length+m<=70/\Ce g a m p acc=some l,⟨64,_,[1],rfl,by decide,hp⟩,?_⟩
  rintro m δ ⟨p,acc,rfl,hn,hg⟩
  walk_at"l3"
  cases m with
  | zero=>cases hg
  | succ m =>
   unfold Ce at hg
   split at hg
   ·rename_i h1
    subst h1
    cases hg
    rw[if_neg (by simp)]
    refine hU _ ?_
    walk_at"l3"
    exact q
   ·rename_i h1
    rw[if_pos (by simp;omega)]
    split at hg
    ·rename_i h2
     clear hU
     refine az λU hU=>?_
     walk_at"l3"
     refine⟨⟨_,rfl⟩,by omega,hU _ ?_⟩
     clear hU
     walk_at"l3"
     exact⟨of,oc,c,k,zL g,rfl,hL,p,a,⟨rfl,rfl⟩,p,a,rfl,rfl,h2,ha,m,by omega,g p a,acc++[(p:Int)],⟨by rw[<-om];rfl,rfl⟩,by simp;omega,hg⟩
    ·cases hg
noncomputable abbrev aM8(L:Obj->Obj->Addr->Addr->vS->Prop):bx:=λds Q=>∃(n:Nat) (of oc:Obj) (c k:Addr) (g:Nat->Nat->Nat) (l:List Int),ds=[.int n,.bE (.lam of oc c k)]/\L of oc c k (zL g)/\zK g n=some l/\Q (.lst true (aJ l))
theorem aM9(T:Txt K mg t):aP P w K mg base aZ 6 t.Ij t.Ik ["many","product"] (bA (aM8 (zE P w K mg base 4))):=by
 refine bM T.U3 Ac ?_ ?_
 ·intro ds Q h
  obtain⟨n,of,oc,c,k,g,l,rfl,hL,hp,q⟩:=h<;>rfl
 ·intro aI A outer s H E hr
  refine⟨_,(aA (bj (i:=2) Ac.nd rfl (aq rfl) aw)
   (aA (bj (i:=3) Ac.nd rfl (aq rfl) (bh ((VW T).mono (by decide)) hr rfl T.U1 T.Ks.kp T.U2 aW (ag (bv 2) (ag (bv 1) ax))))
   (aA (zc fk (bR qL (aa (eA (gw) (by rfl) T.gC gg (ag (bv 3) ax))) (aa (aG iq (bv 0) (aa aw))) (bK _))
    (aA (BL (i:=2) Ac.nd rfl (aq rfl) (aa aw) cB1)
    (aE (bj (i:=3) Ac.nd rfl (aq rfl) (bh ((VW T).mono (by decide)) hr rfl T.U1 T.Ks.kp T.U2 aW (ag (bv 2) (ag (bv 1) ax)))))))
   (aE (aS (em 3)))))),λds Q h=>?_⟩
  obtain⟨n,of,oc,c,k,g,l,rfl,hL,hp,q⟩:=h
  unfold zK at hp
  split at hp
  ·rename_i l0 h0
   refine az λU hU=>?_
   walk_at"l3"
   refine hU _ ?_
   clear hU U
   refine az λU hU=>?_
   walk_at"l3"
   refine⟨1,of,oc,c,k,g,l0,rfl,hL,by decide,h0,hU _ ?_⟩
   clear hU U
   refine az λU hU=>?_
   walk_at"l3"
   refine⟨λm δ=>∃(st:Nat) (l1:List Int),δ=[some (.int n),some (.bE (.lam of oc c k)),some (.int st),some (.lst true (aJ l1))]/\st+m<=63/\Cf g n m st l1=some l,⟨62,1,l0,rfl,by decide,hp⟩,?_⟩
   rintro m δ ⟨st,l1,rfl,hn,hg⟩
   walk_at"l3"
   cases m with
   | zero=>cases hg
   | succ m =>
    unfold Cf at hg
    split at hg
    ·rename_i h1
     rw[if_pos (by omega)]
     split at hg
     ·rename_i l2 h2
      clear hU
      refine az λU hU=>?_
      walk_at"l3"
      refine hU _ ?_
      clear hU
      walk_at"l3"
      exact⟨st+1,of,oc,c,k,g,l2,rfl,hL,by omega,h2,m,by omega,st+1,l2,⟨rfl,rfl⟩,by omega,hg⟩
     ·cases hg
    ·rename_i h1
     rw[if_neg (by omega)]
     cases hg
     refine hU _ ?_
     walk_at"l3"
     exact q
  ·cases hp
noncomputable abbrev aV4:bx:=λds Q=>∃(l:List Int),ds=[.lst false (aJ l)]/\l.length<=64/\(∀x∈l,0<=x/\x.toNat<=l.length)/\Q (.lst true (aJ (eG l)))
theorem aV5(T:Txt K mg t):aP P w K mg base aZ 1 t.Il t.Im ["powers"] (bA (aV4 )):=by
 refine bM T.U4 Ia ?_ ?_
 ·intro ds Q h
  obtain⟨l,rfl,hl,hx,q⟩:=h<;>rfl
 ·intro aI A outer s H E hr
  refine⟨_,(aA (bj (i:=1) Ia.nd rfl (aq rfl) (aG iQ (aa (eR (fu aw dF))) (aa (aG dS (aa (eA (gw) (by rfl) T.gC gg (ag (bv 0) ax))) (aa aw)))))
   (aA (gJ fk rfl (vO rfl T.xV (ag (bv 0) ax)) (jO (i1:=2) (i2:=3) rfl Ia.nd rfl (aq rfl) rfl (aq rfl))
    (aE (tJ (i:=1) rfl (by first | exact aq rfl | exact aY (aq rfl)) (df (bv 2)) (bv 3))))
   (aE (aS (em 1))))),λds Q h=>?_⟩
  obtain⟨l,rfl,hl,hx,q⟩:=h
  refine az λU hU=>?_
  walk_at"l3"
  refine⟨by decide,⟨by omega,by omega,by omega⟩,hU _ ?_⟩
  clear hU U
  refine az λU hU=>?_
  walk_at"l3"
  refine gu.mk (λi δ=>∃o1 o2,δ=[some (.lst false (aJ l)),some (.lst true (aJ (oB l i))),o1,o2]) ⟨none,none,?_⟩ ?_ ?_
  ·rw[show((l.length:Int)+1).toNat=l.length+1 by omega];rfl
  ·rintro i d δ hd ⟨o1,o2,rfl⟩
   obtain⟨hi,rfl⟩:∃h:i<l.length,d=.tup [.int i,.int l[i]]:=by
    unfold gx aJ at hd
    rw[uY,bZ]at hd
    by_cases hi:i<l.length
    ·rw[aL hi]at hd
     simp at hd
     exact⟨hi,hd.symm⟩
    ·rw[fF (by omega)]at hd;simp at hd
   have fL:=hx l[i] (dv _)
   walk_at"l3"
   refine⟨_,(l[i]).toNat,rfl,?_,_,_,?_,rfl,rfl⟩
   ·unfold iJ
    rw[kT,zM,if_pos fL.1,if_pos (by omega)]
   ·unfold aJ
    rw[<-List.map_set]
    congr 1
    show _=(oB l i).set (l.getD i 0).toNat (i:Int)
    rw[aK,aL hi];rfl
  ·rintro δ ⟨o1,o2,rfl⟩
   refine hU _ ?_
   simp only[qm,nQ,qo,nR,dT,kK,mj,mm,dC,nH,nN,nL,nK,nM,ql,mx,qQ,oh,qS,qT,qf,qg,qh,qi,qj,qk,nI,n8,n9,nX,qA,nZ,qB,qC,qD,qE,qF,qG,iI,gK,qH,qI,qJ,qK,n5,n6,kM,qM,qN,gN,qU,qP,qp,qt,qu,qv,qw,qy,qV,qX,nV,ke,fK,iP,ik,pz,ph,sM,u6,nO,jK,iN,og,q8,rf,rh,uh,ki,rn,oq,rk,iT,uk,ui,uj,dB,jY,pL,pj,ia,u7,br,mY,mZ,jz,jA,sN,exists_eq_left',exists_eq_left,D.bl.injEq,D.int.injEq,D.lst.injEq,D.fz.injEq,D.str.injEq,D.tup.injEq,pM,and_true,true_and,dM,pK,kz,mW,tK,tL,tM,tN,tO,tP,gh,jI,kS,tT,tU,tV,tW,tX,dO,jJ,qY,tQ,tR,tS,fg,nE,u9,vb,su,iE,vd,ve,sD,t8,t9,ua,ub,ud,ue,uf,kT,mB,oj,jr,om,tZ,q5,tY,qZ,t7,iS,q0,if_true,vf,if_false,reduceIte,ug,decide_eq_true_eq,eT,jP,mE,uo,rq,um,qq,rA,oF,rm,ow,oy,rD,oI,rK,oS,rQ,rR,eU,rM,lh,rO,oJ,rW,rX,vN]
   exact q
noncomputable abbrev KL(K:Frag):bx:=λds Q=>∃(C:Addr) (ns:List Str) (xs:List D) (n:Int) (many:Nat) (l:List Int) (r:Int),ds=[.obj C ns xs,.int n]/\eN K C/\cP K C "powers"/\cP K C "many"/\(ns.zip xs).lookup ("powers":Str)=some (.lst false (aJ l))/\(ns.zip xs).lookup ("many":Str)=some (.int many)/\2<=many/\l[(n%((many:Int)-1)).toNat]?=some r/\Q (.int r)
theorem KN(T:Txt K mg t):aP P w K mg base aZ 1 t.Ad t.Io ["self","n"] (bA (KL K)):=by
 refine bM T.aE9 aD6 ?_ ?_
 ·intro ds Q h
  obtain⟨C,ns,xs,n,many,l,r,rfl,hC,h1,h2,h3,h4,h5,h6,q⟩:=h<;>rfl
 ·intro aI A outer s H E hr
  refine⟨_,(aE (aS (df (bB (kW (K:=K) (bv 0)) (aa (aG dy (bv 1) (aa (aG iq (kW (K:=K) (bv 0)) (aa aw))))) (λ_ _=>rfl))))),λds Q h=>?_⟩
  obtain⟨C,ns,xs,n,many,l,r,rfl,hC,h1,h2,h3,h4,h5,h6,q⟩:=h
  walk_at"l3"
  refine⟨C,ns,xs,_,rfl,hC,h1,h3,C,ns,xs,_,rfl,hC,h2,h4,?_⟩
  refine⟨by omega,_,pV (d:=.int r) (jZ _ (by omega)) ?_,rfl,q⟩
  unfold aJ
  rw[bZ,h6];rfl
noncomputable abbrev aO3(P:Program)(w:World)(K:Frag)(mg:Str->Option Value)(base:Heap)(fs:Addr):Sp:=λvs H Q _=>∃(x dx f C:Addr) (b:Str) (n0:Int) (many:Nat) (of oc:Obj) (c k:Addr) (g:Nat->Nat->Nat) (l:List Int) (st:Int),
 vs=[.ref x,.int many,.ref f]/\H x=some (.ins C dx [(b,.int n0)])/\(∀n∈(["many","wide","powers","logs","step","step_power"]:List Str),b≠n)/\dm1 K C fs/\iL H f of oc c k/\zE P w K mg base 4 of oc c k (zL g)/\S5 g many l st /\
 ∀H' p1 p2,dU x H H'->H' x=some (.ins C dx ((iu b).zip (Cg n0 many p1 p2 st)))->LI H' p1 l->LI H' p2 (eG l)->p1≠p2->H p1=none->H p2=none->Q .au H'
theorem VX(T:Txt K mg t):aP P w K mg base aZ 7 t.Ip t.Iq ["self","many","product"] (aO3 P w K mg base t.Ad):=by
 refine T.aQ4.ok aN7 (λvs H Q E h=>?_) λaI A outer s H vs Q E hr h=>?_
 ·obtain⟨x,dx,f,C,b,n0,many,of,oc,c,k,g,l,st,rfl,_⟩:=h;rfl
 obtain⟨x,dx,f,C,b,n0,many,of,oc,c,k,g,l,st,rfl,hx,hb,hC,dK5,hL,hF,q⟩:=h
 refine⟨_,kE (pU (pv 0) (pv 1) rfl) (kE (pU (pv 0) (yL Fp (FP (pv 1)) vo) rfl)
  (kE (pU (pv 0) (sX ((aM9 T).mono (by decide)) hr rfl T.dA9 T.U3.kp T.dB0 .nil aW (fH (pv 1) (fH (pv 2) jE))) rfl)
  (kE (pU (pv 0) (sX ((aV5 T).mono (by decide)) hr rfl T.dB1 T.U4.kp T.dB2 .nil aW (fH (Bt (pv 0) rfl) jE)) rfl)
  (vq (pU (pv 0) (cv1 (pv 0) hC.cls hC.sp ((KN T).mono (by decide)) hr T.Kt .nil aW (fH vo jE)) rfl))))),?_⟩
 have nb:∀n∈(["many","wide","powers","logs","step","step_power"]:List Str),b≠n:=hb
 refine⟨.int many,rfl,.ref x,rfl,x,C,dx,_,rfl,hx,hC.cls,hC.many,pq (bP 1) (by decide),?_⟩
 rw[vV (by simpa using nb "many" (by simp))]
 generalize e1:upd H x (HO.ins C dx ([(b,V.int n0)]++[(("many":Str),V.int many)]))=H1
 have fL:H1 x=some (.ins C dx [(b,V.int n0),(("many":Str),V.int many)]):=by rw[<-e1,cB];rfl
 have s1:dU x H H1:=by rw[<-e1];exact dU.upd (C:=C) (dx:=dx) hx rfl
 have l1:iL H1 f of oc c k:=by rw[<-e1];exact dK5.zN hx
 have n1:∀p,H1 p=none->H p=none:=λp h=>zO hx (by rw[e1];exact h)
 refine⟨_,rfl,rfl,_,rfl,rfl,_,_,rfl,rfl,.ref x,rfl,x,C,dx,_,rfl,fL,hC.cls,hC.wide,pq (bP 2) (by decide),?_⟩
 rw[vV (by simp;exact⟨nb "wide" (by simp),by decide⟩),i9]
 generalize e2:upd H1 x (HO.ins C dx ([(b,V.int n0),(("many":Str),V.int many)]++[(("wide":Str),V.int ((bl many:Nat)-1))]))=H2
 have iU:H2 x=some (.ins C dx [(b,V.int n0),(("many":Str),V.int many),(("wide":Str),V.int ((bl many:Nat)-1))]):=by rw[<-e2,cB];rfl
 have s2:dU x H H2:=by rw[<-e2];exact s1.trans (dU.upd (C:=C) (dx:=dx) fL rfl)
 have l2:iL H2 f of oc c k:=by rw[<-e2];exact l1.zN fL
 have n2:∀p,H2 p=none->H p=none:=λp h=>n1 p (zO fL (by rw[e2];exact h))
 refine⟨_,rfl,_,rfl,H2,[.int many,.bE (.lam of oc c k)],λd=>d=.lst true (aJ l),af.refl _,.int (.bE l2 .nil),⟨many,of,oc,c,k,g,l,rfl,hL,hF.step,rfl⟩,λd v F' H3 A' hd hs hf he h3 r nd fr=>?_⟩
 subst hd
 obtain⟨p1,rfl,hp1,AE⟩:=S4 r fr
 have mO:=hs.get _ _ iU
 have s3:=s2.trans (hs.x (x:=x))
 refine⟨.ref x,rfl,x,C,dx,_,rfl,mO,hC.cls,hC.He,pq (bP 3) (by decide),?_⟩
 rw[vV (by simp;exact⟨nb "powers" (by simp),by decide,by decide⟩)]
 generalize e4:upd H3 x (HO.ins C dx ([(b,V.int n0),(("many":Str),V.int many),(("wide":Str),V.int ((bl many:Nat)-1))]++[(("powers":Str),V.ref p1)]))=H4
 have si:H4 x=some (.ins C dx [(b,V.int n0),(("many":Str),V.int many),(("wide":Str),V.int ((bl many:Nat)-1)),(("powers":Str),V.ref p1)]):=by rw[<-e4,cB];rfl
 have s4:dU x H H4:=by rw[<-e4];exact s3.trans (dU.upd (C:=C) (dx:=dx) mO rfl)
 have p4:LI H4 p1 l:=by rw[<-e4];exact hp1.upd mO (λws z=>by cases z)
 have n4:∀p,H4 p=none->H p=none:=λp h=>n2 p (hs.free (zO mO (by rw[e4];exact h)))
 refine⟨.ref x,rfl,x,C,dx,_,.ref p1,rfl,si,hC.cls,hC.He,by rw[Ci (nb "powers" (by simp))];rfl,H4,[.lst false (aJ l)],λd=>d=.lst true (aJ (eG l)),af.refl _,.shr p4 (kR l) .nil,⟨l,rfl,by have:=hF.len;have:=hF.hi;omega,hF.ins,rfl⟩,λd v F' H5 A' hd sj hf he h3 r nd fr=>?_⟩
 subst hd
 obtain⟨p2,rfl,VY,uI⟩:=S4 r fr
 have mP:=sj.get _ _ si
 have s5:=s4.trans (sj.x (x:=x))
 have dK7:p1≠p2:=λz=>by rw[<-z]at uI;unfold LI at p4;rw[uI]at p4;cases p4
 refine⟨.ref x,rfl,x,C,dx,_,rfl,mP,hC.cls,hC.dm2,pq (bP 4) (by decide),?_⟩
 rw[vV (by simp;exact⟨nb "logs" (by simp),by decide,by decide,by decide⟩)]
 generalize e6:upd H5 x (HO.ins C dx ([(b,V.int n0),(("many":Str),V.int many),(("wide":Str),V.int ((bl many:Nat)-1)),(("powers":Str),V.ref p1)]++[(("logs":Str),V.ref p2)]))=H6
 have KO:H6 x=some (.ins C dx (([b,"many","wide","powers","logs"]:List Str).zip [V.int n0,V.int many,V.int ((bl many:Nat)-1),V.ref p1,V.ref p2])):=by rw[<-e6,cB];rfl
 have s6:dU x H H6:=by rw[<-e6];exact s5.trans (dU.upd (C:=C) (dx:=dx) mP rfl)
 have p6:LI H6 p1 l:=by rw[<-e6];exact(p4.same sj).upd mP (λws z=>by cases z)
 have q6:LI H6 p2 (eG l):=by rw[<-e6];exact VY.upd mP (λws z=>by cases z)
 refine⟨.ref x,rfl,x,dx,_,rfl,KO,by show mS ("step_power":Str) ((b,V.int n0)::_)=none;rw[Ci (nb "step_power" (by simp))];rfl,H6,[.obj C [b,"many","wide","powers","logs"] [.int n0,.int many,.int ((bl many:Nat)-1),.lst false (aJ l),.lst false (aJ (eG l))],.int 1],λd=>d=.int st,af.refl _,
  .obj KO rfl (.int (.int (.int (.shr p6 (kR l) (.shr q6 (kR _) .nil))))) (.int .nil),⟨C,_,_,1,many,l,st,rfl,hC.cls,hC.He,hC.many,by show mS ("powers":Str) ((b,D.int n0)::_)=_;rw[Ci (nb "powers" (by simp))];rfl,by show mS ("many":Str) ((b,D.int n0)::_)=_;rw[Ci (nb "many" (by simp))];rfl,hF.lo,hF.st,rfl⟩,λd v F' H7 A' hd C6 hf he h3 r nd fr=>?_⟩
 subst hd
 cases r
 have C7:=C6.get _ _ KO
 refine⟨.ref x,rfl,x,C,dx,_,rfl,C7,hC.cls,hC.step,pq (bP 5) (by decide),?_⟩
 rw[vV (by simp;exact⟨nb "step" (by simp),by decide,by decide,by decide,by decide⟩)]
 refine q _ p1 p2 ((s6.trans (C6.x (x:=x))).trans (dU.upd (C:=C) (dx:=dx) C7 rfl)) (by rw[cB];rfl) ((p6.same C6).upd C7 (λws z=>by cases z)) ((q6.same C6).upd C7 (λws z=>by cases z)) dK7 (n2 p1 AE) (n4 p2 uI)
noncomputable abbrev aB8:bx:=λds Q=>∃a:Int,ds=[.int a]/\Q (.bl (decide (2<=a)&&decide (a<=61)&&(aM (a.toNat-2)).all λi=>a%(2+(i:Int)) != 0))
theorem aB9(T:Txt K mg t):aP P w K mg base aZ 1 t.Ir t.Iu ["prime"] (bA (aB8 )):=by
 refine bM T.U6 aB2 ?_ ?_
 ·intro ds Q h
  obtain⟨a,rfl,q⟩:=h<;>rfl
 ·intro aI A outer s H E hr
  refine⟨_,(aE (aS (vD (aa (BR vJ vJ (aa aw) (bv 0) (aa aw))) (vp (eA (vL rfl) (by rfl) T.xU vA (ag (aa (dq [("prime",0)] ["d"] rfl (BO rfl T.fS (ag (aa aw) (ag (bv 0) ax))) (λ_ _ _ _=>(cE (i:=1) (show(["prime","d"]:List Str).Nodup by decide +kernel) rfl (aq (lookup_relabel_local rfl)) (by decide) (aY (lookup_relabel_local rfl)))) (λ_ _ _ _=>dG) (λ_ _ _ _=>(qe (g7 (cI hr)) (aa (aG dy (bv 0) (bv 1))) (aa aw) (bK _))) rfl ⟨rfl,trivial⟩ (λ_=>by repeat' (first | exact trivial | refine⟨.inl rfl,?_⟩ | refine⟨.inr (.inl rfl),?_⟩ | refine⟨.inr (.inr ⟨_,rfl⟩),?_⟩)) (λ_=>⟨⟨rfl,.inl rfl,.inl rfl,_,rfl,rfl⟩,trivial⟩) rfl (by decide +kernel))) ax)))))),λds Q h=>?_⟩
  obtain⟨a,rfl,q⟩:=h
  walk_at"l3"
  split
  ·rename_i h1
   split
   ·rename_i h2
    refine⟨2,a,⟨rfl,rfl⟩,⟨by decide,by decide,by omega,by omega⟩,?_⟩
    have e0:(a-2).toNat=a.toNat-2:=by omega
    rw[e0]
    refine eB (aM (a.toNat-2)) (λ(k:Nat)=>D.int (2+(k:Int))) (λ(k:Nat)=>D.bl (a%(2+(k:Int)) != 0)) (by rw[zd]) (λx y h=>by injection h with h;omega) (λk hk=>?_) (.inr λ_ _=>rfl) (by rw[cK,sL];omega) ?_
    ·walk_at"l3"
     refine⟨by omega,?_⟩
     by_cases z:a%(2+(k:Int))=0<;>simp[z]
    ·refine⟨(aM (a.toNat-2)).map λ(k:Nat)=>a%(2+(k:Int)) != 0,?_,?_⟩
     ·unfold qO;rw[cH];rfl
     ·have e:(decide (2<=a)&&decide (a<=61)&&(aM (a.toNat-2)).all λi=>a%(2+(i:Int)) != 0)=((aM (a.toNat-2)).map λ(k:Nat)=>a%(2+(k:Int)) != 0).all id:=by
       simp[h1,h2,mX]
      rw[<-e];exact q
   ·rename_i h2
    have e:(decide (2<=a)&&decide (a<=61)&&(aM (a.toNat-2)).all λi=>a%(2+(i:Int)) != 0)=false:=by simp[h2]
    rw[e]at q;exact q
  ·rename_i h1
   have e:(decide (2<=a)&&decide (a<=61)&&(aM (a.toNat-2)).all λi=>a%(2+(i:Int)) != 0)=false:=by simp[h1]
   rw[e]at q;exact q
noncomputable abbrev aN0:List D->List Str->List D->Prop:=λds ns xs=>∃p:Nat,ds=[.int p]/\p∈oA/\ns=iu "prime"/\xs=[.int p,.int p,.int ((bl p:Nat)-1),.lst true (aJ (fl (false,p))),.lst true (aJ (eG (fl (false,p)))),.int (fst (false,p))]
theorem aG7(T:Txt K mg t)(hB:Bm mg base):aP P w K mg base aZ 8 t.Iw t.CT ["self","prime"] (Hb [t.lC,t.lD] t.aV aN0):=by
 refine S0 T.aI2 T.aG4 aE5 (λvs H Q E h=>?_) λA outer s H vs Q E hr h=>?_
 ·obtain⟨x,dx,cQ,ds,ns,xs,rfl,_,_,r,⟨p,rfl,_⟩,_⟩:=h
  have:=r.length
  simp at this
  simp[this]
 obtain⟨x,dx,cQ,ds,ns,xs,rfl,tb,hx,r,⟨p,rfl,hp,rfl,rfl⟩,q⟩:=h
 obtain rfl:cQ=[.int p]:=by
  cases r with
  | int r=>cases r;rfl
 have hm:(false,p)∈aC:=dY _ (EN hp)
 have hF:=da hm
 refine⟨_,kE (Fb (E7 (E5 (sX ((aB9 T).mono (by decide)) hr rfl T.dB5 T.U6.kp T.dB6 .nil aW (fH (pv 1) jE)))) (vq P8) E8)
  (kE (pU (pv 0) (pv 1) rfl)
  (vq (E9 (SR (E:=E0) (i:=1) T.VT ((VX T).mono (by decide)) hr T.U5 rfl T.xX rfl rfl rfl rfl (fH (pv 0) (fH (pv 1) (fH (SI rfl rfl T.aG5 hB) jE))))))),?_⟩
 refine⟨_,rfl,H,[.int p],λd=>d=.bl true,af.refl _,.int .nil,⟨p,rfl,by rw[ce0 p hp]⟩,λd v F' H1 A1 hd uJ hf he h3 r nd fr=>?_⟩
 subst hd
 cases r
 refine⟨true,rfl,?_⟩
 refine mf ?_
 have fL:=uJ.get _ _ hx
 refine⟨.int p,rfl,.ref x,rfl,x,t.aV,dx,_,rfl,fL,T.i5,T.oY,by decide,?_⟩
 generalize e2:upd H1 x (HO.ins t.aV dx (fP "prime" (.int p) []))=H2
 have iU:H2 x=some (.ins t.aV dx [(("prime":Str),.int p)]):=by rw[<-e2,cB];rfl
 have s2:dU x H H2:=by rw[<-e2];exact(uJ.x (x:=x)).trans (dU.upd (C:=x) (dx:=dx) fL rfl)
 have n2:∀p,H2 p=none->H p=none:=λp h=>uJ.free (zO fL (by rw[e2];exact h))
 obtain⟨ps,hP⟩:=tb t.lC (by simp)
 obtain⟨more,KP⟩:=s2.tb _ ps hP
 refine⟨.ref x,rfl,.int p,rfl,⟨_,KP⟩,λf k qn pm jt H3 nf KQ hk kf ly hl3=>?_⟩
 refine⟨f,_,_,.int p,KQ,rfl,rfl,λoc u jf hu nc rC=>?_⟩
 obtain⟨tm,rfl⟩:∃tm,u=pd p tm:=hu
 have mO:=ly.get _ _ iU
 refine⟨x,dx,f,t.aV,"prime",p,p,_,oc,_,k,gm (false,p),fl (false,p),fst (false,p),rfl,zP mO (λz=>by rw[z,nf]at iU;cases iU) nc,by decide,⟨T.i5,T.xR,T.Aq,T.xS,T.uG,T.Ap,T.xT⟩,S7 rC nc hk kf,?_,hF,λH' p1 p2 sx ff KR yS ne AE uI=>?_⟩
 ·refine SX (n:=3) ⟨rfl,rfl,rfl,by decide,rfl,rfl,by decide,by decide,rfl⟩ jf (λu1 u2=>rfl) λq f A outer s H E hr=>?_
  refine⟨_,aG dy (aa (aG iQ (bv 0) (bv 1))) (bv 2),λi j Qd h=>?_⟩
  obtain⟨a,b,rfl,rfl,ha,hb,hq⟩:=h
  walk_at"l3"
  have hp0:2<=p:=hF.lo
  refine⟨j8.ok (.inr ⟨by omega,by omega⟩),by omega,?_⟩
  have e:((gm (false,p) a b:Nat):Int)=(a:Int)*b%p:=by
   show((a*b%p:Nat):Int)=_
   rw[sI,yx]
  rw[<-e];exact hq
 ·have gf:H' f=some (.ext (jH _ oc _ f)):=sx.get f _ (λz=>by rw[z]at nf;rw[nf]at iU;cases iU) (by rw[bb rC.symm,cB]) rfl
  have gc:=sx.get _ _ (fq mO nc).symm cB rfl
  refine⟨gf,gc,?_⟩
  refine q _ (Cg p p p1 p2 (fst (false,p))) [p1,p2] (s2.trans (S6 ly nf nc sx)) ?_ rfl ?_ (by simp[ne]) (λa ha=>?_)
  ·rw[ir (λz=>by rw[z,gf]at ff;cases ff) (λz=>by rw[z,gc]at ff;cases ff)];exact ff
  ·exact .int (.int (.int (.own (KR.rem gf gc) rfl (kR _) (.own (yS.rem gf gc) rfl (kR _) (.int .nil)))))
  ·simp at ha
   rcases ha with rfl | rfl
   ·exact n2 _ (Cj ly AE)
   ·exact n2 _ (Cj ly uI)
noncomputable abbrev aL8:bx:=λds Q=>∃(l g:List Int),ds=[.lst false (aJ l),.lst false (aJ g)]/\1<=l.length/\l.length<=63/\g.length=l.length+1/\(∀x∈g,0<=x)/\Q (.lst true (rF l g))
theorem aL9(T:Txt K mg t):aP P w K mg base aZ 1 t.Iy t.Iz ["powers","logs"] (bA (aL8 )):=by
 refine bM T.U7 CN ?_ ?_
 ·intro ds Q h
  obtain⟨l,g,rfl,h1,h2,h3,h4,q⟩:=h<;>rfl
 ·intro aI A outer s H E hr
  refine⟨_,(aA (bj (i:=2) CN.nd rfl (aY rfl) (aG dS (aa (eA (gw) (by rfl) T.gC gg (ag (bv 0) ax))) (aa aw)))
   (aA (bj (i:=3) CN.nd rfl (aq rfl) (eR (fu (aG iQ (aa (eR (fu aw dF))) (bv 2)) dF)))
   (aA (gJ fk rfl (BO rfl T.fS (ag (aa aw) (ag (bv 2) ax))) (cE (i:=4) CN.nd rfl (aY rfl))
    (aE (qW (i:=3) rfl (by first | exact aq rfl | exact aY (aq rfl)) (aG dS (aa (eR (fu aw dF))) (aa (dq [("powers",0),("many",2),("logs",1),("a",4)] ["b"] rfl (BO rfl T.fS (ag (aa aw) (ag (bv 2) ax))) (λ_ _ _ _=>(cE (i:=4) (show(["powers","many","logs","a","b"]:List Str).Nodup by decide +kernel) rfl (aq (lookup_relabel_local rfl)) (by decide) (aY (lookup_relabel_local rfl)))) (λ_ _ _ _=>dG) (λ_ _ _ _=>(df (bB (bv 0) (aa (aG dy (aa (aG dS (bB (bv 2) (bv 3) (λ_ _=>rfl)) (bB (bv 2) (bv 4) (λ_ _=>rfl)))) (aa (aG iq (bv 1) (aa aw))))) (λ_ _=>rfl)))) rfl ⟨rfl,⟨rfl,⟨rfl,⟨rfl,trivial⟩⟩⟩⟩ (λ_=>by repeat' (first | exact trivial | refine⟨.inl rfl,?_⟩ | refine⟨.inr (.inl rfl),?_⟩ | refine⟨.inr (.inr ⟨_,rfl⟩),?_⟩)) (λ_=>⟨⟨rfl,.inl rfl,.inl rfl,_,rfl,rfl⟩,⟨⟨rfl,.inl rfl,.inl rfl,_,rfl,rfl⟩,⟨⟨rfl,.inl rfl,.inl rfl,_,rfl,rfl⟩,⟨⟨rfl,.inl rfl,.inl rfl,_,rfl,rfl⟩,trivial⟩⟩⟩⟩) rfl (by decide +kernel)))))))
   (aE (aS (em 3)))))),λds Q h=>?_⟩
  obtain⟨l,g,rfl,h1,h2,h3,h4,q⟩:=h
  refine az λU hU=>?_
  walk_at"l3"
  refine hU _ ?_
  clear hU U
  refine az λU hU=>?_
  walk_at"l3"
  refine⟨by decide,⟨by omega,by omega,by omega⟩,by decide,hU _ ?_⟩
  clear hU U
  refine az λU hU=>?_
  walk_at"l3"
  refine⟨1,(l.length:Int)+1,⟨rfl,rfl⟩,⟨by decide,by decide,by omega,by omega⟩,?_⟩
  have en:((l.length:Int)+1-1).toNat=l.length:=by omega
  rw[en]
  refine gu.mk (λi δ=>∃o,δ=[some (.lst false (aJ l)),some (.lst false (aJ g)),some (.int ((l.length:Int)+1)),some (.lst true (vU l g (i+1))),o]) ⟨none,?_⟩ ?_ ?_
  ·rw[show((l.length:Int)+1).toNat=l.length+1 by omega];rfl
  ·rintro i d δ hd ⟨o,rfl⟩
   obtain⟨hi,rfl⟩:i<l.length/\d=.int (1+(i:Int)):=by
    rw[bZ]at hd
    by_cases hi:i<l.length
    ·rw[gU hi]at hd
     exact⟨hi,(cW hd).symm⟩
    ·rw[fF (by simpa using hi)]at hd;cases hd
   walk_at"l3"
   refine⟨⟨_,rfl⟩,by decide,1,(l.length:Int)+1,⟨rfl,rfl⟩,⟨by decide,by decide,by omega,by omega⟩,?_⟩
   rw[en]
   refine eB (aM l.length) (λ(k:Nat)=>D.int (1+(k:Int))) (λ(k:Nat)=>D.int (l.getD ((g.getD (i+1) 0+g.getD (k+1) 0)%(l.length:Int)).toNat 0)) (by rw[zd]) (λx y h=>by injection h with h;omega) (λk hk=>?_) (.inr λ_ _=>rfl) (by rw[cK,sL];omega) ?_
   ·have mJ:=cV.mp hk
    walk_at"l3"
    have e1:(1+(i:Int)).toNat=i+1:=by omega
    have e2:(1+(k:Int)).toNat=k+1:=by omega
    have e3:(l.length:Int)+1-1=l.length:=by omega
    have n0:=jZ (g.getD (i+1) 0+g.getD (k+1) 0) (show(l.length:Int)≠0 by omega)
    have n1:=j5 (g.getD (i+1) 0+g.getD (k+1) 0) (show(0:Int)<l.length by omega)
    refine⟨_,mC (by omega) (by omega),_,mC (by omega) (by omega),?_⟩
    rw[e1,e2,e3]
    exact⟨by omega,_,mC n0 n1,rfl,rfl⟩
   ·walk_at"l3"
    refine⟨⟨by simp;omega,by rw[mX,du];intro x _;rfl⟩,by simp[vU];omega,_,?_,rfl⟩
    unfold vU
    rw[PM (n:=i+1),fY]
    congr 1
    show _=[D.lst true (aJ (rE l g (i+1)))]
    unfold rE
    rw[if_neg (by omega)]
    unfold aJ
    rw[dB,cH];rfl
  ·rintro δ ⟨o,rfl⟩
   refine hU _ ?_
   simp only[qm,nQ,qo,nR,dT,kK,mj,mm,dC,nH,nN,nL,nK,nM,ql,mx,qQ,oh,qS,qT,qf,qg,qh,qi,qj,qk,nI,n8,n9,nX,qA,nZ,qB,qC,qD,qE,qF,qG,iI,gK,qH,qI,qJ,qK,n5,n6,kM,qM,qN,gN,qU,qP,qp,qt,qu,qv,qw,qy,qV,qX,nV,ke,fK,iP,ik,pz,ph,sM,u6,nO,jK,iN,og,q8,rf,rh,uh,ki,rn,oq,rk,iT,uk,ui,uj,dB,jY,pL,pj,ia,u7,br,mY,mZ,jz,jA,sN,exists_eq_left',exists_eq_left,D.bl.injEq,D.int.injEq,D.lst.injEq,D.fz.injEq,D.str.injEq,D.tup.injEq,pM,and_true,true_and,dM,pK,kz,mW,tK,tL,tM,tN,tO,tP,gh,jI,kS,tT,tU,tV,tW,tX,dO,jJ,qY,tQ,tR,tS,fg,nE,u9,vb,su,iE,vd,ve,sD,t8,t9,ua,ub,ud,ue,uf,kT,mB,oj,jr,om,tZ,q5,tY,qZ,t7,iS,q0,if_true,vf,if_false,reduceIte,ug,decide_eq_true_eq,eT,jP,mE,uo,rq,um,qq,rA,oF,rm,ow,oy,rD,oI,rK,oS,rQ,rR,eU,rM,lh,rO,oJ,rW,rX,bG,cK]
   exact q
noncomputable abbrev aM0(t:ka):q9:=λds Q Ex=>∃a b:Nat,ds=[.int a,.int b]/\bl a<=1000000/\bl b<=1000000/\(b=0->Ex t.iB)/\(b≠0->∀q r:Nat,a=cl q b ^^^ r->bl r<bl b->Q (.tup [.int q,.int r]))
theorem VZ(T:Txt K mg t):aP P w K mg base (nD P w) 1 t.IA t.IB ["a","b"] (zx (aM0 t )):=by
 refine Si T.Ku wC ?_ ?_
 ·intro ds Q Ex h
  obtain⟨a,b,rfl,ha,hb,qx,q⟩:=h<;>rfl
 ·intro aI A outer s H E hr
  refine⟨_,(aA (cy (bR (fv (cI hr)) (bv 1) (aa aw) (bK _)) (aE (Sm T.VV rfl (by rfl) (ag (aa RH) ax))) cC)
   (aA (bj (i:=2) wC.nd rfl (aq rfl) aw)
   (aA (bj (i:=3) wC.nd rfl (aq rfl) (em 0))
   (aA (cI1 (zc fk (bR cO0 (aa (oi (bv 3))) (aa (oi (bv 1))) (bK _))
    (aA (bj (i:=4) wC.nd rfl (aq rfl) (aG iq (aa (oi (bv 3))) (aa (oi (bv 1)))))
    (aA (BL (i:=2) wC.nd rfl (aq rfl) (aa (aG vH (aa aw) (bv 4))) GB)
    (aE (BL (i:=3) wC.nd rfl (aq rfl) (aa (aG vH (bv 1) (bv 4))) GB))))))
   (aE (aS (zb (fu (em 2) (fu (em 3) dF))))))))),λds Q Ex h=>?_⟩
  obtain⟨a,b,rfl,ha,hb,qx,q⟩:=h
  refine az λU hU=>?_
  walk_at"l3"
  split
  ·rename_i h0
   exact⟨by decide,qx (by omega)⟩
  ·rename_i h0
   have b0:b≠0:=by omega
   refine hU _ ?_
   clear hU U
   refine az λU hU=>?_
   walk_at"l3"
   refine hU _ ?_
   clear hU U
   refine az λU hU=>?_
   walk_at"l3"
   refine hU _ ?_
   clear hU U
   refine az λU hU=>?_
   walk_at"l3"
   refine⟨λm δ=>∃(x r:Nat) (o sh:Option D),δ=[o,some (.int b),some (.int (x:Nat)),some (.int (r:Nat)),sh]/\a=cl x b ^^^ r/\bl r<=bl a/\m=bl r,
    ⟨bl a,0,a,_,none,rfl,by rw[p7,pk],bP _,rfl⟩,?_⟩
   rintro m δ ⟨x,r,o,sh,rfl,inv,hra,rfl⟩
   simp only[qm,nQ,qo,nR,dT,kK,mj,mm,dC,nH,nN,nL,nK,nM,ql,mx,qQ,oh,qS,qT,qf,qg,qh,qi,qj,qk,nI,n8,n9,nX,qA,nZ,qB,qC,qD,qE,qF,qG,iI,gK,qH,qI,qJ,qK,n5,n6,kM,qM,qN,gN,qU,qP,qp,qt,qu,qv,qw,qy,qV,qX,nV,ke,fK,iP,ik,pz,ph,sM,u6,nO,jK,iN,og,q8,rf,rh,uh,ki,rn,oq,rk,iT,uk,ui,uj,dB,jY,pL,pj,ia,u7,br,mY,mZ,jz,jA,sN,exists_eq_left',exists_eq_left,D.bl.injEq,D.int.injEq,D.lst.injEq,D.fz.injEq,D.str.injEq,D.tup.injEq,pM,and_true,true_and,dM,pK,kz,mW,tK,tL,tM,tN,tO,tP,gh,jI,kS,tT,tU,tV,tW,tX,dO,jJ,qY,tQ,tR,tS,fg,nE,u9,vb,su,iE,vd,ve,sD,t8,t9,ua,ub,ud,ue,uf,kT,mB,oj,jr,om,tZ,q5,tY,qZ,t7,iS,q0,if_true,vf,if_false,reduceIte,ug,decide_eq_true_eq,eT,jP,mE,uo,rq,um,qq,rA,oF,rm,ow,oy,rD,oI,rK,oS,rQ,rR,eU,rM,lh,rO,oJ,rW,rX,i9]
   split
   ·rename_i hc
    have hle:bl b<=bl r:=by omega
    have FL:=Q6 b0 hle
    have es:(((bl r:Nat):Int)-((bl b:Nat):Int))=((bl r-bl b:Nat):Int):=by omega
    clear hU
    refine az λU hU=>?_
    walk_at"l3"
    simp only[i9,es]
    refine hU _ ?_
    clear hU
    refine az λU hU=>?_
    walk_at"l3"
    have o1:bl (1:Int).natAbs=1:=by decide
    refine⟨⟨by omega,by omega⟩,hU _ ?_⟩
    clear hU
    simp only[qm,nQ,qo,nR,dT,kK,mj,mm,dC,nH,nN,nL,nK,nM,ql,mx,qQ,oh,qS,qT,qf,qg,qh,qi,qj,qk,nI,n8,n9,nX,qA,nZ,qB,qC,qD,qE,qF,qG,iI,gK,qH,qI,qJ,qK,n5,n6,kM,qM,qN,gN,qU,qP,qp,qt,qu,qv,qw,qy,qV,qX,nV,ke,fK,iP,ik,pz,ph,sM,u6,nO,jK,iN,og,q8,rf,rh,uh,ki,rn,oq,rk,iT,uk,ui,uj,dB,jY,pL,pj,ia,u7,br,mY,mZ,jz,jA,sN,exists_eq_left',exists_eq_left,D.bl.injEq,D.int.injEq,D.lst.injEq,D.fz.injEq,D.str.injEq,D.tup.injEq,pM,and_true,true_and,dM,pK,kz,mW,tK,tL,tM,tN,tO,tP,gh,jI,kS,tT,tU,tV,tW,tX,dO,jJ,qY,tQ,tR,tS,fg,nE,u9,vb,su,iE,vd,ve,sD,t8,t9,ua,ub,ud,ue,uf,kT,mB,oj,jr,om,tZ,q5,tY,qZ,t7,iS,q0,if_true,vf,if_false,reduceIte,ug,decide_eq_true_eq,eT,jP,mE,uo,rq,um,qq,rA,oF,rm,ow,oy,rD,oI,rK,oS,rQ,rR,eU,rM,lh,rO,oJ,rW,rX,i9]
    refine⟨⟨by omega,by rw[i9];omega⟩,_,FL,x ^^^ 2 ^ (bl r-bl b),r ^^^ b <<< (bl r-bl b),o,_,⟨rfl,?_,?_,rfl⟩,ce2 inv,by omega,rfl⟩
    ·rw[show(1:Int)=((1:Nat):Int) from rfl,vy,nu,EX]
    ·rw[vy,nu]
   ·rename_i hc
    refine hU _ ?_
    walk_at"l3"
    refine⟨by decide,q b0 x r inv (by omega)⟩
noncomputable abbrev aM1:bx:=λds Q=>∃a:Nat,ds=[.int a]/\bl a<=60/\Q (.bl (al a))
theorem aM2(T:Txt K mg t):aP P w K mg base aZ 2 t.IC t.ID ["a"] (bA (aM1 )):=by
 refine bM T.Va Ib ?_ ?_
 ·intro ds Q h
  obtain⟨a,rfl,ha,q⟩:=h<;>rfl
 ·intro aI A outer s H E hr
  refine⟨_,(aA (cy (bR qL (bv 0) (aa aw) (bK _)) (aE (aS gj)) cC)
   (aA (bj (i:=1) Ib.nd rfl (aq rfl) (aG kL (aa (aG iq (aa (oi (bv 0))) (aa aw))) (aa aw)))
   (aA (gJ fk rfl (BO rfl T.fS (ag (aa aw) (ag (aa (aG vH (aa aw) (aa (aG dS (bv 1) (aa aw))))) ax))) (cE (i:=2) Ib.nd rfl (aq rfl))
    (aE (cy (bR (fv (cI hr)) (bB (aa (bh (GV ((VZ T).mono (by decide))) hr rfl T.U8 T.Ku.kp T.U9 GU (ag (bv 0) (ag (bv 2) ax)))) (aa aw) (λ_ _=>rfl)) (aa aw) (bK _)) (aE (aS gj)) cC)))
   (aE (aS gj))))),λds Q h=>?_⟩
  obtain⟨a,rfl,ha,q⟩:=h
  refine az λU hU=>?_
  walk_at"l3"
  split
  ·rename_i h2
   rw[b75 (by omega)]at q;exact q
  ·rename_i h2
   have h2:2<=a:=by omega
   have hp:=ib (show a≠0 by omega)
   refine hU _ ?_
   clear hU U
   refine az λU hU=>?_
   walk_at"l3"
   simp only[i9]
   refine⟨kg (by omega) (by omega),hU _ ?_⟩
   clear hU U
   have eh:((((bl a:Nat):Int)-1)/2+1)=(((bl a-1)/2+1:Nat):Int):=by omega
   have e1:(1:Int)*2 ^ ((((bl a:Nat):Int)-1)/2+1).toNat=((2 ^ ((bl a-1)/2+1):Nat):Int):=by
    rw[eh,show(1:Int)=((1:Nat):Int) from rfl,vy,EX]
   have big:2 ^ ((bl a-1)/2+1)<=2 ^ 40:=yk (by decide) (by omega)
   have o1:bl (1:Int).natAbs=1:=by decide
   refine az λU hU=>?_
   walk_at"l3"
   rw[e1]
   have eT0:((2 ^ ((bl a-1)/2+1):Nat):Int)<=2 ^ 40:=by exact_mod_cast big
   have nn:(0:Int)<=((2 ^ ((bl a-1)/2+1):Nat):Int):=Ph _
   refine⟨⟨by omega,by omega⟩,_,_,⟨rfl,rfl⟩,⟨by decide,by decide,by omega,by omega⟩,?_⟩
   have en:(((2 ^ ((bl a-1)/2+1):Nat):Int)-2).toNat=2 ^ ((bl a-1)/2+1)-2:=by omega
   rw[en]
   refine gu.mk (λi δ=>(∃o1 o2,δ=[some (.int a),o1,o2])/\∀j,j<i->md a (2+j)≠0) ⟨⟨_,_,rfl⟩,λj hj=>absurd hj (by omega)⟩ ?_ ?_
   ·rintro i d δ hd ⟨⟨o1,o2,rfl⟩,inv⟩
    obtain⟨hi,rfl⟩:i<2 ^ ((bl a-1)/2+1)-2/\d=.int (2+(i:Int)):=by
     rw[bZ]at hd
     by_cases hi:i<2 ^ ((bl a-1)/2+1)-2
     ·rw[gU hi]at hd
      exact⟨hi,(cW hd).symm⟩
     ·rw[fF (by simpa using hi)]at hd;cases hd
    have bi:bl (2+i)<=60:=by
     have:=(cb4 h2 (show 2+i<2 ^ ((bl a-1)/2+1) by omega)).2
     omega
    walk_at"l3"
    refine⟨a,2+i,by rw[show((2+i:Nat):Int)=2+(i:Int) by omega],by omega,by omega,by omega,λ_ x r e l=>?_⟩
    have em:md a (2+i)=r:=yY e l
    refine⟨.int r,rfl,rfl,?_⟩
    rw[iS]
    split
    ·rename_i hz
     have r0:r=0:=by have:=of_decide_eq_true hz;omega
     rw[b92 hi (em.trans r0)]at q
     exact q
    ·rename_i hz
     refine⟨⟨_,_,rfl,rfl⟩,λj hj=>?_⟩
     by_cases ej:j=i
     ·rw[ej,em]
      intro r0
      exact hz (decide_eq_true (by omega))
     ·exact inv j (by omega)
   ·rintro δ ⟨⟨o1,o2,rfl⟩,inv⟩
    rw[bG,cK]at inv
    rw[cs8 h2 inv]at q
    refine hU _ ?_
    walk_at"l3"
    exact q
noncomputable abbrev aG8:bx:=λds Q=>∃a:Int,ds=[.int a]/\Q (.bl (decide (4<=a)&&decide (a<=127)&&al a.toNat))
theorem aG9(T:Txt K mg t):aP P w K mg base aZ 3 t.IE t.IF ["bits"] (bA (aG8 )):=by
 refine bM T.Vb aE6 ?_ ?_
 ·intro ds Q h
  obtain⟨a,rfl,q⟩:=h<;>rfl
 ·intro aI A outer s H E hr
  refine⟨_,(aE (aS (vD (aa (BR vJ vJ (aa aw) (bv 0) (aa aw))) (vp (bh ((aM2 T).mono (by decide)) hr rfl T.dC1 T.Va.kp T.dC2 aW (ag (bv 0) ax)))))),λds Q h=>?_⟩
  obtain⟨a,rfl,q⟩:=h
  walk_at"l3"
  split
  ·rename_i h1
   split
   ·rename_i h2
    refine⟨a.toNat,by rw[A6 (by omega)],?_,?_⟩
    ·have:bl a.toNat<=bl 127:=FN (by omega)
     exact fi this (by decide)
    ·have e:(decide (4<=a)&&decide (a<=127)&&al a.toNat)=al a.toNat:=by simp[h1,h2]
     rw[e]at q;exact q
   ·rename_i h2
    have e:(decide (4<=a)&&decide (a<=127)&&al a.toNat)=false:=by simp[h2]
    rw[e]at q;exact q
  ·rename_i h1
   have e:(decide (4<=a)&&decide (a<=127)&&al a.toNat)=false:=by simp[h1]
   rw[e]at q;exact q
noncomputable abbrev aO4:bx:=λds Q=>∃a b:Nat,ds=[.int a,.int b]/\bl a<=1000/\bl b<=1000/\Q (.int (cl a b:Nat))
theorem aO5(T:Txt K mg t):aP P w K mg base aZ 1 t.IG t.IH ["a","b"] (bA (aO4 )):=by
 refine bM T.Vc CO ?_ ?_
 ·intro ds Q h
  obtain⟨a,b,rfl,ha,hb,q⟩:=h<;>rfl
 ·intro aI A outer s H E hr
  refine⟨_,(aA (bj (i:=2) CO.nd rfl (aq rfl) aw)
   (aA (gJ fk rfl (iO rfl T.fS (ag (aa (oi (bv 1))) ax)) (cE (i:=3) CO.nd rfl (aq rfl))
    (aE (cy (bR (fv (cI hr)) (aa (aG GA (aa (aG Gz (bv 1) (bv 3))) (aa aw))) (aa aw) (bK _)) (aE (BL (i:=2) CO.nd rfl (aq rfl) (aa (aG vH (bv 0) (bv 3))) GB)) cC)))
   (aE (aS (em 2))))),λds Q h=>?_⟩
  obtain⟨a,b,rfl,ha,hb,q⟩:=h
  refine az λU hU=>?_
  walk_at"l3"
  refine hU _ ?_
  clear hU U
  refine az λU hU=>?_
  walk_at"l3"
  simp only[i9]
  refine⟨⟨by omega,by omega⟩,BV (λi δ=>∃o,δ=[some (.int a),some (.int b),some (.int (Mf.P a b i:Nat)),o]) ⟨none,rfl⟩ ?_ ?_⟩
  ·rintro i δ hi ⟨o,rfl⟩
   walk_at"l3"
   refine⟨by omega,?_⟩
   have C8:(lK ((b:Int)/2 ^ ((i:Int)).toNat) 1=1)↔b.testBit i=true:=by
    have h:=cp9 b i
    rw[PC]at h
    rw[<-h,dI]
   split
   ·rename_i hc
    have h:=b80 (a:=a) (C8.mp hc)
    rw[PC]at h
    exact⟨⟨by omega,by rw[i9];omega⟩,_,h,rfl⟩
   ·rename_i hc
    exact⟨_,by rw[bP4 (λz=>hc (C8.mpr z))],rfl⟩
  ·rintro δ ⟨o,rfl⟩
   refine hU _ ?_
   walk_at"l3"
   exact q
noncomputable abbrev aR7:List D->List Str->List D->Prop:=λds ns xs=>∃p:Nat,ds=[.int p]/\p∈g9/\ns=iu "bits"++[("products":Str)]/\xs=[.int p,.int (ae (true,p)),.int ((bl (ae (true,p)):Nat)-1),.lst true (aJ (fl (true,p))),.lst true (aJ (eG (fl (true,p)))),.int (fst (true,p)),.lst true (rF (fl (true,p)) (eG (fl (true,p))))]
theorem aK7(T:Txt K mg t)(hB:Bm mg base):aP P w K mg base aZ 8 t.II t.CU ["self","bits"] (Hb [t.lC,t.lD] t.aU aR7):=by
 refine S0 T.aL3 T.aK5 UM (λvs H Q E h=>?_) λA outer s H vs Q E hr h=>?_
 ·obtain⟨x,dx,cQ,ds,ns,xs,rfl,_,_,r,⟨p,rfl,_⟩,_⟩:=h
  have:=r.length
  simp at this
  simp[this]
 obtain⟨x,dx,cQ,ds,ns,xs,rfl,tb,hx,r,⟨p,rfl,hp,rfl,rfl⟩,q⟩:=h
 obtain rfl:cQ=[.int p]:=by
  cases r with
  | int r=>cases r;rfl
 have hm:(true,p)∈aC:=fW _ (EN hp)
 have hF:=da hm
 refine⟨_,kE (Fb (E7 (E5 (sX ((aG9 T).mono (by decide)) hr rfl T.dC3 T.Vb.kp T.dC4 .nil aW (fH (pv 1) jE)))) (vq P8) E8)
  (kE (pU (pv 0) (pv 1) rfl)
  (kE (Qb (i:=2) UM.nd rfl (aq rfl) (yL Rk vo (yL Fp (FP (pv 1)) vo)))
  (kE (E9 (SR (E:=E0) (i:=1) T.VT ((VX T).mono (by decide)) hr T.U5 rfl T.xX rfl rfl rfl rfl (fH (pv 0) (fH (pv 2) (fH (SI rfl rfl T.aK6 hB) jE)))))
  (vq (pU (pv 0) (sX ((aL9 T).mono (by decide)) hr rfl T.dB9 T.U7.kp T.dC0 .nil aW (fH (Bt (pv 0) rfl) (fH (Bt (pv 0) rfl) jE))) rfl))))),?_⟩
 refine⟨_,rfl,H,[.int p],λd=>d=.bl true,af.refl _,.int .nil,⟨p,rfl,by rw[cp7 p hp]⟩,λd v F' H1 A1 hd uJ hf he h3 r nd fr=>?_⟩
 subst hd
 cases r
 refine⟨true,rfl,?_⟩
 refine mf ?_
 have fL:=uJ.get _ _ hx
 refine⟨.int p,rfl,.ref x,rfl,x,t.aU,dx,_,rfl,fL,T.hJ,T.Ag,by decide,?_⟩
 generalize e2:upd H1 x (HO.ins t.aU dx (fP "bits" (.int p) []))=H2
 have iU:H2 x=some (.ins t.aU dx [(("bits":Str),.int p)]):=by rw[<-e2,cB];rfl
 have s2:dU x H H2:=by rw[<-e2];exact(uJ.x (x:=x)).trans (dU.upd (C:=x) (dx:=dx) fL rfl)
 have n2:∀p,H2 p=none->H p=none:=λp h=>uJ.free (zO fL (by rw[e2];exact h))
 obtain⟨ps,hP⟩:=tb t.lD (by simp)
 obtain⟨more,KP⟩:=s2.tb _ ps hP
 have bp:bl p<=7:=Tc p hp
 have C9:1<=bl p:=Td p hp
 refine⟨.int p,rfl,rfl,p,rfl,rfl,_,_,rfl,rfl,_,_,rfl,rfl,?_,?_⟩
 ·have o1:bl (1:Int).natAbs=1:=by decide
  rw[i9]
  exact⟨by omega,by omega⟩
 have em:(1:Int)*2 ^ (((bl ((p:Int)).natAbs:Nat):Int)-1).toNat=((ae (true,p):Nat):Int):=by
  rw[i9,show(((bl p:Nat):Int)-1)=((bl p-1:Nat):Int) by omega,show(1:Int)=((1:Nat):Int) from rfl,vy,EX];rfl
 show Bj 2 (.int ((1:Int)*2 ^ (((bl ((p:Int)).natAbs:Nat):Int)-1).toNat)) _ _ _
 rw[em]
 refine⟨.ref x,rfl,.int (ae (true,p)),rfl,⟨_,KP⟩,λf k qn pm jt H3 nf KQ hk kf ly hl3=>?_⟩
 refine⟨f,_,_,.int p,KQ,rfl,rfl,λoc u jf hu nc rC=>?_⟩
 obtain⟨tm,rfl⟩:∃tm,u=pd p tm:=hu
 have mO:=ly.get _ _ iU
 refine⟨x,dx,f,t.aU,"bits",p,ae (true,p),_,oc,_,k,gm (true,p),fl (true,p),fst (true,p),rfl,zP mO (λz=>by rw[z,nf]at iU;cases iU) nc,by decide,⟨T.hJ,T.xP,T.Ai,T.uF,T.r9,T.Ah,T.xQ⟩,S7 rC nc hk kf,?_,hF,λH' p1 p2 sx ff KR yS ne AE uI=>?_⟩
 ·refine SX (n:=3) ⟨rfl,rfl,rfl,by decide,rfl,rfl,by decide,by decide,rfl⟩ jf (λu1 u2=>rfl) λq f A outer s H E hr=>?_
  refine⟨_,df (bB (aa (bh (GV ((VZ T).mono (by decide))) hr rfl T.U8 T.Ku.kp T.U9 GU (ag (aa (bh ((aO5 T).mono (by decide)) hr rfl T.dC5 T.Vc.kp T.dC6 aW (ag (bv 0) (ag (bv 1) ax)))) (ag (bv 2) ax)))) (aa aw) (λ_ _=>rfl)),λi j Qd h=>?_⟩
  obtain⟨a,b,rfl,rfl,ha,hb,hq⟩:=h
  walk_at"l3"
  have b1:bl a<=6:=by
   have:bl a<=bl 63:=FN (by omega)
   exact fi this (by decide)
  have b2:bl b<=6:=by
   have:bl b<=bl 63:=FN (by omega)
   exact fi this (by decide)
  have p0:p≠0:=by
   intro z
   rw[z]at C9
   exact absurd C9 (by decide)
  refine⟨a,b,rfl,by omega,by omega,cl a b,p,rfl,fi (b72 a b) (by omega),by omega,λz=>p0 z,λ_ x r e l=>⟨by simp[D.pl],.int r,rfl,rfl,r,rfl,?_⟩⟩
  have er:gm (true,p) a b=r:=yY e l
  rw[<-er];exact hq
 ·have gf:H' f=some (.ext (jH _ oc _ f)):=sx.get f _ (λz=>by rw[z]at nf;rw[nf]at iU;cases iU) (by rw[bb rC.symm,cB]) rfl
  have gc:=sx.get _ _ (fq mO nc).symm cB rfl
  refine⟨gf,gc,?_⟩
  have s4:=s2.trans (S6 ly nf nc sx)
  have f1:=n2 _ (Cj ly AE)
  have f2:=n2 _ (Cj ly uI)
  have l1:=KR.rem gf gc
  have l2:=yS.rem gf gc
  have si:rem H' f (s.heap.objs.size+1) x=some (.ins t.aU dx ((iu "bits").zip (Cg p (ae (true,p)) p1 p2 (fst (true,p))))):=by
   rw[ir (λz=>by rw[z,gf]at ff;cases ff) (λz=>by rw[z,gc]at ff;cases ff)];exact ff
  generalize rem H' f (s.heap.objs.size+1)=H4 at s4 l1 l2 si
  refine⟨.ref x,rfl,x,t.aU,dx,_,.ref p1,rfl,si,T.hJ,T.uF,rfl,.ref x,rfl,x,t.aU,dx,_,.ref p2,rfl,si,T.hJ,T.r9,rfl,H4,[.lst false (aJ (fl (true,p))),.lst false (aJ (eG (fl (true,p))))],λd=>d=.lst true (rF (fl (true,p)) (eG (fl (true,p)))),af.refl _,.shr l1 (kR _) (.shr l2 (kR _) .nil),
   ⟨_,_,rfl,by have:=hF.len;have:=hF.lo;omega,by have:=hF.len;have:=hF.hi;omega,zM _ _,Ta _ _,rfl⟩,λd v F' H5 A' hd sj hf he h3 r nd fr=>?_⟩
  subst hd
  obtain⟨p3,rfl⟩:∃p3,v=.ref p3:=by cases r;exact⟨_,rfl⟩
  have mP:=sj.get _ _ si
  have nA:∀{a ws},H4 a=some (.lst ws)->a ∉ A':=λ{a ws} e z=>by rw[fr a z]at e;cases e
  refine⟨.ref x,rfl,x,t.aU,dx,_,rfl,mP,T.hJ,T.se,pq (bP 6) (by decide),?_⟩
  refine q _ (Cg p (ae (true,p)) p1 p2 (fst (true,p))++[.ref p3]) (p1::p2::A') ((s4.trans (sj.x (x:=x))).trans (dU.upd (C:=x) (dx:=dx) mP rfl)) (by rw[cB];rfl) rfl ?_ ?_ ?_
  ·exact .int (.int (.int (.own ((l1.same sj).upd mP (λws z=>by cases z)) rfl (kR _) (.own ((l2.same sj).upd mP (λws z=>by cases z)) rfl (kR _) (.int ((r.Gg (by simp[fg,S9]) (af.of λb o e=>by cases e)).zN mP (by simp[fg,S9])))))))
  ·exact jy.mpr ⟨by simp[ne];exact nA l1,jy.mpr ⟨nA l2,nd⟩⟩
  ·intro a ha
   rcases cA.mp ha with rfl | ha
   ·exact f1
   ·rcases cA.mp ha with rfl | ha
    ·exact f2
    ·exact s4.free (by rw[si];simp) (fr a ha)
noncomputable abbrev aO6(cb cp:Addr):bx:=λds Q=>∃m:Bool × Nat,ds=[cF m]/\m∈aC/\Q (fD cb cp m)
theorem aO7(T:Txt K mg t)(hB:Bm mg base):aP P w K mg base aZ 10 t.IJ t.IK ["_law_told_here"] (zD [t.lC,t.lD] (bA (aO6 t.aU t.aV))):=by
 refine SY T.Vd aN8 ?_ ?_
 ·intro ds Q h
  obtain⟨m,rfl,hm,q⟩:=h<;>rfl
 ·intro aI A outer s H E hT hr
  refine⟨_,(aA (cy (gr (bB (bv 0) (aa aw) (λ_ _=>rfl))) (aE (aS (S2 hT T.Af ((aK7 T hB).mono (by decide)) hr rfl T.AA T.aL4 aW (ag (bB (bv 0) (aa aw) (λ_ _=>rfl)) ax)))) cC)
   (aE (aS (S2 hT T.Ao ((aG7 T hB).mono (by decide)) hr rfl T.AD T.aI3 aW (ag (bB (bv 0) (aa aw) (λ_ _=>rfl)) ax))))),λds Q h=>?_⟩
  obtain⟨m,rfl,hm,q⟩:=h
  unfold cF at *
  refine az λU hU=>?_
  walk_at"l3"
  obtain⟨b,n⟩:=m
  cases b with
  | true =>
   refine⟨_,rfl,true,rfl,?_⟩
   rw[if_pos rfl]
   refine⟨_,rfl,_,_,⟨n,rfl,zS hm,rfl,rfl⟩,?_⟩
   rw[cz2];exact q
  | false =>
   refine⟨_,rfl,false,rfl,?_⟩
   rw[if_neg (by decide)]
   refine hU _ ?_
   walk_at"l3"
   refine⟨_,rfl,_,_,⟨n,rfl,bI2 hm,rfl,rfl⟩,?_⟩
   rw[cb5];exact q
noncomputable abbrev aR8:bx:=λds Q=>∃(m:Bool × Nat) (a b:Nat),ds=[cF m,.int a,.int b]/\0<m.2/\Q (.int (gp m a b:Nat))
theorem aR9(T:Txt K mg t):aP P w K mg base aZ 1 t.IL t.IM ["_law_told_here","_law_a","_law_b"] (bA (aR8 )):=by
 refine bM T.Ve aP8 ?_ ?_
 ·intro ds Q h
  obtain⟨m,a,b,rfl,h0,q⟩:=h<;>rfl
 ·intro aI A outer s H E hr
  refine⟨_,(aA (cy (gr (bB (bv 0) (aa aw) (λ_ _=>rfl))) (aE (aS (aG vI (bv 1) (bv 2)))) cC)
   (aE (aS (aG dy (aa (aG dS (bv 1) (bv 2))) (bB (bv 0) (aa aw) (λ_ _=>rfl)))))),λds Q h=>?_⟩
  obtain⟨m,a,b,rfl,h0,q⟩:=h
  unfold cF at *
  obtain⟨k,n⟩:=m
  refine az λU hU=>?_
  walk_at"l3"
  cases k with
  | true =>
   refine⟨_,rfl,true,rfl,?_⟩
   rw[if_pos rfl,nu]
   exact q
  | false =>
   refine⟨_,rfl,false,rfl,?_⟩
   rw[if_neg (by decide)]
   refine hU _ ?_
   walk_at"l3"
   refine⟨_,rfl,?_⟩
   refine⟨by omega,?_⟩
   have e:((gp (false,n) a b:Nat):Int)=((a:Int)+b)%n:=by
    show(((a+b)%n:Nat):Int)=_
    rw[sI,PH]
   rw[<-e];exact q
noncomputable abbrev aO8:bx:=λds Q=>∃(m:Bool × Nat) (a b:Nat),ds=[cF m,.int a,.int b]/\m∈aC/\a<ae m/\b<ae m/\Q (.int (gm m a b:Nat))
theorem aO9(T:Txt K mg t):aP P w K mg base aZ 1 t.IQ t.IS ["_law_told_here","_law_a","_law_b"] (bA (aO8 )):=by
 refine bM T.Vf wK ?_ ?_
 ·intro ds Q h
  obtain⟨m,a,b,rfl,hm,ha,hb,q⟩:=h<;>rfl
 ·intro aI A outer s H E hr
  refine⟨_,(aA (cy (mr (gr (bB (bv 0) (aa aw) (λ_ _=>rfl)))) (aE (aS (aG dy (aa (aG iQ (bv 1) (bv 2))) (bB (bv 0) (aa aw) (λ_ _=>rfl))))) cC)
   (aA (bj (i:=3) wK.nd rfl (aq rfl) aw)
   (aA (zc fk (bR RY (bv 2) (aa aw) (bK _))
    (aA (cy (bR (fv (cI hr)) (aa (aG GA (bv 2) (aa aw))) (aa aw) (bK _)) (aE (bj (i:=3) wK.nd rfl (aq rfl) (aG vI (bv 3) (bv 1)))) cC)
    (aA (bj (i:=1) wK.nd rfl (aq rfl) (aG vH (bv 1) (aa aw)))
    (aA (cy (bR (fv (cI hr)) (aa (oi (bv 1))) (aa (oi (bB (bv 0) (aa aw) (λ_ _=>rfl)))) (bK _)) (aE (bj (i:=1) wK.nd rfl (aq rfl) (aG vI (bv 1) (bB (bv 0) (aa aw) (λ_ _=>rfl))))) cC)
    (aE (bj (i:=2) wK.nd rfl (aq rfl) (aG Gz (bv 2) (aa aw))))))))
   (aE (aS (em 3)))))),λds Q h=>?_⟩
  obtain⟨m,a,b,rfl,hm,ha,hb,q⟩:=h
  unfold cF at *
  obtain⟨k,n⟩:=m
  refine az λU hU=>?_
  walk_at"l3"
  have hF:=da hm
  cases k with
  | false =>
   refine⟨_,rfl,false,rfl,?_⟩
   have uK:n<=64:=hF.hi
   have l2:2<=n:=hF.lo
   have BX:a<n:=ha
   have zI:b<n:=hb
   rw[if_pos (by decide)]
   refine⟨j8.ok (.inr ⟨by omega,by omega⟩),_,rfl,by omega,?_⟩
   have e:((gm (false,n) a b:Nat):Int)=(a:Int)*b%n:=by
    show((a*b%n:Nat):Int)=_
    rw[sI,yx]
   rw[<-e];exact q
  | true =>
   refine⟨_,rfl,true,rfl,?_⟩
   rw[if_neg (by decide)]
   have hp:=zS hm
   have bp:=Tc n hp
   have C9:=Td n hp
   have p0:n≠0:=λz=>by rw[z,nq]at C9;omega
   have Gv:bl a<bl n:=by
    have:=eO.mpr (show a<2 ^ (bl n-1) from ha)
    omega
   have hy0:bl b<bl n:=by
    have:=eO.mpr (show b<2 ^ (bl n-1) from hb)
    omega
   refine hU _ ?_
   clear hU U
   refine az λU hU=>?_
   walk_at"l3"
   refine hU _ ?_
   clear hU U
   refine az λU hU=>?_
   walk_at"l3"
   refine⟨λm δ=>∃(x y z:Nat),δ=[some (.tup [.bl true,.int n]),some (.int (x:Nat)),some (.int (y:Nat)),some (.int (z:Nat))]/\z ^^^ md (cl x y) n=gm (true,n) a b/\bl x<bl n/\bl y<bl n/\m=bl y,
    ⟨bl b,a,b,0,rfl,by rw[pk];rfl,Gv,hy0,rfl⟩,?_⟩
   rintro m δ ⟨x,y,z,rfl,inv,hx,hy,rfl⟩
   walk_at"l3"
   split
   ·rename_i KS
    have VY:=ib (show y≠0 by omega)
    have Dc:bl (y/2)=bl y-1:=cx2 y
    have e1:((x:Int)*2 ^ (1:Int).toNat)=((2*x:Nat):Int):=by
     show(x:Int)*(2:Int) ^ 1=_
     omega
    have e2:((y:Int)/2 ^ (1:Int).toNat)=((y/2:Nat):Int):=by
     show(y:Int)/(2:Int) ^ 1=_
     omega
    have a1:lK (y:Int) 1=((y%2:Nat):Int):=by
     rw[show(1:Int)=((1:Nat):Int) from rfl,Q8,Nat.and_one_is_mod]
    have tm:=cq9 (y:=y) p0 hx
    have tb:=cw8 p0 hx
    clear hU
    refine az λU hU=>?_
    walk_at"l3"
    have fin:∀z':Nat,z'=z ^^^ (if y%2=1 then x else 0)->U [some (.tup [.bl true,.int n]),some (.int x),some (.int y),some (.int z')]:=by
     intro z' hz
     have dN1:z' ^^^ md (cl (if bl (2*x)=bl n then 2*x ^^^ n else 2*x) (y/2)) n=gm (true,n) a b:=by
      rw[hz,sG,<- tm];exact inv
     refine hU _ ?_
     clear hU
     refine az λU hU=>?_
     walk_at"l3"
     refine⟨⟨by decide,by simp only[i9];omega⟩,hU _ ?_⟩
     clear hU
     rw[e1]
     refine az λU hU=>?_
     walk_at"l3"
     have last:∀x':Nat,x'=(if bl (2*x)=bl n then 2*x ^^^ n else 2*x)->U [some (.tup [.bl true,.int n]),some (.int (x':Nat)),some (.int y),some (.int z')]:=by
      intro x' ff
      refine hU _ ?_
      walk_at"l3"
      exact⟨by decide,bl (y/2),by omega,x',y/2,z',⟨rfl,e2,rfl⟩,by rw[ff];exact dN1,by rw[ff];exact tb,by omega,rfl⟩
     refine⟨_,rfl,?_⟩
     show(if(((bl (((2*x:Nat):Int)).natAbs:Nat):Int)=((bl ((n:Int)).natAbs:Nat):Int))then _ else _)
     rw[i9,i9]
     split
     ·rename_i hc
      refine⟨_,rfl,?_⟩
      have g:=last (2*x ^^^ n) (by rw[if_pos (by omega)])
      rw[<-nu]at g
      exact g
     ·rename_i hc
      exact last (2*x) (by rw[if_neg (by omega)])
    rw[a1]
    split
    ·rename_i C8
     have odd:y%2=1:=by omega
     have g:=fin (z ^^^ x) (by rw[if_pos odd])
     rw[<-nu]at g
     exact g
    ·rename_i C8
     exact fin z (by rw[if_neg (by omega),lL])
   ·rename_i KS
    have hy:y=0:=by omega
    subst hy
    rw[cp5,zR (by rw[nq];exact ib p0),lL]at inv
    subst inv
    refine hU _ ?_
    walk_at"l3"
    exact q
noncomputable abbrev aT9:bx:=λds Q=>∃(m:Bool × Nat) (xs ys:List Nat),ds=[cF m,.lst false (ak xs),.lst false (ak ys)]/\m∈aC/\xs.length=ys.length/\xs.length<=64/\(∀x∈xs,x<ae m)/\(∀y∈ys,y<ae m)/\Q (.int (gd m xs ys:Nat))
theorem KU(T:Txt K mg t):aP P w K mg base aZ 2 t.IT t.IU ["_law_told_here","_law_xs","_law_ys"] (bA (aT9 )):=by
 refine bM T.CW CP ?_ ?_
 ·intro ds Q h
  obtain⟨m,xs,ys,rfl,hm,hl,De,hx,hy,q⟩:=h<;>rfl
 ·intro aI A outer s H E hr
  refine⟨_,(aA (bj (i:=3) CP.nd rfl (aq rfl) aw)
   (aA (gJ fk rfl (zA rfl T.xW (ag (bv 1) (ag (bv 2) ax))) (jO (i1:=4) (i2:=5) rfl CP.nd rfl (aq rfl) rfl (aq rfl))
    (aE (bj (i:=3) CP.nd rfl (aq rfl) (bh ((aR9 T).mono (by decide)) hr rfl T.aT3 T.Ve.kp T.aT4 aW (ag (bv 0) (ag (bv 3) (ag (aa (bh ((aO9 T).mono (by decide)) hr rfl T.aQ7 T.Vf.kp T.aQ8 aW (ag (bv 0) (ag (bv 4) (ag (bv 5) ax))))) ax)))))))
   (aE (aS (em 3))))),λds Q h=>?_⟩
  obtain⟨m,xs,ys,rfl,hm,hl,De,hx,hy,q⟩:=h
  refine az λU hU=>?_
  walk_at"l3"
  refine hU _ ?_
  clear hU U
  refine az λU hU=>?_
  walk_at"l3"
  refine⟨_,_,rfl,rfl,?_⟩
  refine gu.mk (λi δ=>∃o1 o2,δ=[some (cF m),some (.lst false (ak xs)),some (.lst false (ak ys)),some (.int (((eE (gm m) xs ys).take i).foldl (gp m) 0:Nat)),o1,o2]) ⟨none,none,rfl⟩ ?_ ?_
  ·rintro i d δ hd ⟨o1,o2,rfl⟩
   obtain⟨hi,hj,rfl⟩:∃(hi:i<xs.length) (hj:i<ys.length),d=.tup [.int (xs[i]:Nat),.int (ys[i]:Nat)]:=by
    unfold dP at hd
    rw[cu,cu,EK]at hd
    by_cases hi:i<xs.length
    ·have hj:i<ys.length:=by omega
     rw[sJ,aL hi,aL hj]at hd
     exact⟨hi,hj,(cW hd).symm⟩
    ·rw[fF (by simp;omega)]at hd;cases hd
   have fL:=hx xs[i] (dv _)
   have KS:=hy ys[i] (dv _)
   walk_at"l3"
   have hF:=da hm
   have t1:(cF m).sh=cF m:=rfl
   have t2:(cF m).pl=true:=rfl
   have m0:0<m.2:=cg m hm
   refine⟨m,xs[i],ys[i],rfl,hm,fL,KS,m,_,gm m xs[i] ys[i],rfl,m0,by simp[D.pl],_,_,?_,rfl,rfl⟩
   rw[List.take_succ,A7,sJ,aL hi,aL hj];rfl
  ·rintro δ ⟨o1,o2,rfl⟩
   refine hU _ ?_
   walk_at"l3"
   have e:(dP (ak xs) (ak ys)).length=xs.length:=by unfold dP;rw[kA,eT,eT];omega
   rw[e,ym (by rw[kA];omega)]
   exact q
noncomputable abbrev aN1:bx:=λds Q=>∃(m:Bool × Nat) (xs:List Nat) (T:List (List Nat)) (w:Nat),ds=[cF m,.lst false (ak xs),.lst false (aB false T),.int w]/\m∈aC/\AllLt (ae m) xs/\xs.length<=64/\T.length=xs.length/\w<=1000/\RT (ae m) w T/\Q (.lst true (ak (kj m xs T w)))
theorem V0(T:Txt K mg t):aP P w K mg base aZ 3 t.IV t.IW ["_law_told_here","_law_xs","_law_table_here","_law_wide"] (bA (aN1 )):=by
 refine bM T.at2 aM6 ?_ ?_
 ·intro ds Q h
  obtain⟨m,xs,G,wi,rfl,hm,hx,zo,hG,hw,hR,q⟩:=h<;>rfl
 ·intro aI A outer s H E hr
  refine⟨_,(aE (aS (dq [("_law_told_here",0),("_law_xs",1),("_law_table_here",2)] ["_law_k"] rfl (iO rfl T.fS (ag (bv 3) ax)) (λ_ _ _ _=>(cE (i:=3) (show(["_law_told_here","_law_xs","_law_table_here","_law_k"]:List Str).Nodup by decide +kernel) rfl (aY rfl) (by decide) (aq rfl))) (λ_ _ _ _=>dG) (by exact λ_ _ _ _=>(bh ((KU T).mono (by decide)) hr rfl T.Kv T.CW.kp T.Kw aW (ag (bv 0) (ag (bv 1) (ag (aa (dq [("_law_k",3)] ["_law_row"] rfl (gI (bv 2)) (λ_ _ _ _=>(cE (i:=1) (show(["_law_k","_law_row"]:List Str).Nodup by decide +kernel) rfl (aq (lookup_relabel_local rfl)) (by decide) (aY (lookup_relabel_local rfl)))) (λ_ _ _ _=>dG) (λ_ _ _ _=>(df (bB (bv 1) (bv 0) (λ_ _=>rfl)))) rfl ⟨rfl,trivial⟩ (λ_=>by repeat' (first | exact trivial | refine⟨.inl rfl,?_⟩ | refine⟨.inr (.inl rfl),?_⟩ | refine⟨.inr (.inr ⟨_,rfl⟩),?_⟩)) (λ_=>⟨⟨rfl,.inl rfl,.inl rfl,_,rfl,rfl⟩,trivial⟩) rfl (by decide +kernel))) ax))))) rfl ⟨rfl,⟨rfl,⟨rfl,trivial⟩⟩⟩ (λ_=>by repeat' (first | exact trivial | refine⟨.inl rfl,?_⟩ | refine⟨.inr (.inl rfl),?_⟩ | refine⟨.inr (.inr ⟨_,rfl⟩),?_⟩)) (λ_=>⟨⟨rfl,.inl rfl,.inl rfl,_,rfl,rfl⟩,⟨⟨rfl,.inl rfl,.inl rfl,_,rfl,rfl⟩,⟨⟨rfl,.inl rfl,.inl rfl,_,rfl,rfl⟩,trivial⟩⟩⟩) rfl (by decide +kernel)))),λds Q h=>?_⟩
  obtain⟨m,xs,G,wi,rfl,hm,hx,zo,hG,hw,hR,q⟩:=h
  walk_at"l3"
  refine⟨⟨by omega,by omega⟩,eB (aM wi) (λ(i:Nat)=>D.int (i:Int)) (λk=>D.int ((gd m xs (G.map λr=>r.getD k 0):Nat):Int)) (kX _ rfl) gy (λk hk=>?_) (.inr λ_ _=>rfl) (by rw[cK,sL];omega) ?_⟩
  ·have hk:=cV.mp hk
   walk_at"l3"
   refine eB G (λr=>D.lst false (ak r)) (λr=>D.int ((r.getD k 0:Nat):Int)) (by rw[eU];rfl) (λa b h=>mH a b h) (λr aX=>?_) (.inr λr _=>rfl) (by rw[sL];omega) ?_
   ·walk_at"l3"
    have hl:=(hR r aX).1
    exact⟨.int (r.getD k 0:Nat),by rw[fR (by omega) (by omega),dQ],rfl,rfl⟩
   ·refine⟨m,xs,G.map λr=>r.getD k 0,?_,hm,by rw[bG,hG],zo,hx,λy hy=>?_,?_⟩
    ·rw[cu (G.map _),cH,dO,cH];rfl
    ·obtain⟨r,aX,rfl⟩:=bO.mp hy
     exact(hR r aX).2.getD (by have:=(da hm).lo;omega) k
    ·exact⟨by rw[qY,iE],rfl⟩
  ·unfold kj at q
   rw[cu,cH]at q
   exact q
noncomputable def fU(ns:List Int)(k:Int):Int:=if k<ns.length then ns.getD k.toNat 0 else(k*k*48271+ns.length*7919)%65537
noncomputable abbrev aS0:bx:=λds Q=>∃(ns:List Int) (k:Int),ds=[.fz (aJ ns),.int k]/\0<=k/\k<=1000000/\Q (.int (fU ns k))
theorem mQ(T:Txt K mg t):aP P w K mg base aZ 1 t.IY t.IZ ["_law_script","_law_k"] (bA (aS0 )):=by
 refine bM T.lH aP9 ?_ ?_
 ·intro ds Q h
  obtain⟨ns,k,rfl,hk,oR,q⟩:=h<;>rfl
 ·intro aI A outer s H E hr
  refine⟨_,(aA (cy (bR qL (bv 1) (aa (eA (gw) (by rfl) T.gC gg (ag (bv 0) ax))) (bK _)) (aE (aS (df (bB (bv 0) (bv 1) (λ_ _=>rfl))))) cC)
   (aE (aS (aG dy (aa (aG dS (aa (aG iQ (aa (aG iQ (bv 1) (bv 1))) (aa aw))) (aa (aG iQ (aa (eA (gw) (by rfl) T.gC gg (ag (bv 0) ax))) (aa aw))))) (aa aw))))),λds Q h=>?_⟩
  obtain⟨ns,k,rfl,hk,oR,q⟩:=h
  unfold fU at q
  refine az λU hU=>?_
  walk_at"l3"
  split
  ·rename_i h
   rw[if_pos h]at q
   exact⟨_,mC hk h,rfl,q⟩
  ·rename_i h
   rw[if_neg h]at q
   refine hU _ ?_
   walk_at"l3"
   exact⟨j8.ok (.inl ⟨by omega,by omega⟩),j8.ok (.inr ⟨by decide,by decide⟩),j8.ok (.inr ⟨by decide,by decide⟩),by decide,q⟩
noncomputable abbrev aS1:bx:=λds Q=>∃m:Bool × Nat,ds=[cF m]/\bl m.2<=1000/\1<=bl m.2/\Q (.int (ae m:Nat))
theorem Df(T:Txt K mg t):aP P w K mg base aZ 1 t.I0 t.Ja ["_law_told_here"] (bA (aS1 )):=by
 refine bM T.Ae aQ0 ?_ ?_
 ·intro ds Q h
  obtain⟨m,rfl,h1,h2,q⟩:=h<;>rfl
 ·intro aI A outer s H E hr
  refine⟨_,(aA (cy (gr (bB (bv 0) (aa aw) (λ_ _=>rfl))) (aE (aS (aG vH (aa aw) (aa (aG iq (aa (oi (bB (bv 0) (aa aw) (λ_ _=>rfl)))) (aa aw)))))) cC)
   (aE (aS (df (bB (bv 0) (aa aw) (λ_ _=>rfl)))))),λds Q h=>?_⟩
  obtain⟨m,rfl,h1,h2,q⟩:=h
  unfold cF at *
  refine az λU hU=>?_
  walk_at"l3"
  obtain⟨b,n⟩:=m
  cases b with
  | true =>
   refine⟨_,rfl,true,rfl,?_⟩
   rw[if_pos rfl]
   refine⟨_,rfl,?_⟩
   have o1:bl (1:Int).natAbs=1:=by decide
   have e:(1:Int)*2 ^ (((bl ((n:Int)).natAbs:Nat):Int)-1).toNat=((ae (true,n):Nat):Int):=by
    have jG:1<=bl n:=h2
    rw[i9,show(((bl n:Nat):Int)-1)=((bl n-1:Nat):Int) by omega,show(1:Int)=((1:Nat):Int) from rfl,vy,EX];rfl
   refine⟨?_,by rw[e];exact q⟩
   rw[i9]
   have kb:bl n<=1000:=h1
   have jG:1<=bl n:=h2
   exact⟨by omega,by omega⟩
  | false =>
   refine⟨_,rfl,false,rfl,?_⟩
   rw[if_neg (by decide)]
   refine hU _ ?_
   walk_at"l3"
   exact⟨_,rfl,rfl,q⟩
theorem cH0{tc:fJ}{t u:cZ}{En:tF}{δ:Dl}(h:∀W:Bool->Dl->Prop,(∀ah,t En ah->W true ah)->(∀ah,u En ah->W false ah)->tc δ W):nR tc t u En δ:=h (λb ah=>if b=true then t En ah else u En ah) (λ_ z=>by rw[if_pos rfl];exact z) (λ_ z=>by rw[if_neg (by decide)];exact z)
noncomputable abbrev aP0:bx:=λds Q=>∃(m:Bool × Nat) (ns:List Int) (b r w y:Nat),ds=[cF m,.fz (aJ ns),.int b,.int r,.int w,.int y]/\m∈aC/\b<=1000/\r<=64/\1<=w/\w<=64/\∀T:List (List Nat),T.length=r->RT (ae m) w T->Q (.lst true (aB true T))
theorem aP1(T:Txt K mg t):aP P w K mg base aZ 4 t.Jb t.Jc ["_law_told_here","_law_script","_law_begin","_law_rows","_law_wide","_law_way"] (bA (aP0 )):=by
 refine bM T.Vi wR ?_ ?_
 ·intro ds Q h
  obtain⟨m,ns,b,r,wi,y,rfl,hm,hb,aX,V1,hw,q⟩:=h<;>rfl
 ·intro aI A outer s H E hr
  refine⟨_,(aA (bj (i:=6) wR.nd rfl (aq rfl) (eR dF))
   (aA (gJ fk rfl (iO rfl T.fS (ag (bv 3) ax)) (cE (i:=7) wR.nd rfl (aY rfl))
    (aA (CA (i:=8) wR.nd rfl (aq rfl) [("_law_script",1),("_law_told_here",0),("_law_begin",2),("_law_i",7),("_law_wide",4)] ["_law_k"] rfl (iO rfl T.fS (ag (bv 4) ax)) (λ_ _ _ _=>(cE (i:=5) (show(["_law_script","_law_told_here","_law_begin","_law_i","_law_wide","_law_k"]:List Str).Nodup by decide +kernel) rfl (aq (lookup_relabel_local rfl)) (by decide) (aY (lookup_relabel_local rfl)))) (λ_ _ _ _=>dG) (λ_ _ _ _=>(aG dy (aa (bh ((mQ T).mono (by decide)) hr rfl T.mL T.lH.kp T.mM aW (ag (bv 0) (ag (aa (aG dS (aa (aG dS (bv 2) (aa (aG iQ (bv 3) (bv 4))))) (bv 5))) ax)))) (aa (bh ((Df T).mono (by decide)) hr rfl T.CY T.Ae.kp T.CZ aW (ag (bv 1) ax))))) rfl ⟨rfl,⟨rfl,⟨rfl,⟨rfl,⟨rfl,trivial⟩⟩⟩⟩⟩ (λ_=>by repeat' (first | exact trivial | refine⟨.inl rfl,?_⟩ | refine⟨.inr (.inl rfl),?_⟩ | refine⟨.inr (.inr ⟨_,rfl⟩),?_⟩)) (λ_=>⟨⟨rfl,.inl rfl,.inl rfl,_,rfl,rfl⟩,⟨⟨rfl,.inl rfl,.inl rfl,_,rfl,rfl⟩,⟨⟨rfl,.inl rfl,.inl rfl,_,rfl,rfl⟩,⟨⟨rfl,.inl rfl,.inl rfl,_,rfl,rfl⟩,⟨⟨rfl,.inl rfl,.inl rfl,_,rfl,rfl⟩,trivial⟩⟩⟩⟩⟩) rfl (by decide +kernel))
    (aA (cy (bR (fv (cI hr)) (aa (aG dy (bv 5) (aa aw))) (aa aw) (bK _)) (aE (CA (i:=8) wR.nd rfl (aq rfl) [] ["_law_x"] rfl (gI (bv 8)) (λ_ _ _ _=>(cE (i:=0) (show(["_law_x"]:List Str).Nodup by decide +kernel) rfl (aq (lookup_relabel_local rfl)) (by decide) (aY (lookup_relabel_local rfl)))) (λ_ _ _ _=>dG) (λ_ _ _ _=>(aG dy (bv 0) (aa aw))) rfl trivial (λ_=>by repeat' (first | exact trivial | refine⟨.inl rfl,?_⟩ | refine⟨.inr (.inl rfl),?_⟩ | refine⟨.inr (.inr ⟨_,rfl⟩),?_⟩)) (λ_=>trivial) rfl (by decide +kernel))) cC)
    (aA (cy (PW.pt (BH (bR (fv (cI hr)) (aa (aG dy (aa (aG kL (bv 5) (aa aw))) (aa aw))) (aa aw) (bK _)) (BH (bR RY (bv 7) (aa aw) (bK _)) (E6 (bR (fv (cI hr)) (aa (aG dy (aa (aG kL (aa (bh ((mQ T).mono (by decide)) hr rfl T.mL T.lH.kp T.mM aW (ag (bv 1) (ag (aa (aG dS (bv 2) (aa (aG iQ (bv 7) (bv 4))))) ax)))) (aa aw))) (aa aw))) (aa aw) (bK _)))))) (aE (bj (i:=8) wR.nd rfl (aq rfl) (bh ((V0 T).mono (by decide)) hr rfl T.Vg T.at2.kp T.Vh aW (ag (bv 0) (ag (Uh (ag (bB (bv 8) (aa aw) (λ_ _=>rfl)) (ag (bB (bv 8) (aa (aG iq (bv 4) (aa aw))) (λ_ _=>rfl)) ax))) (ag (Uh (ag (bB (bv 6) (aa aw) (λ_ _=>rfl)) (ag (bB (bv 6) (aa (aG iq (bv 7) (aa aw))) (λ_ _=>rfl)) ax))) (ag (bv 4) ax))))))) cC)
    (aE (qW (i:=6) rfl (by first | exact aq rfl | exact aY (aq rfl)) (em 8)))))))
   (aE (aS (em 6))))),λds Q h=>?_⟩
  obtain⟨m,ns,b,r,wi,y,rfl,hm,hb,aX,V1,hw,q⟩:=h
  have dN:=(da hm).lo
  have Dg:=zT m hm
  have dN9:∀z:Int,z%(ae m:Int)=(((z%(ae m:Int)).toNat:Nat):Int):=λz=>by
   have n0:=jZ z (show(ae m:Int)≠0 by omega)
   omega
  have dO0:∀z:Int,(z%(ae m:Int)).toNat<ae m:=λz=>by
   have n1:=j5 z (show(0:Int)<(ae m:Int) by omega)
   omega
  refine az λU hU=>?_
  walk_at"l3"
  refine⟨by decide,hU _ ?_⟩
  clear hU U
  refine az λU hU=>?_
  walk_at"l3"
  refine⟨⟨by omega,by omega⟩,BV (λi δ=>∃(G:List (List Nat)) (o1 o2:Option D),δ=[some (cF m),some (.fz (aJ ns)),some (.int b),some (.int r),some (.int wi),some (.int y),some (.lst true (aB true G)),o1,o2]/\G.length=i/\RT (ae m) wi G) ⟨[],_,_,rfl,rfl,λ_ h=>nomatch h⟩ ?_ ?_⟩
  ·rintro i δ hi ⟨G,o1,o2,rfl,hG,hR⟩
   simp only[gN,jA,jz]
   clear hU
   have iw:i*wi<=64*64:=Nat.mul_le_mul (by omega) hw
   have eiw:(i:Int)*(wi:Int)=((i*wi:Nat):Int):=by rw[yx]
   refine az λU hU=>?_
   walk_at"l3"
   refine⟨⟨by omega,by omega⟩,eB (aM wi) (λ(i:Nat)=>D.int (i:Int)) (λk=>D.int (((fU ns ((b:Int)+(i:Int)*(wi:Int)+(k:Int))%(ae m:Int)).toNat:Nat):Int)) (kX _ rfl) gy (λk hk=>?_) (.inr λ_ _=>rfl) (by rw[cK,sL];omega) ?_⟩
   ·have hk:=cV.mp hk
    walk_at"l3"
    refine⟨j8.ok (.inl ⟨by omega,by omega⟩),ns,_,rfl,by omega,by omega,m,rfl,by omega,by omega,?_⟩
    dsimp only
    exact⟨by omega,dN9 _⟩
   obtain⟨row,er,oZ,sk⟩:∃wd:List Nat,((aM wi).map λ(k:Nat)=>D.int (((fU ns ((b:Int)+(i:Int)*(wi:Int)+(k:Int))%(ae m:Int)).toNat:Nat):Int))=ak wd/\AllLt (ae m) wd/\wd.length=wi:=by
    refine⟨(aM wi).map λ(k:Nat)=>(fU ns ((b:Int)+(i:Int)*(wi:Int)+(k:Int))%(ae m:Int)).toNat,by rw[cu,cH];rfl,λa ha=>?_,by simp⟩
    obtain⟨k,_,rfl⟩:=bO.mp ha
    exact dO0 _
   rw[er]
   refine hU _ ?_
   clear hU
   refine az λU hU=>?_
   walk_at"l3"
   have fin:∀row:List Nat,AllLt (ae m) row->row.length=wi->U [some (cF m),some (D.fz (aJ ns)),some (D.int b),some (D.int r),some (D.int wi),some (D.int y),some (D.lst true (aB true G)),some (D.int i),some (D.lst true (ak row))]:=by
    clear er oZ sk row
    intro row oZ sk
    refine hU _ ?_
    clear hU
    refine az λU hU=>?_
    have fin2:∀row:List Nat,AllLt (ae m) row->row.length=wi->U [some (cF m),some (D.fz (aJ ns)),some (D.int b),some (D.int r),some (D.int wi),some (D.int y),some (D.lst true (aB true G)),some (D.int i),some (D.lst true (ak row))]:=by
     clear oZ sk row
     intro row oZ sk
     refine hU _ ?_
     walk_at"l3"
     refine⟨⟨_,rfl⟩,by omega,G++[row],_,_,⟨vZ true G [row],rfl,rfl⟩,by rw[fN,hG];rfl,hR.app λx hx=>?_⟩
     rw[e5]at hx
     rw[hx];exact⟨sk,oZ⟩
    refine cH0 λW wt wf=>?_
    have KW:∀z:Bool,z=false->W z [some (cF m),some (D.fz (aJ ns)),some (D.int (b:Nat)),some (D.int r),some (D.int wi),some (D.int y),some (D.lst true (aB true G)),some (D.int i),some (D.lst true (ak row))]:=λz hz=>by
     subst hz
     refine wf _ ?_
     walk_at"l3"
     exact fin2 row oZ sk
    dsimp only[ qm,nQ,qo,nR,dT,kK,mj,mm,dC,nH,nN,nL,nK,nM,ql,mx,qQ,oh,qS,qT,qf,qg,qh,qi,qj,qk,nI,n8,n9,nX,qA,nZ,qB,qC,qD,qE,qF,qG,iI,gK,qH,qI,qJ,qK,n5,n6,kM,qM,qN,gN,qU,qP,qp,qt,qu,qv,qw,qy,qV,qX,nV,ke,fK,iP,ik,pz,ph,sM,u6,nO,jK,iN,og,q8,rf,rh,uh,ki,rn,oq,rk,iT,uk,ui,uj,dB,jY,pL,pj,ia,u7,br,mY,mZ,jz,jA,sN,exists_eq_left',exists_eq_left,D.bl.injEq,D.int.injEq,D.lst.injEq,D.fz.injEq,D.str.injEq,D.tup.injEq,pM,and_true,true_and,dM,pK,kz,mW,tK,tL,tM,tN,tO,tP,gh,jI,kS,tT,tU,tV,tW,tX,dO,jJ,qY,tQ,tR,tS,fg,nE,u9,vb,su,iE,vd,ve,sD,t8,t9,ua,ub,ud,ue,uf,kT,mB,oj,jr,om,tZ,q5,tY,qZ,t7,iS,q0,if_true,vf,if_false,reduceIte,ug,decide_eq_true_eq,eT,jP,mE,uo,rq,um,qq,rA,oF,rm,ow,oy,rD,oI,rK,oS,rQ,rR,eU,rM,lh,rO,oJ,rW,rX]
    walk_at"l3"
    refine⟨kg (by decide) (by decide),by decide,?_⟩
    split
    ·split
     ·rename_i h0
      refine⟨j8.ok (.inl ⟨by omega,by omega⟩),ns,_,rfl,by omega,by omega,?_⟩
      dsimp only
      refine⟨kg (by decide) (by decide),by decide,?_⟩
      cases hc:decide (fU ns ((b:Int)+(i:Int)*(wi:Int))/64%2=1)with
      | false=>exact KW _ rfl
      | true =>
       refine wt _ ?_
       dsimp only[ qm,nQ,qo,nR,dT,kK,mj,mm,dC,nH,nN,nL,nK,nM,ql,mx,qQ,oh,qS,qT,qf,qg,qh,qi,qj,qk,nI,n8,n9,nX,qA,nZ,qB,qC,qD,qE,qF,qG,iI,gK,qH,qI,qJ,qK,n5,n6,kM,qM,qN,gN,qU,qP,qp,qt,qu,qv,qw,qy,qV,qX,nV,ke,fK,iP,ik,pz,ph,sM,u6,nO,jK,iN,og,q8,rf,rh,uh,ki,rn,oq,rk,iT,uk,ui,uj,dB,jY,pL,pj,ia,u7,br,mY,mZ,jz,jA,sN,exists_eq_left',exists_eq_left,D.bl.injEq,D.int.injEq,D.lst.injEq,D.fz.injEq,D.str.injEq,D.tup.injEq,pM,and_true,true_and,dM,pK,kz,mW,tK,tL,tM,tN,tO,tP,gh,jI,kS,tT,tU,tV,tW,tX,dO,jJ,qY,tQ,tR,tS,fg,nE,u9,vb,su,iE,vd,ve,sD,t8,t9,ua,ub,ud,ue,uf,kT,mB,oj,jr,om,tZ,q5,tY,qZ,t7,iS,q0,if_true,vf,if_false,reduceIte,ug,decide_eq_true_eq,eT,jP,mE,uo,rq,um,qq,rA,oF,rm,ow,oy,rD,oI,rK,oS,rQ,rR,eU,rM,lh,rO,oJ,rW,rX]
       walk_at"l3"
       have g0:0<G.length:=by omega
       have g1:i-1<G.length:=by omega
       have l0:0<ae m:=by omega
       refine⟨.int (row.getD 0 0:Nat),by rw[fR (by omega) (by show 0<row.length;omega)];rfl,.int (row.getD (wi-1) 0:Nat),by rw[fR (by omega) (by omega),show((wi:Int)-1).toNat=wi-1 by omega],by decide,.lst true (ak G[0]),rP true g0,.lst true (ak G[i-1]),by rw[show((i:Int)-1)=((i-1:Nat):Int) by omega];exact rP true g1,by decide,?_⟩
       refine⟨m,[row.getD 0 0,row.getD (wi-1) 0],[G[0],G[i-1]],wi,by rw[jv,jv];rfl,hm,λx hx=>?_,by show 2<=64;omega,rfl,by omega,λx hx=>?_,iW _,fin2 _ (cA4 hm _ rfl) (HF _ _ _ _)⟩
       ·simp only[cA,i8,or_false]at hx
        rcases hx with rfl | rfl
        ·exact oZ.getD l0 _
        ·exact oZ.getD l0 _
       ·simp only[cA,i8,or_false]at hx
        rcases hx with rfl | rfl
        ·exact hR _ (dv g0)
        ·exact hR _ (dv g1)
     ·exact KW _ rfl
    ·exact KW _ rfl
   refine⟨by decide,?_⟩
   split
   ·refine eB row (λ(i:Nat)=>D.int (i:Int)) (λ(i:Nat)=>D.int ((i%2:Nat):Int)) (rp row) gy (λx hx=>?_) (.inr λ_ _=>rfl) (by rw[sL];omega) ?_
    ·walk_at"l3"
     exact⟨by decide,by omega⟩
    ·have:=fin (row.map (· % 2)) (λa ha=>by
      obtain⟨x,_,rfl⟩:=bO.mp ha
      omega) (by rw[bG];exact sk)
     rw[cu,cH]at this
     exact this
   ·exact fin row oZ sk
  ·rintro δ ⟨G,o1,o2,rfl,hG,hR⟩
   refine hU _ ?_
   walk_at"l3"
   exact q G hG hR
noncomputable abbrev aS2:bx:=λds Q=>∃T:List (List Nat),ds=[.lst false (aB false T)]/\T.length<=1000/\Q (.lst true (aB true T))
theorem V2(T:Txt K mg t):aP P w K mg base aZ 1 t.Jd t.Je ["_law_table_here"] (bA (aS2 )):=by
 refine bM T.Kx aQ1 ?_ ?_
 ·intro ds Q h
  obtain⟨G,rfl,hG,q⟩:=h<;>rfl
 ·intro aI A outer s H E hr
  refine⟨_,(aE (aS (dq [] ["_law_row"] rfl (gI (bv 0)) (λ_ _ _ _=>(cE (i:=0) (show(["_law_row"]:List Str).Nodup by decide +kernel) rfl (aq (lookup_relabel_local rfl)) (by decide) (aY (lookup_relabel_local rfl)))) (λ_ _ _ _=>dG) (λ_ _ _ _=>(BS (GI) (by rfl) T.uH s9 (ag (bv 0) ax))) rfl trivial (λ_=>by repeat' (first | exact trivial | refine⟨.inl rfl,?_⟩ | refine⟨.inr (.inl rfl),?_⟩ | refine⟨.inr (.inr ⟨_,rfl⟩),?_⟩)) (λ_=>trivial) rfl (by decide +kernel)))),λds Q h=>?_⟩
  obtain⟨G,rfl,hG,q⟩:=h
  walk_at"l3"
  refine eB G (λr=>D.lst false (ak r)) (λr=>D.lst true (ak r)) (by rw[eU];rfl) (λa b h=>mH a b h) (λr aX=>?_) (.inr λr _=>iW r) (by rw[sL];omega) q
  walk_at"l3"
noncomputable abbrev aU0:bx:=λds Q=>∃T:List (List Nat),ds=[.lst false (aB false T)]/\T.length<=1000/\(∀r∈T,r.length<=1000)/\Q (.int (ai T:Nat))
theorem xY(T:Txt K mg t):aP P w K mg base aZ 1 t.Jf t.Jg ["table"] (bA (aU0 )):=by
 refine bM T.uE aS9 ?_ ?_
 ·intro ds Q h
  obtain⟨G,rfl,hG,hr,q⟩:=h<;>rfl
 ·intro aI A outer s H E hr
  refine⟨_,(aE (aS (RJ (bR (g7 (cI hr)) (bv 0) (aa (eR dF)) (bK _)) (eA (gw) (by rfl) T.gC gg (ag (bB (bv 0) (aa aw) (λ_ _=>rfl)) ax)) aw))),λds Q h=>?_⟩
  obtain⟨G,rfl,hG,hr,q⟩:=h
  walk_at"l3"
  refine⟨by decide,⟨Cv 4 _ _ _,rfl⟩,?_⟩
  rw[show(D.lst true ([]:List D))=D.lst true (aB true []) from rfl,TJ]
  cases G with
  | nil=>rw[if_neg (by simp)];exact q
  | cons r G =>
   rw[if_pos (by simp)]
   refine⟨.lst false (ak r),rP false (T:=r::G) (i:=0) (Nat.succ_pos _),?_⟩
   show Q (D.int ((ak r).length:Nat))
   rw[eT];exact q
noncomputable abbrev aW1:bx:=λds Q=>∃T:List (List Nat),ds=[.lst false (aB false T)]/\T.length<=1000/\(∀r∈T,r.length=ai T)/\ai T<=1000/\Q (.lst true (aB true (fw T)))
theorem aW2(T:Txt K mg t):aP P w K mg base aZ 2 t.Jh t.Ji ["table"] (bA (aW1 )):=by
 refine bM T.Vl aV8 ?_ ?_
 ·intro ds Q h
  obtain⟨G,rfl,hG,hr,hw,q⟩:=h<;>rfl
 ·intro aI A outer s H E hr
  refine⟨_,(aE (aS (dq [("table",0)] ["j"] rfl (iO rfl T.fS (ag (aa (bh ((xY T).mono (by decide)) hr rfl T.xN T.uE.kp T.xO aW (ag (bv 0) ax))) ax)) (λ_ _ _ _=>(cE (i:=1) (show(["table","j"]:List Str).Nodup by decide +kernel) rfl (aY rfl) (by decide) (aq rfl))) (λ_ _ _ _=>dG) (by exact λ_ _ _ _=>(dq [("j",1)] ["row"] rfl (gI (bv 0)) (λ_ _ _ _=>(cE (i:=1) (show(["j","row"]:List Str).Nodup by decide +kernel) rfl (aq (lookup_relabel_local rfl)) (by decide) (aY (lookup_relabel_local rfl)))) (λ_ _ _ _=>dG) (λ_ _ _ _=>(df (bB (bv 1) (bv 0) (λ_ _=>rfl)))) rfl ⟨rfl,trivial⟩ (λ_=>by repeat' (first | exact trivial | refine⟨.inl rfl,?_⟩ | refine⟨.inr (.inl rfl),?_⟩ | refine⟨.inr (.inr ⟨_,rfl⟩),?_⟩)) (λ_=>⟨⟨rfl,.inl rfl,.inl rfl,_,rfl,rfl⟩,trivial⟩) rfl (by decide +kernel))) rfl ⟨rfl,trivial⟩ (λ_=>by repeat' (first | exact trivial | refine⟨.inl rfl,?_⟩ | refine⟨.inr (.inl rfl),?_⟩ | refine⟨.inr (.inr ⟨_,rfl⟩),?_⟩)) (λ_=>⟨⟨rfl,.inl rfl,.inl rfl,_,rfl,rfl⟩,trivial⟩) rfl (by decide +kernel)))),λds Q h=>?_⟩
  obtain⟨G,rfl,hG,hr,hw,q⟩:=h
  walk_at"l3"
  refine⟨G,rfl,hG,λr aX=>by rw[hr r aX];exact hw,?_⟩
  dsimp only
  refine⟨_,rfl,⟨by omega,by omega⟩,?_⟩
  refine eB (aM (ai G)) (λ(i:Nat)=>D.int (i:Int)) (λj=>D.lst true (ak (G.map λr=>r.getD j 0))) (kX _ rfl) gy (λj hj=>?_) (.inr λj _=>iW _) (by rw[cK,sL];omega) ?_
  ·have hj:=cV.mp hj
   walk_at"l3"
   refine eB G (λr=>D.lst false (ak r)) (λr=>D.int ((r.getD j 0:Nat):Int)) (by rw[eU];rfl) (λa b h=>mH a b h) (λr aX=>?_) (.inr λr _=>rfl) (by rw[sL];omega) ?_
   ·walk_at"l3"
    have hl:=hr r aX
    exact⟨.int (r.getD j 0:Nat),by rw[fR (by omega) (by omega),dQ],rfl,rfl⟩
   ·rw[cu,cH];rfl
  ·unfold fw aB at q
   rw[cH]at q
   exact q
noncomputable abbrev aS3:bx:=λds Q=>∃c:List Nat,ds=[.lst false (ak c)]/\c.length<=1000/\Q (.bl (nul c))
theorem aS4(T:Txt K mg t):aP P w K mg base aZ 1 t.Jj t.Jk ["column"] (bA (aS3 )):=by
 refine bM T.Vm aQ2 ?_ ?_
 ·intro ds Q h
  obtain⟨c,rfl,hc,q⟩:=h<;>rfl
 ·intro aI A outer s H E hr
  refine⟨_,(aE (aS (eA (vL rfl) (by rfl) T.xU vA (ag (aa (dq [] ["x"] rfl (gI (bv 0)) (λ_ _ _ _=>(cE (i:=0) (show(["x"]:List Str).Nodup by decide +kernel) rfl (aq (lookup_relabel_local rfl)) (by decide) (aY (lookup_relabel_local rfl)))) (λ_ _ _ _=>dG) (λ_ _ _ _=>(qe (fv (cI hr)) (bv 0) (aa aw) (bK _))) rfl trivial (λ_=>by repeat' (first | exact trivial | refine⟨.inl rfl,?_⟩ | refine⟨.inr (.inl rfl),?_⟩ | refine⟨.inr (.inr ⟨_,rfl⟩),?_⟩)) (λ_=>trivial) rfl (by decide +kernel))) ax)))),λds Q h=>?_⟩
  obtain⟨c,rfl,hc,q⟩:=h
  walk_at"l3"
  refine eB c (λ(i:Nat)=>D.int (i:Int)) (λ(x:Nat)=>D.bl (x==0)) (rp _) gy (λx hx=>?_) (.inr λ_ _=>rfl) (by rw[sL];omega) ?_
  ·walk_at"l3"
   congr 1
   exact propext (by omega)
  dsimp only
  refine⟨c.map (·==0),by unfold qO;rw[cH];rfl,?_⟩
  rw[mX]
  exact q
noncomputable abbrev V3(t:ka)(P:Program)(w:World)(K:Frag)(mg:Str->Option Value)(base:Heap):q9:=λds Q Ex=>∃(m:Bool × Nat) (a b:Nat),ds=[fD t.aU t.aV m,.int a,.int b]/\m∈aC/\a<ae m/\b<ae m/\(b=0->Ex t.iB)/\(b≠0->∀r:Nat,r<ae m->gm m r b=a->Q (.int (r:Nat)))
theorem V4(T:Txt K mg t):aP P w K mg base (nD P w) 2 t.CV t.Jl ["self","a","b"] (zx (V3 t P w K mg base)):=by
 refine Si T.aR1 aN9 ?_ ?_
 ·intro ds Q Ex h
  obtain⟨m,a,b,rfl,hm,ha,hb,qx,q⟩:=h<;>rfl
 ·intro aI A outer s H E hr
  refine⟨_,(aA (cy (bR (fv (cI hr)) (bv 2) (aa aw) (bK _)) (aE (Sm T.VV rfl (by rfl) (ag (aa RH) ax))) cC)
   (aA (cy (bR (fv (cI hr)) (bv 1) (aa aw) (bK _)) (aE (aS aw)) cC)
   (aE (aS (uv (P:=P) (w:=w) (K:=K) (mg:=mg) (base:=base) (n:=1) (bv 0) (hr.mono (by decide)) (ag (aa (aG iq (bB (kW (K:=K) (bv 0)) (bv 1) (λ_ _=>rfl)) (bB (kW (K:=K) (bv 0)) (bv 2) (λ_ _=>rfl)))) ax)))))),λds Q Ex h=>?_⟩
  obtain⟨m,a,b,rfl,hm,ha,hb,qx,q⟩:=h
  refine az λU hU=>?_
  walk_at"l3"
  split
  ·rename_i h0
   exact⟨by decide,qx (by omega)⟩
  ·rename_i h0
   have b0:b≠0:=by omega
   refine hU _ ?_
   clear hU U
   refine az λU hU=>?_
   walk_at"l3"
   split
   ·rename_i h1
    have a0:a=0:=by omega
    subst a0
    exact q b0 0 ha (fh m b (cg m hm))
   ·rename_i h1
    have a0:a≠0:=by omega
    refine hU _ ?_
    clear hU U
    have hF:=da hm
    obtain⟨r,e,z5,hr2⟩:=Tr hm (show 1<=a by omega) ha (show 1<=b by omega) hb
    have qr:=q b0 r z5 hr2
    obtain⟨k,n⟩:=m
    cases k with
    | true =>
     walk_at"l3"
     have ll:(eG (fl (true,n))).length=ae (true,n):=(zM _ _).trans hF.len
     have n0:=jZ (lg (true,n) a-lg (true,n) b) (show(ae (true,n):Int)-1≠0 by have:=hF.lo;omega)
     have n1:=j5 (lg (true,n) a-lg (true,n) b) (show(0:Int)<(ae (true,n):Int)-1 by have:=hF.lo;omega)
     refine⟨_,_,_,KL K,rfl,⟨T.hJ,_,_,_,T.xQ,KN T,T.Kt⟩,by decide,_,_,_,_,rfl,T.hJ,T.r9,rfl,_,mC (by omega) (by rw[ll];omega),_,_,_,_,rfl,T.hJ,T.r9,rfl,_,mC (by omega) (by rw[ll];omega),?_⟩
     refine⟨_,_,_,_,ae (true,n),fl (true,n),r,rfl,T.hJ,T.uF,T.xP,rfl,rfl,hF.lo,?_,qr⟩
     have hk:((lg (true,n) a-lg (true,n) b)%((ae (true,n):Int)-1)).toNat<(fl (true,n)).length:=by have:=hF.len;omega
     show(fl (true,n))[((lg (true,n) a-lg (true,n) b)%((ae (true,n):Int)-1)).toNat]?=some (r:Int)
     rw[<-e]
     unfold pw
     rw[aK,aL hk];rfl
    | false =>
     walk_at"l3"
     have ll:(eG (fl (false,n))).length=ae (false,n):=(zM _ _).trans hF.len
     have n0:=jZ (lg (false,n) a-lg (false,n) b) (show(ae (false,n):Int)-1≠0 by have:=hF.lo;omega)
     have n1:=j5 (lg (false,n) a-lg (false,n) b) (show(0:Int)<(ae (false,n):Int)-1 by have:=hF.lo;omega)
     refine⟨_,_,_,KL K,rfl,⟨T.i5,_,_,_,T.xT,KN T,T.Kt⟩,by decide,_,_,_,_,rfl,T.i5,T.uG,rfl,_,mC (by omega) (by rw[ll];omega),_,_,_,_,rfl,T.i5,T.uG,rfl,_,mC (by omega) (by rw[ll];omega),?_⟩
     refine⟨_,_,_,_,ae (false,n),fl (false,n),r,rfl,T.i5,T.xS,T.xR,rfl,rfl,hF.lo,?_,qr⟩
     have hk:((lg (false,n) a-lg (false,n) b)%((ae (false,n):Int)-1)).toNat<(fl (false,n)).length:=by have:=hF.len;omega
     show(fl (false,n))[((lg (false,n) a-lg (false,n) b)%((ae (false,n):Int)-1)).toNat]?=some (r:Int)
     rw[<-e]
     unfold pw
     rw[aK,aL hk];rfl
theorem KY(T:Txt K mg t)(m:Bool × Nat):Co P w K mg base 2 "over" (if m.1 then t.aU else t.aV) (V3 t P w K mg base):=by
 obtain⟨k,n⟩:=m
 cases k with
 | true=>exact⟨T.hJ,_,_,_,T.Al,V4 T,T.Vn⟩
 | false=>exact⟨T.i5,_,_,_,T.Au,V4 T,T.Vn⟩
noncomputable abbrev V5(K:Frag):bx:=λds Q=>∃(C:Addr) (p a:Nat) (xs ys:List Nat),ds=[zQ C p,.lst false (ak xs),.int a,.lst false (ak ys)]/\eN K C/\cP K C "products"/\p∈g9/\a<ae (true,p)/\(∀y∈ys,y<ae (true,p))/\xs.length<=1000/\Q (.lst true (ak (eE (λx y=>bW (true,p) x (gm (true,p) a y)) xs ys)))
theorem aC0(T:Txt K mg t):aP P w K mg base aZ 1 t.Jm t.Jn ["self","row","a","other"] (bA (V5 K)):=by
 refine bM T.aD9 UN ?_ ?_
 ·intro ds Q h
  obtain⟨C,p,a,xs,ys,rfl,hC,hn,hp,ha,hy,hl,q⟩:=h<;>rfl
 ·intro aI A outer s H E hr
  refine⟨_,(aA (bj (i:=4) UN.nd rfl (aY rfl) (df (bB (kW (K:=K) (bv 0)) (bv 2) (λ_ _=>rfl))))
   (aE (aS (dq [("by_a",4)] ["x","y"] rfl (zA rfl T.xW (ag (bv 1) (ag (bv 3) ax))) (λ_ _ _ _=>(jO (i1:=1) (i2:=2) rfl (show(["by_a","x","y"]:List Str).Nodup by decide +kernel) rfl (aq (lookup_relabel_local rfl)) rfl (aq (lookup_relabel_local rfl)) (by decide) (by decide) (aY (lookup_relabel_local rfl)) (aY (lookup_relabel_local rfl)))) (λ_ _ _ _=>dG) (λ_ _ _ _=>(aG vI (bv 1) (bB (bv 0) (bv 2) (λ_ _=>rfl)))) rfl ⟨rfl,trivial⟩ (λ_=>by repeat' (first | exact trivial | refine⟨.inl rfl,?_⟩ | refine⟨.inr (.inl rfl),?_⟩ | refine⟨.inr (.inr ⟨_,rfl⟩),?_⟩)) (λ_=>⟨⟨rfl,.inl rfl,.inl rfl,_,rfl,rfl⟩,trivial⟩) rfl (by decide +kernel))))),λds Q h=>?_⟩
  obtain⟨C,p,a,xs,ys,rfl,hC,hn,hp,ha,hy,hl,q⟩:=h
  refine az λU hU=>?_
  walk_at"l3"
  refine⟨C,_,_,_,rfl,hC,hn,rfl,_,Hi hp ha,?_⟩
  refine⟨by rw[gh,mB];rfl,hU _ ?_⟩
  clear hU U
  walk_at"l3"
  refine⟨_,_,rfl,rfl,Tu (λx y=>bW (true,p) x (gm (true,p) a y)) (λx hx y Dc=>?_) (by omega) q⟩
  walk_at"l3"
  refine⟨_,Hh hp ha (hy y Dc),?_⟩
  show pf (x:Int) ((gm (true,p) a y:Nat):Int)=_
  rw[nu];rfl
noncomputable abbrev V6(K:Frag):bx:=λds Q=>∃(C:Addr) (p a:Nat) (xs ys:List Nat),ds=[vX C p,.lst false (ak xs),.int a,.lst false (ak ys)]/\eN K C/\cP K C "prime"/\0<p/\a<64/\(∀y∈ys,y<64)/\xs.length<=1000/\Q (.lst true (ak (eE (λx y=>bW (false,p) x (gm (false,p) a y)) xs ys)))
theorem az6(T:Txt K mg t):aP P w K mg base aZ 1 t.Jo t.Jp ["self","row","a","other"] (bA (V6 K)):=by
 refine bM T.aA7 UO ?_ ?_
 ·intro ds Q h
  obtain⟨C,p,a,xs,ys,rfl,hC,hn,hp,ha,hy,hl,q⟩:=h<;>rfl
 ·intro aI A outer s H E hr
  refine⟨_,(aA (bj (i:=4) UO.nd rfl (aY rfl) (df (kW (K:=K) (bv 0))))
   (aE (aS (dq [("prime",4),("a",2)] ["x","y"] rfl (zA rfl T.xW (ag (bv 1) (ag (bv 3) ax))) (λ_ _ _ _=>(jO (i1:=2) (i2:=3) rfl (show(["prime","a","x","y"]:List Str).Nodup by decide +kernel) rfl (aq (lookup_relabel_local rfl)) rfl (aq (lookup_relabel_local rfl)) (by decide) (by decide) (aY (lookup_relabel_local rfl)) (aY (lookup_relabel_local rfl)))) (λ_ _ _ _=>dG) (λ_ _ _ _=>(aG dy (aa (aG iq (bv 2) (aa (aG iQ (bv 1) (bv 3))))) (bv 0))) rfl ⟨rfl,⟨rfl,trivial⟩⟩ (λ_=>by repeat' (first | exact trivial | refine⟨.inl rfl,?_⟩ | refine⟨.inr (.inl rfl),?_⟩ | refine⟨.inr (.inr ⟨_,rfl⟩),?_⟩)) (λ_=>⟨⟨rfl,.inl rfl,.inl rfl,_,rfl,rfl⟩,⟨⟨rfl,.inl rfl,.inl rfl,_,rfl,rfl⟩,trivial⟩⟩) rfl (by decide +kernel))))),λds Q h=>?_⟩
  obtain⟨C,p,a,xs,ys,rfl,hC,hn,hp,ha,hy,hl,q⟩:=h
  refine az λU hU=>?_
  walk_at"l3"
  refine⟨C,_,_,.int p,rfl,hC,hn,rfl,rfl,hU _ ?_⟩
  clear hU U
  walk_at"l3"
  refine⟨_,_,rfl,rfl,Tu (λx y=>bW (false,p) x (gm (false,p) a y)) (λx hx y Dc=>?_) (by omega) q⟩
  have h2:=hy y Dc
  walk_at"l3"
  refine⟨j8.ok (.inr ⟨by omega,by omega⟩),by omega,?_⟩
  have e:((x:Int)-((a*y%p:Nat):Int))%(p:Int)=((x:Int)-(a:Int)*y)%p:=by
   rw[sI,yx,Int.sub_emod,Int.emod_emod,<- Int.sub_emod]
  show _=(((((x:Int)-((a*y%p:Nat):Int))%(p:Int)).toNat:Nat):Int)
  rw[e,A6 (jZ _ (by omega))]
theorem V7(T:Txt K mg t){m:Bool × Nat}(hm:m∈aC):∃C ns zs sp,fD t.aU t.aV m=.obj C ns zs/\uu P w K mg base 1 "lessened" C sp/\("lessened":Str) ∉ ns/\∀(xs ys:List Nat) (a:Nat) (Q:D->Prop),a<ae m->(∀y∈ys,y<ae m)->xs.length<=1000->Q (.lst true (ak (eE (λx y=>bW m x (gm m a y)) xs ys)))->sp [.obj C ns zs,.lst false (ak xs),.int a,.lst false (ak ys)] Q:=by
 have hF:=da hm
 obtain⟨k,n⟩:=m
 cases k with
 | true=>exact⟨_,_,_,V5 K,rfl,⟨T.hJ,_,_,_,T.Aj,aC0 T,T.aE0⟩,by decide,λxs ys a Q ha hy hl q=>⟨_,n,a,xs,ys,rfl,T.hJ,T.se,zS hm,ha,hy,hl,q⟩⟩
 | false =>
  have uK:n<=64:=hF.hi
  have l2:2<=n:=hF.lo
  exact⟨_,_,_,V6 K,rfl,⟨T.i5,_,_,_,T.Ar,az6 T,T.aA8⟩,by decide,λxs ys a Q ha hy hl q=>⟨_,n,a,xs,ys,rfl,T.i5,T.oY,by omega,cS (show a<n from ha) uK,λy h=>cS (show y<n from hy y h) uK,hl,q⟩⟩
noncomputable abbrev V8(K:Frag):bx:=λds Q=>∃(C:Addr) (p a b:Nat),ds=[zQ C p,.int a,.int b]/\eN K C/\cP K C "products"/\p∈g9/\a<ae (true,p)/\b<ae (true,p)/\Q (.int (gm (true,p) a b:Nat))
theorem aJ0(T:Txt K mg t):aP P w K mg base aZ 1 t.Jq t.Jr ["self","a","b"] (bA (V8 K)):=by
 refine bM T.aK1 aI0 ?_ ?_
 ·intro ds Q h
  obtain⟨C,p,a,b,rfl,hC,hn,hp,ha,hb,q⟩:=h<;>rfl
 ·intro aI A outer s H E hr
  refine⟨_,(aE (aS (df (bB (bB (kW (K:=K) (bv 0)) (bv 1) (λ_ _=>rfl)) (bv 2) (λ_ _=>rfl))))),λds Q h=>?_⟩
  obtain⟨C,p,a,b,rfl,hC,hn,hp,ha,hb,q⟩:=h
  walk_at"l3"
  refine⟨C,_,_,_,rfl,hC,hn,rfl,?_⟩
  exact⟨_,Hi hp ha,_,Hh hp ha hb,rfl,q⟩
noncomputable abbrev V9(K:Frag):bx:=λds Q=>∃(C:Addr) (p:Nat) (a b:Int),ds=[vX C p,.int a,.int b]/\eN K C/\cP K C "prime"/\0<p/\IntMulOk a b/\Q (.int (a*b%p))
theorem aE3(T:Txt K mg t):aP P w K mg base aZ 1 t.Js t.Jt ["self","a","b"] (bA (V9 K)):=by
 refine bM T.aF5 aD7 ?_ ?_
 ·intro ds Q h
  obtain⟨C,p,a,b,rfl,hC,hn,hp,hm,q⟩:=h<;>rfl
 ·intro aI A outer s H E hr
  refine⟨_,(aE (aS (aG dy (aa (aG iQ (bv 1) (bv 2))) (kW (K:=K) (bv 0))))),λds Q h=>?_⟩
  obtain⟨C,p,a,b,rfl,hC,hn,hp,hm,q⟩:=h
  walk_at"l3"
  exact⟨hm,C,_,_,.int p,rfl,hC,hn,rfl,by omega,q⟩
theorem cv0(T:Txt K mg t){m:Bool × Nat}(hm:m∈aC):∃C ns xs sp,fD t.aU t.aV m=.obj C ns xs/\uu P w K mg base 1 "times" C sp/\("times":Str) ∉ ns/\∀(a b:Nat) (Q:D->Prop),a<ae m->b<ae m->Q (.int (gm m a b:Nat))->sp [.obj C ns xs,.int a,.int b] Q:=by
 have hF:=da hm
 obtain⟨k,n⟩:=m
 cases k with
 | true=>exact⟨_,_,_,V8 K,rfl,⟨T.hJ,_,_,_,T.An,aJ0 T,T.aK2⟩,by decide,λa b Q ha hb q=>⟨_,n,a,b,rfl,T.hJ,T.se,zS hm,ha,hb,q⟩⟩
 | false =>
  have uK:n<=64:=hF.hi
  refine⟨_,_,_,V9 K,rfl,⟨T.i5,_,_,_,T.Aw,aE3 T,T.aF6⟩,by decide,λa b Q ha hb q=>?_⟩
  have BX:a<n:=ha
  have zI:b<n:=hb
  refine⟨_,n,a,b,rfl,T.i5,T.oY,by omega,j8.ok (.inr ⟨by omega,by omega⟩),?_⟩
  have e:((gm (false,n) a b:Nat):Int)=(a:Int)*b%n:=by
   show((a*b%n:Nat):Int)=_
   rw[sI,yx]
  rw[<-e];exact q
noncomputable abbrev cs5(t:ka)(P:Program)(w:World)(K:Frag)(mg:Str->Option Value)(base:Heap):bx:=λds Q=>∃(m:Bool × Nat) (c:List Nat) (os:List (List Nat)),ds=[fD t.aU t.aV m,.lst false (ak c),.lst false (aB false os)]/\m∈aC/\nul c=false/\c.length<=64/\AllLt (ae m) c/\RT (ae m) c.length os/\os.length<=1000/\Q (.lst true (aB true (gP m c os)))
theorem cw9(T:Txt K mg t):aP P w K mg base aZ 3 t.Ju t.Jv ["field","column","others"] (bA (cs5 t P w K mg base)):=by
 refine bM T.Vo xb ?_ ?_
 ·intro ds Q h
  obtain⟨m,c,os,rfl,hm,hn,hc,KZ,lu,hol,q⟩:=h<;>rfl
 ·intro aI A outer s H E hr
  refine⟨_,(aA (bj (i:=3) xb.nd rfl (aq rfl) (df (bB (aa (dq [] ["k","x"] rfl (vO rfl T.xV (ag (bv 1) ax)) (λ_ _ _ _=>(jO (i1:=0) (i2:=1) rfl (show(["k","x"]:List Str).Nodup by decide +kernel) rfl (aq (lookup_relabel_local rfl)) rfl (aq (lookup_relabel_local rfl)) (by decide) (by decide) (aY (lookup_relabel_local rfl)) (aY (lookup_relabel_local rfl)))) (λ_ _ _ _=>(vG (bR (g7 (cI hr)) (bv 1) (aa aw) (bK _)))) (λ_ _ _ _=>(df (bv 0))) rfl trivial (λ_=>by repeat' (first | exact trivial | refine⟨.inl rfl,?_⟩ | refine⟨.inr (.inl rfl),?_⟩ | refine⟨.inr (.inr ⟨_,rfl⟩),?_⟩)) (λ_=>trivial) rfl (by decide +kernel))) (aa aw) (λ_ _=>rfl))))
   (aA (bj (i:=4) xb.nd rfl (aq rfl) (Hj (P:=P) (w:=w) (K:=K) (mg:=mg) (base:=base) (n:=2) (bv 0) (hr.mono (by decide)) (ag (aa aw) (ag (bB (bv 1) (bv 3) (λ_ _=>rfl)) ax))))
   (aA (bj (i:=5) xb.nd rfl (aq rfl) (eR dF))
   (aA (gJ fk rfl (BN (df (bv 2))) (cE (i:=6) xb.nd rfl (aq rfl))
    (aA (bj (i:=7) xb.nd rfl (aq rfl) (uv (P:=P) (w:=w) (K:=K) (mg:=mg) (base:=base) (n:=1) (bv 0) (hr.mono (by decide)) (ag (bv 6) (ag (aa (uv (P:=P) (w:=w) (K:=K) (mg:=mg) (base:=base) (n:=1) (bv 0) (hr.mono (by decide)) (ag (bB (bv 6) (bv 3) (λ_ _=>rfl)) (ag (bv 4) ax)))) (ag (bv 1) ax)))))
    (aE (qW (i:=5) rfl (by first | exact aq rfl | exact aY (aq rfl)) (aG dS (aa (mD (bv 7) kP (kQ (bv 3)))) (aa (mD (bv 7) (kQ (aa (aG dS (bv 3) (aa aw)))) kP)))))))
   (aE (aS (em 5))))))),λds Q h=>?_⟩
  obtain⟨m,c,os,rfl,hm,hn,hc,KZ,lu,hol,q⟩:=h
  have dN:=(da hm).lo
  obtain⟨pl,pn⟩:=HP hn
  have cp:=KZ.getD (show 0<ae m by omega) (aT c)
  have cx:∃x∈c,x≠0:=⟨_,bN pl 0,pn⟩
  refine az λU hU=>?_
  walk_at"l3"
  refine uA (aM c.length) (λ(i:Nat)=>D.tup [.int (i:Int),.int ((c.getD i 0:Nat):Int)]) (λ(i:Nat)=>D.int (i:Int)) (λi=>c.getD i 0 != 0) (TL c) (λa b h=>by injection h with h;simp at h;omega) (λi hi=>?_) (.inr λ_ _ _=>rfl) (by rw[cK,sL];omega) ?_
  ·walk_at"l3"
   refine⟨?_,λ_=>trivial⟩
   by_cases h0:c.getD i 0=0
   ·rw[h0];rfl
   ·rw[decide_eq_false (by omega),bne_iff_ne.mpr h0];rfl
  dsimp only
  refine⟨.int (aT c:Nat),L3.Bv (k:=0) (by rw[bZ,TM cx];rfl),rfl,hU _ ?_⟩
  clear hU U
  refine az λU hU=>?_
  walk_at"l3"
  refine⟨_,_,_,_,rH _ _ m,KY T m,Hk m _ (by decide),.int (c.getD (aT c) 0:Nat),by rw[fR (by omega) (by omega),dQ],m,1,c.getD (aT c) 0,by rw[rH];rfl,hm,dN,cp,λz=>absurd z pn,λ_ iv AF z9=>?_⟩
  have ei:jR m (c.getD (aT c) 0)=iv:=v7 hm AF z9
  refine⟨rfl,hU _ ?_⟩
  clear hU U
  refine az λU hU=>?_
  walk_at"l3"
  refine⟨by decide,hU _ ?_⟩
  clear hU U
  refine az λU hU=>?_
  walk_at"l3"
  refine gu.mk (λi δ=>∃o6 o7,δ=[some (fD t.aU t.aV m),some (D.lst false (ak c)),some (D.lst false (aB false os)),some (D.int (aT c)),some (D.int iv),some (D.lst true (aB true (gP m c (os.take i)))),o6,o7]) ⟨_,_,rfl⟩ ?_ ?_
  ·rintro i d δ hd ⟨o6,o7,rfl⟩
   obtain⟨hi,rfl⟩:=UH hd
   clear hd hU
   obtain⟨ol,oa⟩:=lu _ (dv hi)
   have op:=oa.getD (show 0<ae m by omega) (aT c)
   obtain⟨C,ns,xs,sp,e1,e2,e3,e4⟩:=V7 (P:=P) (w:=w) (base:=base) T hm
   refine az λU hU=>?_
   walk_at"l3"
   obtain⟨C1,n1,x1,sp1,g1,g2,g3,g4⟩:=cv0 (P:=P) (w:=w) (base:=base) T hm
   refine⟨C,ns,xs,sp,e1,e2,e3,C1,n1,x1,sp1,g1,g2,g3,.int (os[i].getD (aT c) 0:Nat),by rw[fR (by omega) (by omega),dQ],g4 _ iv _ op AF ⟨rfl,e4 os[i] c (gm m (os[i].getD (aT c) 0) iv) _ (bY hm _ _) KZ (by omega) ⟨rfl,hU _ ?_⟩⟩⟩
   clear hU
   have ep:gP m c (os.take (i+1))=gP m c (os.take i)++[(eE (λx y=>bW m x (gm m (gm m (os[i].getD (aT c) 0) iv) y)) os[i] c).take (aT c)++(eE (λx y=>bW m x (gm m (gm m (os[i].getD (aT c) 0) iv) y)) os[i] c).drop (aT c+1)]:=by
    unfold gP
    rw[lM,aL hi,ED,fY,dB,jY,ei]
   rw[ep]
   have ll:(eE (λx y=>bW m x (gm m (gm m (os[i].getD (aT c) 0) iv) y)) os[i] c).length<=64:=by rw[kA];omega
   generalize eE (λx y=>bW m x (gm m (gm m (os[i].getD (aT c) 0) iv) y)) os[i] c=lf at ll ⊢
   have UI:(gP m c (os.take i)).length<=1000:=by rw[Uy,eZ];omega
   walk_at"l3"
   rw[zB,show((aT c:Int)+1)=((aT c+1:Nat):Int) by omega,vP]
   exact⟨⟨_,rfl⟩,by rw[eZ,iD];omega,by omega,_,_,vZ true _ [lf.take (aT c)++lf.drop (aT c+1)],rfl,rfl⟩
  ·rintro δ ⟨o6,o7,rfl⟩
   refine hU _ ?_
   walk_at"l3"
   rw[pE]
   exact q
noncomputable def fB(o:Bool)(l:List Cs):List D:=l.map λs=>.tup [.lst o (ak s.1),.lst o (aB o s.2)]
theorem Wa(o:Bool)(l:List Cs):(fB o l).map D.sh=fB false l:=by
 unfold fB
 rw[cH]
 refine uZ λs _=>?_
 show(D.tup [.lst o (ak s.1),.lst o (aB o s.2)]).sh=_
 rw[jJ,dB,dB,jY,jv,dO,eU]
theorem cr0(l:List Cs):(fB false l).all D.pl=true:=by
 rw[du]
 intro d hd
 obtain⟨s,_,rfl⟩:=bO.mp hd
 show(D.tup [.lst false (ak s.1),.lst false (aB false s.2)]).pl=true
 rw[jI,dM,dM,gh,gh,jP,rM];rfl
theorem cb7(o:Bool)(a b:List Cs):fB o a++fB o b=fB o (a++b):=by unfold fB;rw[fY]
theorem cq2{o:Bool}{l:List Cs}{i:Nat}{d:D}(hd:(fB o l)[i]?=some d):∃hi:i<l.length,d=.tup [.lst o (ak l[i].1),.lst o (aB o l[i].2)]:=by
 unfold fB at hd
 rw[bZ]at hd
 by_cases hi:i<l.length
 ·rw[aL hi]at hd
  exact⟨hi,(cW hd).symm⟩
 ·rw[fF (by omega)]at hd;cases hd
theorem b73(o:Bool)(l:List Cs):aR 6 (.lst o (fB o l))=true:=by
 show(fB o l).all (aR 5)=true
 rw[du]
 intro d hd
 obtain⟨s,_,rfl⟩:=bO.mp hd
 show([D.lst o (ak s.1),.lst o (aB o s.2)]).all (aR 4)=true
 rw[dM,dM,rJ 3 o s.1,Cv 2 o o s.2];rfl
theorem bX7{m:Bool × Nat}{c:List Nat}{os:List (List Nat)}{N:Nat}(h:∀o∈os,o.length<=N):∀x∈gP m c os,x.length<=N:=λx hx=>by
 obtain⟨o,ho,rfl⟩:=bO.mp hx
 have:=h o ho
 rw[fN,eZ,iD,kA]
 omega
theorem K0{W:Nat}:∀{l:List Cs},(∀s∈l,s.2.length<=W)->(dJ l).length<=l.length*W
 | [],_=>jX _
 | s::l,h=>by
  have ih:=K0 (λs hs=>h s (eJ _ hs))
  have h1:=h s (gS ..)
  show(fA s++dJ l).length<=_
  rw[fN,show(fA s).length=s.2.length by unfold fA;rw[bG,cK],ia,Nat.succ_mul]
  omega
noncomputable def kq:Option (List Nat)->D
 | some l=>.lst true (ak l)
 | none=>.au
noncomputable abbrev aN2(t:ka)(P:Program)(w:World)(K:Frag)(mg:Str->Option Value)(base:Heap):bx:=λds Q=>∃(m:Bool × Nat) (G:List (List Nat)),ds=[fD t.aU t.aV m,.lst false (aB false G)]/\m∈aC/\G.length<=64/\RT (ae m) (ai G) G/\0<ai G/\ai G<=6/\Q (kq (eY m G))
theorem Wb(T:Txt K mg t):aP P w K mg base aZ 4 t.Jw t.Jx ["field","table"] (bA (aN2 t P w K mg base)):=by
 refine bM T.Ky rZ ?_ ?_
 ·intro ds Q h
  obtain⟨m,G,rfl,hm,hG,hR,i6,hw,q⟩:=h<;>rfl
 ·intro aI A outer s H E hr
  refine⟨_,(aA (bj (i:=2) rZ.nd rfl (aq rfl) (bh ((xY T).mono (by decide)) hr rfl T.xN T.uE.kp T.xO aW (ag (bv 1) ax)))
   (aA (bj (i:=3) rZ.nd rfl (aq rfl) (eR (fu (zb (fu (eR dF) (fu (bh ((aW2 T).mono (by decide)) hr rfl T.dD7 T.Vl.kp T.dD8 aW (ag (bv 1) ax)) dF))) dF)))
   (aA (zc fk (bR (g7 (cI hr)) (bv 3) (aa (eR dF)) (bK _))
    (aA (bj (i:=4) rZ.nd rfl (aq rfl) (eR dF))
    (BK 3 (aA (gJ fk rfl (BN (df (bv 3))) (jO (i1:=5) (i2:=6) rfl rZ.nd rfl (aq rfl) rfl (aq rfl))
     (aE (gJ fk rfl (vO rfl T.xV (ag (bv 6) ax)) (jO (i1:=7) (i2:=8) rfl rZ.nd rfl (aq rfl) rfl (aq rfl))
      (aA (bj (i:=9) rZ.nd rfl (aq rfl) (aG dS (bv 5) (aa (eR (fu (aG dS (aa (aG iq (bv 2) (aa (eA (gw) (by rfl) T.gC gg (ag (bv 6) ax))))) (bv 7)) dF)))))
      (aA (cy (gr (aa (bh ((aS4 T).mono (by decide)) hr rfl T.dD9 T.Vm.kp T.dE0 aW (ag (bv 8) ax)))) (aE (aS (em 9))) cC)
      (aE (qW (i:=4) rfl (by first | exact aq rfl | exact aY (aq rfl)) (zb (fu (em 9) (fu (bh ((cw9 T).mono (by decide)) hr rfl T.dF0 T.Vo.kp T.dF1 aW (ag (bv 0) (ag (bv 8) (ag (aa (mD (bv 6) (kQ (aa (aG dS (bv 7) (aa aw)))) kP)) ax)))) dF))))))))))
    (aE (bj (i:=3) rZ.nd rfl (aq rfl) (em 4)))))))
   (aE (aS mq))))),λds Q h=>?_⟩
  obtain⟨m,G,rfl,hm,hG,hR,i6,hw,q⟩:=h
  have dN:=(da hm).lo
  refine az λU hU=>?_
  walk_at"l3"
  refine⟨G,rfl,by omega,λr aX=>by rw[(hR r aX).1];omega,hU _ ?_⟩
  clear hU U
  refine az λU hU=>?_
  walk_at"l3"
  refine⟨by decide,G,rfl,by omega,λr aX=>(hR r aX).1,by omega,by decide,by decide,hU _ ?_⟩
  clear hU U
  have Ls:=Lv.start hm i6 hR
  refine az λU hU=>?_
  walk_at"l3"
  refine⟨λn δ=>∃(l:List Cs) (k:Nat) (o4 o5 o6 o7 o8 o9:Option D),δ=[some (fD t.aU t.aV m),some (D.lst false (aB false G)),some (D.int (ai G)),some (D.lst true (fB true l)),o4,o5,o6,o7,o8,o9]/\Lv m (di G) (ai G) k l/\k+n=ai G+1/\uC m (ai G) n l=eY m G/\l.length<=6 ^ k/\∀s∈l,∀r∈s.2,r.length<=64,⟨ai G+1,[([],fw G)],0,_,_,_,_,_,_,rfl,Ls,by omega,rfl,bP _,λs hs r aX=>?_⟩,?_⟩
  ·rw[e5.mp hs]at aX
   have:=((Uc (by omega) i6 hR).2.2 r aX).1
   omega
  rintro n δ ⟨l,k,o4,o5,o6,o7,o8,o9,rfl,L,hk,K1,hll,De⟩
  walk_at"l3"
  refine⟨by decide,⟨b73 true l,rfl⟩,?_⟩
  by_cases l0:l=[]
  ·subst l0
   rw[show bL (D.lst true (fB true [])) (D.lst true [])=true from rfl,if_neg (by decide)]
   refine hU _ ?_
   walk_at"l3"
   have e0:eY m G=none:=by
    rw[<-K1]
    cases n with
    | zero=>rfl
    | succ n=>rfl
   rw[e0]at q
   exact q
  have d0:bL (D.lst true (fB true l)) (D.lst true [])=false:=by
   cases l with
   | nil=>exact absurd rfl l0
   | cons s l=>rfl
  rw[d0,if_pos (by decide)]
  have AG:∀s∈l,dr (ai G) s.1/\s.2.length<=6:=λs hs=>by
   have g:=(L.gs s hs).1
   have gl:=g.le
   exact⟨⟨g.inc,λx hx=>by have:=g.off x hx;omega⟩,by omega⟩
  obtain⟨n,rfl⟩:∃n',n=n'+1:=by
   cases n with
   | succ n=>exact⟨n,rfl⟩
   | zero =>
    exfalso
    cases l with
    | nil=>exact l0 rfl
    | cons s l =>
     have h1:=(AG s (gS ..)).1.len
     have h2:=(L.gs s (gS ..)).2
     omega
  clear hU
  have k6:6 ^ k*6<=279936:=by
   have:6 ^ (k+1)<=6 ^ 7:=yk (by decide) (by omega)
   rw[mU]at this
   exact this
  have dQ6:∀a,(dJ (l.take a)).length<=279936:=λa=>by
   have h1:=K0 (W:=6) (l:=l.take a) λs hs=>(AG s (pJ hs)).2
   have h2:(l.take a).length<=6 ^ k:=by rw[eZ];omega
   have:=Zb 6 h2
   omega
  refine az λU hU=>?_
  walk_at"l3"
  refine⟨by decide,hU _ ?_⟩
  clear hU
  refine⟨_,rfl,?_⟩
  rw[dO,Wa]
  simp only[jA,jz]
  refine az λU hU=>?_
  walk_at"l3"
  refine⟨cr0 l,?_⟩
  rw[Wa]
  refine gu.mk (λa δ=>(∀z∈dJ (l.take a),oU z=false)/\∃o5 o6 o7 o8 o9,δ=[some (fD t.aU t.aV m),some (D.lst false (aB false G)),some (D.int (ai G)),some (D.lst false (fB false l)),some (D.lst true (fB true ((dJ (l.take a)).map (iY m (ai G))))),o5,o6,o7,o8,o9]) ⟨λz hz=>absurd hz i8,_,_,_,_,_,rfl⟩ ?_ ?_
  ·rintro a d δ hd ⟨rU,o5,o6,o7,o8,o9,rfl⟩
   obtain⟨ha,rfl⟩:=cq2 hd
   clear hd hU
   have hs:=dv ha
   obtain⟨gs,gk⟩:=L.gs _ hs
   obtain⟨hh,K2⟩:=gs.rt
   have g6:=(AG _ hs).2
   have et:dJ (l.take (a+1))=dJ (l.take a)++fA l[a]:=by
    unfold dJ
    rw[lM,aL ha,ED,Zc,List.flatMap_cons,List.flatMap_nil,iC]
   rw[et]
   have Wc:=dQ6 (a+1)
   rw[et,fN]at Wc
   generalize hS:l[a]=s0 at hs gs gk K2 g6 et Wc ⊢
   have l1:(fA s0).length=s0.2.length:=by unfold fA;rw[bG,cK]
   walk_at"l3"
   refine gu.mk (λi δ=>(∀z∈(fA s0).take i,oU z=false)/\∃o7 o8 o9,δ=[some (fD t.aU t.aV m),some (D.lst false (aB false G)),some (D.int (ai G)),some (D.lst false (fB false l)),some (D.lst true (fB true ((dJ (l.take a)++(fA s0).take i).map (iY m (ai G))))),some (D.lst false (ak s0.1)),some (D.lst false (aB false s0.2)),o7,o8,o9]) ⟨λz hz=>absurd hz i8,_,_,_,by rw[List.take_zero,iC]⟩ ?_ ?_
   ·rintro i d δ hd ⟨AH,o7,o8,o9,rfl⟩
    obtain⟨hi,rfl⟩:=TK hd
    clear hd
    obtain⟨cl,ca⟩:=K2 _ (dv hi)
    have gc:s0.2.getD i []=s0.2[i]:=by rw[aK,aL hi];rfl
    have gle:=gs.le
    have ei:(fA s0).take (i+1)=(fA s0).take i++[(s0,i)]:=by
     rw[lM]
     congr 1
     unfold fA
     rw[bZ,gU hi];rfl
    have hh6:hh<=64:=by have:=De _ hs _ (dv hi);omega
    have il1:=(AG _ hs).1.len
    simp only[iT,jA,jz]
    refine az λU hU=>?_
    walk_at"l3"
    have eb:ak s0.1++[D.int ((ai G:Int)-(s0.2.length:Int)+(i:Int))]=ak (jT (ai G) (s0,i)):=by
     unfold jT
     rw[cu,cu,fY]
     show _=_++[D.int ((ai G-s0.2.length+i:Nat):Int)]
     rw[show(ai G:Int)-(s0.2.length:Int)+(i:Int)=((ai G-s0.2.length+i:Nat):Int) by omega]
    rw[eb]
    refine⟨by decide,by omega,hU _ ?_⟩
    clear hU
    refine az λU hU=>?_
    walk_at"l3"
    refine⟨s0.2[i],rfl,by omega,nul s0.2[i],rfl,?_⟩
    cases hz:nul s0.2[i]with
    | true =>
     rw[if_pos rfl]
     have ef:eY m G=some (jT (ai G) (s0,i)):=by
      rw[<-K1,uC,if_neg l0]
      have:(dJ l).find? oU=some (s0,i):=by
       refine Y9.mpr ⟨by show nul (s0.2.getD i [])=true;rw[gc];exact hz,dJ (l.take a)++(fA s0).take i,(fA s0).drop (i+1)++dJ (l.drop (a+1)),?_,λz z6=>?_⟩
       ·have e1:dJ l=dJ (l.take (a+1))++dJ (l.drop (a+1)):=by
         conv=>lhs;rw[<-yv (a+1) l]
         unfold dJ
         rw[Zc]
        have e2:fA s0=(fA s0).take i++(s0,i)::(fA s0).drop (i+1):=by
         conv=>lhs;rw[<-yv (i+1) (fA s0),ei,dZ]
         rfl
        rw[e1,et]
        conv=>lhs;rw[e2]
        simp only[dZ,pL]
       ·have:=(cJ.mp z6).elim (rU z) (AH z)
        rw[this];rfl
      rw[this];rfl
     rw[ef]at q
     exact q
    | false =>
     rw[if_neg (by decide)]
     refine hU _ ?_
     clear hU
     walk_at"l3"
     rw[show((i:Int)+1)=((i+1:Nat):Int) by omega,vP,ei]
     refine⟨⟨_,rfl⟩,m,s0.2[i],s0.2.drop (i+1),rfl,hm,hz,by omega,ca,λr aX=>by rw[cl];exact K2 r (pI aX),by rw[iD];omega,by rw[fg,rN];rfl,by decide,?_,λz z6=>?_,_,_,_,?_,rfl,rfl,rfl⟩
     ·unfold fB
      rw[bG,bG,fN,eZ]
      omega
     ·rcases cJ.mp z6 with y | y
      ·exact AH z y
      ·rw[e5.mp y]
       show nul (s0.2.getD i [])=false
       rw[gc];exact hz
     ·rw[<-dZ,fY (l₁:=dJ (l.take a)++(fA s0).take i),<- cb7]
      congr 1
      show _=[D.tup [.lst true (ak (iY m (ai G) (s0,i)).1),.lst true (aB true (iY m (ai G) (s0,i)).2)]]
      show _=[D.tup [.lst true (ak (jT (ai G) (s0,i))),.lst true (aB true (gP m (s0.2.getD i []) (s0.2.drop (i+1))))]]
      rw[gc]
   ·rintro δ ⟨AH,o7,o8,o9,rfl⟩
    rw[show(gx (aB false s0.2)).length=(fA s0).length by rw[vN,lh,l1],pE]at AH ⊢
    exact⟨λz hz=>(cJ.mp hz).elim (rU z) (AH z),_,_,_,_,_,rfl⟩
  ·rintro δ ⟨rU,o5,o6,o7,o8,o9,rfl⟩
   refine hU _ ?_
   clear hU
   rw[show(fB false l).length=l.length by unfold fB;rw[bG],pE]at rU ⊢
   walk_at"l3"
   have hf:(dJ l).find? oU=none:=PL.mpr λz hz=>by rw[rU z hz];decide
   refine⟨n,by omega,_,k+1,_,_,_,_,_,_,⟨rfl,rfl,rfl,rfl,rfl,rfl,rfl⟩,L.next hm (HW hm hR) rU,by omega,?_,?_,λs hs r aX=>?_⟩
   ·rw[<-K1,uC,if_neg l0,hf]
   ·rw[bG,mU]
    have:=K0 (W:=6) λs hs=>(AG s hs).2
    exact fi this (Zb 6 hll)
   ·obtain⟨z,hz,rfl⟩:=bO.mp hs
    exact bX7 (λo ho=>De _ (wg.mp hz).1 o (pI ho)) r aX
noncomputable def uL:Option (List Nat)->D
 | some l=>.lst false (ak l)
 | none=>.au
theorem Dh{w:Nat}(f:Nat->Bool):dr w ((aM w).filter f):=⟨Y8.filter f,λx hx=>cV.mp (ku.mp hx).1⟩
theorem cb2{w:Nat}{F:List Nat}(h:dr w F){a:Nat}(ha:a<F.length)(h0:F[a]≠0)(hn:F[a]-1 ∉ F):dr w (F.take a++[F[a]-1]++F.drop (a+1)):=by
 have e:F=F.take a++F[a]::F.drop (a+1):=by rw[List.getElem_cons_drop,yv]
 generalize F[a]=v at h0 hn e
 generalize F.take a=A at e ⊢
 generalize F.drop (a+1)=B at e ⊢
 subst e
 obtain⟨hp,hb⟩:=h
 rw[u5,u4]at hp
 obtain⟨pA,⟨pv,pB⟩,pc⟩:=hp
 have av:∀x∈A,x<v-1:=λx hx=>by
  have h1:=pc x hx v (gS ..)
  have h2:x≠v-1:=λz=>hn (z ▸ fW _ hx)
  omega
 refine⟨?_,λx hx=>?_⟩
 ·rw[dZ,u5,Zd,u4]
  refine⟨pA,⟨λx hx=>by have:=pv x hx;omega,pB⟩,λx hx y hy=>?_⟩
  rcases cA.mp hy with z | z
  ·rw[z];exact av x hx
  ·exact pc x hx y (eJ _ z)
 ·rw[dZ,Zd]at hx
  rcases cJ.mp hx with z | z
  ·exact hb x (fW _ z)
  ·rcases cA.mp z with z | z
   ·have:=hb v (dY _ (gS ..));omega
   ·exact hb x (dY _ (eJ _ z))
noncomputable abbrev aU1:bx:=λds Q=>∃(c:Int) (w:Nat) (fo:Option (List Nat)),ds=[.int c,.int w,uL fo]/\w<=64/\(∀F,fo=some F->dr w F/\0<F.length)/\∀S,dr w S->Q (.lst true (ak S))
theorem aU2(T:Txt K mg t):aP P w K mg base aZ 1 t.Jy t.Jz ["_law_cell_here","_law_wide","_law_found"] (bA (aU1 )):=by
 refine bM T.Vr UP ?_ ?_
 ·intro ds Q h
  obtain⟨c,wi,fo,rfl,hw,Di,q⟩:=h<;>rfl
 ·intro aI A outer s H E hr
  refine⟨_,(aA (cy (PW.pt (nJ (bR GC (bv 2) (aa mq) (bK _)) (m8 (bR (fv (cI hr)) (aa (aG dy (bv 0) (aa aw))) (aa aw) (bK _))))) (aE (aS (dq [("_law_cell_here",0)] ["_law_k"] rfl (iO rfl T.fS (ag (bv 1) ax)) (λ_ _ _ _=>(cE (i:=1) (show(["_law_cell_here","_law_k"]:List Str).Nodup by decide +kernel) rfl (aq (lookup_relabel_local rfl)) (by decide) (aY (lookup_relabel_local rfl)))) (λ_ _ _ _=>(vG (bR (fv (cI hr)) (aa (aG GA (aa (aG Gz (aa (aG kL (bv 0) (aa aw))) (bv 1))) (aa aw))) (aa aw) (bK _)))) (λ_ _ _ _=>(df (bv 1))) rfl ⟨rfl,trivial⟩ (λ_=>by repeat' (first | exact trivial | refine⟨.inl rfl,?_⟩ | refine⟨.inr (.inl rfl),?_⟩ | refine⟨.inr (.inr ⟨_,rfl⟩),?_⟩)) (λ_=>⟨⟨rfl,.inl rfl,.inl rfl,_,rfl,rfl⟩,trivial⟩) rfl (by decide +kernel)))) cC)
   (aA (bj (i:=3) UP.nd rfl (aq rfl) (aG dy (aa (aG kL (bv 0) (aa aw))) (aa (eA (gw) (by rfl) T.gC gg (ag (bv 2) ax)))))
   (aA (cy (bR (fv (cI hr)) (aa (aG dy (bv 0) (aa aw))) (aa aw) (bK _)) (aE (aS (aG dS (aa (mD (bv 2) kP (kQ (bv 3)))) (aa (mD (bv 2) (kQ (aa (aG dS (bv 3) (aa aw)))) kP))))) cC)
   (aA (cy (PW.pt (nJ (bR (fv (cI hr)) (bB (bv 2) (bv 3) (λ_ _=>rfl)) (aa aw) (bK _)) (m8 (bR cG5 (aa (aG iq (bB (bv 2) (bv 3) (λ_ _=>rfl)) (aa aw))) (bv 2) (by with_unfolding_all rfl))))) (aE (aS (BS (GI) (by rfl) T.uH s9 (ag (bv 2) ax)))) cC)
   (aE (aS (aG dS (aa (aG dS (aa (mD (bv 2) kP (kQ (bv 3)))) (aa (eR (fu (aG iq (bB (bv 2) (bv 3) (λ_ _=>rfl)) (aa aw)) dF))))) (aa (mD (bv 2) (kQ (aa (aG dS (bv 3) (aa aw)))) kP))))))))),λds Q h=>?_⟩
  obtain⟨c,wi,fo,rfl,hw,Di,q⟩:=h
  cases fo with
  | none =>
   dsimp only[uL]
   refine az λU hU=>?_
   walk_at"l3"
   refine⟨⟨by omega,by omega⟩,uA (aM wi) (λ(i:Nat)=>D.int (i:Int)) (λ(i:Nat)=>D.int (i:Int)) (λj=>decide (lK (c/3/2 ^ j) 1=1)) (kX _ rfl) gy (λj hj=>?_) (.inr λ_ _ _=>rfl) (by rw[cK,sL];omega) ?_⟩
   ·walk_at"l3"
    exact⟨kg (by decide) (by decide),by omega,by rw[dQ],λ_=>trivial⟩
   ·rw[<-cu];exact q _ (Dh _)
  | some F =>
   obtain⟨hI,uD⟩:=Di F rfl
   have fl:=hI.len
   dsimp only[uL]
   refine az λU hU=>?_
   walk_at"l3"
   refine⟨by decide,?_⟩
   by_cases c0:c%3=0
   ·rw[if_pos c0]
    refine⟨⟨by omega,by omega⟩,uA (aM wi) (λ(i:Nat)=>D.int (i:Int)) (λ(i:Nat)=>D.int (i:Int)) (λj=>decide (lK (c/3/2 ^ j) 1=1)) (kX _ rfl) gy (λj hj=>?_) (.inr λ_ _ _=>rfl) (by rw[cK,sL];omega) ?_⟩
    ·walk_at"l3"
     exact⟨kg (by decide) (by decide),by omega,by rw[dQ],λ_=>trivial⟩
    ·rw[<-cu];exact q _ (Dh _)
   rw[if_neg c0]
   refine hU _ ?_
   clear hU U
   obtain⟨a,ea,al⟩:∃a:Nat,c/3%(F.length:Int)=(a:Int)/\a<F.length:=by
    have n0:=jZ (c/3) (show(F.length:Int)≠0 by omega)
    have n1:=j5 (c/3) (show(0:Int)<(F.length:Int) by omega)
    exact⟨(c/3%(F.length:Int)).toNat,by omega,by omega⟩
   refine az λU hU=>?_
   walk_at"l3"
   rw[ea]
   refine⟨kg (by decide) (by decide),by omega,hU _ ?_⟩
   clear hU U
   have ge:F.getD a 0=F[a]:=by rw[aK,aL al];rfl
   refine az λU hU=>?_
   walk_at"l3"
   refine⟨by decide,?_⟩
   by_cases c1:c%3=1
   ·rw[if_pos c1]
    rw[zB,show((a:Int)+1)=((a+1:Nat):Int) by omega,vP]
    refine⟨by rw[eZ,iD];omega,q _ ?_⟩
    rw[<-List.eraseIdx_eq_take_drop_succ]
    exact hI.erase a
   rw[if_neg c1]
   refine hU _ ?_
   clear hU U
   have ha:eo (ak F) (a:Int)=some (.int (F[a]:Nat)):=by rw[fR (by omega) (by omega),dQ,ge]
   refine az λU hU=>?_
   walk_at"l3"
   refine⟨_,ha,rfl,?_⟩
   by_cases f0:F[a]=0
   ·rw[if_pos (by rw[iS,f0];rfl)]
    exact q _ hI
   rw[if_neg (by rw[iS,decide_eq_false (by omega)];decide)]
   refine⟨_,ha,?_⟩
   dsimp only
   refine⟨_,bT7 F,?_⟩
   by_cases fm:F[a]-1∈F
   ·rw[if_pos (bO.mpr ⟨_,fm,by omega⟩)]
    exact q _ hI
   rw[if_neg (λz=>by
    obtain⟨y,hy,e⟩:=bO.mp z
    exact fm ((show y=F[a]-1 by omega) ▸ hy))]
   refine hU _ ?_
   clear hU U
   walk_at"l3"
   refine⟨_,ha,?_⟩
   dsimp only
   rw[zB,show((a:Int)+1)=((a+1:Nat):Int) by omega,vP]
   have e3:ak (F.take a)++[D.int ((F[a]:Int)-1)]=ak (F.take a++[F[a]-1]):=by
    rw[cu,cu,fY]
    show _=_++[D.int ((F[a]-1:Nat):Int)]
    rw[show((F[a]:Int)-1)=((F[a]-1:Nat):Int) by omega]
   rw[e3]
   refine⟨by decide,by rw[eZ];omega,⟨by rw[eT,fN,eZ,iD];show _+1+_<=_;omega,jP _⟩,?_⟩
   have e4:ak (F.take a++[F[a]-1])++ak (F.drop (a+1))=ak (F.take a++[F[a]-1]++F.drop (a+1)):=by
    rw[cu,cu,cu,fY (l₁:=F.take a++[F[a]-1])]
   rw[e4]
   exact q _ (cb2 hI al f0 fm)
noncomputable abbrev aS5:bx:=λds Q=>∃(m:Bool × Nat) (a b:Nat),ds=[cF m,.int a,.int b]/\0<m.2/\Q (.int (gl m a b))
theorem aS6(T:Txt K mg t):aP P w K mg base aZ 1 t.JA t.JB ["_law_told_here","_law_a","_law_b"] (bA (aS5 )):=by
 refine bM T.Vs aQ3 ?_ ?_
 ·intro ds Q h
  obtain⟨m,a,b,rfl,h0,q⟩:=h<;>rfl
 ·intro aI A outer s H E hr
  refine⟨_,(aA (cy (gr (bB (bv 0) (aa aw) (λ_ _=>rfl))) (aE (aS (aG vI (bv 1) (bv 2)))) cC)
   (aE (aS (aG dy (aa (aG iq (bv 1) (bv 2))) (bB (bv 0) (aa aw) (λ_ _=>rfl)))))),λds Q h=>?_⟩
  obtain⟨m,a,b,rfl,h0,q⟩:=h
  unfold cF at *
  obtain⟨k,n⟩:=m
  refine az λU hU=>?_
  walk_at"l3"
  cases k with
  | true =>
   refine⟨_,rfl,true,rfl,?_⟩
   rw[if_pos rfl,nu]
   exact q
  | false =>
   refine⟨_,rfl,false,rfl,?_⟩
   rw[if_neg (by decide)]
   refine hU _ ?_
   walk_at"l3"
   refine⟨_,rfl,?_⟩
   exact⟨by omega,q⟩
noncomputable def jV(m:Bool × Nat)(sg:List Nat)(a:Nat)(r:List Nat):List Nat:=(r.set a 0).set a (bW m 0 (gd m (r.set a 0) sg))
noncomputable abbrev aU3:bx:=λds Q=>∃(m:Bool × Nat) (G:List (List Nat)) (sg:List Nat) (a w:Nat),ds=[cF m,.lst false (aB false G),.lst false (ak sg),.int a]/\m∈aC/\G.length<=64/\w<=64/\RT (ae m) w G/\sg.length=w/\AllLt (ae m) sg/\a<w/\Q (.lst true (aB true (G.map (jV m sg a))))
theorem aU4(T:Txt K mg t):aP P w K mg base aZ 3 t.JC t.JE ["_law_told_here","_law_table_here","_law_signs","_law_at"] (bA (aU3 )):=by
 refine bM T.Vt CQ ?_ ?_
 ·intro ds Q h
  obtain⟨m,G,sg,a,wi,rfl,hm,hG,hw,hR,hs,has,ha,q⟩:=h<;>rfl
 ·intro aI A outer s H E hr
  refine⟨_,(aA (bj (i:=4) CQ.nd rfl (aq rfl) (eR dF))
   (aA (gJ fk rfl (BN (df (bv 1))) (cE (i:=5) CQ.nd rfl (aq rfl))
    (aA (bj (i:=6) CQ.nd rfl (aq rfl) (BS (GI) (by rfl) T.uH s9 (ag (bv 5) ax)))
    (aA (tJ (i:=6) rfl (by first | exact aq rfl | exact aY (aq rfl)) aw (bv 3))
    (aA (tJ (i:=6) rfl (by first | exact aq rfl | exact aY (aq rfl)) (bh ((aS6 T).mono (by decide)) hr rfl T.aT5 T.Vs.kp T.aT6 aW (ag (bv 0) (ag (aa aw) (ag (aa (bh ((KU T).mono (by decide)) hr rfl T.Kv T.CW.kp T.Kw aW (ag (bv 0) (ag (bv 6) (ag (bv 2) ax))))) ax)))) (bv 3))
    (aE (qW (i:=4) rfl (by first | exact aq rfl | exact aY (aq rfl)) (em 6)))))))
   (aE (aS (em 4))))),λds Q h=>?_⟩
  obtain⟨m,G,sg,a,wi,rfl,hm,hG,hw,hR,hs,has,ha,q⟩:=h
  have dN:=(da hm).lo
  have m0:=cg m hm
  refine az λU hU=>?_
  walk_at"l3"
  refine⟨by decide,hU _ ?_⟩
  clear hU U
  refine az λU hU=>?_
  walk_at"l3"
  refine gu.mk (λi δ=>∃o5 o6,δ=[some (cF m),some (D.lst false (aB false G)),some (D.lst false (ak sg)),some (D.int a),some (D.lst true (aB true ((G.take i).map (jV m sg a)))),o5,o6]) ⟨_,_,rfl⟩ ?_ ?_
  ·rintro i d δ hd ⟨o5,o6,rfl⟩
   obtain⟨hi,rfl⟩:=UH hd
   clear hd hU
   obtain⟨rl,ra⟩:=hR _ (dv hi)
   refine az λU hU=>?_
   walk_at"l3"
   refine hU _ ?_
   clear hU
   refine az λU hU=>?_
   walk_at"l3"
   refine⟨_,a,rfl,by rw[uz (by omega) (by rw[eT];omega),dQ],?_⟩
   rw[show(ak G[i]).set a (D.int 0)=ak (G[i].set a 0) from vY _ _ 0]
   refine hU _ ?_
   clear hU
   have zl:AllLt (ae m) (G[i].set a 0):=λy hy=>by
    rcases u3 hy with h | h
    ·exact ra y h
    ·rw[h];omega
   have gd1:=Tv hm (G[i].set a 0) sg
   have ga:=mG hm (a:=0) (b:=gd m (G[i].set a 0) sg) (by omega) gd1
   refine az λU hU=>?_
   walk_at"l3"
   refine⟨m,G[i].set a 0,sg,rfl,hm,by rw[i7];omega,by rw[i7];omega,zl,has,rfl,m,0,gd m (G[i].set a 0) sg,rfl,m0,rfl,_,a,rfl,by rw[uz (by omega) (by rw[eT,i7];omega),dQ],?_⟩
   rw[ga.1,vY]
   refine hU _ ?_
   clear hU
   walk_at"l3"
   have et:aB true ((G.take i).map (jV m sg a))++[D.lst true (ak ((G[i].set a 0).set a (bW m 0 (gd m (G[i].set a 0) sg))))]=aB true ((G.take (i+1)).map (jV m sg a)):=by
    rw[lM,aL hi,ED,fY]
    exact vZ true _ [jV m sg a G[i]]
   exact⟨⟨_,rfl⟩,by rw[bG,eZ];omega,_,_,et,rfl,rfl⟩
  ·rintro δ ⟨o5,o6,rfl⟩
   refine hU _ ?_
   walk_at"l3"
   rw[pE]
   exact q
theorem Wd:∀(A B:List Nat) (i:Nat),A.take i=B.take i->∀(hi:i<A.length) (hj:i<B.length),A[i]≠B[i]->(iA A B↔A[i]<B[i])
 | [],_,_,_,hi,_,_=>nomatch hi
 | _::_,[],_,_,_,hj,_=>nomatch hj
 | a::A,b::B,0,_,_,_,hn=>⟨λh=>h.elim id λh=>absurd h.1 hn,.inl⟩
 | a::A,b::B,i+1,ht,hi,hj,hn=>by
  rw[Ze,Ze,pM]at ht
  have ih:=Wd A B i ht.2 (Zf hi) (Zf hj) hn
  exact⟨λh=>h.elim (λh=>absurd ht.1 (by omega)) λh=>ih.mp h.2,λh=>.inr ⟨ht.1,ih.mpr h⟩⟩
noncomputable abbrev aP2:bx:=λds Q=>∃(A B:List Nat),ds=[.lst false (ak A),.lst false (ak B)]/\A.length<=1000/\B.length<=1000/\∀b:Bool,(b=true↔A.length<B.length\/(A.length=B.length/\iA A B))->Q (.bl b)
theorem We(T:Txt K mg t):aP P w K mg base aZ 1 t.JF t.JG ["_law_one","_law_other"] (bA (aP2 )):=by
 refine bM T.Kz UQ ?_ ?_
 ·intro ds Q h
  obtain⟨A,B,rfl,hA,hB,q⟩:=h<;>rfl
 ·intro aI A outer s H E hr
  refine⟨_,(aA (cy (bR (g7 (cI hr)) (aa (eA (gw) (by rfl) T.gC gg (ag (bv 0) ax))) (aa (eA (gw) (by rfl) T.gC gg (ag (bv 1) ax))) (bK _)) (aE (aS (qe qL (aa (eA (gw) (by rfl) T.gC gg (ag (bv 0) ax))) (aa (eA (gw) (by rfl) T.gC gg (ag (bv 1) ax))) (bK _)))) cC)
   (aA (gJ fk rfl (zA rfl T.xW (ag (bv 0) (ag (bv 1) ax))) (jO (i1:=2) (i2:=3) rfl UQ.nd rfl (aq rfl) rfl (aq rfl))
    (aE (cy (bR (g7 (cI hr)) (bv 2) (bv 3) (bK _)) (aE (aS (qe qL (bv 2) (bv 3) (bK _)))) cC)))
   (aE (aS gj)))),λds Q h=>?_⟩
  obtain⟨A,B,rfl,hA,hB,q⟩:=h
  refine az λU hU=>?_
  walk_at"l3"
  by_cases hl:A.length=B.length
  ·rw[if_neg (by rw[decide_eq_true (by omega)];decide)]
   refine hU _ ?_
   clear hU U
   refine az λU hU=>?_
   walk_at"l3"
   refine⟨_,_,rfl,rfl,?_⟩
   refine gu.mk (λi δ=>A.take i=B.take i/\∃o2 o3,δ=[some (D.lst false (ak A)),some (D.lst false (ak B)),o2,o3]) ⟨rfl,_,_,rfl⟩ ?_ ?_
   ·rintro i d δ hd ⟨ht,o2,o3,rfl⟩
    obtain⟨hi,hj,rfl⟩:=Uq hd
    clear hd hU
    walk_at"l3"
    by_cases e:A[i]=B[i]
    ·rw[if_neg (by rw[decide_eq_true (by omega)];decide)]
     refine⟨?_,_,_,rfl,rfl⟩
     rw[lM,lM,ht,aL hi,aL hj,e]
    ·rw[if_pos (by rw[decide_eq_false (by omega)];decide)]
     refine q _ ?_
     rw[decide_eq_true_iff]
     have:=Wd A B i ht hi hj e
     exact⟨λh=>.inr ⟨hl,this.mpr (by omega)⟩,λh=>h.elim (by omega) λh=>by have:=this.mp h.2;omega⟩
   ·rintro δ ⟨ht,o2,o3,rfl⟩
    refine hU _ ?_
    walk_at"l3"
    refine q _ ⟨λh=>(nomatch h),λh=>h.elim (by omega) λh=>?_⟩
    rw[Ur,<- hl,yn,pE,hl,pE]at ht
    rw[ht]at h
    exact absurd h.2 (HR B)
  ·rw[if_pos (by rw[decide_eq_false (by omega)];decide)]
   refine q _ ?_
   rw[decide_eq_true_iff]
   exact⟨λh=>.inl (by omega),λh=>h.elim (by omega) λh=>absurd h.1 hl⟩
noncomputable abbrev aP3:bx:=λds Q=>∃i:Int,ds=[.int i]/\Q (.bl true)
theorem Wf(T:Txt K mg t):aP P w K mg base aZ 1 t.JH t.JI ["_law_x"] (bA (aP3 )):=by
 refine bM T.KA aO0 ?_ ?_
 ·intro ds Q h
  obtain⟨i,rfl,q⟩:=h<;>rfl
 ·intro aI A outer s H E hr
  refine⟨_,(aE (aS (vD (aa (zt (by rfl) T.Az (by rfl) T.VU Rc (bv 0))) (vp (RI (aa (zt (by rfl) T.Az (by rfl) T.dJ6 cu2 (bv 0)))))))),λds Q h=>?_⟩
  obtain⟨i,rfl,q⟩:=h
  walk_at"l3"
  exact q
noncomputable abbrev aK8:bx:=λds Q=>∃(l:List Nat) (w n:Nat),ds=[.lst false (ak l),.int w,.int n]/\l.length=w/\w<=1000/\AllLt n l/\Q (.bl true)
theorem Wg(T:Txt K mg t):aP P w K mg base aZ 2 t.JJ t.JK ["_law_row","_law_wide","_law_many_here"] (bA (aK8 )):=by
 refine bM T.KC aK0 ?_ ?_
 ·intro ds Q h
  obtain⟨l,w,n,rfl,hl,hw,ha,q⟩:=h<;>rfl
 ·intro aI A outer s H E hr
  refine⟨_,(aA (cy (PW.pt (nJ (mr (gr (aa (zt (by rfl) T.Az (by rfl) T.uH s9 (bv 0))))) (m8 (bR (g7 (cI hr)) (aa (eA (gw) (by rfl) T.gC gg (ag (bv 0) ax))) (bv 1) (bK _))))) (aE (aS gj)) cC)
   (aE (aS (eA (vL rfl) (by rfl) T.xU vA (ag (aa (dq [("_law_many_here",2)] ["_law_x"] rfl (gI (bv 0)) (λ_ _ _ _=>(cE (i:=1) (show(["_law_many_here","_law_x"]:List Str).Nodup by decide +kernel) rfl (aq (lookup_relabel_local rfl)) (by decide) (aY (lookup_relabel_local rfl)))) (λ_ _ _ _=>dG) (λ_ _ _ _=>(vD (aa (bh ((Wf T).mono (by decide)) hr rfl T.Vw T.KA.kp T.Vx aW (ag (bv 1) ax))) (vp (BR vJ qL (aa aw) (bv 1) (bv 0))))) rfl ⟨rfl,trivial⟩ (λ_=>by repeat' (first | exact trivial | refine⟨.inl rfl,?_⟩ | refine⟨.inr (.inl rfl),?_⟩ | refine⟨.inr (.inr ⟨_,rfl⟩),?_⟩)) (λ_=>⟨⟨rfl,.inl rfl,.inl rfl,_,rfl,rfl⟩,trivial⟩) rfl (by decide +kernel))) ax))))),λds Q h=>?_⟩
  obtain⟨l,w,n,rfl,hl,hw,ha,q⟩:=h
  refine az λU hU=>?_
  walk_at"l3"
  rw[if_neg (by rw[hl];simp)]
  refine hU _ ?_
  clear hU U
  walk_at"l3"
  refine eB l (λ(i:Nat)=>D.int (i:Int)) (λ_=>D.bl true) (rp l) gy (λi hi=>?_) (.inr λ_ _=>rfl) (by rw[sL];omega) ?_
  ·walk_at"l3"
   have:=ha i hi
   refine⟨i,rfl,true,rfl,?_⟩
   rw[if_pos rfl,if_pos (by omega)]
   omega
  ·refine⟨l.map λ_=>true,by unfold qO;rw[cH];rfl,?_⟩
   have e:(l.map λ_=>true).all id=true:=by simp
   rw[e];exact q
noncomputable abbrev aH1:bx:=λds Q=>∃(T:List (List Nat)) (r w n:Nat),ds=[.lst false (aB false T),.int r,.int w,.int n]/\T.length=r/\r<=1000/\w<=1000/\RT n w T/\Q (.bl true)
theorem aH2(T:Txt K mg t):aP P w K mg base aZ 3 t.JL t.JM ["_law_table_here","_law_rows","_law_wide","_law_many_here"] (bA (aH1 )):=by
 refine bM T.VA aE7 ?_ ?_
 ·intro ds Q h
  obtain⟨G,r,w,n,rfl,hG,hr,hw,hR,q⟩:=h<;>rfl
 ·intro aI A outer s H E hr
  refine⟨_,(aA (cy (PW.pt (nJ (mr (gr (aa (zt (by rfl) T.Az (by rfl) T.uH s9 (bv 0))))) (m8 (bR (g7 (cI hr)) (aa (eA (gw) (by rfl) T.gC gg (ag (bv 0) ax))) (bv 1) (bK _))))) (aE (aS gj)) cC)
   (aE (aS (eA (vL rfl) (by rfl) T.xU vA (ag (aa (dq [("_law_wide",2),("_law_many_here",3)] ["_law_row"] rfl (gI (bv 0)) (λ_ _ _ _=>(cE (i:=2) (show(["_law_wide","_law_many_here","_law_row"]:List Str).Nodup by decide +kernel) rfl (aq (lookup_relabel_local rfl)) (by decide) (aY (lookup_relabel_local rfl)))) (λ_ _ _ _=>dG) (λ_ _ _ _=>(bh ((Wg T).mono (by decide)) hr rfl T.Vy T.KC.kp T.Vz aW (ag (bv 2) (ag (bv 0) (ag (bv 1) ax))))) rfl ⟨rfl,⟨rfl,trivial⟩⟩ (λ_=>by repeat' (first | exact trivial | refine⟨.inl rfl,?_⟩ | refine⟨.inr (.inl rfl),?_⟩ | refine⟨.inr (.inr ⟨_,rfl⟩),?_⟩)) (λ_=>⟨⟨rfl,.inl rfl,.inl rfl,_,rfl,rfl⟩,⟨⟨rfl,.inl rfl,.inl rfl,_,rfl,rfl⟩,trivial⟩⟩) rfl (by decide +kernel))) ax))))),λds Q h=>?_⟩
  obtain⟨G,r,w,n,rfl,hG,hr,hw,hR,q⟩:=h
  refine az λU hU=>?_
  walk_at"l3"
  rw[if_neg (by rw[hG];simp)]
  refine hU _ ?_
  clear hU U
  walk_at"l3"
  refine eB G (λr=>D.lst false (ak r)) (λ_=>D.bl true) (by rw[eU];rfl) (λa b h=>mH a b h) (λl vm=>?_) (.inr λ_ _=>rfl) (by rw[sL];omega) ?_
  ·walk_at"l3"
   exact⟨l,w,n,rfl,(hR l vm).1,hw,(hR l vm).2,rfl⟩
  ·refine⟨G.map λ_=>true,by unfold qO;rw[cH];rfl,?_⟩
   have e:(G.map λ_=>true).all id=true:=by simp
   rw[e];exact q
noncomputable abbrev aH3:bx:=λds Q=>∃(m:Bool × Nat) (G V:List (List Nat)),ds=[cF m,.lst false (aB false G),.lst false (aB false V)]/\m∈aC/\0<G.length/\G.length<=64/\RT (ae m) (ai G) G/\ai G<=64/\V.length=ai G/\RT (ae m) G.length V/\(∀k,k<ai G->kj m (V.getD k []) G (ai G)=eX (ai G) k)/\Q (.bl true)
theorem aH4(T:Txt K mg t):aP P w K mg base aZ 4 t.JN t.JO ["_law_told_here","_law_table_here","_law_found"] (bA (aH3 )):=by
 refine bM T.VB Ic ?_ ?_
 ·intro ds Q h
  obtain⟨m,G,V,rfl,hm,gQ,hG,hR,hw,hV,K3,hu,q⟩:=h<;>rfl
 ·intro aI A outer s H E hr
  refine⟨_,(aA (bj (i:=3) Ic.nd rfl (aq rfl) (eA (gw) (by rfl) T.gC gg (ag (bB (bv 1) (aa aw) (λ_ _=>rfl)) ax)))
   (aA (cy (mr (gr (aa (bh ((aH2 T).mono (by decide)) hr rfl T.aI4 T.VA.kp T.aI5 aW (ag (bv 2) (ag (bv 3) (ag (aa (eA (gw) (by rfl) T.gC gg (ag (bv 1) ax))) (ag (aa (bh ((Df T).mono (by decide)) hr rfl T.CY T.Ae.kp T.CZ aW (ag (bv 0) ax))) ax)))))))) (aE (aS gj)) cC)
   (aA (gJ fk rfl (iO rfl T.fS (ag (bv 3) ax)) (cE (i:=4) Ic.nd rfl (aY rfl))
    (aE (cy (bR (g7 (cI hr)) (aa (bh ((V0 T).mono (by decide)) hr rfl T.Vg T.at2.kp T.Vh aW (ag (bv 0) (ag (bB (bv 2) (bv 4) (λ_ _=>rfl)) (ag (bv 1) (ag (bv 3) ax)))))) (aa (dq [("_law_k",4)] ["_law_i"] rfl (iO rfl T.fS (ag (bv 3) ax)) (λ_ _ _ _=>(cE (i:=1) (show(["_law_k","_law_i"]:List Str).Nodup by decide +kernel) rfl (aq (lookup_relabel_local rfl)) (by decide) (aY (lookup_relabel_local rfl)))) (λ_ _ _ _=>dG) (λ_ _ _ _=>(BS cF0 (by rfl) T.VU Rc (ag (aa (qe (fv (cI hr)) (bv 1) (bv 0) (bK _))) ax))) rfl ⟨rfl,trivial⟩ (λ_=>by repeat' (first | exact trivial | refine⟨.inl rfl,?_⟩ | refine⟨.inr (.inl rfl),?_⟩ | refine⟨.inr (.inr ⟨_,rfl⟩),?_⟩)) (λ_=>⟨⟨rfl,.inl rfl,.inl rfl,_,rfl,rfl⟩,trivial⟩) rfl (by decide +kernel))) (bK _)) (aE (aS gj)) cC)))
   (aE (aS gj))))),λds Q h=>?_⟩
  obtain⟨m,G,V,rfl,hm,gQ,hG,hR,hw,hV,K3,hu,q⟩:=h
  have dN:=(da hm).lo
  have Dg:=zT m hm
  refine az λU hU=>?_
  walk_at"l3"
  refine⟨.lst false (ak G[0]),rP false gQ,?_⟩
  dsimp only
  rw[eT,(hR _ (dv gQ)).1]
  refine hU _ ?_
  clear hU U
  refine az λU hU=>?_
  walk_at"l3"
  refine⟨m,rfl,by omega,by omega,?_⟩
  dsimp only
  refine⟨V,ai G,G.length,ae m,rfl,hV,by omega,by omega,K3,rfl,true,rfl,?_⟩
  rw[if_neg (by decide)]
  refine hU _ ?_
  clear hU U
  refine az λU hU=>?_
  walk_at"l3"
  refine⟨⟨by omega,by omega⟩,BV (λk δ=>∃o1:Option D,δ=[some (cF m),some (.lst false (aB false G)),some (.lst false (aB false V)),some (.int (ai G)),o1]) ⟨_,rfl⟩ ?_ ?_⟩
  ·rintro k δ hk ⟨o1,rfl⟩
   simp only[gN,jA,jz]
   clear hU
   have mJ:k<V.length:=by omega
   walk_at"l3"
   refine⟨.lst false (ak V[k]),rP false mJ,?_⟩
   obtain⟨vl,va⟩:=K3 _ (dv mJ)
   have Wh:=hu k hk
   rw[jS mJ]at Wh
   rw[jv]
   refine⟨m,V[k],G,ai G,rfl,hm,va,by omega,by omega,by omega,hR,?_⟩
   rw[Wh]
   refine⟨by rw[iW,iE],⟨by omega,by omega⟩,eB (aM (ai G)) (λ(i:Nat)=>D.int (i:Int)) (λj=>D.int (((if j=k then 1 else 0:Nat):Nat):Int)) (kX _ rfl) gy (λj hj=>?_) (.inr λ_ _=>rfl) (by rw[cK,sL];omega) ?_⟩
   ·walk_at"l3"
    by_cases e:j=k
    ·rw[if_pos e,if_pos (by omega)];rfl
    ·rw[if_neg e,if_neg (by omega)];rfl
   have e2:((aM (ai G)).map λj=>D.int (((if j=k then 1 else 0:Nat):Nat):Int))=ak (eX (ai G) k):=by unfold eX;rw[cu,cH];rfl
   rw[e2,uw,decide_eq_true rfl,if_neg (by decide)]
   exact⟨⟨rJ 5 true _,rJ 5 true _⟩,_,rfl⟩
  ·rintro δ ⟨o1,rfl⟩
   refine hU _ ?_
   walk_at"l3"
   exact q
noncomputable abbrev aP4:bx:=λds Q=>∃(T:List (List Nat)) (j:Nat),ds=[.lst false (aB false T),.int j]/\T.length<=1000/\(∀r∈T,j<r.length)/\Q (match jQ T j with | some i=>.int (i:Nat) | none=>.au)
theorem aP5(T:Txt K mg t):aP P w K mg base aZ 1 t.JP t.JQ ["rows","place"] (bA (aP4 )):=by
 refine bM T.VC UR ?_ ?_
 ·intro ds Q h
  obtain⟨G,j,rfl,hG,hr,q⟩:=h<;>rfl
 ·intro aI A outer s H E hr
  refine⟨_,(aA (gJ fk rfl (vO rfl T.xV (ag (bv 0) ax)) (jO (i1:=2) (i2:=3) rfl UR.nd rfl (aq rfl) rfl (aq rfl))
    (aE (cy (bR (g7 (cI hr)) (bB (bv 3) (bv 1) (λ_ _=>rfl)) (aa aw) (bK _)) (aE (aS (em 2))) cC)))
   (aE (aS mq))),λds Q h=>?_⟩
  obtain⟨G,j,rfl,hG,hr,q⟩:=h
  refine az λU hU=>?_
  walk_at"l3"
  refine gu.mk (λi δ=>∃o1 o2,δ=[some (D.lst false (aB false G)),some (D.int j),o1,o2]/\∀k,k<i->(G.getD k []).getD j 0=0) ⟨_,_,rfl,λk hk=>absurd hk (PJ k)⟩ ?_ ?_
  ·rintro i d δ hd ⟨o1,o2,rfl,hz⟩
   obtain⟨hi,rfl⟩:=TK hd
   have hj:=hr _ (dv hi)
   have eg:G.getD i []=G[i]:=by rw[aK,aL hi];rfl
   walk_at"l3"
   refine⟨.int (G[i].getD j 0:Nat),by rw[fR (by omega) (by omega),dQ],rfl,?_⟩
   rw[iS]
   by_cases h0:G[i].getD j 0=0
   ·rw[if_neg (by rw[h0];decide)]
    refine⟨_,_,⟨rfl,rfl⟩,λk hk=>?_⟩
    by_cases e:k=i
    ·rw[e,eg];exact h0
    ·exact hz k (by omega)
   ·rw[if_pos (by rw[decide_eq_false (by omega)];rfl)]
    have ef:jQ G j=some i:=by
     unfold jQ
     rw[Y3]
     refine⟨hi,by simpa using h0,λk hk=>?_⟩
     have:=hz k hk
     rw[aK (l:=G),aL (by omega)]at this
     simpa using this
    rw[ef]at q
    exact q
  ·rintro δ ⟨o1,o2,rfl,hz⟩
   refine hU _ ?_
   walk_at"l3"
   have ef:jQ G j=none:=by
    unfold jQ
    rw[Y4]
    intro r aX
    obtain⟨i,hi,rfl⟩:=fX aX
    have:=hz i (by rw[vN,lh];exact hi)
    rw[aK (l:=G),aL hi]at this
    simpa using this
   rw[ef]at q
   exact q
noncomputable abbrev Wi(K:Frag):bx:=λds Q=>∃(C:Addr) (p a:Nat) (xs:List Nat),ds=[zQ C p,.int a,.lst false (ak xs)]/\eN K C/\cP K C "products"/\p∈g9/\a<ae (true,p)/\(∀y∈xs,y<ae (true,p))/\xs.length<=1000/\Q (.lst true (ak (xs.map (gm (true,p) a))))
theorem aH5(T:Txt K mg t):aP P w K mg base aZ 1 t.JR t.JS ["self","a","row"] (bA (Wi K)):=by
 refine bM T.aI8 US ?_ ?_
 ·intro ds Q h
  obtain⟨C,p,a,xs,rfl,hC,hn,hp,ha,hy,hl,q⟩:=h<;>rfl
 ·intro aI A outer s H E hr
  refine⟨_,(aA (bj (i:=3) US.nd rfl (aY rfl) (df (bB (kW (K:=K) (bv 0)) (bv 1) (λ_ _=>rfl))))
   (aE (aS (dq [("by_a",3)] ["x"] rfl (gI (bv 2)) (λ_ _ _ _=>(cE (i:=1) (show(["by_a","x"]:List Str).Nodup by decide +kernel) rfl (aq (lookup_relabel_local rfl)) (by decide) (aY (lookup_relabel_local rfl)))) (λ_ _ _ _=>dG) (λ_ _ _ _=>(df (bB (bv 0) (bv 1) (λ_ _=>rfl)))) rfl ⟨rfl,trivial⟩ (λ_=>by repeat' (first | exact trivial | refine⟨.inl rfl,?_⟩ | refine⟨.inr (.inl rfl),?_⟩ | refine⟨.inr (.inr ⟨_,rfl⟩),?_⟩)) (λ_=>⟨⟨rfl,.inl rfl,.inl rfl,_,rfl,rfl⟩,trivial⟩) rfl (by decide +kernel))))),λds Q h=>?_⟩
  obtain⟨C,p,a,xs,rfl,hC,hn,hp,ha,hy,hl,q⟩:=h
  refine az λU hU=>?_
  walk_at"l3"
  refine⟨C,_,_,_,rfl,hC,hn,rfl,_,Hi hp ha,?_⟩
  refine⟨by rw[gh,mB];rfl,hU _ ?_⟩
  clear hU U
  walk_at"l3"
  refine eB xs (λ(i:Nat)=>D.int (i:Int)) (λx=>D.int ((gm (true,p) a x:Nat):Int)) (rp xs) gy (λx hx=>?_) (.inr λ_ _=>rfl) (by rw[sL];omega) ?_
  ·walk_at"l3"
   exact⟨_,Hh hp ha (hy x hx),rfl,rfl⟩
  ·rw[cu,cH]at q
   exact q
noncomputable abbrev Wj(K:Frag):bx:=λds Q=>∃(C:Addr) (p a:Nat) (xs:List Nat),ds=[vX C p,.int a,.lst false (ak xs)]/\eN K C/\cP K C "prime"/\0<p/\a<64/\(∀y∈xs,y<64)/\xs.length<=1000/\Q (.lst true (ak (xs.map (gm (false,p) a))))
theorem aC1(T:Txt K mg t):aP P w K mg base aZ 1 t.JT t.JU ["self","a","row"] (bA (Wj K)):=by
 refine bM T.aE1 UT ?_ ?_
 ·intro ds Q h
  obtain⟨C,p,a,xs,rfl,hC,hn,hp,ha,hy,hl,q⟩:=h<;>rfl
 ·intro aI A outer s H E hr
  refine⟨_,(aA (bj (i:=3) UT.nd rfl (aY rfl) (df (kW (K:=K) (bv 0))))
   (aE (aS (dq [("prime",3),("a",1)] ["x"] rfl (gI (bv 2)) (λ_ _ _ _=>(cE (i:=2) (show(["prime","a","x"]:List Str).Nodup by decide +kernel) rfl (aq (lookup_relabel_local rfl)) (by decide) (aY (lookup_relabel_local rfl)))) (λ_ _ _ _=>dG) (λ_ _ _ _=>(aG dy (aa (aG iQ (bv 1) (bv 2))) (bv 0))) rfl ⟨rfl,⟨rfl,trivial⟩⟩ (λ_=>by repeat' (first | exact trivial | refine⟨.inl rfl,?_⟩ | refine⟨.inr (.inl rfl),?_⟩ | refine⟨.inr (.inr ⟨_,rfl⟩),?_⟩)) (λ_=>⟨⟨rfl,.inl rfl,.inl rfl,_,rfl,rfl⟩,⟨⟨rfl,.inl rfl,.inl rfl,_,rfl,rfl⟩,trivial⟩⟩) rfl (by decide +kernel))))),λds Q h=>?_⟩
  obtain⟨C,p,a,xs,rfl,hC,hn,hp,ha,hy,hl,q⟩:=h
  refine az λU hU=>?_
  walk_at"l3"
  refine⟨C,_,_,.int p,rfl,hC,hn,rfl,rfl,hU _ ?_⟩
  clear hU U
  walk_at"l3"
  refine eB xs (λ(i:Nat)=>D.int (i:Int)) (λx=>D.int ((gm (false,p) a x:Nat):Int)) (rp xs) gy (λx hx=>?_) (.inr λ_ _=>rfl) (by rw[sL];omega) ?_
  ·have h2:=hy x hx
   walk_at"l3"
   refine⟨j8.ok (.inr ⟨by omega,by omega⟩),by omega,?_⟩
   show _=((a*x%p:Nat):Int)
   rw[sI,yx]
  ·rw[cu,cH]at q
   exact q
theorem Wk(T:Txt K mg t){m:Bool × Nat}(hm:m∈aC):∃C ns zs sp,fD t.aU t.aV m=.obj C ns zs/\uu P w K mg base 1 "scaled" C sp/\("scaled":Str) ∉ ns/\∀(xs:List Nat) (a:Nat) (Q:D->Prop),a<ae m->(∀y∈xs,y<ae m)->xs.length<=1000->Q (.lst true (ak (xs.map (gm m a))))->sp [.obj C ns zs,.int a,.lst false (ak xs)] Q:=by
 have hF:=da hm
 obtain⟨k,n⟩:=m
 cases k with
 | true=>exact⟨_,_,_,Wi K,rfl,⟨T.hJ,_,_,_,T.Am,aH5 T,T.aI9⟩,by decide,λxs a Q ha hy hl q=>⟨_,n,a,xs,rfl,T.hJ,T.se,zS hm,ha,hy,hl,q⟩⟩
 | false =>
  have uK:n<=64:=hF.hi
  have l2:2<=n:=hF.lo
  exact⟨_,_,_,Wj K,rfl,⟨T.i5,_,_,_,T.Av,aC1 T,T.aE2⟩,by decide,λxs a Q ha hy hl q=>⟨_,n,a,xs,rfl,T.i5,T.oY,by omega,cS (show a<n from ha) uK,λy h=>cS (show y<n from hy y h) uK,hl,q⟩⟩
noncomputable abbrev aV6(cb cp:Addr):bx:=λds Q=>∃(m:Bool × Nat) (T:List (List Nat)) (l:List Nat) (j:Nat),ds=[fD cb cp m,.lst false (aB false T),.lst false (ak l),.int j]/\m∈aC/\T.length<=1000/\AllLt (ae m) l/\(∀r∈T,j<r.length/\r.length<=1000/\AllLt (ae m) r)/\Q (.lst true (aB true (T.map λr=>eE (λx y=>bW m x (gm m (r.getD j 0) y)) r l)))
theorem Wl(T:Txt K mg t):aP P w K mg base aZ 2 t.JV t.JW ["field","rows","lead_row","place"] (bA (aV6 t.aU t.aV)):=by
 refine bM T.KD aU9 ?_ ?_
 ·intro ds Q h
  obtain⟨m,G,l,j,rfl,hm,hG,hl,hr,q⟩:=h<;>rfl
 ·intro aI A outer s H E hr
  refine⟨_,(aE (aS (dq [("lead_row",2),("field",0),("place",3)] ["row"] rfl (gI (bv 1)) (λ_ _ _ _=>(cE (i:=3) (show(["lead_row","field","place","row"]:List Str).Nodup by decide +kernel) rfl (aq (lookup_relabel_local rfl)) (by decide) (aY (lookup_relabel_local rfl)))) (λ_ _ _ _=>dG) (λ_ _ _ _=>(uv (P:=P) (w:=w) (K:=K) (mg:=mg) (base:=base) (n:=1) (bv 1) (hr.mono (by decide)) (ag (bv 3) (ag (bB (bv 3) (bv 2) (λ_ _=>rfl)) (ag (bv 0) ax))))) rfl ⟨rfl,⟨rfl,⟨rfl,trivial⟩⟩⟩ (λ_=>by repeat' (first | exact trivial | refine⟨.inl rfl,?_⟩ | refine⟨.inr (.inl rfl),?_⟩ | refine⟨.inr (.inr ⟨_,rfl⟩),?_⟩)) (λ_=>⟨⟨rfl,.inl rfl,.inl rfl,_,rfl,rfl⟩,⟨⟨rfl,.inl rfl,.inl rfl,_,rfl,rfl⟩,⟨⟨rfl,.inl rfl,.inl rfl,_,rfl,rfl⟩,trivial⟩⟩⟩) rfl (by decide +kernel)))),λds Q h=>?_⟩
  obtain⟨m,G,l,j,rfl,hm,hG,hl,hr,q⟩:=h
  walk_at"l3"
  refine eB G (λr=>D.lst false (ak r)) (λr=>D.lst true (ak (eE (λx y=>bW m x (gm m (r.getD j 0) y)) r l))) (by rw[eU];rfl) (λa b h=>mH a b h) (λr aX=>?_) (.inr λr _=>iW _) (by rw[sL];omega) ?_
  ·obtain⟨h1,h2,h3⟩:=hr r aX
   obtain⟨C,ns,zs,sp,e1,e2,e3,e4⟩:=V7 (P:=P) (w:=w) (base:=base) T hm
   walk_at"l3"
   refine⟨C,ns,zs,sp,e1,e2,e3,.int (r.getD j 0:Nat),by rw[fR (by omega) (by omega),dQ],e4 _ _ _ _ (h3.getD (by have:=(da hm).lo;omega) j) hl h2 ⟨rfl,rfl⟩⟩
  ·rw[aB,cH]at q
   exact q
noncomputable abbrev aV7(t:ka)(P:Program)(w:World)(K:Frag)(mg:Str->Option Value)(base:Heap):bx:=λds Q=>∃(m:Bool × Nat) (G:List (List Nat)),ds=[fD t.aU t.aV m,.lst false (aB false G)]/\m∈aC/\G.length<=900/\RT (ae m) (ai G) G/\ai G<=900/\Q (.lst true (aB true (bH m G)))
theorem Wm(T:Txt K mg t):aP P w K mg base aZ 3 t.JX t.JY ["field","table"] (bA (aV7 t P w K mg base)):=by
 refine bM T.KG r6 ?_ ?_
 ·intro ds Q h
  obtain⟨m,G,rfl,hm,hG,hR,hw,q⟩:=h<;>rfl
 ·intro aI A outer s H E hr
  refine⟨_,(aA (bj (i:=2) r6.nd rfl (aq rfl) (eR dF))
   (aA (bj (i:=3) r6.nd rfl (aq rfl) (df (bv 1)))
   (aA (gJ fk rfl (iO rfl T.fS (ag (aa (bh ((xY T).mono (by decide)) hr rfl T.xN T.uE.kp T.xO aW (ag (bv 1) ax))) ax)) (cE (i:=4) r6.nd rfl (aq rfl))
    (BK 3 (aA (bj (i:=5) r6.nd rfl (aq rfl) (bh ((aP5 T).mono (by decide)) hr rfl T.dG2 T.VC.kp T.dG3 aW (ag (bv 3) (ag (bv 4) ax))))
    (aE (cy (bR GD (bv 5) (aa mq) (bK _)) (aA (bj (i:=6) r6.nd rfl (aq rfl) (uv (P:=P) (w:=w) (K:=K) (mg:=mg) (base:=base) (n:=1) (bv 0) (hr.mono (by decide)) (ag (aa (Hj (P:=P) (w:=w) (K:=K) (mg:=mg) (base:=base) (n:=2) (bv 0) (hr.mono (by decide)) (ag (aa aw) (ag (bB (bB (bv 3) (bv 5) (λ_ _=>rfl)) (bv 4) (λ_ _=>rfl)) ax)))) (ag (bB (bv 3) (bv 5) (λ_ _=>rfl)) ax))))
     (aA (bj (i:=3) r6.nd rfl (aq rfl) (bh ((Wl T).mono (by decide)) hr rfl T.VD T.KD.kp T.VE aW (ag (bv 0) (ag (aa (aG dS (aa (mD (bv 3) kP (kQ (bv 5)))) (aa (mD (bv 3) (kQ (aa (aG dS (bv 5) (aa aw)))) kP)))) (ag (bv 6) (ag (bv 4) ax))))))
     (aE (bj (i:=2) r6.nd rfl (aq rfl) (cD4 (bh ((Wl T).mono (by decide)) hr rfl T.VD T.KD.kp T.VE aW (ag (bv 0) (ag (bv 2) (ag (bv 6) (ag (bv 4) ax))))) (eR (fu (em 6) dF))))))) cC)))))
   (aE (aS (em 2)))))),λds Q h=>?_⟩
  obtain⟨m,G,rfl,hm,hG,hR,hw,q⟩:=h
  have dN:=(da hm).lo
  refine az λU hU=>?_
  walk_at"l3"
  refine⟨by decide,hU _ ?_⟩
  clear hU U
  refine az λU hU=>?_
  walk_at"l3"
  refine hU _ ?_
  clear hU U
  refine az λU hU=>?_
  walk_at"l3"
  refine⟨G,rfl,by omega,λr aX=>?_,?_⟩
  ·rw[(hR r aX).1];omega
  refine⟨_,rfl,⟨by omega,by omega⟩,?_⟩
  refine BV (λk δ=>∃(o:Bool) (o1 o2 o3:Option D),δ=[some (fD t.aU t.aV m),some (D.lst false (aB false G)),some (D.lst true (aB true (jw m G k).1)),some (D.lst o (aB o (jw m G k).2)),o1,o2,o3]) ⟨false,none,none,none,rfl⟩ ?_ ?_
  ·rintro k δ hk ⟨o,o1,o2,o3,rfl⟩
   have I:=zX hm hR k
   rw[Ht]
   generalize jw m G k=s at I ⊢
   simp only[gN,nO,jA,jz,mZ,mY,sN,exists_eq_left',dO,eU]
   clear hU
   have il:=I.l
   refine az λU hU=>?_
   walk_at"l3"
   refine⟨s.2,k,rfl,by omega,λr aX=>by rw[(I.b r aX).1];omega,?_⟩
   cases e:jQ s.2 k with
   | none =>
    rw[show iz m s k=s by unfold iz;rw[e]]at hU
    refine hU _ ?_
    walk_at"l3"
    exact⟨false,_,_,_,⟨rfl,rfl⟩,rfl,rfl,rfl⟩
   | some i =>
    obtain⟨hi,h1,h2⟩:=Cw e
    have er:iz m s k=(gM m s.1 (dW m s.2 i k) k++[dW m s.2 i k],gM m (s.2.take i++s.2.drop (i+1)) (dW m s.2 i k) k):=by unfold iz;rw[e]
    rw[er]at hU
    refine hU _ ?_
    clear hU
    walk_at"l3"
    obtain⟨C,ns,xs,sp,e1,e2,e3,e4⟩:=Wk (P:=P) (w:=w) (base:=base) T hm
    refine az λU hU=>?_
    walk_at"l3"
    obtain⟨lw,lr⟩:=I.b _ (dv hi)
    have bk:=lr.getD (show 0<ae m by omega) k
    refine⟨C,ns,xs,sp,e1,e2,e3,_,_,_,_,rH _ _ m,KY T m,Hk m _ (by decide),.lst false (ak s.2[i]),rP false hi,?_⟩
    dsimp only
    refine⟨.int (s.2[i].getD k 0:Nat),by rw[fR (by omega) (by omega),dQ],m,1,s.2[i].getD k 0,by rw[rH];rfl,hm,dN,bk,λz=>absurd z h1,λ_ f hf Di=>⟨rfl,.lst false (ak s.2[i]),rP false hi,?_⟩⟩
    have ef:jR m (s.2[i].getD k 0)=f:=v7 hm hf Di
    rw[jv]
    refine e4 _ _ _ hf lr (by omega) ⟨by rw[iW,iE],hU _ ?_⟩
    have el:s.2[i].map (gm m f)=dW m s.2 i k:=by unfold dW;rw[h2,ef]
    rw[el]
    have ll:(dW m s.2 i k).length=ai G:=by rw[<-el,bG];exact lw
    have la:AllLt (ae m) (dW m s.2 i k):=λx hx=>by
     rw[<-el]at hx
     obtain⟨y,_,rfl⟩:=bO.mp hx
     exact bY hm _ _
    generalize dW m s.2 i k=ld at ll la ⊢
    clear hU
    refine az λU hU=>?_
    walk_at"l3"
    have K4:∀r∈s.2.take i++s.2.drop (i+1),r.length=ai G/\AllLt (ae m) r:=λr aX=>by
     rcases cJ.mp aX with h | h
     ·exact I.b r (pJ h)
     ·exact I.b r (pI h)
    have mR:∀X:List (List Nat),(D.lst true (aB true X)).fr=true:=λX=>by rw[fg,rN];rfl
    rw[zB,show((i:Int)+1)=((i+1:Nat):Int) by omega,vP,vZ,eU]
    refine⟨by rw[eZ,iD];omega,m,_,ld,k,rfl,hm,by rw[fN,eZ,iD];omega,la,λr aX=>⟨by rw[(K4 r aX).1];exact hk,by rw[(K4 r aX).1];omega,(K4 r aX).2⟩,mR _,hU _ ?_⟩
    clear hU
    walk_at"l3"
    refine⟨m,s.1,ld,k,rfl,hm,by omega,la,λr aX=>⟨by rw[(I.a r aX).1];exact hk,by rw[(I.a r aX).1];omega,(I.a r aX).2⟩,mR _,by decide,_,_,rfl,rfl,?_,true,_,_,_,vZ true _ [ld],⟨rfl,rfl⟩,rfl,rfl,rfl⟩
    rw[lh,bG]
    show s.1.length+1<=_
    omega
  ·rintro δ ⟨o,o1,o2,o3,rfl⟩
   refine hU _ ?_
   walk_at"l3"
   exact q
noncomputable abbrev cc4:bx:=λds Q=>∃T:List (List Nat),ds=[.lst false (aB false T)]/\T.length<=1000/\(∀r∈T,r.length<=1000/\∃x∈r,x≠0)/\Q (.lst true (ak (T.map aT)))
theorem K5(T:Txt K mg t):aP P w K mg base aZ 1 t.JZ t.J0 ["rows"] (bA (cc4 )):=by
 refine bM T.C2 b99 ?_ ?_
 ·intro ds Q h
  obtain⟨G,rfl,hG,hr,q⟩:=h<;>rfl
 ·intro aI A outer s H E hr
  refine⟨_,(aE (aS (dq [] ["row"] rfl (gI (bv 0)) (λ_ _ _ _=>(cE (i:=0) (show(["row"]:List Str).Nodup by decide +kernel) rfl (aq (lookup_relabel_local rfl)) (by decide) (aY (lookup_relabel_local rfl)))) (λ_ _ _ _=>dG) (λ_ _ _ _=>(df (bB (aa (dq [] ["place","x"] rfl (vO rfl T.xV (ag (bv 0) ax)) (λ_ _ _ _=>(jO (i1:=0) (i2:=1) rfl (show(["place","x"]:List Str).Nodup by decide +kernel) rfl (aq (lookup_relabel_local rfl)) rfl (aq (lookup_relabel_local rfl)) (by decide) (by decide) (aY (lookup_relabel_local rfl)) (aY (lookup_relabel_local rfl)))) (λ_ _ _ _=>(vG (bR (g7 (cI hr)) (bv 1) (aa aw) (bK _)))) (λ_ _ _ _=>(df (bv 0))) rfl trivial (λ_=>by repeat' (first | exact trivial | refine⟨.inl rfl,?_⟩ | refine⟨.inr (.inl rfl),?_⟩ | refine⟨.inr (.inr ⟨_,rfl⟩),?_⟩)) (λ_=>trivial) rfl (by decide +kernel))) (aa aw) (λ_ _=>rfl)))) rfl trivial (λ_=>by repeat' (first | exact trivial | refine⟨.inl rfl,?_⟩ | refine⟨.inr (.inl rfl),?_⟩ | refine⟨.inr (.inr ⟨_,rfl⟩),?_⟩)) (λ_=>trivial) rfl (by decide +kernel)))),λds Q h=>?_⟩
  obtain⟨G,rfl,hG,hr,q⟩:=h
  walk_at"l3"
  refine eB G (λr=>D.lst false (ak r)) (λr=>D.int (aT r:Nat)) (by rw[eU];rfl) (λa b h=>mH a b h) (λr aX=>?_) (.inr λr _=>rfl) (by rw[sL];omega) ?_
  ·obtain⟨h1,x,hx,h3⟩:=hr r aX
   walk_at"l3"
   refine uA (aM r.length) (λ(i:Nat)=>D.tup [.int (i:Int),.int ((r.getD i 0:Nat):Int)]) (λ(i:Nat)=>D.int (i:Int)) (λi=>r.getD i 0 != 0) (TL r) (λa b h=>by injection h with h;simp at h;omega) (λi hi=>?_) (.inr λ_ _ _=>rfl) (by rw[cK,sL];omega) ?_
   ·walk_at"l3"
    refine⟨?_,λ_=>trivial⟩
    by_cases h0:r.getD i 0=0
    ·rw[h0];rfl
    ·rw[decide_eq_false (by omega),bne_iff_ne.mpr h0];rfl
   ·refine⟨.int (aT r:Nat),L3.Bv (k:=0) ?_,rfl,rfl⟩
    rw[bZ,TM ⟨x,hx,h3⟩];rfl
  ·rw[cu,cH]at q
   exact q
noncomputable abbrev aU5:bx:=λds Q=>∃w p:Nat,ds=[.int w,.int p]/\w<=1000/\Q (.lst true (ak (eX w p)))
theorem aU6(T:Txt K mg t):aP P w K mg base aZ 1 t.J1 t.J2 ["width","place"] (bA (aU5 )):=by
 refine bM T.VH aT0 ?_ ?_
 ·intro ds Q h
  obtain⟨w,p,rfl,hw,q⟩:=h<;>rfl
 ·intro aI A outer s H E hr
  refine⟨_,(aE (aS (dq [("place",1)] ["j"] rfl (iO rfl T.fS (ag (bv 0) ax)) (λ_ _ _ _=>(cE (i:=1) (show(["place","j"]:List Str).Nodup by decide +kernel) rfl (aq (lookup_relabel_local rfl)) (by decide) (aY (lookup_relabel_local rfl)))) (λ_ _ _ _=>dG) (λ_ _ _ _=>(RJ (bR (fv (cI hr)) (bv 1) (bv 0) (bK _)) aw aw)) rfl ⟨rfl,trivial⟩ (λ_=>by repeat' (first | exact trivial | refine⟨.inl rfl,?_⟩ | refine⟨.inr (.inl rfl),?_⟩ | refine⟨.inr (.inr ⟨_,rfl⟩),?_⟩)) (λ_=>⟨⟨rfl,.inl rfl,.inl rfl,_,rfl,rfl⟩,trivial⟩) rfl (by decide +kernel)))),λds Q h=>?_⟩
  obtain⟨w,p,rfl,hw,q⟩:=h
  walk_at"l3"
  refine⟨⟨by omega,by omega⟩,eB (aM w) (λ(i:Nat)=>D.int (i:Int)) (λj=>D.int (((if j=p then 1 else 0:Nat):Nat):Int)) (kX _ rfl) gy (λj hj=>?_) (.inr λ_ _=>rfl) (by rw[cK,sL];omega) ?_⟩
  ·walk_at"l3"
   by_cases h:j=p
   ·rw[if_pos (by omega),if_pos h];rfl
   ·rw[if_neg (by omega),if_neg h];rfl
  ·unfold eX at q
   rw[cu,cH]at q
   exact q
noncomputable def K6:Option (List (List Nat))->D
 | some V=>.lst true (aB true V)
 | none=>.au
theorem ce9(G:List (List Nat)):(gx (aB false G)).map D.sh=(aM G.length).map λ(i:Nat)=>D.tup [.int (i:Int),.lst false (ak (G.getD i []))]:=by
 apply yo
 intro i
 unfold gx aB
 rw[bZ,uY,bZ,bZ]
 by_cases hi:i<G.length
 ·rw[aL hi,gU hi]
  show some (D.tup [D.int (i:Int),D.lst false (ak G[i])]).sh=some (D.tup [D.int (i:Int),D.lst false (ak (G.getD i []))])
  rw[jS hi,jJ]
  simp only[dB,jY,kS,jv]
 ·rw[fF (show G.length<=i by omega),fF (show(aM G.length).length<=i by simpa using hi)];rfl
theorem ca9(G:List (List Nat)):aB true (cR G)=(aM G.length).map λi=>D.lst true (ak (G.getD i []++eX G.length i)):=by
 apply yo
 intro i
 unfold aB cR
 rw[bZ,uY,bZ]
 by_cases hi:i<G.length
 ·rw[aL hi,gU hi]
  show some (D.lst true (ak (G[i]++eX G.length i)))=some (D.lst true (ak (G.getD i []++eX G.length i)))
  rw[jS hi]
 ·rw[fF (show G.length<=i by omega),fF (show(aM G.length).length<=i by simpa using hi)];rfl
noncomputable abbrev aU7(t:ka)(P:Program)(w:World)(K:Frag)(mg:Str->Option Value)(base:Heap):bx:=λds Q=>∃(m:Bool × Nat) (G:List (List Nat)),ds=[fD t.aU t.aV m,.lst false (aB false G)]/\m∈aC/\0<G.length/\G.length<=64/\RT (ae m) (ai G) G/\ai G<=64/\Q (K6 (we m G))
theorem aU8(T:Txt K mg t):aP P w K mg base aZ 4 t.J3 t.J4 ["field","table"] (bA (aU7 t P w K mg base)):=by
 refine bM T.VI CS ?_ ?_
 ·intro ds Q h
  obtain⟨m,G,rfl,hm,gQ,hG,hR,hw,q⟩:=h<;>rfl
 ·intro aI A outer s H E hr
  refine⟨_,(aA (bj (i:=2) CS.nd rfl (aY rfl) (bh ((xY T).mono (by decide)) hr rfl T.xN T.uE.kp T.xO aW (ag (bv 1) ax)))
   (aA (CA (i:=3) CS.nd rfl (aq rfl) [("table",1)] ["i","row"] rfl (vO rfl T.xV (ag (bv 1) ax)) (λ_ _ _ _=>(jO (i1:=1) (i2:=2) rfl (show(["table","i","row"]:List Str).Nodup by decide +kernel) rfl (aq (lookup_relabel_local rfl)) rfl (aq (lookup_relabel_local rfl)) (by decide) (by decide) (aY (lookup_relabel_local rfl)) (aY (lookup_relabel_local rfl)))) (λ_ _ _ _=>dG) (λ_ _ _ _=>(aG dS (bv 2) (aa (bh ((aU6 T).mono (by decide)) hr rfl T.dG8 T.VH.kp T.dG9 aW (ag (aa (eA (gw) (by rfl) T.gC gg (ag (bv 0) ax))) (ag (bv 1) ax)))))) rfl ⟨rfl,trivial⟩ (λ_=>by repeat' (first | exact trivial | refine⟨.inl rfl,?_⟩ | refine⟨.inr (.inl rfl),?_⟩ | refine⟨.inr (.inr ⟨_,rfl⟩),?_⟩)) (λ_=>⟨⟨rfl,.inl rfl,.inl rfl,_,rfl,rfl⟩,trivial⟩) rfl (by decide +kernel))
   (aA (bj (i:=4) CS.nd rfl (aq rfl) (b79 (bh ((Wm T).mono (by decide)) hr rfl T.VF T.KG.kp T.VG aW (ag (bv 0) (ag (bv 3) ax))) kP (kQ (bv 2))))
   (aA (cy (bR (g7 (cI hr)) (aa (bh ((K5 T).mono (by decide)) hr rfl T.KH T.C2.kp T.KI aW (ag (bv 4) ax))) (aa (bI5 rfl (by rfl) T.uH (by rfl) T.fS (bv 2))) (bK _)) (aE (aS mq)) cC)
   (aE (aS (dq [("width",2)] ["row"] rfl (gI (bv 4)) (λ_ _ _ _=>(cE (i:=1) (show(["width","row"]:List Str).Nodup by decide +kernel) rfl (aq (lookup_relabel_local rfl)) (by decide) (aY (lookup_relabel_local rfl)))) (λ_ _ _ _=>dG) (λ_ _ _ _=>(mD (bv 1) (kQ (bv 0)) kP)) rfl ⟨rfl,trivial⟩ (λ_=>by repeat' (first | exact trivial | refine⟨.inl rfl,?_⟩ | refine⟨.inr (.inl rfl),?_⟩ | refine⟨.inr (.inr ⟨_,rfl⟩),?_⟩)) (λ_=>⟨⟨rfl,.inl rfl,.inl rfl,_,rfl,rfl⟩,trivial⟩) rfl (by decide +kernel)))))))),λds Q h=>?_⟩
  obtain⟨m,G,rfl,hm,gQ,hG,hR,hw,q⟩:=h
  have dN:=(da hm).lo
  have mR:∀X:List (List Nat),(D.lst true (aB true X)).fr=true:=λX=>by rw[fg,rN];rfl
  obtain⟨b1,b2⟩:=CJ (show 1<ae m by omega) gQ hR
  have b3:=b2
  rw[<-b1]at b3
  obtain⟨⟨Hd,I⟩,iR,il,sp⟩:=mK hm b3
  rw[uB]at il
  refine az λU hU=>?_
  walk_at"l3"
  refine⟨G,rfl,by omega,λr aX=>by rw[(hR r aX).1];omega,hU _ ?_⟩
  clear hU U
  refine az λU hU=>?_
  walk_at"l3"
  refine To (aM G.length) (λ(i:Nat)=>D.tup [.int (i:Int),.lst false (ak (G.getD i []))]) (λi=>D.lst true (ak (G.getD i []++eX G.length i))) (ce9 G) (λa b h=>?_) (λi hi=>?_) Tp (.inr λz _=>iW _) (by rw[cK,sL];omega) ?_
  ·injection h with h
   simp only[pM,D.int.injEq]at h
   omega
  ·have hi:=cV.mp hi
   have hl:=(hR _ (bN hi [])).1
   walk_at"l3"
   refine⟨G.length,i,rfl,by omega,?_⟩
   dsimp only
   exact⟨⟨by rw[eT,eT,z7];omega,jP _,jP _⟩,rq _ _⟩
  rw[<-ca9]
  refine hU _ ?_
  clear hU U
  refine az λU hU=>?_
  walk_at"l3"
  refine⟨m,cR G,rfl,hm,by rw[uB];omega,b3,by omega,mR _,_,rfl,?_⟩
  rw[rO,zB]
  unfold we at q
  refine hU _ ?_
  clear hU U
  have Wn:RT (ae m) (ai G+G.length) ((bH m (cR G)).take (ai G)):=λr aX=>by rw[<-b1];exact iR r (pJ aX)
  have hn:∀r∈(bH m (cR G)).take (ai G),∃x∈r,x≠0:=λr aX=>by
   obtain⟨i,hi,rfl⟩:=fX (pJ aX)
   have:=(I.wa hm iR hi).2
   rw[jS hi]at this
   exact this
  have lR:((bH m (cR G)).take (ai G)).length<=64:=by rw[eZ];omega
  generalize (bH m (cR G)).take (ai G)=R at q Wn hn lR
  refine az λU hU=>?_
  walk_at"l3"
  refine⟨R,rfl,by omega,λr aX=>⟨by rw[(Wn r aX).1];omega,hn r aX⟩,iW _,ai G,rfl,by omega,rJ 5 true _,?_⟩
  rw[uw]
  by_cases c:R.map aT=aM (ai G)
  ·rw[decide_eq_true c,if_neg (by decide)]
   rw[if_pos c]at q
   refine hU _ ?_
   walk_at"l3"
   refine eB R (λr=>D.lst false (ak r)) (λr=>D.lst true (ak (r.drop (ai G)))) (by rw[eU];rfl) (λa b h=>mH a b h) (λr aX=>?_) (.inr λr _=>iW _) (by rw[sL];omega) ?_
   ·walk_at"l3"
    rw[vP]
   ·have e:K6 (some (R.map λr=>r.drop (ai G)))=.lst true (R.map λr=>D.lst true (ak (r.drop (ai G)))):=by
     show D.lst true (aB true _)=_
     unfold aB
     rw[cH];rfl
    rw[e]at q
    exact q
  ·rw[decide_eq_false c,if_pos (by decide)]
   rw[if_neg c]at q
   exact q
theorem ca6{m:Bool × Nat}(hm:m∈aC){w:Nat}{T:List (List Nat)}{F:List Nat}(hT:RT (ae m) w T)(Ab:T≠[])(I:kn m (di T) F):ai (bS T F)=F.length/\cG (bH m (bS T F)) (ai (bS T F))=[]:=by
 have dN:=lo1 hm
 obtain⟨p1,p2⟩:=Aa (F:=F) (by omega) hT
 have pn:bS T F≠[]:=λz=>Ab (by unfold bS at z;exact PR.mp z)
 have eW:=wc p1 pn
 rw[<-eW]at p1
 refine⟨eW,Px.mpr λf fm=>?_⟩
 obtain⟨⟨H,I'⟩,iR,il,sp⟩:=mK hm p1
 obtain⟨k1,k2,k3,_⟩:=by4 hm iR I' fm
 have fl:f<F.length:=by
  have:=cV.mp (ku.mp fm).1
  omega
 have:=I (cf (dH m (bH m (bS T F)) (ai (bS T F)) f)) (dA hm k2) (λk=>by
  by_cases hk:k<T.length
  ·have:=Um hm p1 fm _ (bN (show k<(bS T F).length by omega) [])
   rw[eW]at this ⊢
   rw[HX m hk]at this
   exact this
  ·refine eH (rg hm) λt _=>?_
   have e:di T (F.getD t 0) k=0:=by
    unfold di
    rw[show T.getD k []=[] by rw[aK,fF (by omega)];rfl];rfl
   rw[e,iV m _ (cg m hm)]) f fl
 rw[k3]at this
 cases this
noncomputable abbrev aS7(t:ka)(P:Program)(w:World)(K:Frag)(mg:Str->Option Value)(base:Heap):bx:=λds Q=>∃(m:Bool × Nat) (G:List (List Nat)) (S:List Nat),ds=[cF m,fD t.aU t.aV m,.lst false (aB false G),.lst false (ak S),uL (eY m G)]/\m∈aC/\0<G.length/\G.length<=64/\RT (ae m) (ai G) G/\0<ai G/\ai G<=6/\dr (ai G) S/\Q (.bl true)
theorem aS8(T:Txt K mg t):aP P w K mg base aZ 5 t.J5 t.J6 ["_law_told_here","_law_field_here","_law_table_here","_law_places_here","_law_found"] (bA (aS7 t P w K mg base)):=by
 refine bM T.VJ UU ?_ ?_
 ·intro ds Q h
  obtain⟨m,G,S,rfl,hm,gQ,hG,hR,i6,hw,hS,q⟩:=h<;>rfl
 ·intro aI A outer s H E hr
  refine⟨_,(aA (cy (PW.pt (nJ (bR (fv (cI hr)) (bv 3) (aa (eR dF)) (bK _)) (m8 (PW.pt (BH (bR GD (bv 4) (aa mq) (bK _)) (E6 (mr (gr (aa (bh ((We T).mono (by decide)) hr rfl T.Vu T.Kz.kp T.Vv aW (ag (bv 3) (ag (bv 4) ax)))))))))))) (aE (aS gj)) cC)
   (aA (CA (i:=5) UU.nd rfl (aq rfl) [("_law_places_here",3)] ["_law_row"] rfl (gI (bv 2)) (λ_ _ _ _=>(cE (i:=1) (show(["_law_places_here","_law_row"]:List Str).Nodup by decide +kernel) rfl (aY rfl) (by decide) (aq rfl))) (λ_ _ _ _=>dG) (by exact λ_ _ _ _=>(dq [("_law_row",1)] ["_law_k"] rfl (gI (bv 0)) (λ_ _ _ _=>(cE (i:=1) (show(["_law_row","_law_k"]:List Str).Nodup by decide +kernel) rfl (aq (lookup_relabel_local rfl)) (by decide) (aY (lookup_relabel_local rfl)))) (λ_ _ _ _=>dG) (λ_ _ _ _=>(df (bB (bv 0) (bv 1) (λ_ _=>rfl)))) rfl ⟨rfl,trivial⟩ (λ_=>by repeat' (first | exact trivial | refine⟨.inl rfl,?_⟩ | refine⟨.inr (.inl rfl),?_⟩ | refine⟨.inr (.inr ⟨_,rfl⟩),?_⟩)) (λ_=>⟨⟨rfl,.inl rfl,.inl rfl,_,rfl,rfl⟩,trivial⟩) rfl (by decide +kernel))) rfl ⟨rfl,trivial⟩ (λ_=>by repeat' (first | exact trivial | refine⟨.inl rfl,?_⟩ | refine⟨.inr (.inl rfl),?_⟩ | refine⟨.inr (.inr ⟨_,rfl⟩),?_⟩)) (λ_=>⟨⟨rfl,.inl rfl,.inl rfl,_,rfl,rfl⟩,trivial⟩) rfl (by decide +kernel))
   (aE (aS (bh ((aH4 T).mono (by decide)) hr rfl T.aI6 T.VB.kp T.aI7 aW (ag (bv 0) (ag (bv 5) (ag (aa (bh ((aU8 T).mono (by decide)) hr rfl T.dH0 T.VI.kp T.dH1 aW (ag (bv 1) (ag (aa (bh ((V2 T).mono (by decide)) hr rfl T.Vj T.Kx.kp T.Vk aW (ag (bv 5) ax))) ax)))) ax)))))))),λds Q h=>?_⟩
  obtain⟨m,G,S,rfl,hm,gQ,hG,hR,i6,hw,hS,q⟩:=h
  have dN:=(da hm).lo
  have Dg:=zT m hm
  have sl:=hS.len
  refine az λU hU=>?_
  walk_at"l3"
  have fin:S≠[]->kn m (di G) S->U [some (cF m),some (fD t.aU t.aV m),some (D.lst false (aB false G)),some (D.lst false (ak S)),some (uL (eY m G)),none]:=by
   intro s0 I
   have hGn:G≠[]:=λz=>by rw[z]at gQ;cases gQ
   obtain⟨eW,ef⟩:=ca6 hm hR hGn I
   obtain⟨p1,p2⟩:=Aa (F:=S) (show 0<ae m by omega) hR
   rw[<-eW]at p1
   obtain⟨V,eV⟩:=cg6 hm (by omega) p1 ef
   obtain⟨v1,v2,v3,_⟩:=cf6 hm (by omega) p1 eV
   refine hU _ ?_
   clear hU U
   refine az λU hU=>?_
   walk_at"l3"
   refine eB G (λr=>D.lst false (ak r)) (λr=>D.lst true (ak (S.map λj=>r.getD j 0))) (by rw[eU];rfl) (λa b h=>mH a b h) (λr aX=>?_) (.inr λr _=>iW _) (by rw[sL];omega) ?_
   ·have hl:=(hR r aX).1
    walk_at"l3"
    refine eB S (λ(i:Nat)=>D.int (i:Int)) (λ(j:Nat)=>D.int ((r.getD j 0:Nat):Int)) (rp _) gy (λj hj=>?_) (.inr λ_ _=>rfl) (by rw[sL];omega) ?_
    ·have:=hS.2 j hj
     walk_at"l3"
     exact⟨.int (r.getD j 0:Nat),by rw[fR (by omega) (by omega),dQ],rfl,rfl⟩
    ·rw[cu,cH];rfl
   rw[show(G.map λr=>D.lst true (ak (S.map λj=>r.getD j 0)))=aB true (bS G S) by unfold bS aB;rw[cH];rfl]
   refine hU _ ?_
   clear hU U
   have mR:∀X:List (List Nat),(D.lst true (aB true X)).fr=true:=λX=>by rw[fg,rN];rfl
   walk_at"l3"
   refine⟨bS G S,rfl,by omega,mR _,m,bS G S,by rw[dO,eU],hm,by omega,by omega,p1,by omega,?_⟩
   rw[eV,show K6 (some V)=D.lst true (aB true V) from rfl]
   exact⟨by rw[mR,iE],m,bS G S,V,by rw[dO,eU],hm,by omega,by omega,p1,by omega,v1,v2,v3,rfl,q⟩
  refine⟨by decide,rfl,?_⟩
  by_cases s0:S=[]
  ·rw[if_pos (by rw[s0];rfl)]
   exact q
  have d0:bL (D.lst false (ak S)) (D.lst true [])=false:=by
   cases S with
   | nil=>exact absurd rfl s0
   | cons a F=>rfl
  rw[if_neg (by rw[d0];decide)]
  cases e:eY m G with
  | none =>
   rw[e]at fin
   rw[if_neg (by decide)]
   exact fin s0 (UJ hm i6 hR e S hS)
  | some F =>
   rw[e]at fin
   obtain⟨a1,a2,_,a4⟩:=rY hm i6 hR e
   have fl:=a1.len
   show(if(!false)=true then _ else _)
   rw[if_pos (by decide)]
   refine⟨S,F,by rw[show(uL (some F)).sh=.lst false (ak F) from jv _ _],by omega,by omega,λb hb=>⟨by show(_||true)=true;rw[iE],b,rfl,?_⟩⟩
   cases b with
   | false=>exact q
   | true=>exact fin s0 (a4 S hS (hb.mp rfl))
noncomputable abbrev aN3:bx:=λds Q=>∃(T:List (List Nat)) (w:Nat),ds=[.lst false (aB false T),.int w]/\T.length<=1000/\w<=1000/\(∀r∈T,r.length<=1000/\∃x∈r,x≠0)/\Q (.lst true (ak (cG T w)))
theorem aN4(T:Txt K mg t):aP P w K mg base aZ 2 t.J7 t.J8 ["rows","width"] (bA (aN3 )):=by
 refine bM T.VL UW ?_ ?_
 ·intro ds Q h
  obtain⟨G,w,rfl,hG,hw,hr,q⟩:=h<;>rfl
 ·intro aI A outer s H E hr
  refine⟨_,(aA (bj (i:=2) UW.nd rfl (aY rfl) (bh ((K5 T).mono (by decide)) hr rfl T.KH T.C2.kp T.KI aW (ag (bv 0) ax)))
   (aE (aS (dq [("taken",2)] ["place"] rfl (iO rfl T.fS (ag (bv 1) ax)) (λ_ _ _ _=>(cE (i:=1) (show(["taken","place"]:List Str).Nodup by decide +kernel) rfl (aq (lookup_relabel_local rfl)) (by decide) (aY (lookup_relabel_local rfl)))) (λ_ _ _ _=>(vG (bR cy7 (bv 1) (bv 0) (by with_unfolding_all rfl)))) (λ_ _ _ _=>(df (bv 1))) rfl ⟨rfl,trivial⟩ (λ_=>by repeat' (first | exact trivial | refine⟨.inl rfl,?_⟩ | refine⟨.inr (.inl rfl),?_⟩ | refine⟨.inr (.inr ⟨_,rfl⟩),?_⟩)) (λ_=>⟨⟨rfl,.inl rfl,.inl rfl,_,rfl,rfl⟩,trivial⟩) rfl (by decide +kernel))))),λds Q h=>?_⟩
  obtain⟨G,w,rfl,hG,hw,hr,q⟩:=h
  refine az λU hU=>?_
  walk_at"l3"
  refine⟨G,rfl,hG,hr,?_⟩
  refine hU _ ?_
  clear hU U
  walk_at"l3"
  refine⟨⟨by omega,by omega⟩,uA (aM w) (λ(i:Nat)=>D.int (i:Int)) (λ(i:Nat)=>D.int (i:Int)) (λj=>!(G.map aT).contains j) (kX _ rfl) gy (λj hj=>?_) (.inr λ_ _ _=>rfl) (by rw[cK,sL];omega) ?_⟩
  ·walk_at"l3"
   exact⟨_,rfl,by rw[b82],λ_=>trivial⟩
  ·rw[cu]at q
   exact q
noncomputable abbrev Wo:bx:=λds Q=>∃(d:D) (a b:Nat),ds=[d,.int a,.int b]/\Q (.int (a ^^^ b:Nat))
theorem aJ1(T:Txt K mg t):aP P w K mg base aZ 1 t.J9 t.Ka ["self","a","b"] (bA (Wo )):=by
 refine bM T.aK3 aI1 ?_ ?_
 ·intro ds Q h
  obtain⟨d,a,b,rfl,q⟩:=h<;>rfl
 ·intro aI A outer s H E hr
  refine⟨_,(aE (aS (aG vI (bv 1) (bv 2)))),λds Q h=>?_⟩
  obtain⟨d,a,b,rfl,q⟩:=h
  walk_at"l3"
  rw[nu];exact q
noncomputable abbrev Wq(K:Frag):bx:=λds Q=>∃(C:Addr) (p:Nat) (a b:Int),ds=[vX C p,.int a,.int b]/\eN K C/\cP K C "prime"/\0<p/\Q (.int ((a-b)%p))
theorem aE4(T:Txt K mg t):aP P w K mg base aZ 1 t.Kb t.Kd ["self","a","b"] (bA (Wq K)):=by
 refine bM T.aG1 aD8 ?_ ?_
 ·intro ds Q h
  obtain⟨C,p,a,b,rfl,hC,hn,hp,q⟩:=h<;>rfl
 ·intro aI A outer s H E hr
  refine⟨_,(aE (aS (aG dy (aa (aG iq (bv 1) (bv 2))) (kW (K:=K) (bv 0))))),λds Q h=>?_⟩
  obtain⟨C,p,a,b,rfl,hC,hn,hp,q⟩:=h
  walk_at"l3"
  refine⟨C,_,_,.int p,rfl,hC,hn,rfl,?_⟩
  exact⟨by omega,q⟩
theorem cv4(T:Txt K mg t){m:Bool × Nat}(h0:0<m.2):∃C ns xs sp,fD t.aU t.aV m=.obj C ns xs/\uu P w K mg base 1 "minus" C sp/\("minus":Str) ∉ ns/\∀(a b:Nat) (Q:D->Prop),Q (.int (gl m a b))->sp [.obj C ns xs,.int a,.int b] Q:=by
 obtain⟨k,n⟩:=m
 cases k with
 | true=>exact⟨_,_,_,Wo,rfl,⟨T.hJ,_,_,_,T.Ak,aJ1 T,T.aK4⟩,by decide,λa b Q q=>⟨_,a,b,rfl,q⟩⟩
 | false=>exact⟨_,_,_,Wq K,rfl,⟨T.i5,_,_,_,T.As,aE4 T,T.aG2⟩,by decide,λa b Q q=>⟨_,n,a,b,rfl,T.i5,T.oY,h0,q⟩⟩
noncomputable abbrev aC2(cb cp:Addr):bx:=λds Q=>∃(m:Bool × Nat) (T:List (List Nat)) (w:Nat),ds=[fD cb cp m,.lst false (aB false T),.int w]/\m∈aC/\T.length<=1000/\w<=1000/\RT (ae m) w T/\(∀r∈T,∃x∈r,x≠0)/\Q (.lst true (aB true (CG m T w)))
theorem aC3(T:Txt K mg t):aP P w K mg base aZ 3 t.Ke t.Kf ["field","rows","width"] (bA (aC2 t.aU t.aV)):=by
 refine bM T.VM xF ?_ ?_
 ·intro ds Q h
  obtain⟨m,G,wi,rfl,hm,hG,hw,hR,hr,q⟩:=h<;>rfl
 ·intro aI A outer s H E hr
  refine⟨_,(aA (bj (i:=3) xF.nd rfl (aq rfl) (bh ((K5 T).mono (by decide)) hr rfl T.KH T.C2.kp T.KI aW (ag (bv 1) ax)))
   (aA (bj (i:=4) xF.nd rfl (aq rfl) (eR dF))
   (BK 3 (aA (gJ fk rfl (BN (bh ((aN4 T).mono (by decide)) hr rfl T.dH4 T.VL.kp T.dH5 aW (ag (bv 1) (ag (bv 2) ax)))) (cE (i:=5) xF.nd rfl (aq rfl))
    (aA (bj (i:=6) xF.nd rfl (aq rfl) (aG iQ (aa (eR (fu aw dF))) (bv 2)))
    (aA (tJ (i:=6) rfl (by first | exact aq rfl | exact aY (aq rfl)) aw (bv 5))
    (aA (gJ fk rfl (zA rfl T.xW (ag (bv 3) (ag (bv 1) ax))) (jO (i1:=7) (i2:=8) rfl xF.nd rfl (aq rfl) rfl (aq rfl))
     (aE (tJ (i:=6) rfl (by first | exact aq rfl | exact aY (aq rfl)) (uv (P:=P) (w:=w) (K:=K) (mg:=mg) (base:=base) (n:=1) (bv 0) (hr.mono (by decide)) (ag (aa aw) (ag (bB (bv 8) (bv 5) (λ_ _=>rfl)) ax))) (bv 7))))
    (aE (qW (i:=4) rfl (by first | exact aq rfl | exact aY (aq rfl)) (em 6)))))))
   (aE (aS (em 4))))))),λds Q h=>?_⟩
  obtain⟨m,G,wi,rfl,hm,hG,hw,hR,hr,q⟩:=h
  have m0:=cg m hm
  have dN:=(da hm).lo
  refine az λU hU=>?_
  walk_at"l3"
  refine⟨G,rfl,hG,λr aX=>⟨by rw[(hR r aX).1];exact hw,hr r aX⟩,hU _ ?_⟩
  clear hU U
  refine az λU hU=>?_
  walk_at"l3"
  refine⟨by decide,hU _ ?_⟩
  clear hU U
  refine⟨_,rfl,?_⟩
  rw[jv]
  simp only[jA,jz]
  refine az λU hU=>?_
  walk_at"l3"
  refine⟨G,wi,rfl,hG,hw,λr aX=>⟨by rw[(hR r aX).1];exact hw,hr r aX⟩,?_⟩
  refine⟨_,rfl,?_⟩
  have hfp:∀j∈cG G wi,j<wi:=λj hj=>cV.mp (ku.mp hj).1
  have lfp:(cG G wi).length<=wi:=by
   have:=List.length_filter_le (λj=>!(G.map aT).contains j) (aM wi)
   rw[cK]at this
   exact this
  rw[mE]
  refine gu.mk (λi δ=>∃o1 o2 o3 o4,δ=[some (fD t.aU t.aV m),some (D.lst false (aB false G)),some (D.int wi),some (D.lst false (ak (G.map aT))),some (D.lst true (aB true (((cG G wi).take i).map (dH m G wi)))),o1,o2,o3,o4]) ⟨_,_,_,_,rfl⟩ ?_ ?_
  ·rintro i d δ hd ⟨o1,o2,o3,o4,rfl⟩
   rw[cu,bZ]at hd
   obtain⟨f,hf,rfl⟩:=EF.mp hd
   have hfw:=hfp f (uV hf)
   clear hd
   refine az λU hU=>?_
   walk_at"l3"
   have er:aJ (br wi 0)=ak (br wi 0):=by
    rw[cu,PU];unfold aJ;rw[PU];rfl
   rw[dQ,er]
   refine⟨by decide,⟨by omega,by omega,by omega⟩,hU _ ?_⟩
   clear hU
   refine az λU hU=>?_
   walk_at"l3"
   refine⟨_,f,rfl,?_,?_⟩
   ·rw[uz (by omega) (by rw[eT,sC];omega)];rfl
   rw[show(ak (br wi 0)).set f (D.int 1)=ak ((br wi 0).set f 1) from vY _ _ 1]
   refine hU _ ?_
   clear hU
   refine az λU hU=>?_
   walk_at"l3"
   refine⟨_,_,rfl,rfl,?_⟩
   refine gu.mk (λk δ=>∃o3 o4,δ=[some (fD t.aU t.aV m),some (D.lst false (aB false G)),some (D.int wi),some (D.lst false (ak (G.map aT))),some (D.lst true (aB true (((cG G wi).take i).map (dH m G wi)))),some (D.int f),some (D.lst true (ak ((((G.map aT).zip G).take k).foldl (λx z=>x.set z.1 (bW m 0 (z.2.getD f 0))) ((br wi 0).set f 1)))),o3,o4]) ⟨_,_,rfl⟩ ?_ ?_
   ·rintro k d δ hd ⟨o3,o4,rfl⟩
    obtain⟨hk,rfl⟩:=cq7 hd
    clear hd
    obtain⟨lw,la⟩:=hR _ (dv hk)
    have xl:=Hu (λz:Nat × List Nat=>z.1) (λz=>bW m 0 (z.2.getD f 0)) (((G.map aT).zip G).take k) ((br wi 0).set f 1)
    rw[i7,sC]at xl
    obtain⟨C,ns,xs,sp,e1,e2,e3,e4⟩:=cv4 (P:=P) (w:=w) (base:=base) T m0
    have hld:aT G[k]<wi:=by
     rw[<-lw]
     obtain⟨x,hx,h0⟩:=hr _ (dv hk)
     exact PK ⟨x,hx,by simpa using h0⟩
    have ga:=mG hm (a:=0) (b:=G[k].getD f 0) (by omega) (la.getD (by omega) f)
    walk_at"l3"
    refine⟨C,ns,xs,sp,e1,e2,e3,.int (G[k].getD f 0:Nat),by rw[fR (by omega) (by omega),dQ],e4 0 (G[k].getD f 0) _ ⟨rfl,_,aT G[k],rfl,?_,_,_,?_,rfl,rfl⟩⟩
    ·rw[uz (by omega) (by rw[eT,xl];omega)];rfl
    ·rw[ga.1,vY,lM,A7]
     have ez:((G.map aT).zip G)[k]?=some (aT G[k],G[k]):=by
      rw[ER,sJ,bZ,aL hk];rfl
     rw[ez];rfl
   ·rintro δ ⟨o3,o4,rfl⟩
    refine hU _ ?_
    walk_at"l3"
    refine⟨⟨_,rfl⟩,by rw[bG,eZ];omega,_,_,_,_,?_,rfl,rfl,rfl,rfl⟩
    rw[show((G.map aT).zip G).take (dP (ak (G.map aT)) (aB false G)).length=(G.map aT).zip G from ym (by unfold dP;rw[ES,kA,eT,lh];exact bP _),lM,hf,fY]
    exact vZ true _ [dH m G wi f]
  ·rintro δ ⟨o1,o2,o3,o4,rfl⟩
   refine hU _ ?_
   walk_at"l3"
   rw[pE]
   exact q
noncomputable abbrev aW3(t:ka)(P:Program)(w:World)(K:Frag)(mg:Str->Option Value)(base:Heap):bx:=λds Q=>∃(m:Bool × Nat) (G:List (List Nat)),ds=[fD t.aU t.aV m,.lst false (aB false G)]/\m∈aC/\G.length<=900/\RT (ae m) (ai G) G/\ai G<=900/\(∀r∈bH m G,∃x∈r,x≠0)/\Q (.lst true (aB true (CG m (bH m G) (ai G))))
theorem aW4(T:Txt K mg t):aP P w K mg base aZ 4 t.Kg t.Kh ["field","table"] (bA (aW3 t P w K mg base)):=by
 refine bM T.VN aV9 ?_ ?_
 ·intro ds Q h
  obtain⟨m,G,rfl,hm,hG,hR,hw,hn,q⟩:=h<;>rfl
 ·intro aI A outer s H E hr
  refine⟨_,(aE (aS (bh ((aC3 T).mono (by decide)) hr rfl T.dI0 T.VM.kp T.dI1 aW (ag (bv 0) (ag (aa (bh ((Wm T).mono (by decide)) hr rfl T.VF T.KG.kp T.VG aW (ag (bv 0) (ag (bv 1) ax)))) (ag (aa (bh ((xY T).mono (by decide)) hr rfl T.xN T.uE.kp T.xO aW (ag (bv 1) ax))) ax)))))),λds Q h=>?_⟩
  obtain⟨m,G,rfl,hm,hG,hR,hw,hn,q⟩:=h
  walk_at"l3"
  refine⟨m,G,rfl,hm,hG,hR,hw,?_⟩
  have I:=zX hm hR (ai G)
  refine⟨G,rfl,by omega,λr aX=>by rw[(hR r aX).1];omega,m,bH m G,ai G,by rw[dO,eU,kS],hm,?_,by omega,I.a,hn,?_,q⟩
  ·show(jw m G (ai G)).1.length<=1000
   have:=I.l
   omega
  ·rw[show ∀X:List (List Nat),(D.lst true (aB true X)).fr=true from λX=>by rw[fg,rN];rfl,iE]
noncomputable abbrev aW5:bx:=λds Q=>∃(G:List (List Nat)) (F:List Nat) (N w:Nat),ds=[.lst false (aB false G),.lst false (ak F)]/\RT N w G/\(∀j∈F,j<w)/\G.length<=1000/\F.length<=1000/\Q (.lst true (aB true (bS G F)))
theorem aW6(T:Txt K mg t):aP P w K mg base aZ 1 t.Ki t.Kj ["table","places"] (bA (aW5 )):=by
 refine bM T.VO aW0 ?_ ?_
 ·intro ds Q h
  obtain⟨G,F,N,wi,rfl,hR,hF,hG,hFl,q⟩:=h<;>rfl
 ·intro aI A outer s H E hr
  refine⟨_,(aE (aS (dq [("places",1)] ["row"] rfl (gI (bv 0)) (λ_ _ _ _=>(cE (i:=1) (show(["places","row"]:List Str).Nodup by decide +kernel) rfl (aY rfl) (by decide) (aq rfl))) (λ_ _ _ _=>dG) (by exact λ_ _ _ _=>(dq [("row",1)] ["j"] rfl (gI (bv 0)) (λ_ _ _ _=>(cE (i:=1) (show(["row","j"]:List Str).Nodup by decide +kernel) rfl (aq (lookup_relabel_local rfl)) (by decide) (aY (lookup_relabel_local rfl)))) (λ_ _ _ _=>dG) (λ_ _ _ _=>(df (bB (bv 0) (bv 1) (λ_ _=>rfl)))) rfl ⟨rfl,trivial⟩ (λ_=>by repeat' (first | exact trivial | refine⟨.inl rfl,?_⟩ | refine⟨.inr (.inl rfl),?_⟩ | refine⟨.inr (.inr ⟨_,rfl⟩),?_⟩)) (λ_=>⟨⟨rfl,.inl rfl,.inl rfl,_,rfl,rfl⟩,trivial⟩) rfl (by decide +kernel))) rfl ⟨rfl,trivial⟩ (λ_=>by repeat' (first | exact trivial | refine⟨.inl rfl,?_⟩ | refine⟨.inr (.inl rfl),?_⟩ | refine⟨.inr (.inr ⟨_,rfl⟩),?_⟩)) (λ_=>⟨⟨rfl,.inl rfl,.inl rfl,_,rfl,rfl⟩,trivial⟩) rfl (by decide +kernel)))),λds Q h=>?_⟩
  obtain⟨G,F,N,wi,rfl,hR,hF,hG,hFl,q⟩:=h
  walk_at"l3"
  refine eB G (λr=>D.lst false (ak r)) (λr=>D.lst true (ak (F.map λj=>r.getD j 0))) (by rw[eU];rfl) (λa b h=>mH a b h) (λr aX=>?_) (.inr λr _=>iW _) (by rw[sL];omega) ?_
  ·have hl:=(hR r aX).1
   walk_at"l3"
   refine eB F (λ(i:Nat)=>D.int (i:Int)) (λ(j:Nat)=>D.int ((r.getD j 0:Nat):Int)) (rp _) gy (λj hj=>?_) (.inr λ_ _=>rfl) (by rw[sL];omega) ?_
   ·have:=hF j hj
    walk_at"l3"
    exact⟨.int (r.getD j 0:Nat),by rw[fR (by omega) (by omega),dQ],rfl,rfl⟩
   ·rw[cu,cH];rfl
  ·unfold bS aB at q
   rw[cH]at q
   exact q
noncomputable abbrev aM5(t:ka)(P:Program)(w:World)(K:Frag)(mg:Str->Option Value)(base:Heap):bx:=λds Q=>∃(m:Bool × Nat) (G:List (List Nat)),ds=[fD t.aU t.aV m,.lst false (aB false G)]/\m∈aC/\G.length<=64/\RT (ae m) (ai G) G/\0<ai G/\ai G<=6/\Q (kq ((eY m G).map (jU m G)))
theorem Wr(T:Txt K mg t):aP P w K mg base aZ 5 t.Kk t.Kl ["field","table"] (bA (aM5 t P w K mg base)):=by
 refine bM T.KJ xJ ?_ ?_
 ·intro ds Q h
  obtain⟨m,G,rfl,hm,hG,hR,i6,hw,q⟩:=h<;>rfl
 ·intro aI A outer s H E hr
  refine⟨_,(aA (bj (i:=2) xJ.nd rfl (aq rfl) (bh ((Wb T).mono (by decide)) hr rfl T.Vp T.Ky.kp T.Vq aW (ag (bv 0) (ag (bv 1) ax))))
   (aA (cy (bR GC (bv 2) (aa mq) (bK _)) (aE (aS mq)) cC)
   (aA (bj (i:=3) xJ.nd rfl (aq rfl) (cH8 (bh ((aW4 T).mono (by decide)) hr rfl T.dI2 T.VN.kp T.dI3 aW (ag (bv 0) (ag (aa (bh ((aW6 T).mono (by decide)) hr rfl T.dI4 T.VO.kp T.dI5 aW (ag (bv 1) (ag (bv 2) ax)))) ax))) (λ_ _=>rfl)))
   (aA (bj (i:=4) xJ.nd rfl (aq rfl) (Hj (P:=P) (w:=w) (K:=K) (mg:=mg) (base:=base) (n:=2) (bv 0) (hr.mono (by decide)) (ag (aa aw) (ag (bB (bv 3) (aa aw) (λ_ _=>rfl)) ax))))
   (aA (bj (i:=5) xJ.nd rfl (aq rfl) (aG iQ (aa (eR (fu aw dF))) (aa (bh ((xY T).mono (by decide)) hr rfl T.xN T.uE.kp T.xO aW (ag (bv 1) ax)))))
   (BK 2 (aA (gJ fk rfl (cC6 rfl T.xW (bv 2) (uv (P:=P) (w:=w) (K:=K) (mg:=mg) (base:=base) (n:=1) (bv 0) (hr.mono (by decide)) (ag (bv 4) (ag (bv 3) ax)))) (jO (i1:=6) (i2:=7) rfl xJ.nd rfl (aq rfl) rfl (aq rfl))
    (aE (tJ (i:=5) rfl (by first | exact aq rfl | exact aY (aq rfl)) (df (bv 7)) (bv 6))))
   (aE (aS (em 5)))))))))),λds Q h=>?_⟩
  obtain⟨m,G,rfl,hm,hG,hR,i6,hw,q⟩:=h
  have dN:=(da hm).lo
  refine az λU hU=>?_
  walk_at"l3"
  refine⟨m,G,rfl,hm,hG,hR,i6,hw,hU _ ?_⟩
  clear hU U
  cases e:eY m G with
  | none =>
   rw[e]at q
   dsimp only[kq]
   refine az λU hU=>?_
   walk_at"l3"
   exact q
  | some F =>
   rw[e]at q
   obtain⟨⟨f,fs,ef⟩,k1,k2,k3,_⟩:=UK hm i6 hR e
   obtain⟨s1,s2,_,_,_⟩:=UL hm i6 hR e
   obtain⟨a1,a2,_,_⟩:=rY hm i6 hR e
   have fl:=a1.len
   have gQ:G≠[]:=λz=>by rw[z]at i6;exact absurd i6 (by decide)
   have p1:=(Aa (F:=F) (show 0<ae m by omega) hR).1
   have p2:=(Aa (F:=F) (show 0<ae m by omega) hR).2
   have eW:=wc p1 (λz=>gQ (by unfold bS at z;exact PR.mp z))
   rw[<-eW]at p1
   obtain⟨⟨Hd,I⟩,iR,il,sp⟩:=mK hm p1
   have ek:CG m (bH m (bS G F)) (ai (bS G F))=gA m G F::fs.map (dH m (bH m (bS G F)) F.length):=by
    unfold CG gA
    rw[eW,ef];rfl
   have hn:∀r∈bH m (bS G F),∃x∈r,x≠0:=λr aX=>by
    obtain⟨i,hi,rfl⟩:=fX aX
    have:=(I.wa hm iR hi).2
    rw[jS hi]at this
    exact this
   dsimp only[kq]
   refine az λU hU=>?_
   walk_at"l3"
   refine hU _ ?_
   clear hU U
   refine az λU hU=>?_
   walk_at"l3"
   refine⟨G,F,ae m,ai G,rfl,hR,a1.2,by omega,by omega,?_⟩
   refine⟨by rw[fg,rN];rfl,m,bS G F,by rw[dO,eU],hm,by omega,p1,by omega,hn,?_⟩
   rw[ek]
   refine⟨by rw[fg,rN,kz,iE],_,_,rfl,hU _ ?_⟩
   clear hU U
   have kl:=dA hm k2 0
   refine az λU hU=>?_
   walk_at"l3"
   refine⟨_,_,_,_,rH _ _ m,KY T m,Hk m _ (by decide),.int ((gA m G F).getD 0 0:Nat),by rw[fR (by omega) (by omega)];rfl,m,1,(gA m G F).getD 0 0,by rw[rH];rfl,hm,dN,kl,λz=>absurd z (k3 0 a2),λ_ iv AF z9=>?_⟩
   have ei:jR m ((gA m G F).getD 0 0)=iv:=v7 hm AF z9
   refine⟨rfl,hU _ ?_⟩
   clear hU U
   refine az λU hU=>?_
   walk_at"l3"
   have er:(br (ai G) [D.int 0]).flatten=ak (br (ai G) 0):=by
    rw[List.flatten_replicate_singleton,cu,PU];rfl
   refine⟨by decide,G,rfl,by omega,λr aX=>by rw[(hR r aX).1];omega,?_⟩
   dsimp only
   rw[dQ,er]
   refine⟨⟨by omega,by omega,?_,rfl⟩,hU _ ?_⟩
   ·show 1*_<=_;omega
   clear hU U
   refine⟨_,rfl,?_⟩
   rw[jv]
   simp only[jA,jz]
   obtain⟨C,ns,xs,sp,e1,e2,e3,e4⟩:=Wk (P:=P) (w:=w) (base:=base) T hm
   have el:(gA m G F).map (gm m iv)=gB m G F:=by unfold gB;rw[ei]
   refine az λU hU=>?_
   walk_at"l3"
   refine⟨C,ns,xs,sp,e1,e2,e3,e4 (gA m G F) iv _ AF k2 (by omega) ⟨iW _,?_⟩⟩
   rw[el]
   refine⟨_,_,rfl,rfl,?_⟩
   rw[mE]
   refine gu.mk (λi δ=>∃o6 o7,δ=[some (fD t.aU t.aV m),some (D.lst false (aB false G)),some (D.lst false (ak F)),some (D.lst true (ak (gA m G F))),some (D.int iv),some (D.lst true (ak (((F.zip (gB m G F)).take i).foldl (λr z=>r.set z.1 z.2) (br (ai G) 0)))),o6,o7]) ⟨_,_,rfl⟩ ?_ ?_
   ·rintro i d δ hd ⟨o6,o7,rfl⟩
    obtain⟨hi,hj,rfl⟩:=Uq hd
    clear hd hU
    have xl:=Hu (λz:Nat × Nat=>z.1) (λz=>z.2) ((F.zip (gB m G F)).take i) (br (ai G) 0)
    rw[sC]at xl
    have hp:=a1.2 _ (dv hi)
    walk_at"l3"
    refine⟨_,F[i],rfl,?_,_,_,?_,rfl,rfl⟩
    ·rw[uz (by omega) (by rw[eT,xl];omega)];rfl
    ·rw[vY,lM,A7]
     have ez:(F.zip (gB m G F))[i]?=some (F[i],(gB m G F)[i]):=by
      rw[ER,sJ,aL hi,aL hj]
     rw[ez];rfl
   ·rintro δ ⟨o6,o7,rfl⟩
    refine hU _ ?_
    walk_at"l3"
    rw[show(F.zip (gB m G F)).take (dP (ak F) (ak (gB m G F))).length=F.zip (gB m G F) from ym (by rw[Ur,ES];exact bP _)]
    exact q
noncomputable abbrev aN5:bx:=λds Q=>∃(F:List Nat) (w:Nat),ds=[.lst false (ak F),.int w]/\0<F.length/\F.length<=1000/\dr w F/\Q (.bl true)
theorem aN6(T:Txt K mg t):aP P w K mg base aZ 2 t.Km t.Kn ["_law_found","_law_wide"] (bA (aN5 )):=by
 refine bM T.VR aM7 ?_ ?_
 ·intro ds Q h
  obtain⟨F,wi,rfl,uD,hF,hI,q⟩:=h<;>rfl
 ·intro aI A outer s H E hr
  refine⟨_,(aA (cy (PW.pt (nJ (mr (gr (aa (zt (by rfl) T.Az (by rfl) T.uH s9 (bv 0))))) (m8 (bR (fv (cI hr)) (bv 0) (aa (eR dF)) (bK _))))) (aE (aS gj)) cC)
   (aA (cy (mr (gr (aa (eA (vL rfl) (by rfl) T.xU vA (ag (aa (dq [("_law_wide",1)] ["_law_x"] rfl (gI (bv 0)) (λ_ _ _ _=>(cE (i:=1) (show(["_law_wide","_law_x"]:List Str).Nodup by decide +kernel) rfl (aq (lookup_relabel_local rfl)) (by decide) (aY (lookup_relabel_local rfl)))) (λ_ _ _ _=>dG) (λ_ _ _ _=>(vD (aa (bh ((Wf T).mono (by decide)) hr rfl T.Vw T.KA.kp T.Vx aW (ag (bv 1) ax))) (vp (BR vJ qL (aa aw) (bv 1) (bv 0))))) rfl ⟨rfl,trivial⟩ (λ_=>by repeat' (first | exact trivial | refine⟨.inl rfl,?_⟩ | refine⟨.inr (.inl rfl),?_⟩ | refine⟨.inr (.inr ⟨_,rfl⟩),?_⟩)) (λ_=>⟨⟨rfl,.inl rfl,.inl rfl,_,rfl,rfl⟩,trivial⟩) rfl (by decide +kernel))) ax))))) (aE (aS gj)) cC)
   (aE (aS (eA (vL rfl) (by rfl) T.xU vA (ag (aa (dq [("_law_found",0)] ["_law_k"] rfl (iO rfl T.fS (ag (aa (aG iq (aa (eA (gw) (by rfl) T.gC gg (ag (bv 0) ax))) (aa aw))) ax)) (λ_ _ _ _=>(cE (i:=1) (show(["_law_found","_law_k"]:List Str).Nodup by decide +kernel) rfl (aq (lookup_relabel_local rfl)) (by decide) (aY (lookup_relabel_local rfl)))) (λ_ _ _ _=>dG) (λ_ _ _ _=>(qe qL (bB (bv 0) (bv 1) (λ_ _=>rfl)) (bB (bv 0) (aa (aG dS (bv 1) (aa aw))) (λ_ _=>rfl)) (bK _))) rfl ⟨rfl,trivial⟩ (λ_=>by repeat' (first | exact trivial | refine⟨.inl rfl,?_⟩ | refine⟨.inr (.inl rfl),?_⟩ | refine⟨.inr (.inr ⟨_,rfl⟩),?_⟩)) (λ_=>⟨⟨rfl,.inl rfl,.inl rfl,_,rfl,rfl⟩,trivial⟩) rfl (by decide +kernel))) ax)))))),λds Q h=>?_⟩
  obtain⟨F,wi,rfl,uD,hF,hI,q⟩:=h
  refine az λU hU=>?_
  walk_at"l3"
  have d0:bL (D.lst false (ak F)) (D.lst true [])=false:=by
   cases F with
   | nil=>cases uD
   | cons a F=>rfl
  rw[if_neg (by rw[d0];decide)]
  refine⟨by decide,rfl,hU _ ?_⟩
  clear hU U
  refine az λU hU=>?_
  walk_at"l3"
  refine eB F (λ(i:Nat)=>D.int (i:Int)) (λ_=>D.bl true) (rp F) gy (λi hi=>?_) (.inr λ_ _=>rfl) (by rw[sL];omega) ?_
  ·walk_at"l3"
   have:=hI.2 i hi
   refine⟨i,rfl,true,rfl,?_⟩
   rw[if_pos rfl,if_pos (by omega)]
   omega
  refine⟨F.map λ_=>true,by unfold qO;rw[cH];rfl,?_⟩
  rw[show(F.map λ_=>true).all id=true by simp,if_neg (by decide)]
  refine hU _ ?_
  clear hU U
  walk_at"l3"
  have ef:(F.length:Int)-1=((F.length-1:Nat):Int):=by omega
  refine⟨⟨by omega,by omega⟩,eB (aM (F.length-1)) (λ(i:Nat)=>D.int (i:Int)) (λ_=>D.bl true) (kX _ ef) gy (λk hk=>?_) (.inr λ_ _=>rfl) (by rw[cK,sL];omega) ?_⟩
  ·have mJ:=cV.mp hk
   walk_at"l3"
   refine⟨.int (F.getD k 0:Nat),by rw[fR (by omega) (by omega),dQ],?_⟩
   refine⟨.int (F.getD (k+1) 0:Nat),by rw[fR (by omega) (by omega)];rfl,?_⟩
   have:=PQ.mp hI.1 k (k+1) (by omega) (by omega) (by omega)
   rw[aK,aK,aL (show k<F.length by omega),aL (show k+1<F.length by omega)]
   show((F[k]:Nat):Int)<((F[k+1]:Nat):Int)
   omega
  refine⟨(aM (F.length-1)).map λ_=>true,by unfold qO;rw[cH];rfl,?_⟩
  rw[show((aM (F.length-1)).map λ_=>true).all id=true by rw[mX,du];intros;rfl]
  exact q
noncomputable abbrev aP6:bx:=λds Q=>∃(m:Bool × Nat) (G:List (List Nat)) (F l:List Nat),ds=[cF m,.lst false (aB false G),.lst false (ak F),.lst false (ak l)]/\m∈aC/\0<G.length/\G.length<=64/\ai G<=64/\RT (ae m) (ai G) G/\l.length=ai G/\AllLt (ae m) l/\((aM (ai G)).filter λp=>l.getD p 0 != 0)=F/\0<F.length/\l.getD (F.getD 0 0) 0=1/\(∀r∈G,gd m r l=0)/\Q (.bl true)
theorem aP7(T:Txt K mg t):aP P w K mg base aZ 3 t.Ko t.Kp ["_law_told_here","_law_table_here","_law_found","_law_row"] (bA (aP6 )):=by
 refine bM T.VS UX ?_ ?_
 ·intro ds Q h
  obtain⟨m,G,F,l,rfl,hm,gQ,hG,hw,hR,hl,zj,hF,uD,h1,hd,q⟩:=h<;>rfl
 ·intro aI A outer s H E hr
  refine⟨_,(aA (bj (i:=4) UX.nd rfl (aq rfl) (eA (gw) (by rfl) T.gC gg (ag (bB (bv 1) (aa aw) (λ_ _=>rfl)) ax)))
   (aA (cy (mr (gr (aa (bh ((Wg T).mono (by decide)) hr rfl T.Vy T.KC.kp T.Vz aW (ag (bv 3) (ag (bv 4) (ag (aa (bh ((Df T).mono (by decide)) hr rfl T.CY T.Ae.kp T.CZ aW (ag (bv 0) ax))) ax))))))) (aE (aS gj)) cC)
   (aA (cy (PW.pt (nJ (bR (g7 (cI hr)) (aa (dq [("_law_row",3)] ["_law_k"] rfl (iO rfl T.fS (ag (bv 4) ax)) (λ_ _ _ _=>(cE (i:=1) (show(["_law_row","_law_k"]:List Str).Nodup by decide +kernel) rfl (aq (lookup_relabel_local rfl)) (by decide) (aY (lookup_relabel_local rfl)))) (λ_ _ _ _=>(vG (bR (g7 (cI hr)) (bB (bv 0) (bv 1) (λ_ _=>rfl)) (aa aw) (bK _)))) (λ_ _ _ _=>(df (bv 1))) rfl ⟨rfl,trivial⟩ (λ_=>by repeat' (first | exact trivial | refine⟨.inl rfl,?_⟩ | refine⟨.inr (.inl rfl),?_⟩ | refine⟨.inr (.inr ⟨_,rfl⟩),?_⟩)) (λ_=>⟨⟨rfl,.inl rfl,.inl rfl,_,rfl,rfl⟩,trivial⟩) rfl (by decide +kernel))) (bv 2) (bK _)) (m8 (bR (g7 (cI hr)) (bB (bv 3) (bB (bv 2) (aa aw) (λ_ _=>rfl)) (λ_ _=>rfl)) (aa aw) (bK _))))) (aE (aS gj)) cC)
   (aE (aS (RI (aa (eA (cE5 rfl) (by rfl) T.dJ5 cC8 (ag (aa (dq [("_law_told_here",0),("_law_row",3)] ["_law_line"] rfl (gI (bv 1)) (λ_ _ _ _=>(cE (i:=2) (show(["_law_told_here","_law_row","_law_line"]:List Str).Nodup by decide +kernel) rfl (aq (lookup_relabel_local rfl)) (by decide) (aY (lookup_relabel_local rfl)))) (λ_ _ _ _=>dG) (λ_ _ _ _=>(bh ((KU T).mono (by decide)) hr rfl T.Kv T.CW.kp T.Kw aW (ag (bv 0) (ag (bv 2) (ag (bv 1) ax))))) rfl ⟨rfl,⟨rfl,trivial⟩⟩ (λ_=>by repeat' (first | exact trivial | refine⟨.inl rfl,?_⟩ | refine⟨.inr (.inl rfl),?_⟩ | refine⟨.inr (.inr ⟨_,rfl⟩),?_⟩)) (λ_=>⟨⟨rfl,.inl rfl,.inl rfl,_,rfl,rfl⟩,⟨⟨rfl,.inl rfl,.inl rfl,_,rfl,rfl⟩,trivial⟩⟩) rfl (by decide +kernel))) ax))))))))),λds Q h=>?_⟩
  obtain⟨m,G,F,l,rfl,hm,gQ,hG,hw,hR,hl,zj,hF,uD,h1,hd,q⟩:=h
  have dN:=(da hm).lo
  have Dg:=zT m hm
  refine az λU hU=>?_
  walk_at"l3"
  refine⟨.lst false (ak G[0]),rP false gQ,?_⟩
  dsimp only
  rw[eT,(hR _ (dv gQ)).1]
  refine hU _ ?_
  clear hU U
  refine az λU hU=>?_
  walk_at"l3"
  refine⟨m,rfl,by omega,by omega,l,ai G,ae m,rfl,hl,by omega,zj,?_⟩
  refine⟨rfl,true,rfl,hU _ ?_⟩
  clear hU U
  refine az λU hU=>?_
  walk_at"l3"
  refine⟨⟨by omega,by omega⟩,uA (aM (ai G)) (λ(i:Nat)=>D.int (i:Int)) (λ(i:Nat)=>D.int (i:Int)) (λp=>l.getD p 0 != 0) (kX _ rfl) gy (λj hj=>?_) (.inr λ_ _ _=>rfl) (by rw[cK,sL];omega) ?_⟩
  ·have:=cV.mp hj
   walk_at"l3"
   refine⟨.int (l.getD j 0:Nat),by rw[fR (by omega) (by omega),dQ],rfl,?_,λ_=>trivial⟩
   rw[iS]
   by_cases h0:l.getD j 0=0
   ·rw[h0];rfl
   ·rw[decide_eq_false (by omega),bne_iff_ne.mpr h0];rfl
  rw[hF,<- cu]
  dsimp only[mZ,mY]
  have fm:F.getD 0 0<ai G:=by
   have:=bN uD 0
   rw[<-hF]at this ⊢
   exact cV.mp (ku.mp this).1
  rw[uw,decide_eq_true rfl,if_neg (by decide)]
  refine⟨⟨rJ 5 _ _,rJ 5 _ _⟩,.int (F.getD 0 0:Nat),by rw[fR (by omega) (by omega)];rfl,?_⟩
  dsimp only
  refine⟨.int 1,by rw[fR (by omega) (by omega),dQ,h1];rfl,rfl,?_⟩
  rw[iS,decide_eq_true rfl,if_neg (by decide)]
  refine hU _ ?_
  clear hU U
  walk_at"l3"
  refine eB G (λr=>D.lst false (ak r)) (λr=>D.int ((gd m r l:Nat):Int)) (by rw[eU];rfl) (λa b h=>mH a b h) (λr aX=>?_) (.inr λr _=>rfl) (by rw[sL];omega) ?_
  ·have yS:=(hR r aX).1
   walk_at"l3"
   exact⟨m,r,l,rfl,hm,by omega,by omega,(hR r aX).2,zj,rfl⟩
  refine⟨G.map λr=>((gd m r l:Nat):Int),by unfold aJ;rw[cH];rfl,?_⟩
  rw[show(G.map λr=>((gd m r l:Nat):Int)).any (λx=>x != 0)=false by
   rw[List.any_eq_false]
   intro x hx
   obtain⟨r,aX,rfl⟩:=bO.mp hx
   rw[hd r aX];decide]
  exact q
theorem b77{w:Nat}{F:List Nat}(h:dr w F){f:Nat->Bool}(hf:∀p,f p=true↔p∈F):(aM w).filter f=F:=by
 have i1:=Dh (w:=w) f
 refine List.Perm.eq_of_pairwise (le:=(· < ·)) (λa b _ _ h1 h2=>by omega) i1.1 h.1 ((Y5 (i1.1.imp eI) (h.1.imp eI)).mpr λp=>?_)
 rw[ku,cV,hf]
 exact⟨λz=>z.2,λz=>⟨h.2 p z,z⟩⟩
noncomputable def kr(x:List Nat)(w:Nat):List Nat:=(aM w).filter λp=>x.getD p 0 != 0
theorem Ws{m:Bool × Nat}(hm:m∈aC)(C:Nat->Nat->Nat){x:List Nat}(k:Nat):∀w,cX m C (kr x w) (λt=>cf x ((kr x w).getD t 0)) k=sm (gp m) w λj=>gm m (cf x j) (C j k)
 | 0=>rfl
 | w+1=>by
  have ih:=Ws hm C (x:=x) k w
  have e:kr x (w+1)=kr x w++(if x.getD w 0 != 0 then [w]else []):=by
   unfold kr
   rw[PM,YW]
   congr 1
   rw[List.filter_cons,List.filter_nil]
  show _=gp m (sm (gp m) w λj=>gm m (cf x j) (C j k)) (gm m (cf x w) (C w k))
  rw[<-ih,e]
  by_cases h:x.getD w 0=0
  ·have h':cf x w=0:=h
   rw[h',fh m _ (cg m hm),oH (Us hm _ _ _ _),if_neg (by rw[h];decide),iC]
  ·rw[if_pos (bne_iff_ne.mpr h),z8 hm]
   congr 1
   ·refine HN λt ht=>?_
    rw[aK,uU ht,<- aK]
   ·rw[aK,sA (bP _),EL];rfl
theorem cs1{m:Bool × Nat}(hm:m∈aC){T:List (List Nat)}{w:Nat}(hT:RT (ae m) w T){x:List Nat}(hx:AllLt (ae m) x)(hl:x.length=w){a:Nat}(ha:a<w)(h0:cf x a≠0)(hz:∀r∈T,gd m r x=0):¬ kn m (di T) (kr x w):=λI=>by
 have am:a∈kr x w:=ku.mpr ⟨cV.mpr ha,bne_iff_ne.mpr h0⟩
 obtain⟨t,ht,e⟩:=fX am
 have:=I (λt=>cf x ((kr x w).getD t 0)) (λt=>dA hm hx _) (λk=>by
  rw[Ws hm]
  by_cases hk:k<T.length
  ·have z:=hz _ (bN hk [])
   rw[wb m (by rw[hl];exact(hT _ (bN hk [])).1),(hT _ (bN hk [])).1]at z
   refine Eq.trans (bQ λj _=>?_) z
   rw[gz];rfl
  ·refine eH (rg hm) λt _=>?_
   have e:di T t k=0:=by
    unfold di
    rw[show T.getD k []=[] by rw[aK,fF (by omega)];rfl];rfl
   rw[e,iV m _ (cg m hm)]) t ht
 have e2:(kr x w).getD t 0=a:=by rw[aK,aL ht];exact e
 rw[e2]at this
 exact h0 this
theorem cD7{m:Bool × Nat}(hm:m∈aC){w a:Nat}{sg r:List Nat}(hr:r.length=w)(har:AllLt (ae m) r)(hs:sg.length=w)(ha:a<w)(h1:cf sg a=1):(jV m sg a r).length=w/\AllLt (ae m) (jV m sg a r)/\gd m (jV m sg a r) sg=0:=by
 have dN:=lo1 hm
 have xl:(r.set a 0).length=w:=by rw[i7];exact hr
 have xa:AllLt (ae m) (r.set a 0):=λy hy=>by
  rcases u3 hy with h | h
  ·exact har y h
  ·rw[h];omega
 have g1:=Tv hm (r.set a 0) sg
 have gn:=(mG hm (a:=0) (b:=gd m (r.set a 0) sg) (by omega) g1)
 have c0:cf (r.set a 0) a=0:=by rw[HJ (by omega),if_pos rfl]
 obtain⟨p1,p2,_,_,p5⟩:=HY hm (w:=w) [a] [bW m 0 (gd m (r.set a 0) sg)] (r.set a 0) rfl (EW _ _) (λp hp=>by rw[e5.mp hp];exact ha) xl xa (λy hy=>by rw[e5.mp hy];exact gn.2.1) (λp hp=>by rw[e5.mp hp];exact c0)
 refine⟨p1,p2,?_⟩
 have:=p5 (cf sg)
 rw[wb m (by show(jV m sg a r).length=_;rw[hs];exact p1),show(jV m sg a r).length=w from p1]
 refine Eq.trans (bQ λj _=>gz m _ _) (Eq.trans this ?_)
 have ed:dt m w (cf sg) (cf (r.set a 0))=gd m (r.set a 0) sg:=by
  rw[wb m (by rw[xl,hs]),xl]
  exact bQ λj _=>gz m _ _
 have e1:(sm (gp m) [a].length λt=>gm m (cf sg ([a].getD t 0)) (cf [bW m 0 (gd m (r.set a 0) sg)] t))=bW m 0 (gd m (r.set a 0) sg):=by
  show gp m 0 (gm m (cf sg a) (bW m 0 (gd m (r.set a 0) sg)))=_
  rw[h1,kU gn.2.1,zU gn.2.1]
 rw[ed,e1,oG]
 exact gn.2.2
theorem cB9(T:Txt K mg t)(hB:Bm mg base):aP P w K mg base aZ 11 t.Kq t.Kr ["_law_script"] (zD [t.lC,t.lD] (bA (Sb ))):=by
 refine SY T.dJ0 iZ ?_ ?_
 ·intro ds Q h
  obtain⟨ns,rfl,hl,q⟩:=h<;>rfl
 ·intro aI A outer s H E hT hr
  refine⟨_,(aA (bj (i:=1) iZ.nd rfl (aq rfl) (bh ((aR5 T).mono (by decide)) hr rfl T.aT1 T.U0.kp T.aT2 aW (ag (aa (bh ((mQ T).mono (by decide)) hr rfl T.mL T.lH.kp T.mM aW (ag (bv 0) (ag (aa aw) ax)))) ax)))
   (aA (bj (i:=2) iZ.nd rfl (aq rfl) (cw0 hT ((aO7 T hB).mono (by decide)) hr rfl T.aQ5 T.Vd.kp T.aQ6 aW (ag (bv 1) ax)))
   (aA (bj (i:=3) iZ.nd rfl (aq rfl) (aG dS (aa aw) (aa (aG dy (aa (bh ((mQ T).mono (by decide)) hr rfl T.mL T.lH.kp T.mM aW (ag (bv 0) (ag (aa aw) ax)))) (aa aw)))))
   (aA (bj (i:=4) iZ.nd rfl (aq rfl) (aG dS (aa aw) (aa (aG dy (aa (aG kL (aa (bh ((mQ T).mono (by decide)) hr rfl T.mL T.lH.kp T.mM aW (ag (bv 0) (ag (aa aw) ax)))) (aa aw))) (aa aw)))))
   (aA (bj (i:=5) iZ.nd rfl (aq rfl) (bh ((aP1 T).mono (by decide)) hr rfl T.aQ9 T.Vi.kp T.aR0 aW (ag (bv 1) (ag (bv 0) (ag (aa aw) (ag (bv 3) (ag (bv 4) (ag (aa (aG dy (aa (bh ((mQ T).mono (by decide)) hr rfl T.mL T.lH.kp T.mM aW (ag (bv 0) (ag (aa aw) ax)))) (aa aw))) ax))))))))
   (aA (bj (i:=6) iZ.nd rfl (aY rfl) (eR dF))
   (aA (gJ fk rfl (iO rfl T.fS (ag (bv 4) ax)) (cE (i:=7) iZ.nd rfl (aq rfl))
    (aA (bj (i:=8) iZ.nd rfl (aq rfl) (bh ((mQ T).mono (by decide)) hr rfl T.mL T.lH.kp T.mM aW (ag (bv 0) (ag (aa (aG dS (aa aw) (bv 7))) ax))))
    (aE (qW (i:=6) rfl (by first | exact aq rfl | exact aY (aq rfl)) (aG iQ (aa (aG dy (bv 8) (aa (bh ((Df T).mono (by decide)) hr rfl T.CY T.Ae.kp T.CZ aW (ag (bv 1) ax))))) (aa (aG dy (aa (aG kL (bv 8) (aa aw))) (aa aw))))))))
   (aA (bj (i:=9) iZ.nd rfl (aq rfl) (qe (fv (cI hr)) (aa (aG dy (aa (aG kL (aa (bh ((mQ T).mono (by decide)) hr rfl T.mL T.lH.kp T.mM aW (ag (bv 0) (ag (aa aw) ax)))) (aa aw))) (aa aw))) (aa aw) (bK _)))
   (aA (cy (gr (bv 9)) (aA (bj (i:=10) iZ.nd rfl (aq rfl) (aG dy (aa (aG kL (aa (bh ((mQ T).mono (by decide)) hr rfl T.mL T.lH.kp T.mM aW (ag (bv 0) (ag (aa aw) ax)))) (aa aw))) (bv 4)))
    (aA (tJ (i:=6) rfl (by first | exact aq rfl | exact aY (aq rfl)) aw (bv 10))
    (aE (bj (i:=5) iZ.nd rfl (aq rfl) (bh ((aU4 T).mono (by decide)) hr rfl T.aV2 T.Vt.kp T.aV3 aW (ag (bv 1) (ag (bv 5) (ag (bv 6) (ag (bv 10) ax))))))))) cC)
   (aA (bj (i:=11) iZ.nd rfl (aq rfl) (bh ((V2 T).mono (by decide)) hr rfl T.Vj T.Kx.kp T.Vk aW (ag (bv 5) ax)))
   (aA (bj (i:=12) iZ.nd rfl (aq rfl) (bh ((Wb T).mono (by decide)) hr rfl T.Vp T.Ky.kp T.Vq aW (ag (bv 2) (ag (bv 11) ax))))
   (aA (cy (bR GC (bv 12) (aa mq) (bK _)) (aE (cy (PW.pt (nJ (gr (bv 9)) (m8 (bR GD (aa (bh ((Wr T).mono (by decide)) hr rfl T.VP T.KJ.kp T.VQ aW (ag (bv 2) (ag (bv 11) ax)))) (aa mq) (bK _))))) (aE (aS gj)) cC)) (aE (cy (PW.pt (nJ (mr (gr (aa (bh ((aN6 T).mono (by decide)) hr rfl T.aO1 T.VR.kp T.aO2 aW (ag (bv 12) (ag (bv 4) ax)))))) (m8 (mr (gr (aa (bh ((aP7 T).mono (by decide)) hr rfl T.aR2 T.VS.kp T.aR3 aW (ag (bv 1) (ag (bv 5) (ag (bv 12) (ag (aa (bh ((Wr T).mono (by decide)) hr rfl T.VP T.KJ.kp T.VQ aW (ag (bv 2) (ag (bv 11) ax)))) ax))))))))))) (aE (aS gj)) cC)))
   (aA (cy (PW.pt (BH (gr (bv 9)) (E6 (gr (aa (bh ((We T).mono (by decide)) hr rfl T.Vu T.Kz.kp T.Vv aW (ag (aa (dq [("_law_signs",6)] ["_law_k"] rfl (iO rfl T.fS (ag (bv 4) ax)) (λ_ _ _ _=>(cE (i:=1) (show(["_law_signs","_law_k"]:List Str).Nodup by decide +kernel) rfl (aq (lookup_relabel_local rfl)) (by decide) (aY (lookup_relabel_local rfl)))) (λ_ _ _ _=>(vG (bR (g7 (cI hr)) (bB (bv 0) (bv 1) (λ_ _=>rfl)) (aa aw) (bK _)))) (λ_ _ _ _=>(df (bv 1))) rfl ⟨rfl,trivial⟩ (λ_=>by repeat' (first | exact trivial | refine⟨.inl rfl,?_⟩ | refine⟨.inr (.inl rfl),?_⟩ | refine⟨.inr (.inr ⟨_,rfl⟩),?_⟩)) (λ_=>⟨⟨rfl,.inl rfl,.inl rfl,_,rfl,rfl⟩,trivial⟩) rfl (by decide +kernel))) (ag (bv 12) ax)))))))) (aE (aS gj)) cC)
   (aA (bj (i:=13) iZ.nd rfl (aq rfl) (bh ((aU2 T).mono (by decide)) hr rfl T.aV0 T.Vr.kp T.aV1 aW (ag (aa (bh ((mQ T).mono (by decide)) hr rfl T.mL T.lH.kp T.mM aW (ag (bv 0) (ag (aa aw) ax)))) (ag (bv 4) (ag (bv 12) ax)))))
   (aE (aS (vD (aa (qe (fv (cI hr)) (bv 11) (bv 5) (bK _))) (vp (bh ((aS8 T).mono (by decide)) hr rfl T.aT7 T.VJ.kp T.aT8 aW (ag (bv 1) (ag (bv 2) (ag (bv 5) (ag (bv 13) (ag (bv 12) ax)))))))))))))))))))))))),λds Q h=>?_⟩
  obtain⟨ns,rfl,hl,q⟩:=h
  refine az λU hU=>?_
  walk_at"l3"
  refine⟨ns,0,rfl,by decide,by decide,_,rfl,rfl,hU _ ?_⟩
  clear hU U
  generalize hmm:rG (fU ns 0)=m
  have hm:m∈aC:=by rw[<-hmm];exact b86 _
  have hF:=da hm
  have dN:=hF.lo
  have hhi:=hF.hi
  have Dg:=zT m hm
  have m0:=cg m hm
  have mR:∀X:List (List Nat),(D.lst true (aB true X)).fr=true:=λX=>by rw[fg,rN];rfl
  refine az λU hU=>?_
  walk_at"l3"
  refine⟨m,rfl,hm,hU _ ?_⟩
  clear hU U
  refine az λU hU=>?_
  walk_at"l3"
  refine⟨ns,1,rfl,by decide,by decide,by decide,?_⟩
  obtain⟨r,er,z5,hr3⟩:∃k:Nat,1+fU ns 1%3=k/\1<=k/\k<=3:=⟨(1+fU ns 1%3).toNat,by omega,by omega,by omega⟩
  rw[er]
  refine hU _ ?_
  clear hU U
  refine az λU hU=>?_
  walk_at"l3"
  refine⟨ns,1,rfl,by decide,by decide,?_⟩
  dsimp only
  obtain⟨wi,ew,V1,hw6⟩:∃k:Nat,1+fU ns 1/3%6=k/\1<=k/\k<=6:=⟨(1+fU ns 1/3%6).toNat,by omega,by omega,by omega⟩
  rw[ew]
  refine⟨kg (by decide) (by decide),by decide,hU _ ?_⟩
  clear hU U
  refine az λU hU=>?_
  walk_at"l3"
  refine⟨ns,2,rfl,by decide,by decide,?_⟩
  dsimp only
  obtain⟨y,ey⟩:∃k:Nat,fU ns 2%4=k:=⟨(fU ns 2%4).toNat,by omega⟩
  rw[ey]
  refine⟨by decide,m,ns,10,r,wi,y,rfl,hm,by decide,by omega,by omega,by omega,λG Wt Dj=>?_⟩
  refine hU _ ?_
  clear hU U
  refine az λU hU=>?_
  walk_at"l3"
  refine⟨by decide,hU _ ?_⟩
  clear hU U
  refine az λU hU=>?_
  walk_at"l3"
  refine⟨⟨by omega,by omega⟩,?_⟩
  refine gu.mk (λi δ=>∃(sg:List Nat) (o7 o8:Option D),sg.length=i/\AllLt (ae m) sg/\δ=[some (D.fz (aJ ns)),some (cF m),some (fD t.aU t.aV m),some (D.int r),some (D.int wi),some (D.lst true (aB true G)),some (D.lst true (ak sg)),o7,o8,none,none,none,none,none]) ⟨[],_,_,rfl,λ_ h=>(nomatch h),rfl⟩ ?_ ?_
  ·rintro i d δ hd ⟨sg,o7,o8,oo,Dk,rfl⟩
   obtain⟨hi,rfl⟩:=cb3 hd
   clear hd hU
   refine az λU hU=>?_
   walk_at"l3"
   refine⟨ns,_,rfl,by omega,by omega,hU _ ?_⟩
   clear hU
   generalize fU ns (3+(0+(i:Int)))=z
   walk_at"l3"
   have g1:=jZ z (show(ae m:Int)≠0 by omega)
   have g2:=j5 z (show(0:Int)<(ae m:Int) by omega)
   refine⟨⟨_,rfl⟩,m,rfl,by omega,by omega,?_⟩
   dsimp only
   have hv:∃v:Nat,z%(ae m:Int)*(z/64%2)=(v:Int)/\v<ae m:=by
    rcases(show z/64%2=0\/z/64%2=1 by omega)with h | h
    ·exact⟨0,by rw[h,Int.mul_zero];rfl,by omega⟩
    ·exact⟨(z%(ae m:Int)).toNat,by rw[h,Int.mul_one];omega,by omega⟩
   obtain⟨v,ev,hv⟩:=hv
   rw[ev]
   refine⟨by omega,kg (by decide) (by decide),by decide,?_,by omega,sg++[v],_,_,by rw[fN,oo];rfl,λy hy=>?_,?_,rfl,rfl⟩
   ·exact cO5 7 (cS (show _<128 by omega) (by decide)) (cS (show _<128 by omega) (by decide)) (by decide)
   ·rcases cJ.mp hy with h | h
    ·exact Dk y h
    ·rw[e5.mp h];exact hv
   ·rw[cu,cu,fY];rfl
  rintro δ ⟨sg,o7,o8,oo,Dk,rfl⟩
  refine hU _ ?_
  clear hU U
  rw[bG,cK,dQ]at oo
  refine az λU hU=>?_
  walk_at"l3"
  refine⟨ns,2,rfl,by decide,by decide,kg (by decide) (by decide),by decide,hU _ ?_⟩
  clear hU U
  generalize decide (fU ns 2/4%2=1)=bt
  refine az λU hU=>?_
  walk_at"l3"
  have fin:∀(G':List (List Nat)) (jx:List Nat) (Dm:Option D),G'.length=r->RT (ae m) wi G'->jx.length=wi->AllLt (ae m) jx->(bt=true->(∃a,a<wi/\cf jx a≠0)/\∀r∈G',gd m r jx=0)->U [some (D.fz (aJ ns)),some (cF m),some (fD t.aU t.aV m),some (D.int r),some (D.int wi),some (D.lst true (aB true G')),some (D.lst true (ak jx)),o7,o8,some (D.bl bt),Dm,none,none,none]:=by
   intro G' jx Dm Wu gR sQ sa' hb
   have gQ:G'≠[]:=λz=>by rw[z]at Wu;exact absurd Wu (by show ¬ (0=r);omega)
   have eW:=wc gR gQ
   have hR:=gR
   rw[<-eW]at hR
   have nt:bt=true->¬ kn m (di G') (kr jx wi):=λh=>by
    obtain⟨⟨a,a1,a2⟩,h2⟩:=hb h
    exact cs1 hm gR sa' sQ a1 a2 h2
   have ni:dr wi (kr jx wi):=Dh _
   refine hU _ ?_
   clear hU U
   refine az λU hU=>?_
   walk_at"l3"
   refine⟨G',rfl,by omega,mR _,hU _ ?_⟩
   clear hU U
   refine az λU hU=>?_
   walk_at"l3"
   have K7:∀X:Option (List Nat),(kq X).fr=true:=λX=>by
    cases X with
    | none=>rfl
    | some l=>exact iW l
   refine⟨m,G',rfl,hm,by omega,hR,by omega,by omega,K7 _,hU _ ?_⟩
   clear hU U
   refine az λU hU=>?_
   have fin2:(bt=true->∃F,eY m G'=some F)->U [some (D.fz (aJ ns)),some (cF m),some (fD t.aU t.aV m),some (D.int r),some (D.int wi),some (D.lst true (aB true G')),some (D.lst true (ak jx)),o7,o8,some (D.bl bt),Dm,some (D.lst true (aB true G')),some (kq (eY m G')),none]:=by
    intro hbs
    refine hU _ ?_
    clear hU U
    refine az λU hU=>?_
    walk_at"l3"
    have AI:U [some (D.fz (aJ ns)),some (cF m),some (fD t.aU t.aV m),some (D.int r),some (D.int wi),some (D.lst true (aB true G')),some (D.lst true (ak jx)),o7,o8,some (D.bl bt),Dm,some (D.lst true (aB true G')),some (kq (eY m G')),none]:=by
     refine hU _ ?_
     clear hU U
     refine az λU hU=>?_
     walk_at"l3"
     have Wv:(kq (eY m G')).sh=uL (eY m G'):=by
      cases eY m G' with
      | none=>rfl
      | some l=>exact jv _ _
     refine⟨ns,9,rfl,by decide,by decide,fU ns 9,wi,eY m G',by rw[Wv];rfl,by omega,λF hF=>?_,λS hS=>⟨by rw[iW,iE],hU _ ?_⟩⟩
     ·obtain⟨a1,a2,_,_⟩:=rY hm (by omega) hR hF
      rw[eW]at a1
      exact⟨a1,a2⟩
     clear hU U
     walk_at"l3"
     rw[if_pos (by rw[TJ];exact decide_eq_true rfl)]
     exact⟨⟨Cv 4 _ _ _,Cv 4 _ _ _⟩,m,G',S,by rw[Wv],hm,by omega,by omega,hR,by omega,by omega,by rw[eW];exact hS,rfl,q⟩
    cases gL:bt with
    | false =>
     rw[if_neg (by decide)]
     rw[gL]at AI
     exact AI
    | true =>
     rw[gL]at AI
     obtain⟨F,e⟩:=hbs gL
     obtain⟨a1,a2,_,a4⟩:=rY hm (by omega) hR e
     have fl:=a1.len
     have nl:=ni.len
     rw[e]at AI
     rw[if_pos rfl,e]
     refine⟨⟨by omega,by omega⟩,uA (aM wi) (λ(i:Nat)=>D.int (i:Int)) (λ(i:Nat)=>D.int (i:Int)) (λp=>jx.getD p 0 != 0) (kX _ rfl) gy (λj hj=>?_) (.inr λ_ _ _=>rfl) (by rw[cK,sL];omega) ?_⟩
     ·have:=cV.mp hj
      walk_at"l3"
      refine⟨.int (jx.getD j 0:Nat),by rw[fR (by omega) (by omega),dQ],rfl,?_,λ_=>trivial⟩
      rw[iS]
      by_cases h0:jx.getD j 0=0
      ·rw[h0];rfl
      ·rw[decide_eq_false (by omega),bne_iff_ne.mpr h0];rfl
     rw[<-cu]
     dsimp only[mZ,mY]
     refine⟨kr jx wi,F,by rw[jv,show(kq (some F)).sh=.lst false (ak F) from jv _ _];rfl,by omega,by omega,λb GZ=>⟨by show(_||true)=true;rw[iE],b,rfl,?_⟩⟩
     cases b with
     | false=>exact AI
     | true=>exact absurd (a4 _ (by rw[eW];exact ni) (GZ.mp rfl)) (nt gL)
   cases e:eY m G' with
   | none =>
    have bf:bt=false:=by
     cases bt with
     | false=>rfl
     | true=>exact absurd (UJ hm (by omega) hR e _ (by rw[eW];exact ni)) (nt rfl)
    rw[e]at fin2
    dsimp only[kq]
    walk_at"l3"
    rw[if_neg (by rw[bf];decide)]
    refine⟨m,G',rfl,hm,by omega,hR,by omega,by omega,K7 _,?_⟩
    rw[e]
    show(if(!true)=true then _ else _)
    rw[if_neg (by decide)]
    exact fin2 λh=>absurd (bf.symm.trans h) (by decide)
   | some F =>
    obtain⟨a1,a2,_,a4⟩:=rY hm (by omega) hR e
    obtain⟨l1,l2,l3,l4,l5⟩:=cF3 hm (by omega) hR e
    rw[e]at fin2
    dsimp only[kq]
    walk_at"l3"
    have fl:=a1.len
    refine⟨F,wi,rfl,a2,by omega,by rw[<-eW];exact a1,rfl,true,rfl,?_⟩
    rw[if_neg (by decide)]
    refine⟨m,G',rfl,hm,by omega,hR,by omega,by omega,K7 _,?_⟩
    rw[e]
    refine⟨m,G',F,jU m G' F,by rw[show(kq (Option.map (jU m G') (some F))).sh=.lst false (ak (jU m G' F)) from jv _ _],hm,by omega,by omega,by omega,hR,l1,l2,b77 a1 λp=>bne_iff_ne.trans (l3 p),a2,l4,l5,rfl,true,rfl,?_⟩
    rw[if_neg (by decide)]
    exact fin2 λ_=>⟨F,rfl⟩
  cases bt with
  | false =>
   rw[if_neg (by decide)]
   exact fin G sg _ Wt Dj oo Dk λh=>(nomatch h)
  | true =>
   rw[if_pos rfl]
   obtain⟨a,ea,al⟩:∃a:Nat,fU ns 2/8%(wi:Int)=(a:Int)/\a<wi:=by
    have n0:=jZ (fU ns 2/8) (show(wi:Int)≠0 by omega)
    have n1:=j5 (fU ns 2/8) (show(0:Int)<(wi:Int) by omega)
    exact⟨(fU ns 2/8%(wi:Int)).toNat,by omega,by omega⟩
   clear hU
   refine az λU hU=>?_
   walk_at"l3"
   refine⟨ns,2,rfl,by decide,by decide,?_⟩
   dsimp only
   rw[ea]
   refine⟨kg (by decide) (by decide),by omega,hU _ ?_⟩
   clear hU
   refine az λU hU=>?_
   walk_at"l3"
   refine⟨_,a,rfl,by rw[uz (by omega) (by rw[eT];omega),dQ],?_⟩
   rw[show(ak sg).set a (D.int 1)=ak (sg.set a 1) from vY _ _ 1]
   refine hU _ ?_
   clear hU
   walk_at"l3"
   have sa:AllLt (ae m) (sg.set a 1):=λy hy=>by
    rcases u3 hy with h | h
    ·exact Dk y h
    ·rw[h];omega
   have c1:cf (sg.set a 1) a=1:=by rw[HJ (by omega),if_pos rfl]
   have pr:∀r∈G,(jV m (sg.set a 1) a r).length=wi/\AllLt (ae m) (jV m (sg.set a 1) a r)/\gd m (jV m (sg.set a 1) a r) (sg.set a 1)=0:=λr aX=>cD7 hm (Dj r aX).1 (Dj r aX).2 (by rw[i7];exact oo) al c1
   refine⟨m,G,sg.set a 1,a,wi,rfl,hm,by omega,by omega,Dj,by rw[i7];exact oo,sa,al,mR _,?_⟩
   refine fin _ _ _ (by rw[bG];exact Wt) (λy hy=>?_) (by rw[i7];exact oo) sa λ_=>⟨⟨a,al,by rw[c1];decide⟩,λy hy=>?_⟩
   ·obtain⟨x,hx,rfl⟩:=bO.mp hy
    exact⟨(pr x hx).1,(pr x hx).2.1⟩
   ·obtain⟨x,hx,rfl⟩:=bO.mp hy
    exact(pr x hx).2.2
end
set_option maxHeartbeats 0 in
theorem all_mk{l:PySem.W.OpenLaw}{w:World}{K:Frag}{h:Heap}{mg:Str->Option Value}{fa:Addr}{ts:List Addr}(X:K.In h)(G:h.Ns mainGlobals mg)(hfa:mg "law"=some (.ref fa))
  {od0 an0:Option Addr} {sl0:Array (Option Value)} {oc0 kV0 dc0 pm0 Ww ct0:Value} {f0:Addr}
  {od1 an1:Option Addr} {sl1:Array (Option Value)} {oc1 kV1 dc1 pm1 Wx ct1:Value} {f1:Addr}
  {HV an2:Option Addr} {sl2:Array (Option Value)} {oc2 kV2 dc2 pm2 Wy ct2:Value} {f2:Addr}
  {od3 an3:Option Addr} {sl3:Array (Option Value)} {oc3 kV3 dc3 pm3 Wz ct3:Value} {f3:Addr}
  {od4 an4:Option Addr} {sl4:Array (Option Value)} {oc4 kV4 dc4 pm4 WA ct4:Value} {f4:Addr}
  {od5 an5:Option Addr} {sl5:Array (Option Value)} {oc5 kV5 dc5 pm5 WB ct5:Value} {f5:Addr}
  {od6 an6:Option Addr} {sl6:Array (Option Value)} {oc6 kV6 dc6 pm6 WC ct6:Value} {f6:Addr}
  {od7 an7:Option Addr} {sl7:Array (Option Value)} {oc7 kV7 dc7 pm7 ct7:Value} {f7:Addr}
  {AJ lC:Addr} {aH6:Option Addr} {aH7:Array (Option Value)} {WD:Array Value} {aH8:Value}
  {od8 an8:Option Addr} {sl8:Array (Option Value)} {oc8 kV8 dc8 pm8 WE ct8:Value} {f8:Addr}
  {od9 an9:Option Addr} {sl9:Array (Option Value)} {oc9 kV9 dc9 pm9 WG ct9:Value} {f9:Addr}
  {d51 d52:Option Addr} {d53:Array (Option Value)} {d54 d55 d56 d57 WH d58:Value} {Dn:Addr}
  {d59 d60:Option Addr} {d61:Array (Option Value)} {d62 d63 d64 d65 WI d66:Value} {Dq:Addr}
  {d67 d68:Option Addr} {d69:Array (Option Value)} {d70 d71 d72 d73 WJ d74:Value} {mv:Addr}
  {d75 d76:Option Addr} {d77:Array (Option Value)} {d78 d79 d80 d81 d82:Value} {xZ:Addr}
  {AK lD:Addr} {aK9:Option Addr} {aL0:Array (Option Value)} {WK:Array Value} {aL1:Value}
  {d86 d87:Option Addr} {d88:Array (Option Value)} {d89 d90 d91 d92 WL d93:Value} {Dr:Addr}
  {d94 d95:Option Addr} {d96:Array (Option Value)} {d97 d98 d99 ea0 WM ea1:Value} {Ds:Addr}
  {ea2 ea3:Option Addr} {ea4:Array (Option Value)} {ea5 ea6 ea7 ea8 WN ea9:Value} {Dt:Addr}
  {eb0 eb1:Option Addr} {eb2:Array (Option Value)} {eb3 eb4 eb5 eb6 WO eb7:Value} {Du:Addr}
  {eb8 eb9:Option Addr} {ec0:Array (Option Value)} {ec1 ec2 ec3 ec4 WQ ec5:Value} {Dv:Addr}
  {ec6 ec7:Option Addr} {ec8:Array (Option Value)} {ec9 ed0 ed1 ed2 WR ed3:Value} {Dw:Addr}
  {ed4 ed5:Option Addr} {ed6:Array (Option Value)} {ed7 ed8 ed9 ee0 WS ee1:Value} {Dx:Addr}
  {ee2 ee3:Option Addr} {ee4:Array (Option Value)} {ee5 ee6 ee7 ee8 WT ee9:Value} {Dy:Addr}
  {ef0 ef1:Option Addr} {ef2:Array (Option Value)} {ef3 ef4 ef5 ef6 WU ef7:Value} {Dz:Addr}
  {ef8 ef9:Option Addr} {eg0:Array (Option Value)} {eg1 eg2 eg3 eg4 WV eg5:Value} {DA:Addr}
  {eg6 eg7:Option Addr} {eg8:Array (Option Value)} {eg9 eh0 eh1 eh2 WW eh3:Value} {vF:Addr}
  {eh4 eh5:Option Addr} {eh6:Array (Option Value)} {eh7 eh8 eh9 ei0 WX ei1:Value} {DB:Addr}
  {ei2 ei3:Option Addr} {ei4:Array (Option Value)} {ei5 ei6 ei7 ei8 WY ei9:Value} {sq:Addr}
  {ej0 ej1:Option Addr} {ej2:Array (Option Value)} {ej3 ej4 ej5 ej6 WZ ej7:Value} {x6:Addr}
  {ej8 ej9:Option Addr} {ek0:Array (Option Value)} {ek1 ek2 ek3 ek4 W0 ek5:Value} {x8:Addr}
  {ek6 ek7:Option Addr} {ek8:Array (Option Value)} {ek9 el0 el1 el2 W2 el3:Value} {x9:Addr}
  {el4 el5:Option Addr} {el6:Array (Option Value)} {el7 el8 el9 em0 W3 em1:Value} {ya:Addr}
  {em2 em3:Option Addr} {em4:Array (Option Value)} {em5 em6 em7 em8 W4 em9:Value} {DC:Addr}
  {en0 en1:Option Addr} {en2:Array (Option Value)} {en3 en4 en5 en6 W5 en7:Value} {DD:Addr}
  {en8 en9:Option Addr} {eo0:Array (Option Value)} {eo1 eo2 eo3 eo4 W6 eo5:Value} {DE:Addr}
  {eo6 eo7:Option Addr} {eo8:Array (Option Value)} {eo9 ep0 ep1 ep2 W7 ep3:Value} {DF:Addr}
  {ep4 ep5:Option Addr} {ep6:Array (Option Value)} {ep7 ep8 ep9 eq0 W8 eq6:Value} {DG:Addr}
  {eq7 eq8:Option Addr} {eq9:Array (Option Value)} {er0 er1 er2 er3 W9 er4:Value} {DH:Addr}
  {er5 er6:Option Addr} {er7:Array (Option Value)} {er8 er9 es0 es1 Xa es2:Value} {DI:Addr}
  {es3 es4:Option Addr} {es5:Array (Option Value)} {es6 es7 es8 es9 Xb et0:Value} {DJ:Addr}
  {et1 et2:Option Addr} {et3:Array (Option Value)} {et4 et5 et6 et7 Xc et8:Value} {DK:Addr}
  {et9 eu0:Option Addr} {eu1:Array (Option Value)} {eu2 eu3 eu4 eu5 Xd eu6:Value} {DL:Addr}
  {eu7 eu8:Option Addr} {eu9:Array (Option Value)} {ev0 ev1 ev2 ev3 Xe ev4:Value} {DM:Addr}
  {ev5 ev6:Option Addr} {ev7:Array (Option Value)} {ev8 ev9 ew0 ew1 Xf ew2:Value} {yb:Addr}
  {ew3 ew4:Option Addr} {ew5:Array (Option Value)} {ew6 ew7 ew8 ew9 Xg ex0:Value} {yc:Addr}
  {ex1 ex2:Option Addr} {ex3:Array (Option Value)} {ex4 ex5 ex6 ex7 Xh ex8:Value} {DN:Addr}
  {ex9 ey0:Option Addr} {ey1:Array (Option Value)} {ey2 ey3 ey4 ey5 Xi ey6:Value} {DO:Addr}
  {ey7 ey8:Option Addr} {ey9:Array (Option Value)} {ez0 ez1 ez2 ez3 Xj ez4:Value} {DP:Addr}
  {ez5 ez6:Option Addr} {ez7:Array (Option Value)} {ez8 ez9 eA0 eA1 Xk eA2:Value} {DQ:Addr}
  {eA3 eA4:Option Addr} {eA5:Array (Option Value)} {eA6 eA7 eA8 eA9 Xl eB0:Value} {DR:Addr}
  {eB1 eB2:Option Addr} {eB3:Array (Option Value)} {eB4 eB5 eB6 eB7 Xm eB8:Value} {DS:Addr}
  {eB9 eC0:Option Addr} {eC1:Array (Option Value)} {eC2 eC3 eC4 eC5 Xn eC6:Value} {DT:Addr}
  {eC7 eC8:Option Addr} {eC9:Array (Option Value)} {eD0 eD1 eD2 eD3 Xo eD4:Value} {yd:Addr}
  {eD5 eD6:Option Addr} {eD7:Array (Option Value)} {eD8 eD9 eE0 eE1 Xp eE2:Value} {ye:Addr}
  {eE3 eE4:Option Addr} {eE5:Array (Option Value)} {eE6 eE7 eE8 eE9 Xq eF0:Value} {DU:Addr}
  {eF1 eF2:Option Addr} {eF3:Array (Option Value)} {eF4 eF5 eF6 eF7 Xr eF8:Value} {DV:Addr}
  {eF9 eG0:Option Addr} {eG1:Array (Option Value)} {eG2 eG3 eG4 eG5 Xs eG6:Value} {DW:Addr}
  {eG7 eG8:Option Addr} {eG9:Array (Option Value)} {eH0 eH1 eH2 eH3 Xt eH4:Value} {DX:Addr}
  {eH5 eH6:Option Addr} {eH7:Array (Option Value)} {eH8 eH9 eI0 eI1 Xu eI2:Value} {DY:Addr}
  {eI3 eI4:Option Addr} {eI5:Array (Option Value)} {eI6 eI7 eI8 eI9 Xv eJ0:Value} {DZ:Addr}
  {eJ1 Xw:Option Addr} {eJ2:Array (Option Value)} {eJ3 Xx Xy Xz K8 XA:Value} {K9:Addr}
  {aU iB lF aV:Addr}
  (AA:nsIn K mainGlobals "BitField"=some (some (.ref aU)))
  (AB:nsIn K mainGlobals "ByNought"=some (some (.ref iB)))
  (xX:nsIn K mainGlobals "Field"=some (some (.ref lF)))
  (AD:nsIn K mainGlobals "PrimeField"=some (some (.ref aV)))
  (a0:nsIn K mainGlobals "_law_told"=some (some (.ref f0)))
  (l0:K.lookup f0=some ⟨oc0,od0,.func (fnOf "_law_told" "_law_told" (bw wj) (bg wj) (ay wj) .none kV0 dc0 pm0 an0 Ww ct0),sl0⟩)
  (c0:codeIn K Ww "_law_told"=true)
  (k0:keepIn K (.ref f0)=true)
  (a1:nsIn K mainGlobals "powers_of"=some (some (.ref f1)))
  (l1:K.lookup f1=some ⟨oc1,od1,.func (fnOf "powers_of" "powers_of" (bw wk) (bg wk) (ay wk) .none kV1 dc1 pm1 an1 Wx ct1),sl1⟩)
  (c1:codeIn K Wx "powers_of"=true)
  (k1:keepIn K (.ref f1)=true)
  (a2:nsIn K mainGlobals "step_powers"=some (some (.ref f2)))
  (l2:K.lookup f2=some ⟨oc2,HV,.func (fnOf "step_powers" "step_powers" (bw wm) (bg wm) (ay wm) .none kV2 dc2 pm2 an2 Wy ct2),sl2⟩)
  (c2:codeIn K Wy "step_powers"=true)
  (k2:keepIn K (.ref f2)=true)
  (a3:nsIn K mainGlobals "logs_of"=some (some (.ref f3)))
  (l3:K.lookup f3=some ⟨oc3,od3,.func (fnOf "logs_of" "logs_of" (bw wo) (bg wo) (ay wo) .none kV3 dc3 pm3 an3 Wz ct3),sl3⟩)
  (c3:codeIn K Wz "logs_of"=true)
  (k3:keepIn K (.ref f3)=true)
  (a4:findIn K (.ref lF) "step_power"=some (some (.ref f4)))
  (l4:K.lookup f4=some ⟨oc4,od4,.func (fnOf "step_power" "Field.step_power" (bw wq) (bg wq) (ay wq) .none kV4 dc4 pm4 an4 WA ct4),sl4⟩)
  (c4:codeIn K WA "Field.step_power"=true)
  (k4:keepIn K (.ref f4)=true)
  (a5:findIn K (.ref lF) "__init__"=some (some (.ref f5)))
  (l5:K.lookup f5=some ⟨oc5,od5,.func (fnOf "__init__" "Field.__init__" (bw wu) (bg wu) (ay wu) .none kV5 dc5 pm5 an5 WB ct5),sl5⟩)
  (c5:codeIn K WB "Field.__init__"=true)
  (k5:keepIn K (.ref f5)=true)
  (a6:nsIn K mainGlobals "makes_prime_field"=some (some (.ref f6)))
  (l6:K.lookup f6=some ⟨oc6,od6,.func (fnOf "makes_prime_field" "makes_prime_field" (bw wz) (bg wz) (ay wz) .none kV6 dc6 pm6 an6 WC ct6),sl6⟩)
  (c6:codeIn K WC "makes_prime_field"=true)
  (k6:keepIn K (.ref f6)=true)
  (a7:findIn K (.ref aV) "__init__"=some (some (.ref f7)))
  (l7:K.lookup f7=some ⟨oc7,od7,.func (fnOf "__init__" "PrimeField.__init__" (bw oV) (bg oV) (ay oV) .none kV7 dc7 pm7 an7 (.ref AJ) ct7),sl7⟩)
  (c7:codeIn K (.ref AJ) "PrimeField.__init__"=true)
  (k7:keepIn K (.ref f7)=true)
  (XB:K.lookup AJ=some ⟨aH8,aH6,.fields WD,aH7⟩)
  (XC:WD[11]?=some (.ref lC))
  (La:codeHdIn K AJ lC=true)
  (a8:nsIn K mainGlobals "product_rows"=some (some (.ref f8)))
  (l8:K.lookup f8=some ⟨oc8,od8,.func (fnOf "product_rows" "product_rows" (bw wA) (bg wA) (ay wA) .none kV8 dc8 pm8 an8 WE ct8),sl8⟩)
  (c8:codeIn K WE "product_rows"=true)
  (k8:keepIn K (.ref f8)=true)
  (a9:nsIn K mainGlobals "bits_divided"=some (some (.ref f9)))
  (l9:K.lookup f9=some ⟨oc9,od9,.func (fnOf "bits_divided" "bits_divided" (bw wB) (bg wB) (ay wB) .none kV9 dc9 pm9 an9 WG ct9),sl9⟩)
  (c9:codeIn K WG "bits_divided"=true)
  (k9:keepIn K (.ref f9)=true)
  (Lb:nsIn K mainGlobals "stands_alone"=some (some (.ref Dn)))
  (Lc:K.lookup Dn=some ⟨d54,d51,.func (fnOf "stands_alone" "stands_alone" (bw wD) (bg wD) (ay wD) .none d55 d56 d57 d52 WH d58),d53⟩)
  (Ld:codeIn K WH "stands_alone"=true)
  (Le:keepIn K (.ref Dn)=true)
  (Lf:nsIn K mainGlobals "makes_bit_field"=some (some (.ref Dq)))
  (Lg:K.lookup Dq=some ⟨d62,d59,.func (fnOf "makes_bit_field" "makes_bit_field" (bw wF) (bg wF) (ay wF) .none d63 d64 d65 d60 WI d66),d61⟩)
  (Lh:codeIn K WI "makes_bit_field"=true)
  (Li:keepIn K (.ref Dq)=true)
  (Lj:nsIn K mainGlobals "bits_times"=some (some (.ref mv)))
  (Lk:K.lookup mv=some ⟨d70,d67,.func (fnOf "bits_times" "bits_times" (bw wG) (bg wG) (ay wG) .none d71 d72 d73 d68 WJ d74),d69⟩)
  (Ll:codeIn K WJ "bits_times"=true)
  (Lm:keepIn K (.ref mv)=true)
  (XD:findIn K (.ref aU) "__init__"=some (some (.ref xZ)))
  (Ln:K.lookup xZ=some ⟨d78,d75,.func (fnOf "__init__" "BitField.__init__" (bw oW) (bg oW) (ay oW) .none d79 d80 d81 d76 (.ref AK) d82),d77⟩)
  (Lo:codeIn K (.ref AK) "BitField.__init__"=true)
  (Lp:keepIn K (.ref xZ)=true)
  (XE:K.lookup AK=some ⟨aL1,aK9,.fields WK,aL0⟩)
  (XF:WK[11]?=some (.ref lD))
  (Lq:codeHdIn K AK lD=true)
  (Lr:nsIn K mainGlobals "_law_field"=some (some (.ref Dr)))
  (Lu:K.lookup Dr=some ⟨d89,d86,.func (fnOf "_law_field" "_law_field" (bw wH) (bg wH) (ay wH) .none d90 d91 d92 d87 WL d93),d88⟩)
  (Lw:codeIn K WL "_law_field"=true)
  (Lx:keepIn K (.ref Dr)=true)
  (Ly:nsIn K mainGlobals "_law_plus"=some (some (.ref Ds)))
  (Lz:K.lookup Ds=some ⟨d97,d94,.func (fnOf "_law_plus" "_law_plus" (bw wI) (bg wI) (ay wI) .none d98 d99 ea0 d95 WM ea1),d96⟩)
  (LA:codeIn K WM "_law_plus"=true)
  (LB:keepIn K (.ref Ds)=true)
  (LC:nsIn K mainGlobals "_law_times"=some (some (.ref Dt)))
  (LD:K.lookup Dt=some ⟨ea5,ea2,.func (fnOf "_law_times" "_law_times" (bw wJ) (bg wJ) (ay wJ) .none ea6 ea7 ea8 ea3 WN ea9),ea4⟩)
  (LF:codeIn K WN "_law_times"=true)
  (LG:keepIn K (.ref Dt)=true)
  (LH:nsIn K mainGlobals "_law_dot"=some (some (.ref Du)))
  (LJ:K.lookup Du=some ⟨eb3,eb0,.func (fnOf "_law_dot" "_law_dot" (bw wL) (bg wL) (ay wL) .none eb4 eb5 eb6 eb1 WO eb7),eb2⟩)
  (LK:codeIn K WO "_law_dot"=true)
  (LL:keepIn K (.ref Du)=true)
  (LM:nsIn K mainGlobals "_law_by_row"=some (some (.ref Dv)))
  (LN:K.lookup Dv=some ⟨ec1,eb8,.func (fnOf "_law_by_row" "_law_by_row" (bw wM) (bg wM) (ay wM) .none ec2 ec3 ec4 eb9 WQ ec5),ec0⟩)
  (LO:codeIn K WQ "_law_by_row"=true)
  (LP:keepIn K (.ref Dv)=true)
  (LQ:nsIn K mainGlobals "_law_cell"=some (some (.ref Dw)))
  (LR:K.lookup Dw=some ⟨ec9,ec6,.func (fnOf "_law_cell" "_law_cell" (bw wN) (bg wN) (ay wN) .none ed0 ed1 ed2 ec7 WR ed3),ec8⟩)
  (LS:codeIn K WR "_law_cell"=true)
  (LU:keepIn K (.ref Dw)=true)
  (LV:nsIn K mainGlobals "_law_many"=some (some (.ref Dx)))
  (LW:K.lookup Dx=some ⟨ed7,ed4,.func (fnOf "_law_many" "_law_many" (bw wO) (bg wO) (ay wO) .none ed8 ed9 ee0 ed5 WS ee1),ed6⟩)
  (LX:codeIn K WS "_law_many"=true)
  (LY:keepIn K (.ref Dx)=true)
  (LZ:nsIn K mainGlobals "_law_table"=some (some (.ref Dy)))
  (L0:K.lookup Dy=some ⟨ee5,ee2,.func (fnOf "_law_table" "_law_table" (bw wQ) (bg wQ) (ay wQ) .none ee6 ee7 ee8 ee3 WT ee9),ee4⟩)
  (L4:codeIn K WT "_law_table"=true)
  (L5:keepIn K (.ref Dy)=true)
  (L6:nsIn K mainGlobals "_law_copy"=some (some (.ref Dz)))
  (L7:K.lookup Dz=some ⟨ef3,ef0,.func (fnOf "_law_copy" "_law_copy" (bw wU) (bg wU) (ay wU) .none ef4 ef5 ef6 ef1 WU ef7),ef2⟩)
  (L8:codeIn K WU "_law_copy"=true)
  (L9:keepIn K (.ref Dz)=true)
  (Ma:nsIn K mainGlobals "width_of"=some (some (.ref DA)))
  (Mb:K.lookup DA=some ⟨eg1,ef8,.func (fnOf "width_of" "width_of" (bw wV) (bg wV) (ay wV) .none eg2 eg3 eg4 ef9 WV eg5),eg0⟩)
  (Mc:codeIn K WV "width_of"=true)
  (Md:keepIn K (.ref DA)=true)
  (Me:nsIn K mainGlobals "turned"=some (some (.ref vF)))
  (Mg:K.lookup vF=some ⟨eg9,eg6,.func (fnOf "turned" "turned" (bw wW) (bg wW) (ay wW) .none eh0 eh1 eh2 eg7 WW eh3),eg8⟩)
  (Mh:codeIn K WW "turned"=true)
  (Mi:keepIn K (.ref vF)=true)
  (Mj:nsIn K mainGlobals "is_nought"=some (some (.ref DB)))
  (Ml:K.lookup DB=some ⟨eh7,eh4,.func (fnOf "is_nought" "is_nought" (bw wX) (bg wX) (ay wX) .none eh8 eh9 ei0 eh5 WX ei1),eh6⟩)
  (Mm:codeIn K WX "is_nought"=true)
  (Mn:keepIn K (.ref DB)=true)
  (XG:findIn K (.ref lF) "over"=some (some (.ref sq)))
  (Mo:K.lookup sq=some ⟨ei5,ei2,.func (fnOf "over" "Field.over" (bw wY) (bg wY) (ay wY) .none ei6 ei7 ei8 ei3 WY ei9),ei4⟩)
  (Mp:codeIn K WY "Field.over"=true)
  (AL:keepIn K (.ref sq)=true)
  (XH:findIn K (.ref aU) "lessened"=some (some (.ref x6)))
  (Mq:K.lookup x6=some ⟨ej3,ej0,.func (fnOf "lessened" "BitField.lessened" (bw wZ) (bg wZ) (ay wZ) .none ej4 ej5 ej6 ej1 WZ ej7),ej2⟩)
  (Mr:codeIn K WZ "BitField.lessened"=true)
  (D0:keepIn K (.ref x6)=true)
  (XI:findIn K (.ref aV) "lessened"=some (some (.ref x8)))
  (Ms:K.lookup x8=some ⟨ek1,ej8,.func (fnOf "lessened" "PrimeField.lessened" (bw w4) (bg w4) (ay w4) .none ek2 ek3 ek4 ej9 W0 ek5),ek0⟩)
  (Mt:codeIn K W0 "PrimeField.lessened"=true)
  (D1:keepIn K (.ref x8)=true)
  (XJ:findIn K (.ref aU) "times"=some (some (.ref x9)))
  (Mu:K.lookup x9=some ⟨ek9,ek6,.func (fnOf "times" "BitField.times" (bw w5) (bg w5) (ay w5) .none el0 el1 el2 ek7 W2 el3),ek8⟩)
  (Mv:codeIn K W2 "BitField.times"=true)
  (D2:keepIn K (.ref x9)=true)
  (XM:findIn K (.ref aV) "times"=some (some (.ref ya)))
  (Mw:K.lookup ya=some ⟨el7,el4,.func (fnOf "times" "PrimeField.times" (bw w6) (bg w6) (ay w6) .none el8 el9 em0 el5 W3 em1),el6⟩)
  (Mx:codeIn K W3 "PrimeField.times"=true)
  (D3:keepIn K (.ref ya)=true)
  (Mz:nsIn K mainGlobals "past"=some (some (.ref DC)))
  (MA:K.lookup DC=some ⟨em5,em2,.func (fnOf "past" "past" (bw w9) (bg w9) (ay w9) .none em6 em7 em8 em3 W4 em9),em4⟩)
  (MB:codeIn K W4 "past"=true)
  (MC:keepIn K (.ref DC)=true)
  (MD:nsIn K mainGlobals "first_bound"=some (some (.ref DD)))
  (ME:K.lookup DD=some ⟨en3,en0,.func (fnOf "first_bound" "first_bound" (bw xf) (bg xf) (ay xf) .none en4 en5 en6 en1 W5 en7),en2⟩)
  (MF:codeIn K W5 "first_bound"=true)
  (MG:keepIn K (.ref DD)=true)
  (MH:nsIn K mainGlobals "_law_set"=some (some (.ref DE)))
  (MI:K.lookup DE=some ⟨eo1,en8,.func (fnOf "_law_set" "_law_set" (bw xg) (bg xg) (ay xg) .none eo2 eo3 eo4 en9 W6 eo5),eo0⟩)
  (MJ:codeIn K W6 "_law_set"=true)
  (MK:keepIn K (.ref DE)=true)
  (ML:nsIn K mainGlobals "_law_less"=some (some (.ref DF)))
  (MM:K.lookup DF=some ⟨eo9,eo6,.func (fnOf "_law_less" "_law_less" (bw xh) (bg xh) (ay xh) .none ep0 ep1 ep2 eo7 W7 ep3),eo8⟩)
  (MN:codeIn K W7 "_law_less"=true)
  (MP:keepIn K (.ref DF)=true)
  (MQ:nsIn K mainGlobals "_law_put"=some (some (.ref DG)))
  (MR:K.lookup DG=some ⟨ep7,ep4,.func (fnOf "_law_put" "_law_put" (bw xi) (bg xi) (ay xi) .none ep8 ep9 eq0 ep5 W8 eq6),ep6⟩)
  (MS:codeIn K W8 "_law_put"=true)
  (MT:keepIn K (.ref DG)=true)
  (MU:nsIn K mainGlobals "_law_ahead"=some (some (.ref DH)))
  (MV:K.lookup DH=some ⟨er0,eq7,.func (fnOf "_law_ahead" "_law_ahead" (bw xj) (bg xj) (ay xj) .none er1 er2 er3 eq8 W9 er4),eq9⟩)
  (MW:codeIn K W9 "_law_ahead"=true)
  (MX:keepIn K (.ref DH)=true)
  (MY:nsIn K mainGlobals "_law_whole"=some (some (.ref DI)))
  (MZ:K.lookup DI=some ⟨er8,er5,.func (fnOf "_law_whole" "_law_whole" (bw xk) (bg xk) (ay xk) .none er9 es0 es1 er6 Xa es2),er7⟩)
  (M0:codeIn K Xa "_law_whole"=true)
  (M1:keepIn K (.ref DI)=true)
  (M3:nsIn K mainGlobals "_law_row_kind"=some (some (.ref DJ)))
  (M4:K.lookup DJ=some ⟨es6,es3,.func (fnOf "_law_row_kind" "_law_row_kind" (bw xm) (bg xm) (ay xm) .none es7 es8 es9 es4 Xb et0),es5⟩)
  (M5:codeIn K Xb "_law_row_kind"=true)
  (M6:keepIn K (.ref DJ)=true)
  (M7:nsIn K mainGlobals "_law_table_kind"=some (some (.ref DK)))
  (M8:K.lookup DK=some ⟨et4,et1,.func (fnOf "_law_table_kind" "_law_table_kind" (bw xn) (bg xn) (ay xn) .none et5 et6 et7 et2 Xc et8),et3⟩)
  (M9:codeIn K Xc "_law_table_kind"=true)
  (Na:keepIn K (.ref DK)=true)
  (Nb:nsIn K mainGlobals "_law_leads_back"=some (some (.ref DL)))
  (Nc:K.lookup DL=some ⟨eu2,et9,.func (fnOf "_law_leads_back" "_law_leads_back" (bw xo) (bg xo) (ay xo) .none eu3 eu4 eu5 eu0 Xd eu6),eu1⟩)
  (Nd:codeIn K Xd "_law_leads_back"=true)
  (Nf:keepIn K (.ref DL)=true)
  (Ng:nsIn K mainGlobals "first_with"=some (some (.ref DM)))
  (Nh:K.lookup DM=some ⟨ev0,eu7,.func (fnOf "first_with" "first_with" (bw xp) (bg xp) (ay xp) .none ev1 ev2 ev3 eu8 Xe ev4),eu9⟩)
  (Ni:codeIn K Xe "first_with"=true)
  (Nj:keepIn K (.ref DM)=true)
  (XN:findIn K (.ref aU) "scaled"=some (some (.ref yb)))
  (Nk:K.lookup yb=some ⟨ev8,ev5,.func (fnOf "scaled" "BitField.scaled" (bw xq) (bg xq) (ay xq) .none ev9 ew0 ew1 ev6 Xf ew2),ev7⟩)
  (Nl:codeIn K Xf "BitField.scaled"=true)
  (D4:keepIn K (.ref yb)=true)
  (XO:findIn K (.ref aV) "scaled"=some (some (.ref yc)))
  (Nm:K.lookup yc=some ⟨ew6,ew3,.func (fnOf "scaled" "PrimeField.scaled" (bw xt) (bg xt) (ay xt) .none ew7 ew8 ew9 ew4 Xg ex0),ew5⟩)
  (Nn:codeIn K Xg "PrimeField.scaled"=true)
  (D6:keepIn K (.ref yc)=true)
  (Np:nsIn K mainGlobals "cleared"=some (some (.ref DN)))
  (Nq:K.lookup DN=some ⟨ex4,ex1,.func (fnOf "cleared" "cleared" (bw xu) (bg xu) (ay xu) .none ex5 ex6 ex7 ex2 Xh ex8),ex3⟩)
  (Nr:codeIn K Xh "cleared"=true)
  (Nt:keepIn K (.ref DN)=true)
  (Nu:nsIn K mainGlobals "reduced"=some (some (.ref DO)))
  (Nv:K.lookup DO=some ⟨ey2,ex9,.func (fnOf "reduced" "reduced" (bw xv) (bg xv) (ay xv) .none ey3 ey4 ey5 ey0 Xi ey6),ey1⟩)
  (Nw:codeIn K Xi "reduced"=true)
  (Nx:keepIn K (.ref DO)=true)
  (Ny:nsIn K mainGlobals "leads"=some (some (.ref DP)))
  (Nz:K.lookup DP=some ⟨ez0,ey7,.func (fnOf "leads" "leads" (bw xw) (bg xw) (ay xw) .none ez1 ez2 ez3 ey8 Xj ez4),ey9⟩)
  (NA:codeIn K Xj "leads"=true)
  (NB:keepIn K (.ref DP)=true)
  (NC:nsIn K mainGlobals "unit_row"=some (some (.ref DQ)))
  (ND:K.lookup DQ=some ⟨ez8,ez5,.func (fnOf "unit_row" "unit_row" (bw xx) (bg xx) (ay xx) .none ez9 eA0 eA1 ez6 Xk eA2),ez7⟩)
  (NF:codeIn K Xk "unit_row"=true)
  (NG:keepIn K (.ref DQ)=true)
  (NH:nsIn K mainGlobals "way_back"=some (some (.ref DR)))
  (NI:K.lookup DR=some ⟨eA6,eA3,.func (fnOf "way_back" "way_back" (bw xy) (bg xy) (ay xy) .none eA7 eA8 eA9 eA4 Xl eB0),eA5⟩)
  (NJ:codeIn K Xl "way_back"=true)
  (NK:keepIn K (.ref DR)=true)
  (NL:nsIn K mainGlobals "_law_free"=some (some (.ref DS)))
  (NM:K.lookup DS=some ⟨eB4,eB1,.func (fnOf "_law_free" "_law_free" (bw xA) (bg xA) (ay xA) .none eB5 eB6 eB7 eB2 Xm eB8),eB3⟩)
  (NN:codeIn K Xm "_law_free"=true)
  (NO:keepIn K (.ref DS)=true)
  (NP:nsIn K mainGlobals "free_places"=some (some (.ref DT)))
  (NQ:K.lookup DT=some ⟨eC2,eB9,.func (fnOf "free_places" "free_places" (bw xB) (bg xB) (ay xB) .none eC3 eC4 eC5 eC0 Xn eC6),eC1⟩)
  (NR:codeIn K Xn "free_places"=true)
  (NS:keepIn K (.ref DT)=true)
  (XQ:findIn K (.ref aU) "minus"=some (some (.ref yd)))
  (NT:K.lookup yd=some ⟨eD0,eC7,.func (fnOf "minus" "BitField.minus" (bw xC) (bg xC) (ay xC) .none eD1 eD2 eD3 eC8 Xo eD4),eC9⟩)
  (NU:codeIn K Xo "BitField.minus"=true)
  (D7:keepIn K (.ref yd)=true)
  (XR:findIn K (.ref aV) "minus"=some (some (.ref ye)))
  (NV:K.lookup ye=some ⟨eD8,eD5,.func (fnOf "minus" "PrimeField.minus" (bw xD) (bg xD) (ay xD) .none eD9 eE0 eE1 eD6 Xp eE2),eD7⟩)
  (NW:codeIn K Xp "PrimeField.minus"=true)
  (D8:keepIn K (.ref ye)=true)
  (NX:nsIn K mainGlobals "kernel_of_reduced"=some (some (.ref DU)))
  (NY:K.lookup DU=some ⟨eE6,eE3,.func (fnOf "kernel_of_reduced" "kernel_of_reduced" (bw xE) (bg xE) (ay xE) .none eE7 eE8 eE9 eE4 Xq eF0),eE5⟩)
  (NZ:codeIn K Xq "kernel_of_reduced"=true)
  (N0:keepIn K (.ref DU)=true)
  (N1:nsIn K mainGlobals "kernel"=some (some (.ref DV)))
  (N2:K.lookup DV=some ⟨eF4,eF1,.func (fnOf "kernel" "kernel" (bw xG) (bg xG) (ay xG) .none eF5 eF6 eF7 eF2 Xr eF8),eF3⟩)
  (N3:codeIn K Xr "kernel"=true)
  (N4:keepIn K (.ref DV)=true)
  (N5:nsIn K mainGlobals "picked"=some (some (.ref DW)))
  (N6:K.lookup DW=some ⟨eG2,eF9,.func (fnOf "picked" "picked" (bw xH) (bg xH) (ay xH) .none eG3 eG4 eG5 eG0 Xs eG6),eG1⟩)
  (N7:codeIn K Xs "picked"=true)
  (N8:keepIn K (.ref DW)=true)
  (N9:nsIn K mainGlobals "lightest_row"=some (some (.ref DX)))
  (Oa:K.lookup DX=some ⟨eH0,eG7,.func (fnOf "lightest_row" "lightest_row" (bw xI) (bg xI) (ay xI) .none eH1 eH2 eH3 eG8 Xt eH4),eG9⟩)
  (Ob:codeIn K Xt "lightest_row"=true)
  (Oc:keepIn K (.ref DX)=true)
  (Od:nsIn K mainGlobals "_law_places"=some (some (.ref DY)))
  (Oe:K.lookup DY=some ⟨eH8,eH5,.func (fnOf "_law_places" "_law_places" (bw xK) (bg xK) (ay xK) .none eH9 eI0 eI1 eH6 Xu eI2),eH7⟩)
  (Of:codeIn K Xu "_law_places"=true)
  (Og:keepIn K (.ref DY)=true)
  (Oh:nsIn K mainGlobals "_law_light"=some (some (.ref DZ)))
  (Oi:K.lookup DZ=some ⟨eI6,eI3,.func (fnOf "_law_light" "_law_light" (bw xM) (bg xM) (ay xM) .none eI7 eI8 eI9 eI4 Xv eJ0),eI5⟩)
  (Oj:codeIn K Xv "_law_light"=true)
  (Ol:keepIn K (.ref DZ)=true)
  (D9:nsIn K mainGlobals "law"=some (some (.ref K9)))
  (Om:K.lookup K9=some ⟨eJ3,eJ1,.func (fnOf "law" "law" (bw oX) (bg oX) (ay oX) .none Xx Xy Xz Xw K8 XA),eJ2⟩)
  (Oo:codeIn K K8 "law"=true)
  (Oq:keepIn K (.ref K9)=true)
  (Ea:PySem.W.plainGet K aU Str.empty=true)
  (Eb:PySem.W.hasDictIn K aU=true)
  (Ec:PySem.W.plainOver K aU=true)
  (Ee:findIn K (.ref aU) "__setattr__"=some (some (.builtin "object.__setattr__")))
  (Af:PySem.W.makesIn K aU=true)
  (Ot:findIn K (.ref aU) "__init__"=some (some (.ref xZ)))
  (Ou:isFn K (.ref xZ)=true)
  (Ov:keepIn K (.ref aU)=true)
  (Ow:findIn K (.ref aU) "__class__"=some (some (.builtin "object.__class__")))
  (Ox:specialIn K (.builtin "object.__class__") "__get__"=some (some (.builtin "getset_descriptor.__get__")))
  (Oy:takesIn K (.builtin "object.__class__")=some true)
  (Oz:mroIn K aU (.type "object")=some true)
  (Ag:findIn K (.ref aU) "bits"=some none)
  (r9:findIn K (.ref aU) "logs"=some none)
  (xP:findIn K (.ref aU) "many"=some none)
  (uF:findIn K (.ref aU) "powers"=some none)
  (C3:findIn K (.ref aU) "prime"=some none)
  (se:findIn K (.ref aU) "products"=some none)
  (Ah:findIn K (.ref aU) "step"=some none)
  (Ai:findIn K (.ref aU) "wide"=some none)
  (Aj:findIn K (.ref aU) "lessened"=some (some (.ref x6)))
  (OA:isFn K (.ref x6)=true)
  (Ak:findIn K (.ref aU) "minus"=some (some (.ref yd)))
  (OB:isFn K (.ref yd)=true)
  (Al:findIn K (.ref aU) "over"=some (some (.ref sq)))
  (OC:isFn K (.ref sq)=true)
  (Am:findIn K (.ref aU) "scaled"=some (some (.ref yb)))
  (OD:isFn K (.ref yb)=true)
  (xQ:findIn K (.ref aU) "step_power"=some (some (.ref f4)))
  (OE:isFn K (.ref f4)=true)
  (An:findIn K (.ref aU) "times"=some (some (.ref x9)))
  (OF:isFn K (.ref x9)=true)
  (Ef:PySem.W.plainGet K aV Str.empty=true)
  (Eg:PySem.W.hasDictIn K aV=true)
  (Eh:PySem.W.plainOver K aV=true)
  (Ei:findIn K (.ref aV) "__setattr__"=some (some (.builtin "object.__setattr__")))
  (Ao:PySem.W.makesIn K aV=true)
  (OG:findIn K (.ref aV) "__init__"=some (some (.ref f7)))
  (OH:isFn K (.ref f7)=true)
  (OI:keepIn K (.ref aV)=true)
  (OJ:findIn K (.ref aV) "__class__"=some (some (.builtin "object.__class__")))
  (OK:specialIn K (.builtin "object.__class__") "__get__"=some (some (.builtin "getset_descriptor.__get__")))
  (OL:takesIn K (.builtin "object.__class__")=some true)
  (OM:mroIn K aV (.type "object")=some true)
  (C4:findIn K (.ref aV) "bits"=some none)
  (uG:findIn K (.ref aV) "logs"=some none)
  (xR:findIn K (.ref aV) "many"=some none)
  (xS:findIn K (.ref aV) "powers"=some none)
  (oY:findIn K (.ref aV) "prime"=some none)
  (C5:findIn K (.ref aV) "products"=some none)
  (Ap:findIn K (.ref aV) "step"=some none)
  (Aq:findIn K (.ref aV) "wide"=some none)
  (Ar:findIn K (.ref aV) "lessened"=some (some (.ref x8)))
  (ON:isFn K (.ref x8)=true)
  (As:findIn K (.ref aV) "minus"=some (some (.ref ye)))
  (OO:isFn K (.ref ye)=true)
  (Au:findIn K (.ref aV) "over"=some (some (.ref sq)))
  (OP:isFn K (.ref sq)=true)
  (Av:findIn K (.ref aV) "scaled"=some (some (.ref yc)))
  (OQ:isFn K (.ref yc)=true)
  (xT:findIn K (.ref aV) "step_power"=some (some (.ref f4)))
  (OR:isFn K (.ref f4)=true)
  (Aw:findIn K (.ref aV) "times"=some (some (.ref ya)))
  (OS:isFn K (.ref ya)=true)
  (OT:specialIn K (.ref lF) "__getattribute__"=some (some (.builtin "type.__getattribute__")))
  (OU:PySem.W.readsIn K lF (.type "type")=true)
  (OV:PySem.W.findCls K (.ref lF) (.type "type") "__init__"=some (.val (.ref f5)))
  (OW:nsIn K mainGlobals "all"=some none)
  (OX:nsIn K mainGlobals "any"=some none)
  (OY:nsIn K mainGlobals "bool"=some none)
  (OZ:nsIn K mainGlobals "enumerate"=some none)
  (O0:nsIn K mainGlobals "int"=some none)
  (O1:nsIn K mainGlobals "isinstance"=some none)
  (O2:nsIn K mainGlobals "len"=some none)
  (O3:nsIn K mainGlobals "list"=some none)
  (O4:nsIn K mainGlobals "range"=some none)
  (O5:nsIn K mainGlobals "zip"=some none)
  (O6:(PySem.W.clsIn K iB).isSome=true)
  (XS:PySem.W.typeIn K (.ref iB)=some (.type "type"))
  (O7:PySem.W.excIn K iB [.type "ValueError",.type "Exception",.type "BaseException",.type "object"] "ValueError.__new__"=true)
  (O8:findIn K (.ref iB) "__getattribute__"=some (some (.builtin "BaseException.__getattribute__")))
  (O9:findIn K (.ref iB) "__getattr__"=some none)
  (Pa:findIn K (.ref iB) "__class__"=some (some (.builtin "object.__class__")))
  (Pb:specialIn K (.builtin "object.__class__") "__get__"=some (some (.builtin "getset_descriptor.__get__")))
  (Pc:takesIn K (.builtin "object.__class__")=some true)
  (Pd:mroIn K iB (.type "object")=some true)
  (Pe:mroIn K iB (.type "BaseException")=some true)
  (nl:K.all (λp=>GN p.2)=true)
  (sub:∀P∈[lC,lD],P∈ts) :
  ∃fd:FuncData,(∀(s:Shared) (v:Value),BindsTo s fd ⟨[v],[]⟩ [("_law_script",v)])/\∀base:Heap,K.In base->base.Ns mainGlobals mg->Bm mg base->aP l.prog w K mg base aZ 11 fa fd ["_law_script"] (B5 ts K):=by
 have e:=hfa.symm.trans (mg_of X G D9)
 cases e
 have F0:=bD (st:=wj) l0 c0 k0
 have b0:=F0.binds (ps:=["_law_cell_here"]) λ_ _ _ _ _ _=>iX (λ_=>rfl)
 have F1:=bD (st:=wk) l1 c1 k1
 have b1:=F1.binds (ps:=["a","product"]) λ_ _ _ _ _ _=>fM (λ_ _=>rfl)
 have F2:=bD (st:=wm) l2 c2 k2
 have b2:=F2.binds (ps:=["many","product"]) λ_ _ _ _ _ _=>fM (λ_ _=>rfl)
 have F3:=bD (st:=wo) l3 c3 k3
 have b3:=F3.binds (ps:=["powers"]) λ_ _ _ _ _ _=>iX (λ_=>rfl)
 have F4:=bD (st:=wq) l4 c4 k4
 have b4:=F4.binds (ps:=["self","n"]) λ_ _ _ _ _ _=>fM (λ_ _=>rfl)
 have F5:=bD (st:=wu) l5 c5 k5
 have b5:=F5.binds (ps:=["self","many","product"]) λ_ _ _ _ _ _=>gO (λ_ _ _=>rfl)
 have F6:=bD (st:=wz) l6 c6 k6
 have b6:=F6.binds (ps:=["prime"]) λ_ _ _ _ _ _=>iX (λ_=>rfl)
 have F7:=bD (st:=oV) l7 c7 k7
 have b7:=F7.binds (ps:=["self","prime"]) λ_ _ _ _ _ _=>fM (λ_ _=>rfl)
 have F8:=bD (st:=wA) l8 c8 k8
 have b8:=F8.binds (ps:=["powers","logs"]) λ_ _ _ _ _ _=>fM (λ_ _=>rfl)
 have F9:=bD (st:=wB) l9 c9 k9
 have b9:=F9.binds (ps:=["a","b"]) λ_ _ _ _ _ _=>fM (λ_ _=>rfl)
 have XT:=bD (st:=wD) Lc Ld Le
 have b10:=XT.binds (ps:=["a"]) λ_ _ _ _ _ _=>iX (λ_=>rfl)
 have XU:=bD (st:=wF) Lg Lh Li
 have b11:=XU.binds (ps:=["bits"]) λ_ _ _ _ _ _=>iX (λ_=>rfl)
 have XW:=bD (st:=wG) Lk Ll Lm
 have b12:=XW.binds (ps:=["a","b"]) λ_ _ _ _ _ _=>fM (λ_ _=>rfl)
 have XX:=bD (st:=oW) Ln Lo Lp
 have b13:=XX.binds (ps:=["self","bits"]) λ_ _ _ _ _ _=>fM (λ_ _=>rfl)
 have XY:=bD (st:=wH) Lu Lw Lx
 have b14:=XY.binds (ps:=["_law_told_here"]) λ_ _ _ _ _ _=>iX (λ_=>rfl)
 have XZ:=bD (st:=wI) Lz LA LB
 have b15:=XZ.binds (ps:=["_law_told_here","_law_a","_law_b"]) λ_ _ _ _ _ _=>gO (λ_ _ _=>rfl)
 have X0:=bD (st:=wJ) LD LF LG
 have b16:=X0.binds (ps:=["_law_told_here","_law_a","_law_b"]) λ_ _ _ _ _ _=>gO (λ_ _ _=>rfl)
 have X1:=bD (st:=wL) LJ LK LL
 have b17:=X1.binds (ps:=["_law_told_here","_law_xs","_law_ys"]) λ_ _ _ _ _ _=>gO (λ_ _ _=>rfl)
 have X2:=bD (st:=wM) LN LO LP
 have b18:=X2.binds (ps:=["_law_told_here","_law_xs","_law_table_here","_law_wide"]) λ_ _ _ _ _ _=>rS (λ_ _ _ _=>rfl)
 have X3:=bD (st:=wN) LR LS LU
 have b19:=X3.binds (ps:=["_law_script","_law_k"]) λ_ _ _ _ _ _=>fM (λ_ _=>rfl)
 have X4:=bD (st:=wO) LW LX LY
 have b20:=X4.binds (ps:=["_law_told_here"]) λ_ _ _ _ _ _=>iX (λ_=>rfl)
 have X5:=bD (st:=wQ) L0 L4 L5
 have b21:=X5.binds (ps:=["_law_told_here","_law_script","_law_begin","_law_rows","_law_wide","_law_way"]) λ_ _ _ _ _ _=>cD8 (λ_ _ _ _ _ _=>rfl)
 have X6:=bD (st:=wU) L7 L8 L9
 have b22:=X6.binds (ps:=["_law_table_here"]) λ_ _ _ _ _ _=>iX (λ_=>rfl)
 have X7:=bD (st:=wV) Mb Mc Md
 have b23:=X7.binds (ps:=["table"]) λ_ _ _ _ _ _=>iX (λ_=>rfl)
 have X8:=bD (st:=wW) Mg Mh Mi
 have b24:=X8.binds (ps:=["table"]) λ_ _ _ _ _ _=>iX (λ_=>rfl)
 have X9:=bD (st:=wX) Ml Mm Mn
 have b25:=X9.binds (ps:=["column"]) λ_ _ _ _ _ _=>iX (λ_=>rfl)
 have Ya:=bD (st:=wY) Mo Mp AL
 have b26:=Ya.binds (ps:=["self","a","b"]) λ_ _ _ _ _ _=>gO (λ_ _ _=>rfl)
 have Yb:=bD (st:=wZ) Mq Mr D0
 have b27:=Yb.binds (ps:=["self","row","a","other"]) λ_ _ _ _ _ _=>rS (λ_ _ _ _=>rfl)
 have Yc:=bD (st:=w4) Ms Mt D1
 have b28:=Yc.binds (ps:=["self","row","a","other"]) λ_ _ _ _ _ _=>rS (λ_ _ _ _=>rfl)
 have Yd:=bD (st:=w5) Mu Mv D2
 have b29:=Yd.binds (ps:=["self","a","b"]) λ_ _ _ _ _ _=>gO (λ_ _ _=>rfl)
 have Ye:=bD (st:=w6) Mw Mx D3
 have b30:=Ye.binds (ps:=["self","a","b"]) λ_ _ _ _ _ _=>gO (λ_ _ _=>rfl)
 have Yf:=bD (st:=w9) MA MB MC
 have b31:=Yf.binds (ps:=["field","column","others"]) λ_ _ _ _ _ _=>gO (λ_ _ _=>rfl)
 have Yg:=bD (st:=xf) ME MF MG
 have b32:=Yg.binds (ps:=["field","table"]) λ_ _ _ _ _ _=>fM (λ_ _=>rfl)
 have Yh:=bD (st:=xg) MI MJ MK
 have b33:=Yh.binds (ps:=["_law_cell_here","_law_wide","_law_found"]) λ_ _ _ _ _ _=>gO (λ_ _ _=>rfl)
 have Yi:=bD (st:=xh) MM MN MP
 have b34:=Yi.binds (ps:=["_law_told_here","_law_a","_law_b"]) λ_ _ _ _ _ _=>gO (λ_ _ _=>rfl)
 have Yj:=bD (st:=xi) MR MS MT
 have b35:=Yj.binds (ps:=["_law_told_here","_law_table_here","_law_signs","_law_at"]) λ_ _ _ _ _ _=>rS (λ_ _ _ _=>rfl)
 have Yk:=bD (st:=xj) MV MW MX
 have b36:=Yk.binds (ps:=["_law_one","_law_other"]) λ_ _ _ _ _ _=>fM (λ_ _=>rfl)
 have Yl:=bD (st:=xk) MZ M0 M1
 have b37:=Yl.binds (ps:=["_law_x"]) λ_ _ _ _ _ _=>iX (λ_=>rfl)
 have Ym:=bD (st:=xm) M4 M5 M6
 have b38:=Ym.binds (ps:=["_law_row","_law_wide","_law_many_here"]) λ_ _ _ _ _ _=>gO (λ_ _ _=>rfl)
 have Yn:=bD (st:=xn) M8 M9 Na
 have b39:=Yn.binds (ps:=["_law_table_here","_law_rows","_law_wide","_law_many_here"]) λ_ _ _ _ _ _=>rS (λ_ _ _ _=>rfl)
 have Yo:=bD (st:=xo) Nc Nd Nf
 have b40:=Yo.binds (ps:=["_law_told_here","_law_table_here","_law_found"]) λ_ _ _ _ _ _=>gO (λ_ _ _=>rfl)
 have Yp:=bD (st:=xp) Nh Ni Nj
 have b41:=Yp.binds (ps:=["rows","place"]) λ_ _ _ _ _ _=>fM (λ_ _=>rfl)
 have Yq:=bD (st:=xq) Nk Nl D4
 have b42:=Yq.binds (ps:=["self","a","row"]) λ_ _ _ _ _ _=>gO (λ_ _ _=>rfl)
 have Yr:=bD (st:=xt) Nm Nn D6
 have b43:=Yr.binds (ps:=["self","a","row"]) λ_ _ _ _ _ _=>gO (λ_ _ _=>rfl)
 have Ys:=bD (st:=xu) Nq Nr Nt
 have b44:=Ys.binds (ps:=["field","rows","lead_row","place"]) λ_ _ _ _ _ _=>rS (λ_ _ _ _=>rfl)
 have Yt:=bD (st:=xv) Nv Nw Nx
 have b45:=Yt.binds (ps:=["field","table"]) λ_ _ _ _ _ _=>fM (λ_ _=>rfl)
 have Yu:=bD (st:=xw) Nz NA NB
 have b46:=Yu.binds (ps:=["rows"]) λ_ _ _ _ _ _=>iX (λ_=>rfl)
 have Yv:=bD (st:=xx) ND NF NG
 have b47:=Yv.binds (ps:=["width","place"]) λ_ _ _ _ _ _=>fM (λ_ _=>rfl)
 have Yw:=bD (st:=xy) NI NJ NK
 have b48:=Yw.binds (ps:=["field","table"]) λ_ _ _ _ _ _=>fM (λ_ _=>rfl)
 have Yx:=bD (st:=xA) NM NN NO
 have b49:=Yx.binds (ps:=["_law_told_here","_law_field_here","_law_table_here","_law_places_here","_law_found"]) λ_ _ _ _ _ _=>Up (λ_ _ _ _ _=>rfl)
 have Yy:=bD (st:=xB) NQ NR NS
 have b50:=Yy.binds (ps:=["rows","width"]) λ_ _ _ _ _ _=>fM (λ_ _=>rfl)
 have Yz:=bD (st:=xC) NT NU D7
 have b51:=Yz.binds (ps:=["self","a","b"]) λ_ _ _ _ _ _=>gO (λ_ _ _=>rfl)
 have YA:=bD (st:=xD) NV NW D8
 have b52:=YA.binds (ps:=["self","a","b"]) λ_ _ _ _ _ _=>gO (λ_ _ _=>rfl)
 have YB:=bD (st:=xE) NY NZ N0
 have b53:=YB.binds (ps:=["field","rows","width"]) λ_ _ _ _ _ _=>gO (λ_ _ _=>rfl)
 have YC:=bD (st:=xG) N2 N3 N4
 have b54:=YC.binds (ps:=["field","table"]) λ_ _ _ _ _ _=>fM (λ_ _=>rfl)
 have YD:=bD (st:=xH) N6 N7 N8
 have b55:=YD.binds (ps:=["table","places"]) λ_ _ _ _ _ _=>fM (λ_ _=>rfl)
 have YE:=bD (st:=xI) Oa Ob Oc
 have b56:=YE.binds (ps:=["field","table"]) λ_ _ _ _ _ _=>fM (λ_ _=>rfl)
 have YF:=bD (st:=xK) Oe Of Og
 have b57:=YF.binds (ps:=["_law_found","_law_wide"]) λ_ _ _ _ _ _=>fM (λ_ _=>rfl)
 have YG:=bD (st:=xM) Oi Oj Ol
 have b58:=YG.binds (ps:=["_law_told_here","_law_table_here","_law_found","_law_row"]) λ_ _ _ _ _ _=>rS (λ_ _ _ _=>rfl)
 have YH:=bD (st:=oX) Om Oo Oq
 have b59:=YH.binds (ps:=["_law_script"]) λ_ _ _ _ _ _=>iX (λ_=>rfl)
 have T:Txt K mg ⟨f0,_,f1,_,f2,_,f3,_,f4,_,f5,_,f6,_,f7,_,f8,_,f9,_,Dn,_,Dq,_,mv,_,xZ,_,Dr,_,Ds,_,Dt,_,Du,_,Dv,_,Dw,_,Dx,_,Dy,_,Dz,_,DA,_,vF,_,DB,_,sq,_,x6,_,x8,_,x9,_,ya,_,DC,_,DD,_,DE,_,DF,_,DG,_,DH,_,DI,_,DJ,_,DK,_,DL,_,DM,_,yb,_,yc,_,DN,_,DO,_,DP,_,DQ,_,DR,_,DS,_,DT,_,yd,_,ye,_,DU,_,DV,_,DW,_,DX,_,DY,_,DZ,_,fa,_,AJ,lC,AK,lD,aU,iB,lF,aV⟩:=⟨F0,mg_of X G a0,b0,F1,mg_of X G a1,b1,F2,mg_of X G a2,b2,F3,mg_of X G a3,b3,F4,b4,F5,b5,F6,mg_of X G a6,b6,F7,b7,F8,mg_of X G a8,b8,F9,mg_of X G a9,b9,XT,mg_of X G Lb,b10,XU,mg_of X G Lf,b11,XW,mg_of X G Lj,b12,XX,b13,XY,mg_of X G Lr,b14,XZ,mg_of X G Ly,b15,X0,mg_of X G LC,b16,X1,mg_of X G LH,b17,X2,mg_of X G LM,b18,X3,mg_of X G LQ,b19,X4,mg_of X G LV,b20,X5,mg_of X G LZ,b21,X6,mg_of X G L6,b22,X7,mg_of X G Ma,b23,X8,mg_of X G Me,b24,X9,mg_of X G Mj,b25,Ya,b26,Yb,b27,Yc,b28,Yd,b29,Ye,b30,Yf,mg_of X G Mz,b31,Yg,mg_of X G MD,b32,Yh,mg_of X G MH,b33,Yi,mg_of X G ML,b34,Yj,mg_of X G MQ,b35,Yk,mg_of X G MU,b36,Yl,mg_of X G MY,b37,Ym,mg_of X G M3,b38,Yn,mg_of X G M7,b39,Yo,mg_of X G Nb,b40,Yp,mg_of X G Ng,b41,Yq,b42,Yr,b43,Ys,mg_of X G Np,b44,Yt,mg_of X G Nu,b45,Yu,mg_of X G Ny,b46,Yv,mg_of X G NC,b47,Yw,mg_of X G NH,b48,Yx,mg_of X G NL,b49,Yy,mg_of X G NP,b50,Yz,b51,YA,b52,YB,mg_of X G NX,b53,YC,mg_of X G N1,b54,YD,mg_of X G N5,b55,YE,mg_of X G N9,b56,YF,mg_of X G Od,b57,YG,mg_of X G Oh,b58,YH,mg_of X G D9,b59,rfl,La,rfl,Lq,⟨Ea,Eb,Ec,Ee⟩,⟨Af,Ot,Ou,Ov⟩,⟨⟨Ea,Eb,Ec,Ee⟩,Ow,Ox,Oy,Oz⟩,Ag,r9,xP,uF,C3,se,Ah,Ai,⟨Aj,OA,D0⟩,⟨Ak,OB,D7⟩,⟨Al,OC,AL⟩,⟨Am,OD,D4⟩,⟨xQ,OE,k4⟩,⟨An,OF,D2⟩,⟨Ef,Eg,Eh,Ei⟩,⟨Ao,OG,OH,OI⟩,⟨⟨Ef,Eg,Eh,Ei⟩,OJ,OK,OL,OM⟩,C4,uG,xR,xS,oY,C5,Ap,Aq,⟨Ar,ON,D1⟩,⟨As,OO,D8⟩,⟨Au,OP,AL⟩,⟨Av,OQ,D6⟩,⟨xT,OR,k4⟩,⟨Aw,OS,D3⟩,⟨OT,OU,OV,k5⟩,mg_none_of X G OW,mg_none_of X G OX,mg_none_of X G OY,mg_none_of X G OZ,mg_none_of X G O0,mg_none_of X G O1,mg_none_of X G O2,mg_none_of X G O3,mg_none_of X G O4,mg_none_of X G O5,mg_of X G AA,mg_of X G AB,mg_of X G xX,mg_of X G AD,cC1 (mg_of X G AB) O7,⟨O6,O8,O9,Pa,Pb,Pc,Pd,Pe⟩⟩
 exact⟨fnOf "law" "law" (bw oX) (bg oX) (ay oX) .none Xx Xy Xz Xw K8 XA,λs v=>.of_eq rfl,λbase _ _ hB=>(cB9 T hB).imp λvs H Q E h=>let z:=ce1 nl h;⟨λP hP=>z.1 P (sub P hP),z.2⟩⟩
theorem aH9{K:Frag}{h:Heap}{c f k P:Addr}{od an:Option Addr}{sl:Array (Option Value)}{oc kV dc pm ct kt:Value}{ko:Option Addr}{ks:Array (Option Value)}{kf:Array Value}(X:K.In h)(a:nsIn K mainGlobals "PrimeField"=some (some (.ref c)))(b:findIn K (.ref c) "__init__"=some (some (.ref f)))
  (l:K.lookup f=some ⟨oc,od,.func (fnOf "__init__" "PrimeField.__init__" (bw oV) (bg oV) (ay oV) .none kV dc pm an (.ref k) ct),sl⟩) (lk:K.lookup k=some ⟨kt,ko,.fields kf,ks⟩) (lp:kf[11]?=some (.ref P)) (n:K.lookup P=none) (e:codeHdIn K k P=true):K.lookup P=none/\∃c,CodeHd h c P:=⟨n,k,PySem.W.codeHd_of_K X e⟩
theorem aL2{K:Frag}{h:Heap}{c f k P:Addr}{od an:Option Addr}{sl:Array (Option Value)}{oc kV dc pm ct kt:Value}{ko:Option Addr}{ks:Array (Option Value)}{kf:Array Value}(X:K.In h)(a:nsIn K mainGlobals "BitField"=some (some (.ref c)))(b:findIn K (.ref c) "__init__"=some (some (.ref f)))
  (l:K.lookup f=some ⟨oc,od,.func (fnOf "__init__" "BitField.__init__" (bw oW) (bg oW) (ay oW) .none kV dc pm an (.ref k) ct),sl⟩) (lk:K.lookup k=some ⟨kt,ko,.fields kf,ks⟩) (lp:kf[11]?=some (.ref P)) (n:K.lookup P=none) (e:codeHdIn K k P=true):K.lookup P=none/\∃c,CodeHd h c P:=⟨n,k,PySem.W.codeHd_of_K X e⟩
theorem walk{l:PySem.W.OpenLaw}{q:Program}{loose:List Str}{XP:(Str->Option Value)->Heap->Prop}{YP:World->Heap->Prop}{d:DefRec}{K:Params->Frag}{ts:List Addr}(hn:l.most=some 63)(yT:d.params.defaults=[])
  (hY:∀(w:World) (h:Heap),YP w h->(K w.params).In h/\∀P∈ts,h.get? P=some (PySem.W.tabObj #[]))
  (hC:∀(w:World) (h:Heap),(K w.params).In h->∀P∈ts,(K w.params).lookup P=none/\∃c,CodeHd h c P)
  (F:∀(w:World) (mg:Str->Option Value) (fa:Addr) (h:Heap),(K w.params).In h->h.Ns mainGlobals mg->mg d.name=some (.ref fa) ->
   ∃fd:FuncData,(∀(s:Shared) (u:Value),BindsTo s fd ⟨[u],[]⟩ [("_law_script",u)])/\∀base:Heap,(K w.params).In base->base.Ns mainGlobals mg->Bm mg base->aP l.prog w (K w.params) mg base aZ 11 fa fd ["_law_script"] (B5 ts (K w.params))) :
  PySem.W.WalkO q loose XP YP l.row.toRowW d [] (λf vs=>PySem.call f vs) :=
 L2.di7 (n:=63) (k:=11) (x:="_law_script") (CX:=λ_=>aZ) (sp:=λw=>B5 ts (K w.params)) hn (by decide) yT ⟨rfl,by decide,by decide⟩ hY hC F (λ_ _ a ns hl hO hS=>⟨a,ns,rfl,hO,hS,hl,λ_=>rfl⟩) λ_ _ _ _ _ z=>z
end HK28
set_option genInjectivity false in
set_option genSizeOf false in
structure PySem.W.Fast:Prop where
 (tw4232516529565140992 tw1114222969336437824 tw15403058724461771840 tw8462634448386604128 tw14472597423795446912 tw742555329172112544 tw7168526159492592832 tw6467877600560788736 tw8960187304858223904 tw4113347350768261408 tw17661936781654974752 tw8548509844345054496 tw3002106851945734496 tw14250099832887290272 tw3499274158712229344 tw6838600927610137088 tw16635039356047638112 tw16940391276239909472 tw18186337391134048960 tw650851238823233216 tw7465638838710870752 tw6455604033643390688 tw16971423689215531744 tw13911547634509159168 tw7887754641803188992 tw1489244234173566720 tw1959741819182768896 tw2017452748598288192 tw11339018976633345856 tw12352745850495047520 tw16641370216126650208 tw3756186143410137952 tw5356833562271916928 tw3571554964175997920 tw12801026409915442144 tw15538812967429587009 tw13764615171469733953 tw13226422396694367393 tw14934658917193204897 tw5629020428410250433:True)
 (tw12370775384153758945 tw10525479857356329249 tw15861785631604574497 tw1567024606660541953 tw1332128180247628321 tw8565077311216978529 tw7632096771323286145 tw18121117010793328257 tw15665839453396935329 tw1200870475052011169 tw315172264291101345 tw16380446074344942337 tw1479693859501911841 tw4250344306831745857 tw18114314936972889921 tw15193505640615650209 tw825443384889260066 tw3732715898122884162 tw10861350081987392610 tw534670262937419938 tw16486305018785182978 tw9184828781540817218 tw17921111661212128610 tw12447674697573151138 tw12327161588833788386 tw1706000211434403298 tw4527403363298299394 tw1081808082999862818 tw14330028701068740226 tw5940370185879100098 tw11135680365748263618 tw4917941783471102690 tw7681903738796992258 tw7469101866751593250 tw6470288873381201730 tw5572466157878896482 tw3657399876429726626 tw12992209484743430050 tw8706967433686448066 tw17832899112160806850:True)
 (tw8014343190122170371 tw15749789537819923459 tw18030782783691147299 tw6770999018143731779 tw4547934208868019331 tw1861284710912058531 tw8763158115084009667 tw252246414745864419 tw2895184011695397091 tw15086371317480019171 tw15119983244877715683 tw178464602718099715 tw16920788048556648707 tw15410669278956480867 tw15137810683433142659 tw12525407992794459587 tw8504936770573757923 tw6572872704239600131 tw15899879929627810339 tw13283364761053272611 tw1643934402873875139 tw7716139528351625955 tw10103636012134448899 tw2975886326483605283 tw11223717534000395139 tw2977237112646172643 tw11946185680210529348 tw4008287858210034820 tw1673911731846172804 tw8492330096217749700 tw9000341337226997988 tw13456870549342640388 tw2906712969996488036 tw6070667425865194884 tw13157270327915454916 tw4427962352982389380 tw10293549492695661188 tw15403553837258222340 tw13060904431814371076 tw17955910308810955556:True)
 (tw17930687029051533284 tw7041327892614161413 tw8468057819854729253 tw2859353479629912101 tw11959088062080986213 tw16911140209400854661 tw12060437818356626565 tw15667138289704961221 tw17111227810788282693 tw4498817472705541445 tw9510944443855946053 tw10275686098184523077 tw2508648726536964453 tw14662824314129173893 tw9909244085838348709 tw1659930389546196421 tw11151898618652321317 tw9197118279471310405 tw12568098939081449125 tw8567572672940696229 tw976988588298307269 tw3015265211047681765 tw15700894372724896485 tw806000685667250917 tw9391439676465768229 tw2452481874973111205 tw2343486782630543269 tw14511535662927504293 tw15313561619106129829 tw4928110529359234118 tw14842857718169576678 tw6237826149349981446 tw1432928279084145990 tw10918563835335615878 tw415354064712713638 tw17608855873822111174 tw15580401320087944678 tw12376212430046743078 tw3501964619560202918 tw15246879096015821510:True)
 (tw6545465715957697286 tw7602423916618746630 tw14064974627016706982 tw3409540243575754694 tw17735253402186933190 tw3854697336129497062 tw3992394842465217543 tw12876097760667351047 tw2808992312303709191 tw365983049193968679 tw7153235487821980775 tw2462862167497982119 tw7400523194815580391 tw3088408164901209447 tw3569883266526803303 tw17566622638158104039 tw1487507853732077031 tw9976814394855719431 tw13228377676886433287 tw3575005418558530087 tw15789611729173132871 tw5993727259727461959 tw18395093647542621799 tw17196058094065693287 tw1537584966431168103 tw6783465634114756231 tw1314388164708356871 tw1752481400627696423 tw9637058978130822119 tw12852597576710041575 tw3108932086153739239 tw14111790801654014984 tw5889206710988216360 tw115220496050761832 tw5979108849735193736 tw3799910417637093544 tw11980161618920395944 tw5666744370856753448 tw7649458297988630856 tw9146379067223221672:True)
 (tw13638131912936193480 tw977659034191443432 tw2864011425687463464 tw9767268250066162280 tw9221080814178157224 tw7403980083990389448 tw1351996105886358248 tw10949054750966867688 tw2520690997985350408 tw4076589423633782536 tw2148014925168994088 tw7285951488482784072 tw13917804757321533384 tw10872808208103733192 tw1881078424722337801 tw8703620626038013993 tw9035612143984513097 tw17425891250120069225 tw706751812072821897 tw13293443344550069417 tw6548771426189375657 tw13359981775898228937 tw8769788271910654313 tw12265710517107988841 tw1236349476770551209 tw6488642659855939049 tw17981894730560301577 tw16023863189781184073 tw14624942005824262761 tw8793837097064342121 tw16050655211913686697 tw10272343885237429961 tw7918985093403003593 tw4652190585893461737 tw11154115589528061769 tw6057430309405172553 tw2317531964526217065 tw12207469378856839017 tw4073126709035427689 tw13923024736206416745:True)
 (tw8089975111276999690 tw16327620960032382986 tw2641942907627450410 tw13933759283642318026 tw6466479612078436586 tw11825699185819831562 tw10343991356768225642 tw15327866346232993162 tw14765947033245805994 tw17383950476003756522 tw6340683598018565738 tw8161791945974832810 tw7252334357116534474 tw4008720134752653066 tw11110022652279072554 tw9096657940602956586 tw13913108233611325258 tw17504674634678412138 tw737655386792315754 tw5587141136361676746 tw6322615759777174731 tw16038470202577946859 tw6161915181484958955 tw5554493987325464875 tw13256653857105044811 tw7401729666807591243 tw14724016831691219307 tw17139698080318723467 tw16100136757368703371 tw11628621706231172523 tw16396529552705815019 tw15002447794498262507 tw12409356015659942411 tw14956189414467984971 tw9857238460051777131 tw5702063011601621643 tw5638724839632521899 tw16529965771031725835 tw7689829630912526155 tw7532227698332162923:True)
 (tw9881830492948930475 tw15135864978085107627 tw16956605525082433451 tw2754980673972497355 tw1434546519621841932 tw413737620553851116 tw2864880354239622444 tw6144303607217716524 tw12018734378621716812 tw14593838143401613708 tw9075471025465276876 tw17916188607668957676 tw14642089879962352108 tw5624071205357252108 tw18164278694103543340 tw4074429947824886348 tw1414552493159789164 tw10699788458016037484 tw9550288621197645484 tw7402695948119050956 tw14591111979394697932 tw13821795353921177324 tw15109632056597219244 tw367856195138969516 tw662907360395618220 tw2840347202052659341 tw311257305535902893 tw14277090044134762701 tw16915195377996385517 tw1229403719918478637 tw7371781847125536173 tw8969396804152932845 tw8805437136836134477 tw2197553596844927565 tw2808639991169445517 tw6763657329604018861 tw2499938432330247885 tw5729553682764205805 tw16576987846877722445 tw18253517339210035021:True)
 (tw4861415482248086413 tw7707098904044772269 tw15285667380317446061 tw14583541777567934445 tw11691631882020998190 tw2799876839077249102 tw1861789160086836302 tw17098905960008406126 tw18242151362971624558 tw16757564969919323310 tw17880961861910700238 tw3890551031104311534 tw7984591858466554222 tw12174339129724877262 tw18002383593497463278 tw9931608369622172142 tw2929252197210506734 tw16385161456480110126 tw2213261539989073518 tw434970683703581326 tw4250604201748475566 tw5907464011334351534 tw13739977158620134126 tw10688788728602293038 tw13360496537379043150 tw9101929454417373102 tw15662773031630171054 tw3912845371888013294 tw17565137578223976463 tw15218178663897312367 tw7749695267882350703 tw4966857882400022639 tw16671683614246972559 tw1440937826051278031 tw508592799465116911 tw14992555769344575727 tw6250470064597317007 tw16067703549352992143 tw11269047035081106863 tw13138174410583513551:True)
 (tw14811516671716560431 tw2071444572677426767 tw16272295196566229679 tw5969596616660752111 tw6425621711213191983 tw1372681624571948911 tw16221009344143061935 tw6797902823194425263 tw7281956985760693199 tw14922157710905134031 tw14859233134017273807 tw4449235216755005423 tw18424616689054522416 tw3915161182906030192 tw17189669289903106160 tw8729625943113773200 tw13956094971808657552 tw7579290138525324432 tw7245649129020631216 tw1786742033484962000 tw15479595520231259504 tw15712166610080932240 tw13410584400486003088 tw9948655535161388592 tw10815409226758694448 tw10196677140200662640 tw13618954268752269968 tw574002275945666320 tw9179936018272836368 tw16730306640647640880 tw12680571780595287920 tw13376659030473373552 tw15089003676375324624 tw10411677820943553553 tw4133877224335688753 tw12437077791789807697 tw13236594077933203601 tw14292703449887615153 tw12039734260058232017 tw15131993094833980625:True)
 (tw4544384114221839601 tw6764883355913623889 tw10253579842738999633 tw9906977680654474673 tw16087128746165643761 tw9910472726745729521 tw4123167201276556881 tw13326232663205557873 tw14176695309255285425 tw4348979734387151569 tw4973795596037208849 tw2364567223687791409 tw10465797640786130801 tw88686944481213297 tw10187399804499852209 tw18426040953946288081 tw10393583631361327089 tw17413690001214890993 tw2521800655661264050 tw1883725156088118578 tw10769680584839497042 tw17259433313064749394 tw17807252956821975378 tw5488996651393106290 tw5527843619194864018 tw14882217606519040466 tw16840241994689075762 tw15889444104734260818 tw6838369143549150834 tw12234007385483232018 tw7136757947407853362 tw3521424960047351730 tw1371779246123740082 tw10655231154617383858 tw5483714556567853010 tw16596556099232328658 tw10189905916649004211 tw11336387642198878483 tw18039458302096691 tw13370094829958931827:True)
 (tw35757095752403315 tw9300664767241117075 tw970210997062764979 tw15576097364999516627 tw15056280630023150035 tw13740789732177390067 tw8811165367834429971 tw13082109826115336787 tw3659936784540032627 tw491195620428877459 tw3002231368317027987 tw13458836927172976307 tw3247986897970539187 tw9369046010102332083 tw11505424289713326803 tw5934445888604715795 tw7962387170727508787 tw4688573145190396723 tw14753422110040289171 tw5010040657560558579 tw7865639406408224980 tw7476777346235334900 tw12124388093206733044 tw10177254077415637300 tw5813510503423807828 tw15922327409816409460 tw4719526923291411828 tw16344041549975679348 tw7851876512472808852 tw13098246734840023444 tw7957450160711391668 tw4830223966670187956 tw12741336922246399476 tw16969894376603494964 tw13882147981704651316 tw1091762293300559444 tw3184093171663469172 tw12269170408336463572 tw16180818926590166772 tw2913552280777198324:True)
 (tw11932884023899078388 tw11712919610551980788 tw12376889726766683988 tw12184379976831500180 tw13093189175250831284 tw12655701218558905300 tw6130915335645949908 tw4947055572721770517 tw2557982454984652821 tw11018528249552711797 tw15742096862840669301 tw14283715683604673685 tw14068825574100001941 tw13535313472392726741 tw10417876327715897589 tw2200695314420801781 tw12878110305796566261 tw16459326153059065109 tw13767582914763824565 tw12398533134251200981 tw6112108230883261909 tw148783841234386421 tw6011578860079041045 tw10727517825345394229 tw5046487444983397973 tw5948673197772791381 tw10647063150423371349 tw2240491380778651253 tw16933142345139547765 tw3134791768321887893 tw8852537628206430869 tw4061356394224083637 tw18076875240387998453 tw9367409929876194101 tw6076786404011455413 tw11919107275123875797 tw18055906451066644469 tw2572736807753265206 tw2396945170324439126 tw861402694087143510:True)
 (tw5731526143113906294 tw11335734796510788790 tw165763307469007062 tw16268673248918728918 tw12265818152648625398 tw7988143400098798870 tw8414870441145219350 tw9878712687446595990 tw5767792073717748278 tw2061450024274615894 tw18048012504777667190 tw15765090790246496918 tw14733301474498430614 tw17841350550688368342 tw17504784911356157654 tw13140037198342206230 tw15462441638956975894 tw3996945269827233590 tw4239036479841566775 tw14920593089230249015 tw16339532463366791255 tw4923238367035907191 tw1814211346687487287 tw11242256301491720535 tw13940405958445154647 tw9488899449914453335 tw5889724304135374263 tw11727670825959666167 tw12547605252951440887 tw8504299541442311735 tw15366572171424743991 tw15243497527743280759 tw12212789312647474903 tw13138130065514076919 tw11666202669010143991 tw10398788334635286295 tw10536232621776918327 tw1238062056127668087 tw4365036567469465495 tw174814637714257879:True)
 (tw17043514610675761143 tw7946876357067261943 tw14400913403693751287 tw17311655142958266392 tw1248636180312838200 tw16055144186658327672 tw3088926813915030648 tw17257792769758520440 tw3161082096901217432 tw13264076866700631192 tw420103052056145112 tw13170304727892286680 tw14880790372044285272 tw8911180398442964312 tw17756094442233400760 tw52941892060386808 tw12919463881785263608 tw15827113033514092088 tw4312324432764482136 tw7617843350197285464 tw15553690117726989944 tw880590593798172312 tw1802900796765284056 tw8735235009844319000 tw7670674502537542488 tw15242225679212126104 tw963100295614658456 tw6697595153784057784 tw6958275691519327192 tw8947607911729890264 tw5657730899826493432 tw9194555929226864665 tw10906463632764397753 tw4020728145512805593 tw3846812220714590585 tw663239081569609113 tw14763139219786703321 tw236303668469806585 tw2132160432196623929 tw420720547406048857:True)
 (tw6028698723535857305 tw13712835225433715353 tw13328370338507426489 tw17147404183508697785 tw10409112094718032633 tw1871209144248854297 tw4348605656326580025 tw2325468506164632409 tw7877347164404077401 tw2455993030603933593 tw2432155266193174489 tw5422235860636774393 tw11830724467743519802 tw13445122007538440282 tw17594551437590807642 tw9547229794145800314 tw16521659884457816250 tw6884228394760213722 tw16972297413763365114 tw5789722121758563610 tw11929235730284880186 tw3741180121836138810 tw7060510749690938746 tw159217566168169882 tw6864854635747233178 tw5462221708543732314 tw11013577209987871386 tw11739636424523199162 tw7609682062559732410 tw11855636690652246938 tw4647405875630111738 tw4161727042580789371 tw12944595318845791355 tw13933582330554359963 tw10712093474246165659 tw3455307674240633179 tw9788881466517833115 tw14206472135784826299 tw3063328014576732731 tw1225655965069615707:True)
 (tw11730869419292324443 tw5987140347224404635 tw6104208781561135835 tw2814497118506554107 tw11339558753737685787 tw11167579159394683803 tw13530309635483735260 tw3126807355120843004 tw10188407196615781724 tw2262628098398644572 tw528979139222516124 tw2492331324574033340 tw17489412248755632572 tw2472313956143147484 tw2768123138080434652 tw4270324895339490908 tw16687789298950367836 tw9688477964771232476 tw3970836366785426204 tw3981310141582979900 tw5719611115898926972 tw10937353409067321244 tw7568667712663297980 tw4507681617191791548 tw12703770155716161565 tw9111736416470082621 tw3807731211750911101 tw15643782993646007421 tw3739872199953436861 tw16471273390328125661 tw8556022870408503549 tw3705348997663921533 tw6647798816334922109 tw12166910901510244861 tw17266683959959909885 tw18385522209314112061 tw3106807484832352861 tw7076408893188192861 tw5612905366773965437 tw7791091983244640893:True)
 (tw5001569712704756445 tw7443005846234971901 tw17677762486149750621 tw3579275482951656285 tw11522302926122505213 tw17715840973649813534 tw14453474528587698206 tw4784344507286189182 tw9311463093511694526 tw8584154926678011070 tw13252854664233587934 tw8679509566310782174 tw16522147519212173566 tw11452964875047399742 tw6130998913432965470 tw11390748947794125150 tw6014654289775148446 tw3078103495636095422 tw8246032038209680862 tw1021075626533550558 tw11182802397695861278 tw14207867096680182334 tw198900681154257502 tw13110013311292271230 tw2533111791216786174 tw11997015660129728382 tw16078519964124392414 tw2085052447158251486 tw13375557809909545023 tw9596476261886093375 tw7269502350072020095 tw7486658016129490143 tw7327652718578735487 tw12962459673467676031 tw6240518405855937951 tw7091463382510767519 tw7197187043466416607 tw13921051736112669279 tw13182247274276671327 tw13649341364778476415:True)
 (tw18291312348884295551 tw13294562267773064159 tw3757322723531866277:True)
open PySem PySem.W PyProof.Rows
set_option maxRecDepth 100000 in
set_option maxHeartbeats 0 in
theorem PySem.Challenge.cw_mendfield_k28_first_bound_set_holds : PySem.Challenge.rw_mendfield_k28_first_bound_set.Holds := by
 w_on;o_law;k_head;(case hw=>w_witness2)
 k_fill
 refine HK28.walk (l:=PySem.Challenge.rw_mendfield_k28_first_bound_set) rfl rfl (λw h Y=>⟨PySem.W.km_in_of Y,PySem.W.km_tabs_of Y⟩) ?C ?F
 case C =>
  intro w h hX
  repeat' (first | exact List.forall_mem_nil _ | refine List.forall_mem_cons.mpr ⟨?_,?_⟩)
  all_goals first | (refine' HK28.aH9 hX ?a ?b ?l ?lk ?lp ?n ?e;(case a=>k_is);(case b=>k_is);(case l=>k_is);(case lk=>k_is);(case lp=>first | rfl | with_unfolding_all rfl);(case n=>kernel_rfl);(case e=>kernel_rfl)) | (refine' HK28.aL2 hX ?a ?b ?l ?lk ?lp ?n ?e;(case a=>k_is);(case b=>k_is);(case l=>k_is);(case lk=>k_is);(case lp=>first | rfl | with_unfolding_all rfl);(case n=>kernel_rfl);(case e=>kernel_rfl))
 case F =>
  intro w mg fa h KX G yU
  refine' HK28.all_mk KX G yU ?AA ?AB ?xX ?AD ?a0 ?l0 ?c0 ?k0 ?a1 ?l1 ?c1 ?k1 ?a2 ?l2 ?c2 ?k2 ?a3 ?l3 ?c3 ?k3 ?a4 ?l4 ?c4 ?k4 ?a5 ?l5 ?c5 ?k5 ?a6 ?l6 ?c6 ?k6 ?a7 ?l7 ?c7 ?k7 ?XB ?XC ?La ?a8 ?l8 ?c8 ?k8 ?a9 ?l9 ?c9 ?k9 ?Lb ?Lc ?Ld ?Le ?Lf ?Lg ?Lh ?Li ?Lj ?Lk ?Ll ?Lm ?XD ?Ln ?Lo ?Lp ?XE ?XF ?Lq ?Lr ?Lu ?Lw ?Lx ?Ly ?Lz ?LA ?LB ?LC ?LD ?LF ?LG ?LH ?LJ ?LK ?LL ?LM ?LN ?LO ?LP ?LQ ?LR ?LS ?LU ?LV ?LW ?LX ?LY ?LZ ?L0 ?L4 ?L5 ?L6 ?L7 ?L8 ?L9 ?Ma ?Mb ?Mc ?Md ?Me ?Mg ?Mh ?Mi ?Mj ?Ml ?Mm ?Mn ?XG ?Mo ?Mp ?AL ?XH ?Mq ?Mr ?D0 ?XI ?Ms ?Mt ?D1 ?XJ ?Mu ?Mv ?D2 ?XM ?Mw ?Mx ?D3 ?Mz ?MA ?MB ?MC ?MD ?ME ?MF ?MG ?MH ?MI ?MJ ?MK ?ML ?MM ?MN ?MP ?MQ ?MR ?MS ?MT ?MU ?MV ?MW ?MX ?MY ?MZ ?M0 ?M1 ?M3 ?M4 ?M5 ?M6 ?M7 ?M8 ?M9 ?Na ?Nb ?Nc ?Nd ?Nf ?Ng ?Nh ?Ni ?Nj ?XN ?Nk ?Nl ?D4 ?XO ?Nm ?Nn ?D6 ?Np ?Nq ?Nr ?Nt ?Nu ?Nv ?Nw ?Nx ?Ny ?Nz ?NA ?NB ?NC ?ND ?NF ?NG ?NH ?NI ?NJ ?NK ?NL ?NM ?NN ?NO ?NP ?NQ ?NR ?NS ?XQ ?NT ?NU ?D7 ?XR ?NV ?NW ?D8 ?NX ?NY ?NZ ?N0 ?N1 ?N2 ?N3 ?N4 ?N5 ?N6 ?N7 ?N8 ?N9 ?Oa ?Ob ?Oc ?Od ?Oe ?Of ?Og ?Oh ?Oi ?Oj ?Ol ?D9 ?Om ?Oo ?Oq ?Ea ?Eb ?Ec ?Ee ?Af ?Ot ?Ou ?Ov ?Ow ?Ox ?Oy ?Oz ?Ag ?r9 ?xP ?uF ?C3 ?se ?Ah ?Ai ?Aj ?OA ?Ak ?OB ?Al ?OC ?Am ?OD ?xQ ?OE ?An ?OF ?Ef ?Eg ?Eh ?Ei ?Ao ?OG ?OH ?OI ?OJ ?OK ?OL ?OM ?C4 ?uG ?xR ?xS ?oY ?C5 ?Ap ?Aq ?Ar ?ON ?As ?OO ?Au ?OP ?Av ?OQ ?xT ?OR ?Aw ?OS ?OT ?OU ?OV ?OW ?OX ?OY ?OZ ?O0 ?O1 ?O2 ?O3 ?O4 ?O5 ?O6 ?XS ?O7 ?O8 ?O9 ?Pa ?Pb ?Pc ?Pd ?Pe ?nl ?sub
  (case AA=>k_is)
  (case AB=>k_is)
  (case xX=>k_is)
  (case AD=>k_is)
  (case a0=>k_is)
  (case l0=>k_is)
  (case c0=>k_is)
  (case k0=>k_is)
  (case a1=>k_is)
  (case l1=>k_is)
  (case c1=>k_is)
  (case k1=>k_is)
  (case a2=>k_is)
  (case l2=>k_is)
  (case c2=>k_is)
  (case k2=>k_is)
  (case a3=>k_is)
  (case l3=>k_is)
  (case c3=>k_is)
  (case k3=>k_is)
  (case a4=>k_is)
  (case l4=>k_is)
  (case c4=>k_is)
  (case k4=>k_is)
  (case a5=>k_is)
  (case l5=>k_is)
  (case c5=>k_is)
  (case k5=>k_is)
  (case a6=>k_is)
  (case l6=>k_is)
  (case c6=>k_is)
  (case k6=>k_is)
  (case a7=>k_is)
  (case l7=>k_is)
  (case c7=>k_is)
  (case k7=>k_is)
  (case XB=>k_is)
  (case XC=>first | rfl | with_unfolding_all rfl)
  (case La=>kernel_rfl)
  (case a8=>k_is)
  (case l8=>k_is)
  (case c8=>k_is)
  (case k8=>k_is)
  (case a9=>k_is)
  (case l9=>k_is)
  (case c9=>k_is)
  (case k9=>k_is)
  (case Lb=>k_is)
  (case Lc=>k_is)
  (case Ld=>k_is)
  (case Le=>k_is)
  (case Lf=>k_is)
  (case Lg=>k_is)
  (case Lh=>k_is)
  (case Li=>k_is)
  (case Lj=>k_is)
  (case Lk=>k_is)
  (case Ll=>k_is)
  (case Lm=>k_is)
  (case XD=>k_is)
  (case Ln=>k_is)
  (case Lo=>k_is)
  (case Lp=>k_is)
  (case XE=>k_is)
  (case XF=>first | rfl | with_unfolding_all rfl)
  (case Lq=>kernel_rfl)
  (case Lr=>k_is)
  (case Lu=>k_is)
  (case Lw=>k_is)
  (case Lx=>k_is)
  (case Ly=>k_is)
  (case Lz=>k_is)
  (case LA=>k_is)
  (case LB=>k_is)
  (case LC=>k_is)
  (case LD=>k_is)
  (case LF=>k_is)
  (case LG=>k_is)
  (case LH=>k_is)
  (case LJ=>k_is)
  (case LK=>k_is)
  (case LL=>k_is)
  (case LM=>k_is)
  (case LN=>k_is)
  (case LO=>k_is)
  (case LP=>k_is)
  (case LQ=>k_is)
  (case LR=>k_is)
  (case LS=>k_is)
  (case LU=>k_is)
  (case LV=>k_is)
  (case LW=>k_is)
  (case LX=>k_is)
  (case LY=>k_is)
  (case LZ=>k_is)
  (case L0=>k_is)
  (case L4=>k_is)
  (case L5=>k_is)
  (case L6=>k_is)
  (case L7=>k_is)
  (case L8=>k_is)
  (case L9=>k_is)
  (case Ma=>k_is)
  (case Mb=>k_is)
  (case Mc=>k_is)
  (case Md=>k_is)
  (case Me=>k_is)
  (case Mg=>k_is)
  (case Mh=>k_is)
  (case Mi=>k_is)
  (case Mj=>k_is)
  (case Ml=>k_is)
  (case Mm=>k_is)
  (case Mn=>k_is)
  (case XG=>k_is)
  (case Mo=>k_is)
  (case Mp=>k_is)
  (case AL=>k_is)
  (case XH=>k_is)
  (case Mq=>k_is)
  (case Mr=>k_is)
  (case D0=>k_is)
  (case XI=>k_is)
  (case Ms=>k_is)
  (case Mt=>k_is)
  (case D1=>k_is)
  (case XJ=>k_is)
  (case Mu=>k_is)
  (case Mv=>k_is)
  (case D2=>k_is)
  (case XM=>k_is)
  (case Mw=>k_is)
  (case Mx=>k_is)
  (case D3=>k_is)
  (case Mz=>k_is)
  (case MA=>k_is)
  (case MB=>k_is)
  (case MC=>k_is)
  (case MD=>k_is)
  (case ME=>k_is)
  (case MF=>k_is)
  (case MG=>k_is)
  (case MH=>k_is)
  (case MI=>k_is)
  (case MJ=>k_is)
  (case MK=>k_is)
  (case ML=>k_is)
  (case MM=>k_is)
  (case MN=>k_is)
  (case MP=>k_is)
  (case MQ=>k_is)
  (case MR=>k_is)
  (case MS=>k_is)
  (case MT=>k_is)
  (case MU=>k_is)
  (case MV=>k_is)
  (case MW=>k_is)
  (case MX=>k_is)
  (case MY=>k_is)
  (case MZ=>k_is)
  (case M0=>k_is)
  (case M1=>k_is)
  (case M3=>k_is)
  (case M4=>k_is)
  (case M5=>k_is)
  (case M6=>k_is)
  (case M7=>k_is)
  (case M8=>k_is)
  (case M9=>k_is)
  (case Na=>k_is)
  (case Nb=>k_is)
  (case Nc=>k_is)
  (case Nd=>k_is)
  (case Nf=>k_is)
  (case Ng=>k_is)
  (case Nh=>k_is)
  (case Ni=>k_is)
  (case Nj=>k_is)
  (case XN=>k_is)
  (case Nk=>k_is)
  (case Nl=>k_is)
  (case D4=>k_is)
  (case XO=>k_is)
  (case Nm=>k_is)
  (case Nn=>k_is)
  (case D6=>k_is)
  (case Np=>k_is)
  (case Nq=>k_is)
  (case Nr=>k_is)
  (case Nt=>k_is)
  (case Nu=>k_is)
  (case Nv=>k_is)
  (case Nw=>k_is)
  (case Nx=>k_is)
  (case Ny=>k_is)
  (case Nz=>k_is)
  (case NA=>k_is)
  (case NB=>k_is)
  (case NC=>k_is)
  (case ND=>k_is)
  (case NF=>k_is)
  (case NG=>k_is)
  (case NH=>k_is)
  (case NI=>k_is)
  (case NJ=>k_is)
  (case NK=>k_is)
  (case NL=>k_is)
  (case NM=>k_is)
  (case NN=>k_is)
  (case NO=>k_is)
  (case NP=>k_is)
  (case NQ=>k_is)
  (case NR=>k_is)
  (case NS=>k_is)
  (case XQ=>k_is)
  (case NT=>k_is)
  (case NU=>k_is)
  (case D7=>k_is)
  (case XR=>k_is)
  (case NV=>k_is)
  (case NW=>k_is)
  (case D8=>k_is)
  (case NX=>k_is)
  (case NY=>k_is)
  (case NZ=>k_is)
  (case N0=>k_is)
  (case N1=>k_is)
  (case N2=>k_is)
  (case N3=>k_is)
  (case N4=>k_is)
  (case N5=>k_is)
  (case N6=>k_is)
  (case N7=>k_is)
  (case N8=>k_is)
  (case N9=>k_is)
  (case Oa=>k_is)
  (case Ob=>k_is)
  (case Oc=>k_is)
  (case Od=>k_is)
  (case Oe=>k_is)
  (case Of=>k_is)
  (case Og=>k_is)
  (case Oh=>k_is)
  (case Oi=>k_is)
  (case Oj=>k_is)
  (case Ol=>k_is)
  (case D9=>k_is)
  (case Om=>k_is)
  (case Oo=>k_is)
  (case Oq=>k_is)
  (case Ea=>k_is)
  (case Eb=>k_is)
  (case Ec=>k_is)
  (case Ee=>k_is)
  (case Af=>k_is)
  (case Ot=>k_is)
  (case Ou=>k_is)
  (case Ov=>k_is)
  (case Ow=>k_is)
  (case Ox=>k_is)
  (case Oy=>k_is)
  (case Oz=>k_is)
  (case Ag=>k_is)
  (case r9=>k_is)
  (case xP=>k_is)
  (case uF=>k_is)
  (case C3=>k_is)
  (case se=>k_is)
  (case Ah=>k_is)
  (case Ai=>k_is)
  (case Aj=>k_is)
  (case OA=>k_is)
  (case Ak=>k_is)
  (case OB=>k_is)
  (case Al=>k_is)
  (case OC=>k_is)
  (case Am=>k_is)
  (case OD=>k_is)
  (case xQ=>k_is)
  (case OE=>k_is)
  (case An=>k_is)
  (case OF=>k_is)
  (case Ef=>k_is)
  (case Eg=>k_is)
  (case Eh=>k_is)
  (case Ei=>k_is)
  (case Ao=>k_is)
  (case OG=>k_is)
  (case OH=>k_is)
  (case OI=>k_is)
  (case OJ=>k_is)
  (case OK=>k_is)
  (case OL=>k_is)
  (case OM=>k_is)
  (case C4=>k_is)
  (case uG=>k_is)
  (case xR=>k_is)
  (case xS=>k_is)
  (case oY=>k_is)
  (case C5=>k_is)
  (case Ap=>k_is)
  (case Aq=>k_is)
  (case Ar=>k_is)
  (case ON=>k_is)
  (case As=>k_is)
  (case OO=>k_is)
  (case Au=>k_is)
  (case OP=>k_is)
  (case Av=>k_is)
  (case OQ=>k_is)
  (case xT=>k_is)
  (case OR=>k_is)
  (case Aw=>k_is)
  (case OS=>k_is)
  (case OT=>k_is)
  (case OU=>k_is)
  (case OV=>k_is)
  (case OW=>k_is)
  (case OX=>k_is)
  (case OY=>k_is)
  (case OZ=>k_is)
  (case O0=>k_is)
  (case O1=>k_is)
  (case O2=>k_is)
  (case O3=>k_is)
  (case O4=>k_is)
  (case O5=>k_is)
  (case O6=>first | k_is | rfl | decide)
  (case XS=>k_is)
  (case O7=>k_exc)
  (case O8=>k_is)
  (case O9=>k_is)
  (case Pa=>k_is)
  (case Pb=>k_is)
  (case Pc=>k_is)
  (case Pd=>k_is)
  (case Pe=>k_is)
  (case nl=>first | k_is | rfl | decide)
  (case sub=>decide)
