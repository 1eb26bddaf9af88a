import PyProof.Rows.All
import Wide.All
import OpenK.AllK
import Wide.FinOn
import Lean
import PyProof.EqAt
import PyProof.EqKinds
import PyProof.TupleCall
import PyProof.NeKinds
import PyProof.Rows.Range3
import PyProof.FitsBits
import PyProof.StationsW
import PyProof.NsDelKeeps
import PyProof.Rows.CatchOwn
import KE.KTryMore
import PyProof.ExcArgsOwn
import PyProof.ExcAttrAll.ValueError
import OpenK.KOwn
import PyProof.ZipIter
import PyProof.WalksEnum
import PyProof.EnumMake
import KE.KIntText
import PyProof.Conv_int
import PyProof.StrWalks
import PyProof.StrLawsFirst
import KE.KLam
import KE.KNestM
import KE.KRevIter
import PyProof.ListRange
import PyProof.Rows.SortWalk
import PySem.Challenge.RW_mendfield_k11_greatest_walked
open Array renaming append_assoc→vt,length_toList→vv,getElem?_eq_some_iff→Ld,toList_append→Tj
open Bool renaming and_eq_true→df,or_true→jk,and_true→j0,true_and→lj,false_ne_true→rf,false_and→rh,or_false→rm,not_false→vN,not_true→vO,true_or→vP,false_or→vQ,false_eq_true→vR,eq_iff_iff→Cg,or_eq_true→Lc
open Classical renaming byContradiction→Ta
open False renaming elim→dy
open ForInStep renaming yield→Ci
open Int renaming natAbs_natCast→gw,emod_nonneg→ji,emod_lt_of_pos→jj,toNat_natCast→jW,natCast_emod→lF,toNat_of_nonneg→yH,natCast_mul→yJ,natCast_add→Cv,natCast_nonneg→K6,zero_add→Ll,fdiv_eq_ediv_of_nonneg→S3
open List renaming replicate→aN,getD_eq_getElem?_getD→aU,getElem?_eq_getElem→bc,range→bL,mem_cons→bM,size_toArray→cS,all_cons→dg,map_cons→dj,length_map→dS,all_eq_true→dU,mem_append→eA,append_assoc→eB,mem_append_right→eP,not_mem_nil→eQ,getElem?_map→eZ,length_cons→fq,mem_append_left→fO,length_replicate→fP,length_take→gu,map_map→gv,lookup_cons→gU,map_nil→il,getElem_mem→iq,mem_range→iD,append_nil→iF,mem_map→iJ,nodup_cons→jf,length_append→jg,zipWith→jh,mem_cons_of_mem→jT,getElem?_eq_some_iff→jU,lookup→jV,length_drop→jX,length_range→lu,getElem?_set_ne→nC,getElem?_append_right→nE,replicate_succ→nH,nil_append→nI,mem_singleton→nL,cons.inj→nN,perm_append_comm→nO,map_append→nQ,getElem?_range→nR,length_pos_iff→nS,getElem?_eq_none→nU,all_nil→nV,set_cons_zero→nX,set_cons_succ→nY,filterMap_cons→q9,flatten_cons→rn,take_length→rq,cons_append→rA,map_replicate→rB,length_nil→rC,getElem?_replicate→vw,getElem?_append_left→vx,mem_of_getElem?→vy,mem_of_mem_take→vB,getElem?_take→vC,getElem?_cons_zero→vJ,getElem?_cons_succ→vK,cons.injEq→vM,of_mem_zip→yv,getElem_of_mem→yC,all_map→yE,length→B8,length_set→B9,append_eq_nil_iff→Cn,take_add_one→Co,mem_of_mem_drop→Cp,map→Cq,map_zipWith→Cr,map_congr_left→Cs,mem_or_eq_of_mem_set→Ct,mem_map_of_mem→Cw,length_zipWith→Cy,getElem?_eq_none_iff→K3,mem_cons_self→K4,getElem?_set_self→K5,length_dropLast→K9,Sublist.refl→Lf,append_inj→Lg,take_of_length_le→Lh,mem_replicate→Li,drop_eq_nil_of_le→Lk,getElem?_mapIdx→Lm,getElem?_zipWith→Lq,dropLast_eq_take→Lr,length_eq_zero_iff→Lw,mem_filterMap→S2,length_singleton→S5,set_eq_of_length_le→Td,eq_nil_iff_forall_not_mem→Te,filter_eq_self→Tf,range_succ_eq_map→Tg,dropLast_cons_of_ne_nil→Th,getElem?_drop→Ti,zip_cons_cons→Tn,reverse_append→To,drop_eq_getElem_cons→Tp,zipWith_cons_cons→Tq
open Nat renaming le_refl→aX,lt_of_lt_of_le→cJ,le_trans→dY,ne_of_lt→eu,lt_irrefl→fN,zero_le→iE,xor_zero→iG,shiftLeft_eq→iH,mul_comm→jY,testBit_xor→jZ,zero_xor→kZ,lt_of_le_of_lt→lh,pow_succ→nJ,xor_assoc→nK,mul_assoc→rp,min_eq_left→rz,two_pow_pos→vz,not_lt→vD,mul_mod→vE,mod_lt→vF,add_sub_cancel_left→vG,pow_le_pow_right→yy,eq_of_testBit_eq→yz,testBit_zero→yA,xor_self→yB,sub_zero→yD,sub_self→yF,mod_eq_of_lt→yG,le_max_left→yI,le_of_lt→B3,ne_of_gt→B5,lt_succ_self→B7,add_comm→Ca,testBit_lt_two_pow→Cc,testBit_succ→Cd,strongRecOn→Ce,add_zero→Cf,mod_add_mod→Cu,not_lt_zero→Cz,succ.inj→CA,one_shiftLeft→CG,le_of_eq→K7,xor_comm→La,testBit_and→Lb,mod_mod→Ln,zero_add→Lo,le_max_right→Lp,exists_eq_add_of_le→Ls,lt_or_ge→Lv,testBit_eq_decide_div_mod_eq→S6,shiftLeft_xor_distrib→S7,mul_lt_mul_right→S8,testBit_shiftLeft→S9,shiftRight_eq_div_pow→Tc,add_sub_add_right→Tr
open Ne renaming symm→du
open Option renaming some.inj→dw,getD_none→nG,getD_some→nM,map_some→vH,map_none→vI,some.injEq→vL,none→Cb,map_eq_some_iff→Lj,isSome_iff_exists→S4
open Or renaming inl→ar,inr→bh
open PyProof renaming Rows.callWith_type1→rj
open PySem renaming Heap.lt_size→bC,Heap.get?_push_of_some→cN,Value.ref→dr,Heap.get?_push_size→dA,PassesOwn.never→e7,Builtin.Range.rangeSize→ik,Value.none→je,Builtin.bitAnd→kX,Builtin.bitXor→kY,Heap.size_push→nD,Heap.get?_update_other→nF,Builtin.SmallTypes.nextOf→nW,Value.int→vq,Obj.data_mapFields→vA,Obj.mapSeq→yw,Heap.get?_update_self→yx,Value.bool→B0,Heap.SameBut→B4,Data.fields→B6,Obj.isFreed_of_fields→Cj,Value.type.inj→Ck,Builtin.Str.strSliceIndices→Cm,Str.ofString→CB,F.slot_tuple_iterator_next→CC,Builtin.SmallTypes.ownedTupleIsFree→CD,F.slot_zip_next→CF,Builtin.List.listTooLong→K8,Heap.MadeExcOf→Le,Heap.SameBut.update→Lu,Calls.Name_function_global→S1,F.entry_tuple_iterator_next→Ts,F.args_tuple_iterator_next_1→Tt,Builtin.SmallTypes.ownedTupleHandOut→Tu
open Sum renaming inl→q5,inr→q8
open True renaming intro→rk
set_option Elab.async false
set_option linter.all false
set_option maxRecDepth 100000
namespace L2
open PySem PySem.Spec PyProof.Rows
noncomputable abbrev Key:=Sum Int Str
noncomputable def Lx:Key->Value->Bool
 | .inl k,v=>Value.isInt k v
 | .inr x,v=>Value.isStrOf x v
noncomputable def Tv(w:World):Key->Int
 | .inl k=>hashInt k
 | .inr x=>hashStr w x
theorem j3:∀{k:Key} {v:Value},Lx k v=true->(∃i t,k=q5 i/\v=vq i t)\/(∃x t,k=q8 x/\v=Value.str x t)
 | .inl i,v,h=>by
  obtain⟨t,e⟩:=Value.isInt_shape (k:=i) (v:=v) h
  exact .inl ⟨i,t,rfl,e⟩
 | .inr x,v,h=>by
  obtain⟨t,e⟩:=Value.isStrOf_shape (x:=x) (v:=v) h
  exact .inr ⟨x,t,rfl,e⟩
theorem Tw(a b:Int):decide ((q5 a:Key)=q5 b)=(a==b):=by
 by_cases e:a=b
 ·subst e;simp
 ·have h:¬ (q5 a:Key)=q5 b:=λq=>e (Sum.inl.inj q)
  rw[decide_eq_false h]
  exact(beq_eq_false_iff_ne.mpr e).symm
theorem Tx(a b:Str):decide ((q8 a:Key)=q8 b)=decide (a=b):=by
 by_cases e:a=b
 ·subst e;simp
 ·have h:¬ (q8 a:Key)=q8 b:=λq=>e (Sum.inr.inj q)
  rw[decide_eq_false h,decide_eq_false e]
theorem Tz(a:Int)(b:Str):decide ((q5 a:Key)=q8 b)=false:=decide_eq_false (λq=>nomatch q)
theorem TB(a:Str)(b:Int):decide ((q8 a:Key)=q5 b)=false:=decide_eq_false (λq=>nomatch q)
noncomputable def Ly(prog:Program)(w:World):PySem.KeyKind prog w Key where
 is:=Lx
 hash:=Tv w
 inj:=λv a b ha hb=>by
  rcases j3 ha with⟨i,t,rfl,rfl⟩ | ⟨x,t,rfl,rfl⟩
  ·rcases j3 hb with⟨j,u,rfl,e⟩ | ⟨y,u,rfl,e⟩
   ·injection e with e1 _;rw[e1]
   ·exact nomatch e
  ·rcases j3 hb with⟨j,u,rfl,e⟩ | ⟨y,u,rfl,e⟩
   ·exact nomatch e
   ·injection e with e1 _;rw[e1]
 byValue:=λk v h=>by
  rcases j3 h with⟨i,t,rfl,rfl⟩ | ⟨x,t,rfl,rfl⟩<;>rfl
 pyHash:=λhv h=>by
  rcases j3 hv with⟨i,t,rfl,rfl⟩ | ⟨x,t,rfl,rfl⟩
  ·exact wpAny_pyHash_int h
  ·exact wpAny_pyHash_str h
 eqBool:=λhu hv h=>by
  rcases j3 hu with⟨i,t,rfl,rfl⟩ | ⟨x,t,rfl,rfl⟩
  ·rcases j3 hv with⟨j,u,rfl,rfl⟩ | ⟨y,u,rfl,rfl⟩
   ·rw[Tw]at h;exact wpAny_eqBool_int h
   ·rw[Tz]at h;exact SeqAt.EqAt.int_str i t y u _ _ _ _ h
  ·rcases j3 hv with⟨j,u,rfl,rfl⟩ | ⟨y,u,rfl,rfl⟩
   ·rw[TB]at h;exact SeqAt.EqAt.str_int x t j u _ _ _ _ h
   ·rw[Tx]at h;exact wpAny_eqBool_str h
 «strs»:=λk x t v h=>by
  rcases j3 h with⟨i,u,rfl,e⟩ | ⟨y,u,rfl,e⟩
  ·exact nomatch e
  ·injection e with e1 _
   subst e1
   cases v<;>rfl
end L2
namespace L2
open PySem PySem.Spec PyProof.Rows
inductive V where
 | aq | bl (b:Bool) | int (i:Int) | str (x:Str) | yK (b:Array UInt8) | nZ (b:UInt64) | ref (a:Addr) | ty (n:String)
 deriving DecidableEq
noncomputable def RelV:V->Value->Prop
 | .aq,u=>u=je
 | .bl b,u=>u=B0 b
 | .int i,u=>∃t,u=vq i t
 | .str x,u=>∃t,u=Value.str x t
 | .yK b,u=>∃t,u=Value.bytes b t
 | .nZ b,u=>∃t,u=Value.float b t
 | .ref a,u=>u=dr a
 | .ty n,u=>u=Value.type n
noncomputable abbrev Vals:List V->List Value->Prop:=Paired RelV
theorem Vals.length{xs:List V}{us:List Value}(r:Vals xs us):xs.length=us.length:=Paired.length r
theorem Vals.get:∀{xs:List V} {us:List Value} {i:Nat} {x:V},Vals xs us->xs[i]?=some x->∃u,us[i]?=some u/\RelV x u
 | _,_,_,_,.nil,e=>by simp at e
 | _,_,0,_,.cons r _,e=>by simp at e;subst e;exact⟨_,rfl,r⟩
 | _,_,i+1,x,.cons _ t,e=>by
  obtain⟨u,h1,h2⟩:=Vals.get (i:=i) (x:=x) t (by simpa using e)
  exact⟨u,by simpa using h1,h2⟩
theorem Vals.set{x:V}{u:Value}(r:RelV x u):∀{xs:List V} {us:List Value} (i:Nat),Vals xs us->Vals (xs.set i x) (us.set i u)
 | _,_,_,.nil=>.nil
 | _,_,0,.cons _ t=>.cons r t
 | _,_,i+1,.cons q t=>.cons q (Vals.set r i t)
theorem Vals.append:∀{xs ys:List V} {us ws:List Value},Vals xs us->Vals ys ws->Vals (xs++ys) (us++ws)
 | _,_,_,_,.nil,s=>s
 | _,_,_,_,.cons r t,s=>.cons r (Vals.append t s)
theorem Vals.take:∀{xs:List V} {us:List Value} (n:Nat),Vals xs us->Vals (xs.take n) (us.take n)
 | _,_,0,_=>.nil
 | _,_,_+1,.nil=>.nil
 | _,_,n+1,.cons r t=>.cons r (Vals.take n t)
theorem Vals.drop:∀{xs:List V} {us:List Value} (n:Nat),Vals xs us->Vals (xs.drop n) (us.drop n)
 | _,_,0,r=>r
 | _,_,_+1,.nil=>.nil
 | _,_,n+1,.cons _ t=>Vals.drop n t
theorem Vals.none_of:∀{xs:List V} {us:List Value} {i:Nat},Vals xs us->xs[i]?=none->us[i]?=none:=λ{xs us i} r e=>by
 have h1:=r.length
 have h2:xs.length<=i:=K3.mp e
 exact K3.mpr (by omega)
noncomputable def jl:Option V->Option Value->Prop
 | some v,some u=>RelV v u
 | none,none=>True
 | _,_=>False
noncomputable def KV{κ:Type}:List (κ × V)->List (κ × Value)->Prop:=Paired λ(p:κ × V) (q:κ × Value)=>p.1=q.1/\RelV p.2 q.2
noncomputable def kV:Key->V
 | .inl i=>.int i
 | .inr x=>.str x
inductive HO where
 | lst (xs:List V)
 | tup (xs:List V)
 | dK (cO:List (Key × V)) | dT (cO:List (List Key × V))
 | set (S:Int->Bool) (n:Nat)
 | ins (C dx:Addr) (fs:List (Str × V))
 | own (x:Addr)
 | xd (fs:List (Str × V))
 | met (f x:Addr)
 | vS (lo hi:Int)
 | bQ (o:Obj) (u:HO)
 | cK (ps:Array Value)
 | ext (φ:Heap->Prop)
noncomputable abbrev Hp:=Addr->Option HO
noncomputable def upd(H:Hp)(a:Addr)(o:HO):Hp:=λb=>if b=a then some o else H b
theorem bN{H:Hp}{a:Addr}{o:HO}:upd H a o a=some o:=by unfold upd;rw[if_pos rfl]
theorem aP{H:Hp}{a b:Addr}{o:HO}(h:b≠a):upd H a o b=H b:=by unfold upd;rw[if_neg h]
theorem dW{H:Hp}{a b:Addr}{o:HO}(h:H a=some o)(h':H b=none):a≠b:=by
 intro e;subst e;rw[h]at h';cases h'
section
variable(P:Program)(w:World)
noncomputable def cX(H:Hp)(h:Heap)(a:Addr):HO->Prop
 | .lst xs=>xs.length<=sizeLine/\∃(its:List Value) (n:Nat),Vals xs its/\h.get? a=some { cls:=.type "list",data:=.seq its.toArray n }
 | .tup xs=>xs.length<=sizeLine/\∃its:List Value,Vals xs its/\IsTup h a its.toArray
 | .dK cO=>cO.length<=sizeLine/\(a==sysModules)=false/\∃vs,KV cO vs/\h.DictOf (Ly P w) a vs
 | .dT cO=>cO.length<=sizeLine/\(a==sysModules)=false/\∃xs:List (List Key × Addr × Value),
   Paired (λ(p:List Key × V) (q:List Key × Addr × Value)=>p.1=q.1/\H q.2.1=some (.tup (p.1.map kV))/\RelV p.2 q.2.2) cO xs /\
   ∃o es ep,h.get? a=some o/\o.ExactDict/\o.data=.dict es ep/\es.toList=xs.map (entryOfKey (tupleKind (Ly P w)))/\(xs.map (·.1)).Nodup
 | .set S n=>h.SetOf (intKind P w) a S n
 | .ins C dx fs=>H dx=some (.own a)/\fs.length<=1000/\dx≠a/\h.get? a=some (PySem.W.instObj C dx) /\
   ∃mA,h.Ns1 dx mA/\(∀f,jl (fs.lookup f) (mA f))/\PySem.Within mA (fs.map (·.1))
 | .own _=>∃o,h.get? a=some o
 | .xd fs=>∃mA,h.Ns1 a mA/\∀f,jl (fs.lookup f) (mA f)
 | .vS lo hi=>∃t u v,h.get? a=some { cls:=.type "range",data:=.fields #[.int lo t,.int hi u,.int 1 v] }
 | .bQ o u=>h.get? a=some o/\cX H h a u
 | .cK ps=>h.get? a=some { cls:=.none,data:=.fields ps }/\TriplesOk ps.toList/\∀pos cv,codeAmong pos ps.toList=some cv->∃c φ,cv=.ref c/\H c=some (.ext φ)/\∀h',φ h'->∃q,h'.CodeRec (.ref c) q
 | .met f x=>h.get? a=some (PySem.W.methodObj (.ref f) (.ref x))
 | .ext φ=>φ h/\(∃o,h.get? a=some o)/\∀h1 h2:Heap,φ h1->(∀b o,(b=a\/H b=some (.own a))->h1.get? b=some o->h2.get? b=some o)->φ h2
noncomputable def bZ(H:Hp)(h:Heap):Prop:=∀a o,H a=some o->cX P w H h a o
end
section
variable{P:Program}{w:World}{H H':Hp}{h h':Heap}{a:Addr}{o:HO}
theorem cX.lt(x:cX P w H h a o):a<h.objs.size:=by
 cases o with
 | lst xs=>obtain⟨_,_,_,_,e⟩:=x;exact bC e
 | tup xs=>obtain⟨_,_,_,p⟩:=x;exact p.lt
 | dK cO=>obtain⟨_,_,_,_,o,_,_,e,_⟩:=x;exact bC e
 | dT cO=>obtain⟨_,_,_,_,o,_,_,e,_⟩:=x;exact bC e
 | set S n=>obtain⟨o,_,_,_,e,_⟩:=x;exact bC e
 | ins C dx fs=>obtain⟨_,_,_,e,_⟩:=x;exact bC e
 | own y=>obtain⟨_,e⟩:=x;exact bC e
 | xd fs=>obtain⟨_,⟨_,_,_,e,_⟩,_⟩:=x;exact bC e
 | vS lo hi=>obtain⟨_,_,_,e⟩:=x;exact bC e
 | bQ ob u=>obtain⟨e,_⟩:=x;exact bC e
 | cK ps=>exact bC (show h.get? a=some _ from x.1)
 | met f y=>exact bC (show h.get? a=some _ from x)
 | ext φ=>obtain⟨_,⟨_,e⟩,_⟩:=x;exact bC e
theorem Paired.CH{α β:Type}{F G:α->β->Prop}:∀{l₁:List α} {l₂:List β},Paired F l₁ l₂->(∀a b,F a b->G a b)->Paired G l₁ l₂
 | _,_,.nil,_=>.nil
 | _,_,.cons r t,f=>.cons (f _ _ r) (Paired.CH t f)
theorem cX.cT(x:cX P w H h a o)(k:∀b u,(b=a\/H b=some (.own a))->h.get? b=some u->h'.get? b=some u)
  (ho:∀b,H b=some (.own a)->H' b=some (.own a)) (ht:∀b xs,H b=some (.tup xs)->H' b=some (.tup xs)) (hx:∀b φ,H b=some (.ext φ)->H' b=some (.ext φ)):cX P w H' h' a o:=by
 induction o with
 | lst xs=>obtain⟨z,its,n,r,e⟩:=x;exact⟨z,its,n,r,k _ _ (.inl rfl) e⟩
 | tup xs=>obtain⟨z,its,r,ob,e,c⟩:=x;exact⟨z,its,r,ob,k _ _ (.inl rfl) e,c⟩
 | dK cO=>obtain⟨z,y,vs,r,ob,es,ep,e,c⟩:=x;exact⟨z,y,vs,r,ob,es,ep,k _ _ (.inl rfl) e,c⟩
 | dT cO =>
  obtain⟨z,y,xs,r,ob,es,ep,e,c⟩:=x
  exact⟨z,y,xs,Paired.CH r λp q z=>⟨z.1,ht _ _ z.2.1,z.2.2⟩,ob,es,ep,k _ _ (.inl rfl) e,c⟩
 | set S n=>obtain⟨ob,es,ep,t,e,c⟩:=x;exact⟨ob,es,ep,t,k _ _ (.inl rfl) e,c⟩
 | ins C dx fs =>
  obtain⟨d,z,ne,e,mA,⟨od,es,ep,e2,c⟩,r⟩:=x
  exact⟨ho _ d,z,ne,k _ _ (.inl rfl) e,mA,⟨od,es,ep,k _ _ (.inr d) e2,c⟩,r⟩
 | own y=>obtain⟨ob,e⟩:=x;exact⟨ob,k _ _ (.inl rfl) e⟩
 | xd fs=>obtain⟨mA,⟨od,es,ep,e,c⟩,r⟩:=x;exact⟨mA,⟨od,es,ep,k _ _ (.inl rfl) e,c⟩,r⟩
 | vS lo hi=>obtain⟨t,u,v,e⟩:=x;exact⟨t,u,v,k _ _ (.inl rfl) e⟩
 | bQ ob u ih=>obtain⟨e,q⟩:=x;exact⟨k _ _ (.inl rfl) e,ih q⟩
 | cK ps =>
  obtain⟨e,t,c⟩:=x
  refine⟨k a _ (.inl rfl) e,t,λpos cv q=>?_⟩
  obtain⟨d,φ,e1,e2,e3⟩:=c pos cv q
  exact⟨d,φ,e1,hx _ _ e2,e3⟩
 | met f y =>
  have e:h.get? a=some (PySem.W.methodObj (.ref f) (.ref y)):=x
  show h'.get? a=some (PySem.W.methodObj (.ref f) (.ref y))
  exact k a _ (.inl rfl) e
 | ext φ=>obtain⟨p,⟨o,e⟩,st⟩:=x;exact⟨st _ _ p λb o hb q=>k _ _ hb q,⟨o,k _ _ (.inl rfl) e⟩,λh1 h2 p1 kk=>st h1 h2 p1 λb o hb q=>kk b o (hb.imp id (ho b)) q⟩
theorem bZ.lt(x:bZ P w H h)(e:H a=some o):a<h.objs.size:=(x a o e).lt
theorem bZ.fresh(x:bZ P w H h)(e:h.objs.size<=a):H a=none:=by
 cases q:H a with
 | none=>rfl
 | some u=>exact absurd (cJ (x.lt q) e) (fN _)
theorem bZ.kept(x:bZ P w H h)(k:∀b u,h.get? b=some u->h'.get? b=some u):bZ P w H h':=λa o e =>
 (x a o e).cT (λb u _ q=>k b u q) (λ_ q=>q) (λ_ _ q=>q) λ_ _ q=>q
theorem bZ.laid(x:bZ P w H h)(k:∀b u,h.get? b=some u->h'.get? b=some u)(hp:h.objs.size<=a)(new:cX P w (upd H a o) h' a o):bZ P w (upd H a o) h':=λb u e=>by
 have hn:=x.fresh hp
 by_cases hb:b=a
 ·subst hb;rw[bN]at e;cases e;exact new
 ·rw[aP hb]at e
  exact(x b u e).cT (λc v _ q=>k c v q) (λc q=>by rw[aP (dW q hn)];exact q) (λc xs q=>by rw[aP (dW q hn)];exact q) λc xs q=>by rw[aP (dW q hn)];exact q
end
noncomputable def Rd(H:Hp)(a:Addr)(u:HO):Prop:=H a=some u\/∃o,H a=some (.bQ o u)
theorem Rd.of{H:Hp}{a:Addr}{u:HO}(h:H a=some u):Rd H a u:=.inl h
theorem Rd.ok{P:Program}{w:World}{H:Hp}{h:Heap}{a:Addr}{u:HO}(r:Rd H a u)(x:bZ P w H h):cX P w H h a u:=by
 rcases r with r | ⟨o,r⟩
 ·exact x a u r
 ·obtain⟨_,q⟩:=x a _ r
  exact q
noncomputable def yL:Option HO->Prop
 | some (.lst _)=>True
 | some (.dK _)=>True
 | some (.dT _)=>True
 | some (.set _ _)=>True
 | some (.ins _ _ _)=>True
 | _=>False
section
variable{P:Program}{w:World}{H:Hp}{h h':Heap}{x e:Addr}{o':HO}
theorem bZ.write(ok:bZ P w H h)(mu:yL (H x))(he:e=x\/H e=some (.own x))(k:∀b u,b≠e->h.get? b=some u->h'.get? b=some u)(rD:∃u,h'.get? e=some u)
  (new:cX P w (upd H x o') h' x o'):bZ P w (upd H x o') h':=λb u q=>by
 have Lz:∀c y,H c=some (.own y)->c≠x:=λc y r z=>by subst z;rw[r]at mu;exact mu
 have TC:∀c xs,H c=some (.tup xs)->c≠x:=λc xs r z=>by subst z;rw[r]at mu;exact mu
 by_cases hb:b=x
 ·subst hb;rw[bN]at q;cases q;exact new
 ·rw[aP hb]at q
  by_cases n5:b=e
  ·have q':H b=some (.own x):=by
    rcases he with z | z
    ·exact absurd (n5.trans z) hb
    ·rw[n5];exact z
   rw[q]at q';cases q'
   obtain⟨v,hv⟩:=rD
   exact⟨v,by rw[n5];exact hv⟩
  ·refine(ok b u q).cT (λc v hc r=>k c v ?_ r) (λc r=>by rw[aP (Lz c b r)];exact r) (λc xs r=>by rw[aP (TC c xs r)];exact r) λc φ r=>by rw[aP (λz=>by rw[z]at r;rw[r]at mu;exact mu)];exact r
   rcases hc with rfl | hc
   ·exact n5
   ·rintro rfl
    rcases he with z | z
    ·exact Lz c b hc z
    ·rw[hc]at z;cases z;exact hb rfl
end
structure Un(fs ex:List Addr)(H H':Hp)(h h':Heap):Prop where
 keep:∀b o,h.get? b=some o->H b=none->b ∉ fs->b ∉ ex->h'.get? b=some o
 slot:∀b o,h.get? b=some o->H b=none->b∈fs->b ∉ ex->∃sl,h'.get? b=some { o with slots:=sl }
 free:∀b o,h.get? b=some o->H b=none->b ∉ ex->H' b=none
 there:∀b o,h.get? b=some o->b ∉ ex->∃o',h'.get? b=some o'
 e8:∀b xs,H b=some (.tup xs)->H' b=some (.tup xs)
 eR:∀b o u,H b=some (.bQ o u)->H' b=some (.bQ o u)
 eC:∀b ps,H b=some (.cK ps)->∃more,H' b=some (.cK (ps++more))
section
variable{fs CI ex LA:List Addr}{H H1 H2:Hp}{h h1 h2 h':Heap}{a x e:Addr}{o:HO}
theorem Un.any(u:Un fs ex H H1 h h1){b:Addr}{ob:Obj}(q:h.get? b=some ob)(n:H b=none)(hx:b ∉ ex):∃sl,h1.get? b=some { ob with slots:=sl }:=by
 by_cases hb:b∈fs
 ·exact u.slot b ob q n hb hx
 ·exact⟨ob.slots,u.keep b ob q n hb hx⟩
theorem Un.trans(a:Un fs ex H H1 h h1)(b:Un fs ex H1 H2 h1 h2):Un fs ex H H2 h h2 where
 keep:=λc ob q n hc hx=>b.keep c ob (a.keep c ob q n hc hx) (a.free c ob q n hx) hc hx
 slot:=λc ob q n hc hx=>by
  obtain⟨sl,e1⟩:=a.slot c ob q n hc hx
  obtain⟨vT,e2⟩:=b.slot c _ e1 (a.free c ob q n hx) hc hx
  exact⟨vT,e2⟩
 free:=λc ob q n hx=>by
  obtain⟨o',e1⟩:=a.there c ob q hx
  exact b.free c o' e1 (a.free c ob q n hx) hx
 there:=λc ob q hx=>by
  obtain⟨o',e1⟩:=a.there c ob q hx
  exact b.there c o' e1 hx
 e8:=λc xs q=>b.e8 c xs (a.e8 c xs q)
 eR:=λc ob xs q=>b.eR c ob xs (a.eR c ob xs q)
 eC:=λc ps q=>by
  obtain⟨m1,e1⟩:=a.eC c ps q
  obtain⟨m2,e2⟩:=b.eC c _ e1
  exact⟨m1++m2,by rw[e2,vt]⟩
theorem Un.kept(k:∀b u,h.get? b=some u->h'.get? b=some u):Un fs ex H H h h' :=
 ⟨λb ob q _ _ _=>k b ob q,λb ob q _ _ _=>⟨ob.slots,k b ob q⟩,λ_ _ _ n _=>n,λb ob q _=>⟨ob,k b ob q⟩,λ_ _ q=>q,λ_ _ _ q=>q,λ_ ps q=>⟨#[],by rw[q];simp⟩⟩
theorem Un.refl:Un fs ex H H h h:=Un.kept λ_ _ q=>q
theorem Un.laid(k:∀b u,h.get? b=some u->h'.get? b=some u)(hp:h.objs.size<=a)(hn:H a=none):Un fs ex H (upd H a o) h h' where
 keep:=λb u q _ _ _=>k b u q
 slot:=λb u q _ _ _=>⟨u.slots,k b u q⟩
 free:=λb u q n _=>by rw[aP (eu (cJ (bC q) hp))];exact n
 there:=λb u q _=>⟨u,k b u q⟩
 e8:=λb xs q=>by rw[aP (dW q hn)];exact q
 eR:=λb u xs q=>by rw[aP (dW q hn)];exact q
 eC:=λb ps q=>⟨#[],by rw[aP (dW q hn),q];simp⟩
theorem Un.write(mu:yL (H x))(he:e=x\/H e=some (.own x))(k:∀b u,b≠e->h.get? b=some u->h'.get? b=some u)(rD:∃u,h'.get? e=some u):Un fs ex H (upd H x o) h h':=by
 have hx:∀b,H b=none->b≠x:=λb n z=>by subst z;rw[n]at mu;exact mu
 have hb:∀b,H b=none->b≠e:=λb n z=>by
  subst z
  rcases he with r | r
  ·exact hx b n r
  ·rw[n]at r;cases r
 have hm:∀b u,H b=some u->¬ yL (some u)->b≠x:=λb u q nm z=>by subst z;rw[q]at mu;exact nm mu
 refine⟨λb u q n _ _=>k b u (hb b n) q,λb u q n _ _=>⟨u.slots,k b u (hb b n) q⟩,λb u q n _=>by rw[aP (hx b n)];exact n,λb u q _=>?_,
  λb xs q=>by rw[aP (hm b _ q λz=>z)];exact q,λb u xs q=>by rw[aP (hm b _ q λz=>z)];exact q,λb ps q=>⟨#[],by rw[aP (hm b _ q λz=>z),q];simp⟩⟩
 by_cases n5:b=e
 ·subst n5;exact rD
 ·exact⟨u,k b u n5 q⟩
theorem Un.mono(u:Un fs ex H H1 h h1)(hs:∀b∈fs,b∈CI)(hx:∀b∈ex,b∈LA):Un CI LA H H1 h h1 :=
 ⟨λb ob q n hb he=>u.keep b ob q n (λz=>hb (hs b z)) λz=>he (hx b z),λ_ _ q n _ he=>u.any q n λz=>he (hx _ z),λb ob q n he=>u.free b ob q n λz=>he (hx b z),λb ob q he=>u.there b ob q λz=>he (hx b z),u.e8,u.eR,u.eC⟩
end
noncomputable def yM(h:Heap)(H:Hp):List Addr:=(bL h.objs.size).filter λa=>(H a).isSome
noncomputable def jm(h:Heap)(H:Hp):Heap:=PySem.W.hideAll h (yM h H)
theorem TF(h:Heap)(H:Hp):(jm h H).objs.size=h.objs.size:=PySem.W.hideAll_size _ _
theorem TH{h:Heap}{H:Hp}{b:Addr}{o:Obj}(e:h.get? b=some o)(n:H b=none):(jm h H).get? b=some o :=
 PySem.W.hideAll_get _ e λhm=>by
  have q:(H b).isSome=true:=(List.mem_filter.mp hm).2
  rw[n]at q;simp at q
theorem TJ{h:Heap}{H:Hp}{b:Addr}{o:Obj}(e:(jm h H).get? b=some o):h.get? b=some o/\H b=none:=by
 have e':h.get? b=some o:=PySem.W.of_hideAll (yM h H) e
 refine⟨e',?_⟩
 cases q:H b with
 | none=>rfl
 | some x =>
  have hm:b∈yM h H:=List.mem_filter.mpr ⟨iD.mpr (bC e'),by simp[q]⟩
  have z:(jm h H).get? b=none:=PySem.W.hideAll_none (yM h H) hm
  rw[z]at e;cases e
noncomputable def TK(g h:Heap)(L:Addr):List (Addr × Obj):=(bL h.objs.size).filterMap λa=>if a=L\/(g.get? a).isSome=true then none else(h.get? a).map λo=>(a,o)
noncomputable def rest(g h:Heap)(L d:Addr):List (Addr × Obj):=(TK g h L).filter λp=>decide (p.1≠d)
end L2
namespace L2
open PySem PySem.Spec PyProof.Rows
structure Mod(K:PySem.W.Frag)(mg:Str->Option Value)(base:Heap):Prop where
 jn:K.In base
 glob:base.Ns mainGlobals mg
 blt:∃mb,base.Ns builtinsNs mb/\∀x:Str,x≠"__name__"->mb x=bootBuiltins x
 nolimit:base.NoLimit
structure Cx where
 prog:Program
 w:World
 K:PySem.W.Frag
 mg:Str->Option Value
 base:Heap
 A:Around
 N:List Str
 bR:Shared
 iK:Hp
 env:Env
 outer:List Env
 stack:List Env
 ex:List Addr
 fn:Str->Bool
 calm:Bool
 pn:List (Addr × Obj)
 xe:Value->Shared->Prop
noncomputable def cP(l:List Env):List Addr:=l.filterMap (·.frame)
noncomputable abbrev Cx.fs(X:Cx):List Addr:=cP X.outer
noncomputable def iL(sc:Scope)(x:Str):Prop:=sc.names.lookup x=some .local\/sc.names.lookup x=some .cell\/sc.names.lookup x=some .free
noncomputable def Loc(sc:Scope)(x:Str):Prop:=sc.names.lookup x=some .local\/sc.names.lookup x=some .cell
noncomputable def TL(env:Env)(h:Heap)(m:Str->Option Value)(x:Str)(u:Value):Prop :=
 (env.kindOf x=some .local/\m x=some u)\/((env.kindOf x=some .cell\/env.kindOf x=some .free)/\∃c,env.cells.lookup x=some c/\h.IsCell c (some u))
structure Cx.Ok(X:Cx):Prop where
 mod:Mod X.K X.mg X.base
 kind:X.env.scope.kind=.function
 glob:X.env.globals=mainGlobals
 blt:X.env.builtins=builtinsNs
 above:X.bR.heap.objs.size<=X.env.locals
 inj:∀x y c,X.env.cells.lookup x=some c->X.env.cells.lookup y=some c->x=y
 has:∀x,(X.env.kindOf x=some .cell\/X.env.kindOf x=some .free)->∃c,X.env.cells.lookup x=some c
 n6:∀x c,X.fn x=true->X.env.cells.lookup x=some c->X.bR.heap.objs.size<=c
 hd:X.calm=true->X.A.handled=none
 frames:X.A.frames=some X.stack
 vU:X.stack=X.outer\/(X.stack=X.env::X.outer/\X.env.frame=some X.env.locals)
 vV:∀b∈X.ex,b≠X.env.locals/\∀x c,X.env.cells.lookup x=some c->c≠b
 bs:∀b o,X.base.get? b=some o->X.bR.heap.get? b=some o/\X.iK b=none
 gy:X.base.objs.size<=X.bR.heap.objs.size
 rE:∀b o,X.base.get? b=some o->b ∉ X.ex
 rF:∀b∈X.ex,b ∉ X.fs
 eS:X.bR.heap.FunFrames X.base X.outer
 gW:∀b∈X.fs,X.iK b=none
structure Inv(X:Cx)(pins:List (Addr × Obj))(σ:List (Option V))(H:Hp)(s:Shared):Prop where
 ok:X.Ok
 os:s.os=X.bR.os
 bare:AllBare s.gens
 base:Un X.fs X.ex X.iK H X.bR.heap s.heap
 loc:∃m,s.heap.Ns X.env.locals m/\∀(i:Nat) (x:Str) (v:V),X.N[i]?=some x->σ[i]?=some (some v)->iL X.env.scope x->∃u,RelV v u/\TL X.env s.heap m x u
 cell:∀x c,X.env.cells.lookup x=some c->∃v,s.heap.IsCell c v
 free:H X.env.locals=none
 gA:∀x c,X.env.cells.lookup x=some c->H c=none
 pin:∀p∈X.pn++pins,s.heap.get? p.1=some p.2/\H p.1=none/\p.1≠X.env.locals/\p.1 ∉ X.fs/\∀v,p.2.data≠.cell v
 ay:bZ X.prog X.w H s.heap
 len:σ.length=X.N.length
section
variable{X:Cx}{pins:List (Addr × Obj)}{σ:List (Option V)}{H H':Hp}{s:Shared}{h':Heap}
theorem Cx.Ok.TM(ok:X.Ok){b:Addr}{o:Obj}(e:X.base.get? b=some o):b ∉ X.fs:=λhb=>by
 have:=(ok.eS.mem hb).1
 rw[e]at this;cases this
theorem Inv.bs(I:Inv X pins σ H s):∀b o,X.base.get? b=some o->s.heap.get? b=some o/\H b=none:=λb o e =>
 ⟨I.base.keep b o (I.ok.bs b o e).1 (I.ok.bs b o e).2 (I.ok.TM e) (I.ok.rE b o e),I.base.free b o (I.ok.bs b o e).1 (I.ok.bs b o e).2 (I.ok.rE b o e)⟩
theorem Inv.bk(I:Inv X pins σ H s):∀b o,X.base.get? b=some o->s.heap.get? b=some o:=λb o e=>(I.bs b o e).1
theorem Inv.mod(I:Inv X pins σ H s):Mod X.K X.mg X.base:=I.ok.mod
theorem Inv.cE(I:Inv X pins σ H s):X.K.In s.heap:=I.ok.mod.jn.keeps I.bk
theorem Inv.nolimit(I:Inv X pins σ H s):s.heap.NoLimit:=I.ok.mod.nolimit.keeps I.bk
theorem Inv.fr(I:Inv X pins σ H s):∃m,Fr X.base X.env.locals s.heap m :=
 let⟨m,hn,_⟩:=I.loc
 ⟨m,hn,I.bk,dY I.ok.gy I.ok.above⟩
theorem Inv.lt(I:Inv X pins σ H s):X.env.locals<s.heap.objs.size:=let⟨_,hn,_⟩:=I.loc;hn.lt
theorem Inv.sz(I:Inv X pins σ H s):X.bR.heap.objs.size<=s.heap.objs.size:=dY I.ok.above (B3 I.lt)
theorem Inv.LB(I:Inv X pins σ H s){a:Addr}(h:s.heap.objs.size<=a):a ∉ X.fs:=λhb=>by
 obtain⟨_,o,ho,_⟩:=I.ok.eS.mem hb
 exact absurd (cJ (bC ho) (dY I.sz h)) (fN _)
theorem Inv.lH(I:Inv X pins σ H s):∀x c,X.env.cells.lookup x=some c->c≠X.env.locals:=λx c e z=>by
 obtain⟨v,o,ho,hd⟩:=I.cell x c e
 obtain⟨m,⟨o',es,ep,iM,vW,_⟩,_⟩:=I.loc
 rw[z,iM]at ho;cases ho;rw[vW]at hd;cases hd
theorem Inv.eS(I:Inv X pins σ H s):s.heap.FunFrames X.base X.outer:=by
 have all:∀(l:List Env),(∀b∈cP l,b∈X.fs)->X.bR.heap.FunFrames X.base l->s.heap.FunFrames X.base l:=by
  intro l
  induction l with
  | nil=>intro _ _;trivial
  | cons env r ih =>
   intro hs hl
   obtain⟨hk,⟨L,o,hf,hn,ho,hd⟩,hr⟩:=hl
   have hL:L∈X.fs:=hs L (by unfold cP;rw[q9,hf];exact K4)
   obtain⟨sl,e⟩:=I.base.slot L o ho (I.ok.gW L hL) hL λz=>I.ok.rF L z hL
   exact⟨hk,⟨L,_,hf,hn,e,hd⟩,ih (λb hb=>hs b (by unfold cP;rw[q9,hf];exact jT _ hb)) hr⟩
 exact all X.outer (λ_ hb=>hb) I.ok.eS
theorem Inv.stack(I:Inv X pins σ H s):s.heap.FunFrames X.base X.stack:=by
 rcases I.ok.vU with e | ⟨e,hf⟩
 ·rw[e];exact I.eS
 ·rw[e]
  obtain⟨m,hn,_⟩:=I.loc
  refine .cons (by rw[I.ok.kind];decide) hf hn ?_ I.eS
  exact Heap.get?_none_of_le (dY I.ok.gy I.ok.above)
theorem Inv.vX(I:Inv X pins σ H s):∀b∈cP X.stack,b∈X.env.locals::X.fs:=λb hb=>by
 rcases I.ok.vU with e | ⟨e,hf⟩
 ·rw[e]at hb;exact jT _ hb
 ·rw[e]at hb
  unfold cP at hb
  rw[q9,hf]at hb
  exact hb
theorem Inv.yN(I:Inv X pins σ H s):∀b∈cP X.stack,H b=none:=λb hb=>by
 rcases bM.mp (I.vX b hb)with e | hb
 ·rw[e];exact I.free
 ·obtain⟨_,o,ho,_⟩:=I.ok.eS.mem hb
  exact I.base.free b o ho (I.ok.gW b hb) λz=>I.ok.rF b z hb
theorem Inv.step{g':Array GenState}{t':Nat}{d':Drawn}{ch:List Addr}(I:Inv X pins σ H s)
  (jo:∀b∈ch,(b∈X.ex\/X.bR.heap.objs.size<=b)/\b≠X.env.locals/\(∀x c,X.env.cells.lookup x=some c->c≠b)/\∀p∈X.pn++pins,p.1≠b)
  (keep:∀b o,b≠X.env.locals->b ∉ X.fs->b ∉ ch->s.heap.get? b=some o->H b=none->h'.get? b=some o)
  (slot:∀b o,b≠X.env.locals->b∈X.fs->b ∉ ch->s.heap.get? b=some o->H b=none->∃sl,h'.get? b=some { o with slots:=sl }) (free:∀b o,b ∉ ch->s.heap.get? b=some o->H b=none->H' b=none)
  (there:∀b o,b ∉ ch->s.heap.get? b=some o->∃o',h'.get? b=some o')
  (e8:∀b xs,H b=some (.tup xs)->H' b=some (.tup xs)) (eR:∀b o u,H b=some (.bQ o u)->H' b=some (.bQ o u)) (eC:∀b ps,H b=some (.cK ps)->∃more,H' b=some (.cK (ps++more)))
  (ns:∀m,s.heap.Ns X.env.locals m->h'.Ns X.env.locals m) (ay:bZ X.prog X.w H' h') (hg:AllBare g') :
  Inv X pins σ H' { s with heap:=h',gens:=g',drawn:=d',toks:=t' }:=by
 have rG:∀b o,X.bR.heap.get? b=some o->b≠X.env.locals:=λb o e=>eu (cJ (bC e) I.ok.above)
 have n9:∀b o,X.bR.heap.get? b=some o->b ∉ X.ex->b ∉ ch:=λb o e hx hb=>by
  rcases(jo b hb).1 with z | z
  ·exact hx z
  ·exact absurd (cJ (bC e) z) (fN _)
 have cellK:∀x c,X.env.cells.lookup x=some c->∀v,s.heap.IsCell c v->h'.IsCell c v:=λx c e v ⟨o,ho,hd⟩=>by
  have vY:c ∉ ch:=λz=>(jo c z).2.2.1 x c e rfl
  by_cases hc:c∈X.fs
  ·obtain⟨sl,q⟩:=slot c o (I.lH x c e) hc vY ho (I.gA x c e)
   exact⟨_,q,hd⟩
  ·exact⟨o,keep c o (I.lH x c e) hc vY ho (I.gA x c e),hd⟩
 refine⟨I.ok,I.os,hg,⟨λb o e n hb hx=>?_,λb o e n hb hx=>?_,λb o e n hx=>?_,λb o e hx=>?_,λb xs e=>e8 b xs (I.base.e8 b xs e),λb o xs e=>eR b o xs (I.base.eR b o xs e),λb ps e=>?_⟩,?_,λx c e=>?_,?_,λx c e=>?_,λp hp=>?_,ay,I.len⟩
 ·exact keep b o (rG b o e) hb (n9 b o e hx) (I.base.keep b o e n hb hx) (I.base.free b o e n hx)
 ·obtain⟨sl,e1⟩:=I.base.slot b o e n hb hx
  obtain⟨vT,e2⟩:=slot b _ (rG b o e) hb (n9 b o e hx) e1 (I.base.free b o e n hx)
  exact⟨vT,e2⟩
 ·obtain⟨o',e1⟩:=I.base.there b o e hx
  exact free b o' (n9 b o e hx) e1 (I.base.free b o e n hx)
 ·obtain⟨o',e1⟩:=I.base.there b o e hx
  exact there b o' (n9 b o e hx) e1
 ·obtain⟨m1,e1⟩:=I.base.eC b ps e
  obtain⟨m2,e2⟩:=eC b _ e1
  exact⟨m1++m2,by rw[e2,vt]⟩
 ·obtain⟨m,hn,hl⟩:=I.loc
  refine⟨m,ns m hn,λi x v e1 e2 e3=>?_⟩
  obtain⟨u,r,l⟩:=hl i x v e1 e2 e3
  refine⟨u,r,?_⟩
  rcases l with l | ⟨k,c,e,z⟩
  ·exact .inl l
  ·exact .inr ⟨k,c,e,cellK x c e _ z⟩
 ·obtain⟨v,z⟩:=I.cell x c e
  exact⟨v,cellK x c e v z⟩
 ·obtain⟨m,⟨o,_,_,ho,_⟩,_⟩:=I.loc
  exact free _ o (λz=>(jo _ z).2.1 rfl) ho I.free
 ·obtain⟨v,o,ho,hd⟩:=I.cell x c e
  exact free c o (λz=>(jo c z).2.2.1 x c e rfl) ho (I.gA x c e)
 ·obtain⟨e,n,ne,nf,d⟩:=I.pin p hp
  have vY:p.1 ∉ ch:=λz=>(jo p.1 z).2.2.2 p hp rfl
  exact⟨keep p.1 p.2 ne nf vY e n,free p.1 p.2 vY e n,ne,nf,d⟩
theorem Inv.un{t':Nat}(I:Inv X pins σ H s)(u:Un X.fs [] H H' s.heap h')(ay:bZ X.prog X.w H' h'):Inv X pins σ H' { s with heap:=h',toks:=t' }:=by
 obtain⟨m,⟨o,es,ep,ho,r⟩,_⟩:=id I.loc
 obtain⟨sl,hL⟩:=u.any ho I.free (by simp)
 exact I.step (g':=s.gens) (d':=s.drawn) (ch:=[]) (λ_ z=>nomatch z) (λb o _ hb _ e n=>u.keep b o e n hb (by simp)) (λb o _ hb _ e n=>u.slot b o e n hb (by simp)) (λb o _ e n=>u.free b o e n (by simp)) (λb o _ e=>u.there b o e (by simp)) u.e8 u.eR u.eC (λm' hm=>by
  obtain⟨o',CJ,CK,iM,r'⟩:=hm
  rw[ho]at iM;cases iM
  exact⟨_,CJ,CK,hL,r'⟩) ay I.bare
theorem Inv.call{g':Array GenState}{t':Nat}{d':Drawn}{ch:List Addr}(I:Inv X pins σ H s)(u:Un (cP X.stack) ch H H' s.heap h')(ay:bZ X.prog X.w H' h')(hg:AllBare g')
  (jo:∀b∈ch,(b∈X.ex\/X.bR.heap.objs.size<=b)/\b≠X.env.locals/\(∀x c,X.env.cells.lookup x=some c->c≠b)/\∀p∈X.pn++pins,p.1≠b) :
  Inv X pins σ H' { s with heap:=h',gens:=g',drawn:=d',toks:=t' }:=by
 obtain⟨m,⟨o,es,ep,ho,r⟩,_⟩:=id I.loc
 obtain⟨sl,hL⟩:=u.any ho I.free λz=>(jo _ z).2.1 rfl
 exact I.step (ch:=ch) jo (λb o hL hb hc e n=>u.keep b o e n (λz=>(bM.mp (I.vX b z)).elim hL hb) hc) (λb o _ _ hc e n=>u.any e n hc) (λb o hc e n=>u.free b o e n hc) (λb o hc e=>u.there b o e hc) u.e8 u.eR u.eC (λm' hm=>by
  obtain⟨o',CJ,CK,iM,r'⟩:=hm
  rw[ho]at iM;cases iM
  exact⟨_,CJ,CK,hL,r'⟩) ay hg
theorem Inv.turned{t':Nat}{it:Addr}(I:Inv X pins σ H s)(k:∀b o,b≠it->s.heap.get? b=some o->h'.get? b=some o)(hn:H it=none)(hL:it≠X.env.locals)
  (h1:it∈X.ex\/X.bR.heap.objs.size<=it) (h2:∀x c,X.env.cells.lookup x=some c->c≠it) (h3:∀p∈X.pn++pins,p.1≠it):Inv X pins σ H { s with heap:=h',toks:=t' }:=by
 have lJ:∀b u,H b=some u->b≠it:=λb u e z=>by rw[z,hn]at e;cases e
 refine I.step (g':=s.gens) (d':=s.drawn) (ch:=[it]) (λb hb=>?_) (λb o _ _ hc e _=>k b o (λz=>hc (by simp[z])) e) (λb o _ _ hc e _=>⟨o.slots,k b o (λz=>hc (by simp[z])) e⟩) (λ_ _ _ _ n=>n)
  (λb o hc e=>⟨o,k b o (λz=>hc (by simp[z])) e⟩) (λ_ _ e=>e) (λ_ _ _ e=>e) (λb ps e=>⟨#[],by rw[e];simp⟩) (λm hm=>?_) (λb u e=>?_) I.bare
 ·have e:b=it:=by simpa using hb
  subst e
  exact⟨h1,hL,h2,h3⟩
 ·obtain⟨o,es,ep,ho,r⟩:=hm
  exact⟨o,es,ep,k _ o (du hL) ho,r⟩
 ·refine(I.ay b u e).cT (λc v hc q=>k c v ?_ q) (λ_ q=>q) (λ_ _ q=>q) λ_ _ q=>q
  rcases hc with z | z
  ·rw[z];exact lJ b u e
  ·exact lJ c _ z
theorem Inv.tok(I:Inv X pins σ H s)(t:Nat):Inv X pins σ H { s with toks:=t }:=I.un (h':=s.heap) (t':=t) Un.refl I.ay
theorem Inv.kept{t':Nat}(I:Inv X pins σ H s)(k:∀b u,s.heap.get? b=some u->h'.get? b=some u):Inv X pins σ H { s with heap:=h',toks:=t' }:=I.un (Un.kept k) (I.ay.kept k)
theorem Inv.laid{a:Addr}{o:HO}{t':Nat}(I:Inv X pins σ H s)(k:∀b u,s.heap.get? b=some u->h'.get? b=some u)(hp:s.heap.objs.size<=a)(new:cX X.prog X.w (upd H a o) h' a o) :
  Inv X pins σ (upd H a o) { s with heap:=h',toks:=t' }:=I.un (Un.laid k hp (I.ay.fresh hp)) (I.ay.laid k hp new)
theorem Inv.write{x e:Addr}{o:HO}{t':Nat}(I:Inv X pins σ H s)(mu:yL (H x))(he:e=x\/H e=some (.own x))(k:∀b u,b≠e->s.heap.get? b=some u->h'.get? b=some u)(rD:∃u,h'.get? e=some u)
  (new:cX X.prog X.w (upd H x o) h' x o):Inv X pins σ (upd H x o) { s with heap:=h',toks:=t' }:=I.un (Un.write mu he k rD) (I.ay.write mu he k rD new)
theorem Inv.weak{aw:List (Option V)}(I:Inv X pins σ H s)(hl:aw.length=σ.length)(w:∀(i:Nat) v,aw[i]?=some (some v)->σ[i]?=some (some v)):Inv X pins aw H s :=
 ⟨I.ok,I.os,I.bare,I.base,let⟨m,hn,oa⟩:=I.loc;⟨m,hn,λi x v e1 e2 e3=>oa i x v e1 (w i v e2) e3⟩,I.cell,I.free,I.gA,I.pin,I.ay,hl.trans I.len⟩
theorem Inv.LC{CL:List (Addr × Obj)}(I:Inv X pins σ H s)(h:∀p∈CL,s.heap.get? p.1=some p.2/\H p.1=none/\p.1≠X.env.locals/\p.1 ∉ X.fs/\∀v,p.2.data≠.cell v):Inv X CL σ H s :=
 ⟨I.ok,I.os,I.bare,I.base,I.loc,I.cell,I.free,I.gA,λp hp=>(eA.mp hp).elim (λz=>I.pin p (fO _ z)) (h p),I.ay,I.len⟩
theorem LD{N:List Str}(hN:N.Nodup){i j:Nat}{x:Str}(a:N[i]?=some x)(b:N[j]?=some x):i=j:=by
 obtain⟨h1,e1⟩:=jU.mp a
 obtain⟨h2,e2⟩:=jU.mp b
 exact(List.getElem_inj hN).mp (e1.trans e2.symm)
theorem TN{M:Model}{A:Around}{E:Value->Shared->Prop}{i:Nat}{x:Str}{v:V}{u:Value}{Q:Unit->Shared->Prop}(I:Inv X pins σ H s)(hN:X.N.Nodup)(hi:X.N[i]?=some x)(hx:Loc X.env.scope x)(r:RelV v u)
  (h:∀s',Inv X pins (σ.set i (some v)) H s'->(∃a,B4 a s.heap s'.heap/\(a=X.env.locals\/X.env.cells.lookup x=some a))->Q () s') (hf:X.fn x=true\/X.env.scope.names.lookup x=some .local:=by first | exact .inl rfl | exact .inr rfl | assumption):wpAny M A (storeName X.env x u) Q E s:=by
 obtain⟨m,hn,hl⟩:=id I.loc
 have TQ:(X.env.scope.kind==.class||(X.env.scope.kind==.module&&X.env.locals != X.env.globals))=false:=by rw[I.ok.kind];rfl
 have LF:i<σ.length:=by rw[I.len];exact(jU.mp hi).1
 have lH:=I.lH
 have tracked:∀{a:Addr} {h':Heap},(∃o,s.heap.get? a=some o/\H a=none)->B4 a s.heap h'->bZ X.prog X.w H h':=λ{a h'} ha hs b ob e=>by
  obtain⟨_,_,LG⟩:=ha
  refine(I.ay b ob e).cT (λc w' hc q=>(hs.2 c ?_).trans q) (λ_ q=>q) (λ_ _ q=>q) λ_ _ q=>q
  rintro rfl
  rcases hc with rfl | hc
  ·rw[LG]at e;cases e
  ·rw[LG]at hc;cases hc
 rcases hx with hk | hk
 ·refine wpAny_storeName_local hk hn (λh' TR hs=>?_) TQ
  obtain⟨oL,_,_,TU,_⟩:=id hn
  refine h _ ⟨I.ok,I.os,I.bare,⟨λb o e n hb hx=>?_,λb o e n hb hx=>?_,I.base.free,λb o e hx=>?_,I.base.e8,I.base.eR,I.base.eC⟩,⟨_,TR,λj y v' e1 e2 e3=>?_⟩,λy c e=>?_,I.free,I.gA,λp hp=>?_,tracked ⟨oL,TU,I.free⟩ hs,by simpa using I.len⟩ ⟨_,hs,.inl rfl⟩
  ·exact(hs.2 b (eu (cJ (bC e) I.ok.above))).trans (I.base.keep b o e n hb hx)
  ·obtain⟨sl,e1⟩:=I.base.slot b o e n hb hx
   exact⟨sl,(hs.2 b (eu (cJ (bC e) I.ok.above))).trans e1⟩
  ·obtain⟨o',e1⟩:=I.base.there b o e hx
   exact⟨o',(hs.2 b (eu (cJ (bC e) I.ok.above))).trans e1⟩
  ·by_cases hj:j=i
   ·subst hj
    rw[hi]at e1;cases e1
    rw[K5 LF]at e2
    cases e2
    exact⟨u,r,.inl ⟨hk,by simp⟩⟩
   ·rw[nC (du hj)]at e2
    obtain⟨u',r',q⟩:=hl j y v' e1 e2 e3
    refine⟨u',r',?_⟩
    rcases q with⟨k,e⟩ | ⟨k,c,e,z⟩
    ·refine .inl ⟨k,?_⟩
     have:y≠x:=λe=>hj (LD hN e1 (e ▸ hi))
     simp[this,e]
    ·exact .inr ⟨k,c,e,z.sameBut hs (lH y c e)⟩
  ·obtain⟨w',z⟩:=I.cell y c e
   exact⟨w',z.sameBut hs (lH y c e)⟩
  ·obtain⟨e,n,ne,nf,d⟩:=I.pin p hp
   exact⟨(hs.2 p.1 ne).trans e,n,ne,nf,d⟩
 ·have vZ:X.fn x=true:=by
   rcases hf with z | z
   ·exact z
   ·rw[z]at hk;cases hk
  obtain⟨c,hc⟩:=I.ok.has x (.inl hk)
  obtain⟨w',z⟩:=I.cell x c hc
  refine wpAny_storeName_cell I.ok.kind hk hc z (λh' v3 hs=>?_)
  obtain⟨oc,gB,TV⟩:=id z
  refine h { s with heap:=h' } ⟨I.ok,I.os,I.bare,⟨λb o e n hb hx=>?_,λb o e n hb hx=>?_,I.base.free,λb o e hx=>?_,I.base.e8,I.base.eR,I.base.eC⟩,⟨m,hn.sameBut hs (du (lH x c hc)),λj y v' e1 e2 e3=>?_⟩,λy c' e=>?_,I.free,I.gA,λp hp=>?_,tracked ⟨oc,gB,I.gA x c hc⟩ hs,by simpa using I.len⟩ ⟨c,hs,.inr hc⟩
  ·exact(hs.2 b (eu (cJ (bC e) (I.ok.n6 x c vZ hc)))).trans (I.base.keep b o e n hb hx)
  ·obtain⟨sl,e1⟩:=I.base.slot b o e n hb hx
   exact⟨sl,(hs.2 b (eu (cJ (bC e) (I.ok.n6 x c vZ hc)))).trans e1⟩
  ·obtain⟨o',e1⟩:=I.base.there b o e hx
   exact⟨o',(hs.2 b (eu (cJ (bC e) (I.ok.n6 x c vZ hc)))).trans e1⟩
  ·by_cases hj:j=i
   ·subst hj
    rw[hi]at e1;cases e1
    rw[K5 LF]at e2
    cases e2
    exact⟨u,r,.inr ⟨.inl hk,c,hc,v3⟩⟩
   ·rw[nC (du hj)]at e2
    obtain⟨u',r',q⟩:=hl j y v' e1 e2 e3
    refine⟨u',r',?_⟩
    rcases q with q | ⟨k,c',e,z'⟩
    ·exact .inl q
    ·refine .inr ⟨k,c',e,z'.sameBut hs ?_⟩
     rintro rfl
     exact hj (LD hN e1 (I.ok.inj _ _ _ e hc ▸ hi))
  ·by_cases LH:c'=c
   ·subst LH;exact⟨_,v3⟩
   ·obtain⟨w2,z2⟩:=I.cell y c' e
    exact⟨w2,z2.sameBut hs LH⟩
  ·obtain⟨e,n,ne,nf,d⟩:=I.pin p hp
   refine⟨(hs.2 p.1 ?_).trans e,n,ne,nf,d⟩
   intro q
   rw[q,gB]at e
   have q':oc=p.2:=dw e
   exact d w' (by rw[<-q'];exact TV)
theorem yO{M:Model}{A:Around}{E:Value->Shared->Prop}{i:Nat}{x:Str}{v:V}{u:Value}{Q:Unit->Shared->Prop}(I:Inv X pins σ H s)(hN:X.N.Nodup)(hi:X.N[i]?=some x)(hx:Loc X.env.scope x)(r:RelV v u)
  (h:∀s',Inv X pins (σ.set i (some v)) H s'->Q () s') (hf:X.fn x=true\/X.env.scope.names.lookup x=some .local:=by first | exact .inl rfl | exact .inr rfl | assumption):wpAny M A (storeName X.env x u) Q E s :=
 TN I hN hi hx r (λs' I' _=>h s' I') hf
theorem Inv.LJ{s':Shared}{ch:List Addr}(I:Inv X pins σ H s)(ho:s'.os=s.os)(u:Un (cP X.stack) ch H H' s.heap s'.heap)(ay:bZ X.prog X.w H' s'.heap)(hg:AllBare s'.gens)
  (jo:∀b∈ch,(b∈X.ex\/X.bR.heap.objs.size<=b)/\b≠X.env.locals/\(∀x c,X.env.cells.lookup x=some c->c≠b)/\∀p∈X.pn++pins,p.1≠b):Inv X pins σ H' s':=by
 obtain⟨h',g',d',t',o'⟩:=s'
 have e:o'=s.os:=ho
 subst e
 exact I.call (g':=g') (t':=t') (d':=d') u ay hg jo
end
noncomputable abbrev XK:=Value->Option Addr->Hp->Prop
noncomputable abbrev St:=List (Option V)
noncomputable abbrev VK:=V->Hp->Prop
noncomputable abbrev TE:=St->Hp->VK->Prop
noncomputable abbrev TT:=St->Hp->(Bool->Hp->Prop)->Prop
noncomputable abbrev TA:=St->Hp->(List V->Hp->Prop)->Prop
structure Ends where
 nx:St->Hp->Prop
 rt:VK
 bk:St->Hp->Prop:=λ_ _=>False
 ct:St->Hp->Prop:=λ_ _=>False
noncomputable abbrev TS:=Ends->St->Hp->Prop
noncomputable def EP(X:Cx)(pins:List (Addr × Obj))(σ:St)(Q:VK)(u:Value)(s':Shared):Prop:=∃v H',Inv X pins σ H' s'/\RelV v u/\Q v H'
noncomputable def TP(X:Cx)(pins:List (Addr × Obj))(σ:St)(Q:Bool->Hp->Prop)(b:Bool)(s':Shared):Prop:=∃H',Inv X pins σ H' s'/\Q b H'
noncomputable def AP(X:Cx)(pins:List (Addr × Obj))(σ:St)(Q:List V->Hp->Prop)(us:List Value)(s':Shared):Prop:=∃vs H',Inv X pins σ H' s'/\Vals vs us/\Q vs H'
noncomputable def SP(X:Cx)(pins:List (Addr × Obj))(D:Ends)(f:Flow)(s':Shared):Prop :=
 match f with
 | .next=>∃aw H',Inv X pins aw H' s'/\D.nx aw H'
 | .brk=>∃aw H',Inv X pins aw H' s'/\D.bk aw H'
 | .cont=>∃aw H',Inv X pins aw H' s'/\D.ct aw H'
 | .ret u=>∃v aw H',Inv X pins aw H' s'/\RelV v u/\D.rt v H'
noncomputable def PE(X:Cx)(e:Expr)(t:TE):Prop :=
 ∀(pins:List (Addr × Obj)) (s:Shared) (σ:St) (H:Hp) (Q:VK),Inv X pins σ H s->t σ H Q->wpAny (model X.prog X.w) X.A (eval e X.env) (EP X pins σ Q) X.xe s
noncomputable def PT(X:Cx)(e:Expr)(t:TT):Prop :=
 ∀(pins:List (Addr × Obj)) (s:Shared) (σ:St) (H:Hp) (Q:Bool->Hp->Prop),Inv X pins σ H s->t σ H Q->wpAny (model X.prog X.w) X.A (isTrue e X.env (eval e X.env)) (TP X pins σ Q) X.xe s
noncomputable def PW(X:Cx)(e:Expr)(t:TT):Prop :=
 ∀(whole:Sem Value) (pins:List (Addr × Obj)) (s:Shared) (σ:St) (H:Hp) (Q:Bool->Hp->Prop),Inv X pins σ H s->t σ H Q->wpAny (model X.prog X.w) X.A (isTrue e X.env whole) (TP X pins σ Q) X.xe s
theorem PW.pt{X:Cx}{e:Expr}{t:TT}(h:PW X e t):PT X e t:=h _
noncomputable def PA(X:Cx)(es:List Expr)(t:TA):Prop :=
 ∀(pos:Pos) (pins:List (Addr × Obj)) (s:Shared) (σ:St) (H:Hp) (Q:List V->Hp->Prop),Inv X pins σ H s->t σ H Q->wpAny (model X.prog X.w) X.A (spliced (backTo pos (starEach es X.env))) (AP X pins σ Q) X.xe s
noncomputable def PS(X:Cx)(st:Stmt)(t:TS):Prop :=
 ∀(pins:List (Addr × Obj)) (s:Shared) (σ:St) (H:Hp) (D:Ends),Inv X pins σ H s->t D σ H->wpAny (model X.prog X.w) X.A (exec st X.env) (SP X pins D) X.xe s
noncomputable def PSs(X:Cx)(st:List Stmt)(t:TS):Prop :=
 ∀(pins:List (Addr × Obj)) (s:Shared) (σ:St) (H:Hp) (D:Ends),Inv X pins σ H s->t D σ H->wpAny (model X.prog X.w) X.A (execs st X.env) (SP X pins D) X.xe s
theorem aB{α:Type}{t:Sem α}{Q Q':α->Shared->Prop}{M:Model}{A:Around}{E:Value->Shared->Prop}{s:Shared}(h:wpAny M A t Q E s)(hQ:∀a s,Q a s->Q' a s):wpAny M A t Q' E s:=wpAny_mono h hQ λ_ _ x=>x
end L2
namespace L2
open PySem PySem.Spec PyProof.Rows
section
variable{X:Cx}
noncomputable def LK(i:Nat):TE:=λσ H Q=>∃v,σ[i]?=some (some v)/\Q v H
noncomputable def tC(v:V):TE:=λ_ H Q=>Q v H
theorem lK{i:Nat}{x:Str}{pos:Pos}(hN:X.N[i]?=some x)(hv:iL X.env.scope x)(hd:(x==("__debug__":Str))=false:=by decide)(bX:(x==("__classdict__":Str))=false:=by decide):PE X (.Name x pos) (LK i):=by
 intro pins s σ H Q I h
 obtain⟨v,e,h⟩:=h
 obtain⟨m,hn,hl⟩:=I.loc
 obtain⟨u,r,l⟩:=hl i x v hN e hv
 have fin:EP X pins σ Q u s:=⟨v,H,I,r,h⟩
 rcases l with⟨hk,hm⟩ | ⟨hk,c,hc,gC⟩
 ·exact wpAny_Name (wpAny_loadName_local I.ok.kind hk hn hm fin) hd
 ·rcases hk with hk | hk
  ·exact wpAny_Name (wpAny_loadName_cell I.ok.kind hk hc gC fin) hd
  ·exact wpAny_Name (wpAny_loadName_free I.ok.kind hk hc gC fin bX) hd
theorem rH{i j pos}:PE X (.Constant (.int i) j pos) (tC (.int i)):=λ_ _ _ H _ I h=>wpAny_Constant_int ⟨.int i,H,I.tok _,⟨_,rfl⟩,h⟩
theorem TX{b j pos}:PE X (.Constant (.bool b) j pos) (tC (.bl b)):=λ_ _ _ H _ I h=>Constant_bool ⟨.bl b,H,I,rfl,h⟩
theorem TY{x j pos}:PE X (.Constant (.str x) j pos) (tC (.str x)):=λ_ _ _ H _ I h=>Calls.Constant_str ⟨.str x,H,I.tok _,⟨_,rfl⟩,h⟩
noncomputable def Gl(X:Cx)(x:Str):Prop:=X.env.kindOf x=some .globalImplicit
theorem yP{E:Value->Shared->Prop}{pins:List (Addr × Obj)}{s:Shared}{σ:St}{H:Hp}{x:Str}{u:Value}{pos:Pos}{Q:Value->Shared->Prop}(I:Inv X pins σ H s)(hg:Gl X x)(hm:X.mg x=some u)(h:Q u s)
  (hd:(x==("__debug__":Str))=false:=by decide):wpAny (model X.prog X.w) X.A (eval (.Name x pos) X.env) Q E s :=
 S1 I.ok.kind hg (Calls.loadGlobal_global (by rw[I.ok.glob];exact I.mod.glob.keeps I.bk) hm h) hd
theorem j4{E:Value->Shared->Prop}{pins:List (Addr × Obj)}{s:Shared}{σ:St}{H:Hp}{x:Str}{u:Value}{pos:Pos}{Q:Value->Shared->Prop}(I:Inv X pins σ H s)(hg:Gl X x)(hm:X.mg x=none)(hv:bootBuiltins x=some u)(h:Q u s)
  (hn:x≠"__name__":=by decide) (hd:(x==("__debug__":Str))=false:=by decide):wpAny (model X.prog X.w) X.A (eval (.Name x pos) X.env) Q E s:=by
 obtain⟨mb,h1,h2⟩:=I.mod.blt
 exact S1 I.ok.kind hg (Calls.loadGlobal_builtin (by rw[I.ok.glob];exact I.mod.glob.keeps I.bk) hm (by rw[I.ok.blt];exact h1.keeps I.bk) ((h2 x hn).trans hv) h) hd
theorem TZ{x:Str}{v:V}{u:Value}{pos:Pos}(hg:Gl X x)(hm:X.mg x=none)(hv:bootBuiltins x=some u)(r:RelV v u)(hn:x≠"__name__":=by decide)(hd:(x==("__debug__":Str))=false:=by decide):PE X (.Name x pos) (tC v) :=
 λ_ _ _ H _ I h=>j4 I hg hm hv ⟨v,H,I,r,h⟩ hn hd
variable{a b:Expr}{ta tb:TE}{pos:Pos}
noncomputable def tB(t:TE):TT:=λσ H Q=>t σ H λx H1=>∃c,x=.bl c/\Q c H1
theorem CM{e:Expr}{t:TE}(h:PE X e t)(he:∀whole,isTrue e X.env whole=(do let v<-whole;standAt e.pos;holding [v] (truthy v)):=by intro _;rfl):PT X e (tB t):=by
 intro pins s σ H Q I hw
 refine isTrue_plain (aB (h pins s σ H _ I hw) λv s1 ⟨x,H1,I1,r1,q1⟩=>?_) (he _)
 obtain⟨d,rfl,q⟩:=q1
 cases r1
 exact wpAny_truthy_bool ⟨H1,I1,q⟩
variable{tA yQ:TT}{rest:List Expr}
noncomputable def T1(t u:TT):TT:=λσ H Q=>t σ H λc H1=>if c=true then u σ H1 Q else Q false H1
noncomputable def T2(t u:TT):TT:=λσ H Q=>t σ H λc H1=>if c=true then Q true H1 else u σ H1 Q
noncomputable def T3(t:TT):TT:=λσ H Q=>t σ H λc H1=>Q (!c) H1
theorem CN(ha:PT X a tA):PW X (.BoolOp .And [a] pos) tA:=by
 intro wh pins s σ H Q I h
 refine isTrue_and (aB (ha pins s σ H Q I h) λc s1 e=>?_)
 cases c with
 | true=>exact isTrue_and_nil e
 | false=>exact e
theorem CO(ha:PT X a tA):PW X (.BoolOp .Or [a] pos) tA:=by
 intro wh pins s σ H Q I h
 refine isTrue_or (aB (ha pins s σ H Q I h) λc s1 e=>?_)
 cases c with
 | false=>exact isTrue_or_nil e
 | true=>exact e
theorem T4(ha:PT X a tA)(hb:PW X (.BoolOp .And (b::rest) pos) yQ):PW X (.BoolOp .And (a::b::rest) pos) (T1 tA yQ):=by
 intro wh pins s σ H Q I h
 refine isTrue_and (aB (ha pins s σ H _ I h) λc s1 ⟨H1,I1,q1⟩=>?_)
 cases c with
 | true=>exact hb wh pins s1 σ H1 Q I1 q1
 | false=>exact⟨H1,I1,q1⟩
theorem T5(ha:PT X a tA)(hb:PW X (.BoolOp .Or (b::rest) pos) yQ):PW X (.BoolOp .Or (a::b::rest) pos) (T2 tA yQ):=by
 intro wh pins s σ H Q I h
 refine isTrue_or (aB (ha pins s σ H _ I h) λc s1 ⟨H1,I1,q1⟩=>?_)
 cases c with
 | true=>exact⟨H1,I1,q1⟩
 | false=>exact hb wh pins s1 σ H1 Q I1 q1
theorem CP(ha:PT X a tA):PT X (.UnaryOp .Not a pos) (T3 tA):=by
 intro pins s σ H Q I h
 exact isTrue_not (ha pins s σ H (λc H1=>Q (!c) H1) I h)
noncomputable def T6(ta tb:TE):TE:=λσ H Q=>ta σ H λx H1=>∃c,x=.bl c/\if c=true then tb σ H1 Q else Q (.bl false) H1
noncomputable def T7(ta tb:TE):TE:=λσ H Q=>ta σ H λx H1=>∃c,x=.bl c/\if c=true then Q (.bl true) H1 else tb σ H1 Q
noncomputable def T9(ta:TE):TE:=λσ H Q=>ta σ H λx H1=>∃c,x=.bl c/\Q (.bl (!c)) H1
theorem og{op}{t:TE}(h:PE X a t):PE X (.BoolOp op [a] pos) t:=λpins s σ H Q I hw=>BoolOp_one (h pins s σ H Q I hw)
theorem Ua(ha:PE X a ta)(hb:PE X (.BoolOp .And (b::rest) pos) tb):PE X (.BoolOp .And (a::b::rest) pos) (T6 ta tb):=by
 intro pins s σ H Q I h
 refine BoolOp_and (aB (ha pins s σ H _ I h) λv s1 ⟨x,H1,I1,r1,q1⟩=>?_)
 obtain⟨c,rfl,q1⟩:=q1
 cases r1
 refine wpAny_truthy_bool ?_
 cases c with
 | true=>exact hb pins s1 σ H1 Q I1 q1
 | false=>exact⟨.bl false,H1,I1,rfl,q1⟩
theorem Ub(ha:PE X a ta)(hb:PE X (.BoolOp .Or (b::rest) pos) tb):PE X (.BoolOp .Or (a::b::rest) pos) (T7 ta tb):=by
 intro pins s σ H Q I h
 refine BoolOp_or (aB (ha pins s σ H _ I h) λv s1 ⟨x,H1,I1,r1,q1⟩=>?_)
 obtain⟨c,rfl,q1⟩:=q1
 cases r1
 refine wpAny_truthy_bool ?_
 cases c with
 | false=>exact hb pins s1 σ H1 Q I1 q1
 | true=>exact⟨.bl true,H1,I1,rfl,q1⟩
theorem Uc(ha:PE X a ta):PE X (.UnaryOp .Not a pos) (T9 ta):=by
 intro pins s σ H Q I h
 refine UnaryOp_ (aB (ha pins s σ H _ I h) λv s1 ⟨x,H1,I1,r1,q1⟩=>?_)
 obtain⟨c,rfl,q1⟩:=q1
 cases r1
 exact not_of (wpAny_truthy_bool ⟨.bl (!c),H1,I1,rfl,q1⟩)
noncomputable def Ud(t:TT)(ta tb:TE):TE:=λσ H Q=>t σ H λc H1=>if c=true then ta σ H1 Q else tb σ H1 Q
theorem Ue{c:Expr}(hc:PT X c tA)(ha:PE X a ta)(hb:PE X b tb):PE X (.IfExp c a b pos) (Ud tA ta tb):=by
 intro pins s σ H Q I h
 refine wpAny_IfExp (aB (hc pins s σ H _ I h) λd s1 ⟨H1,I1,q1⟩=>?_)
 cases d with
 | true=>exact ha pins s1 σ H1 Q I1 q1
 | false=>exact hb pins s1 σ H1 Q I1 q1
end
end L2
namespace L2
open PySem PySem.Spec PyProof.Rows
noncomputable def bf(K:PySem.W.Frag)(H:Hp)(a:Addr)(xs:List V):Prop :=
 Rd H a (.lst xs) \/
  ∃(o:Obj) (its:Array Value) (n:Nat),K.lookup a=some o/\o.cls=.type "list"/\o.dict=none/\o.data=.seq its n/\its.size<=sizeLine/\Vals xs its.toList
noncomputable def cj(K:PySem.W.Frag)(H:Hp)(a:Addr)(xs:List V):Prop :=
 Rd H a (.tup xs) \/
  ∃(o:Obj) (its:Array Value) (n:Nat),K.lookup a=some o/\o.cls=.type "tuple"/\o.data=.seq its n/\its.size<=sizeLine/\Vals xs its.toList
noncomputable def Ug:Value->Option V
 | .none=>some .aq
 | .bool b=>some (.bl b)
 | .int i _=>some (.int i)
 | .str x _=>some (.str x)
 | .bytes b _=>some (.yK b)
 | .float b _=>some (.nZ b)
 | .ref a=>some (.ref a)
 | .type n=>some (.ty n)
 | _=>none
theorem RelV.abs{x:V}{u:Value}(r:RelV x u):Ug u=some x:=by
 cases x with
 | aq=>cases r;rfl
 | bl _=>cases r;rfl
 | int _=>obtain⟨t,rfl⟩:=r;rfl
 | str _=>obtain⟨t,rfl⟩:=r;rfl
 | yK _=>obtain⟨t,rfl⟩:=r;rfl
 | nZ _=>obtain⟨t,rfl⟩:=r;rfl
 | ref _=>cases r;rfl
 | ty _=>cases r;rfl
theorem RelV.inj{x y:V}{u:Value}(r:RelV x u)(q:RelV y u):x=y:=dw (r.abs.symm.trans q.abs)
theorem Vals.inj:∀{xs ys:List V} {us:List Value},Vals xs us->Vals ys us->xs=ys
 | _,_,_,.nil,.nil=>rfl
 | _,_,_,.cons r t,.cons r' t'=>by rw[r.inj r',Vals.inj t t']
section
variable{X:Cx}{pins:List (Addr × Obj)}{σ:St}{H:Hp}{s:Shared}{a:Addr}{xs ys:List V}
theorem bf.of{K:PySem.W.Frag}(h:H a=some (.lst xs)):bf K H a xs:=.inl (.inl h)
theorem cj.of{K:PySem.W.Frag}(h:H a=some (.tup xs)):cj K H a xs:=.inl (.inl h)
theorem Inv.list(I:Inv X pins σ H s)(h:bf X.K H a xs):∃its:List Value,Vals xs its/\PlainL s.heap a its.toArray/\xs.length<=sizeLine:=by
 rcases h with h | ⟨o,its,n,hk,hc,hd,hs,hz,r⟩
 ·obtain⟨z,its,n,r,e⟩:=h.ok I.ay
  exact⟨its,r,⟨_,n,e,rfl,rfl,rfl⟩,z⟩
 ·refine⟨its.toList,r,⟨o,n,I.cE a o hk,hc,hd,by simpa using hs⟩,?_⟩
  have e:=r.length
  simp only[vv]at e
  omega
theorem Inv.tuple(I:Inv X pins σ H s)(h:cj X.K H a xs):∃its:List Value,Vals xs its/\IsTup s.heap a its.toArray/\xs.length<=sizeLine:=by
 rcases h with h | ⟨o,its,n,hk,hc,hs,hz,r⟩
 ·obtain⟨z,its,r,p⟩:=h.ok I.ay
  exact⟨its,r,p,z⟩
 ·refine⟨its.toList,r,⟨o,I.cE a o hk,hc,n,by simpa using hs⟩,?_⟩
  have e:=r.length
  simp only[vv]at e
  omega
theorem Inv.yR(I:Inv X pins σ H s)(h:bf X.K H a xs)(h':bf X.K H a ys):xs=ys:=by
 obtain⟨its,r,⟨o,n,e,_,_,d⟩,_⟩:=I.list h
 obtain⟨its',r',⟨o',n',e',_,_,d'⟩,_⟩:=I.list h'
 rw[e]at e';cases e'
 rw[d]at d'
 injection d' with d1 _
 have:its=its':=by simpa using congrArg Array.toList d1
 subst this
 exact r.inj r'
theorem Inv.Uh(I:Inv X pins σ H s)(h:cj X.K H a xs)(h':cj X.K H a ys):xs=ys:=by
 obtain⟨its,r,⟨o,e,_,n,d⟩,_⟩:=I.tuple h
 obtain⟨its',r',⟨o',e',_,n',d'⟩,_⟩:=I.tuple h'
 rw[e]at e';cases e'
 rw[d]at d'
 injection d' with d1 _
 have:its=its':=by simpa using congrArg Array.toList d1
 subst this
 exact r.inj r'
end
noncomputable abbrev Cx.gX(X:Cx)(E:Value->Shared->Prop):Cx:={ X with xe:=E }
noncomputable abbrev Cx.eJ(X:Cx):Cx:=X.gX λ_ _=>False
theorem Cx.Ok.gX{X:Cx}(ok:X.Ok)(E:Value->Shared->Prop):(X.gX E).Ok :=
 ⟨ok.mod,ok.kind,ok.glob,ok.blt,ok.above,ok.inj,ok.has,ok.n6,ok.hd,ok.frames,ok.vU,ok.vV,ok.bs,ok.gy,ok.rE,ok.rF,ok.eS,ok.gW⟩
theorem Cx.Ok.iN{X:Cx}{E:Value->Shared->Prop}(ok:(X.gX E).Ok):X.Ok :=
 ⟨ok.mod,ok.kind,ok.glob,ok.blt,ok.above,ok.inj,ok.has,ok.n6,ok.hd,ok.frames,ok.vU,ok.vV,ok.bs,ok.gy,ok.rE,ok.rF,ok.eS,ok.gW⟩
section
variable{X:Cx}{pins:List (Addr × Obj)}{σ:St}{H:Hp}{s:Shared}{E:Value->Shared->Prop}
theorem Inv.gX(I:Inv X pins σ H s)(E:Value->Shared->Prop):Inv (X.gX E) pins σ H s:=⟨I.ok.gX E,I.os,I.bare,I.base,I.loc,I.cell,I.free,I.gA,I.pin,I.ay,I.len⟩
theorem Inv.iN(I:Inv (X.gX E) pins σ H s):Inv X pins σ H s:=⟨I.ok.iN,I.os,I.bare,I.base,I.loc,I.cell,I.free,I.gA,I.pin,I.ay,I.len⟩
theorem SP.iN{D:Ends}{f:Flow}{s':Shared}(h:SP (X.gX E) pins D f s'):SP X pins D f s':=by
 cases f with
 | next=>obtain⟨aw,H',I,q⟩:=h;exact⟨aw,H',I.iN,q⟩
 | brk=>obtain⟨aw,H',I,q⟩:=h;exact⟨aw,H',I.iN,q⟩
 | cont=>obtain⟨aw,H',I,q⟩:=h;exact⟨aw,H',I.iN,q⟩
 | ret u=>obtain⟨v,aw,H',I,r,q⟩:=h;exact⟨v,aw,H',I.iN,r,q⟩
theorem PE.eJ{e:Expr}{t:TE}(h:PE X.eJ e t):PE X e t:=λpins s σ H Q I hw =>
 wpAny_mono (h pins s σ H Q (I.gX _) hw) (λ_ _ ⟨v,H',I',r,q⟩=>⟨v,H',I'.iN,r,q⟩) λ_ _ z=>dy z
theorem PT.eJ{e:Expr}{t:TT}(h:PT X.eJ e t):PT X e t:=λpins s σ H Q I hw =>
 wpAny_mono (h pins s σ H Q (I.gX _) hw) (λ_ _ ⟨H',I',q⟩=>⟨H',I'.iN,q⟩) λ_ _ z=>dy z
theorem PSs.eJ{st:List Stmt}{t:TS}(h:PSs X.eJ st t):PSs X st t:=λpins s σ H D I hw =>
 wpAny_mono (h pins s σ H D (I.gX _) hw) (λ_ _ q=>q.iN) λ_ _ z=>dy z
end
section
variable{X:Cx}{st:Stmt}{rest:List Stmt}{t u:TS}{e:Expr}{te:TE}{pos:Pos}
noncomputable def Ui:TS:=λD σ H=>D.nx σ H
noncomputable def Uj(t u:TS):TS:=λD σ H=>t { D with nx:=u D } σ H
theorem CQ:PSs X [] Ui:=λ_ _ σ H _ I h=>wpAny_execs_nil ⟨σ,H,I,h⟩
theorem iO(h1:PS X st t)(h2:PSs X rest u):PSs X (st::rest) (Uj t u):=by
 intro pins s σ H D I h
 refine wpAny_execs_cons (aB (h1 pins s σ H { D with nx:=u D } I h) λf s1 q=>?_)
 cases f with
 | next =>
  obtain⟨aw,H',I',q⟩:=q
  exact h2 pins s1 aw H' D I' q
 | ret v=>exact q
 | brk=>exact q
 | cont=>exact q
theorem rJ(h1:PS X st t):PSs X [st] t:=by
 intro pins s σ H D I h
 refine wpAny_execs_cons (aB (h1 pins s σ H D I h) λf s1 q=>?_)
 cases f with
 | next=>exact wpAny_execs_nil q
 | ret v=>exact q
 | brk=>exact q
 | cont=>exact q
theorem Inv.quiet{pins:List (Addr × Obj)}{σ:St}{H:Hp}{s:Shared}(I:Inv X pins σ H s):interactive X.env=false:=by simp[interactive,I.ok.kind]
noncomputable def Uk(te:TE):TS:=λD σ H=>te σ H λ_ H1=>D.nx σ H1
theorem yS(he:PE X e te)(hs:swapsWith e none pos.line X.env=pure false:=by rfl):PS X (.Expr e pos) (Uk te):=by
 intro pins s σ H D I h
 exact wpAny_Expr_any (aB (he pins s σ H _ I h) λv s1 ⟨x,H1,I1,r1,q1⟩=>⟨σ,H1,I1,q1⟩) I.quiet hs
noncomputable def Ul(te:TE):TS:=λD σ H=>te σ H D.rt
theorem Um(he:PE X e te):PS X (.Return (some e) pos) (Ul te):=by
 intro pins s σ H D I h
 exact wpAny_Return_some (aB (he pins s σ H _ I h) λv s1 ⟨x,H1,I1,r1,q1⟩=>⟨x,σ,H1,I1,r1,q1⟩)
noncomputable def Uo(c:TT)(t u:TS):TS:=λD σ H=>c σ H λb H1=>if b=true then t D σ H1 else u D σ H1
theorem CS{c:Expr}{a b:List Stmt}{tc:TT}(hc:PT X c tc)(ha:PSs X a t)(hb:PSs X b u):PS X (.If c a b pos) (Uo tc t u):=by
 intro pins s σ H D I h
 refine wpAny_If (aB (hc pins s σ H _ I h) λd s1 ⟨H1,I1,q1⟩=>?_)
 cases d with
 | true=>exact ha pins s1 σ H1 D I1 q1
 | false=>exact hb pins s1 σ H1 D I1 q1
noncomputable def Up:TS:=λ_ _ _=>False
theorem LL:PS X st Up:=λ_ _ _ _ _ _ h=>h.elim
end
noncomputable abbrev TG:=V->St->Hp->(St->Hp->Prop)->Prop
noncomputable abbrev oh:=List V->St->Hp->(St->Hp->Prop)->Prop
noncomputable def PG(X:Cx)(target:Expr)(t:TG):Prop :=
 ∀(pins:List (Addr × Obj)) (s:Shared) (σ:St) (H:Hp) (v:V) (u:Value) (Q:St->Hp->Prop),Inv X pins σ H s->RelV v u->t v σ H Q ->
  wpAny (model X.prog X.w) X.A (assign target X.env u) (λ_ s'=>∃aw H',Inv X pins aw H' s'/\Q aw H') X.xe s
noncomputable def yT(X:Cx)(ts:List Expr)(t:oh):Prop :=
 ∀(pins:List (Addr × Obj)) (s:Shared) (σ:St) (H:Hp) (vs:List V) (us:List Value) (Q:St->Hp->Prop),Inv X pins σ H s->Vals vs us->t vs σ H Q ->
  wpAny (model X.prog X.w) X.A (assignInOrder ((assignEach ts X.env).map (·.2)) us) (λ_ s'=>∃aw H',Inv X pins aw H' s'/\Q aw H') X.xe s
noncomputable abbrev CT:=V->V->V->Hp->(Hp->Prop)->Prop
noncomputable def LM(X:Cx)(t:CT):Prop :=
 ∀(pins:List (Addr × Obj)) (s:Shared) (σ:St) (H:Hp) (o i v:V) (ov iv u:Value) (Q:Hp->Prop),Inv X pins σ H s->RelV o ov->RelV i iv->RelV v u->t o i v H Q ->
  wpAny (model X.prog X.w) X.A (setItem ov iv u) (λ_ s'=>∃H',Inv X pins σ H' s'/\Q H') X.xe s
noncomputable abbrev CU:=V->V->Hp->VK->Prop
noncomputable def Uq(X:Cx)(op:Operator)(t:CU):Prop :=
 ∀(pins:List (Addr × Obj)) (s:Shared) (σ:St) (H:Hp) (x y:V) (v u:Value) (Q:VK),Inv X pins σ H s->RelV x v->RelV y u->t x y H Q ->
  wpAny (model X.prog X.w) X.A (inplaceOp op v u) (EP X pins σ Q) X.xe s
section
variable{X:Cx}{pos:Pos}
noncomputable def yU(i:Nat):TG:=λv σ H Q=>Q (σ.set i (some v)) H
theorem yV{i:Nat}{x:Str}(hN:X.N.Nodup)(hi:X.N[i]?=some x)(hx:Loc X.env.scope x)(hf:X.fn x=true\/X.env.scope.names.lookup x=some .local:=by first | exact .inl rfl | exact .inr rfl | assumption):PG X (.Name x pos) (yU i):=by
 intro pins s σ H v u Q I r h
 exact wpAny_assign_Name (yO I hN hi hx r (λs' I'=>⟨_,H,I',h⟩) hf)
noncomputable def Ur:oh:=λvs σ H Q=>vs=[]/\Q σ H
noncomputable def Us(t:TG)(u:oh):oh:=λvs σ H Q=>∃v r,vs=v::r/\t v σ H λaw H'=>u r aw H' Q
theorem Ut:yT X [] Ur:=by
 intro pins s σ H vs us Q I r h
 obtain⟨e,h⟩:=h
 subst e
 cases r
 exact assignInOrder_nil ⟨σ,H,I,h⟩
theorem LN{e:Expr}{es:List Expr}{t:TG}{u:oh}(h1:PG X e t)(h2:yT X es u)
  (hs:(assignEach (e::es) X.env).map (·.2)=assign e X.env::(assignEach es X.env).map (·.2):=by rfl):yT X (e::es) (Us t u):=by
 intro pins s σ H vs us Q I r h
 obtain⟨v,vr,e1,h⟩:=h
 subst e1
 cases r with
 | cons r rr =>
  rw[hs]
  refine assignInOrder_cons (aB (h1 pins s σ H _ _ _ I r h) λ_ s1 ⟨fb,H1,I1,q1⟩=>?_)
  exact h2 pins s1 fb H1 _ _ Q I1 rr q1
noncomputable def Uu(K:PySem.W.Frag)(n:Nat)(t:oh):TG:=λv σ H Q=>∃a xs,v=.ref a/\cj K H a xs/\xs.length=n/\t xs σ H Q
theorem Uv{es:List Expr}{k:Nat}{t:oh}{n:Nat}(hc:X.calm=true)(h:yT X es t)
  (hn:(assignEach es X.env).length=n:=by rfl) (cn:(assignEach es X.env).findIdx? (·.1)=none:=by rfl):PG X (.Tuple es k pos) (Uu X.K n t):=by
 intro pins s σ H v u Q I r hw
 obtain⟨a,xs,e1,hq,hl,hw⟩:=hw
 subst e1
 cases r
 obtain⟨its,rv,ht,hz⟩:=I.tuple hq
 refine assign_Tuple_tuple (I.ok.hd hc) ht (by simp[hn,<- hl,rv.length]) cn λh' hx=>?_
 have I1:Inv X pins σ H { s with heap:=h' }:=I.kept (t':=s.toks) λb o e=>hx b o (eu (bC e)) e
 exact h pins _ σ H xs _ Q I1 (by simpa using rv) hw
noncomputable def Uw(to ti:TE)(t:CT):TG:=λv σ H Q=>to σ H λo H1=>ti σ H1 λi H2=>t o i v H2 λH3=>Q σ H3
theorem Ux{o i:Expr}{to ti:TE}{t:CT}(ho:PE X o to)(hi:PE X i ti)(hs:LM X t)
  (ha:∀v,assign (.Subscript o i pos) X.env v=(do
   let ov<-holding [v] (eval o X.env)
   let iv<-holding [v,ov] (eval i X.env)
   standAt pos
   holding [v,ov,iv] (setItem ov iv v)
   release [v,ov,iv] []):=by intro _;rfl):PG X (.Subscript o i pos) (Uw to ti t):=by
 intro pins s σ H v u Q I r h
 rw[ha]
 refine wpAny_bind (wpAny_holding (aB (ho pins s σ H _ I h) λov s1 ⟨x,H1,I1,r1,q1⟩=>?_))
 refine wpAny_bind (wpAny_holding (aB (hi pins s1 σ H1 _ I1 q1) λiv s2 ⟨y,H2,I2,r2,q2⟩=>?_))
 refine wpAny_bind (wpAny_standAt (wpAny_bind (wpAny_holding (aB (hs pins s2 σ H2 x y v ov iv u _ I2 r1 r2 r q2) λ_ s3 ⟨H3,I3,q3⟩=>?_))))
 exact wpAny_release ⟨σ,H3,I3,q3⟩
noncomputable def CV(te:TE)(g:TG):TS:=λD σ H=>te σ H λx H1=>g x σ H1 D.nx
theorem Uy{tg e:Expr}{te:TE}{g:TG}(he:PE X e te)(hg:PG X tg g)(hs:swapsWithSole [tg] e pos.line X.env=pure false:=by rfl)(hw:swappedStores [tg] e X.env=pure none:=by rfl)
  (h1:(assignEach [tg] X.env).map (·.2)=[assign tg X.env]:=by rfl):PS X (.Assign [tg] e pos) (CV te g):=by
 intro pins s σ H D I h
 refine wpAny_Assign_stores (aB (he pins s σ H _ I h) λv s1 ⟨x,H1,I1,r1,q1⟩=>?_) hs hw
 rw[h1]
 exact aB (hg pins s1 σ H1 x v _ I1 r1 q1) λ_ s2 q=>q
theorem CW{i:Nat}{x:Str}{e:Expr}{te:TE}{pos':Pos}(hN:X.N.Nodup)(hi:X.N[i]?=some x)(hx:Loc X.env.scope x)(he:PE X e te)(hs:swapsWith e (some (.Name x pos')) pos.line X.env=pure false:=by rfl)(hf:X.fn x=true\/X.env.scope.names.lookup x=some .local:=by first | exact .inl rfl | exact .inr rfl | assumption) :
  PS X (.Assign [.Name x pos'] e pos) (CV te (yU i)):=by
 intro pins s σ H D I h
 refine wpAny_Assign_Name (aB (he pins s σ H _ I h) λv s1 ⟨y,H1,I1,r1,q1⟩=>?_) hs
 exact yO I1 hN hi hx r1 (λs2 I2=>⟨_,H1,I2,q1⟩) hf
noncomputable def Uz(i:Nat)(te:TE)(ti:CU):TS:=λD σ H=>∃x,σ[i]?=some (some x)/\te σ H λy H1=>ti x y H1 λz H2=>D.nx (σ.set i (some z)) H2
theorem UA{i:Nat}{x:Str}{e:Expr}{te:TE}{op:Operator}{ti:CU}{pos':Pos}(hN:X.N.Nodup)(hi:X.N[i]?=some x)(hx:Loc X.env.scope x)(he:PE X e te)(ho:Uq X op ti)(hf:X.fn x=true\/X.env.scope.names.lookup x=some .local:=by first | exact .inl rfl | exact .inr rfl | assumption) :
  PS X (.AugAssign (.Name x pos') op e pos) (Uz i te ti):=by
 intro pins s σ H D I h
 obtain⟨v,e1,h⟩:=h
 obtain⟨m,hn,hl⟩:=I.loc
 have UB:iL X.env.scope x:=by rcases hx with k | k;exact .inl k;exact .inr (.inl k)
 obtain⟨u,r,l⟩:=hl i x v hi e1 UB
 refine wpAny_AugAssign_Name ?_
 have go:wpAny (model X.prog X.w) X.A (eval e X.env) (λw iP=>wpAny (model X.prog X.w) X.A (inplaceOp op u w) (λr UC=>wpAny (model X.prog X.w) X.A (storeName X.env x r) (λ_=>SP X pins D .next) X.xe UC) X.xe iP) X.xe s:=by
  refine aB (he pins s σ H _ I h) λw s1 ⟨y,H1,I1,r1,q1⟩=>?_
  refine aB (ho pins s1 σ H1 v y u w _ I1 r r1 q1) λz s2 ⟨zv,H2,I2,r2,q2⟩=>?_
  exact yO I2 hN hi hx r2 (λs3 I3=>⟨_,H2,I3,q2⟩) hf
 rcases l with⟨hk,hm⟩ | ⟨hk,c,hc,gC⟩
 ·exact wpAny_loadName_local I.ok.kind hk hn hm go
 ·rcases hk with hk | hk
  ·exact wpAny_loadName_cell I.ok.kind hk hc gC go
  ·rcases hx with k | k
   ·have:X.env.scope.names.lookup x=some .free:=hk
    rw[k]at this;cases this
   ·have:X.env.scope.names.lookup x=some .free:=hk
    rw[k]at this;cases this
end
section
variable{X:Cx}{pos:Pos}
noncomputable def UD(c:TT)(tb:TS):TS:=λD σ H=>∃W:Nat->St->Hp->Prop,(∃m,W m σ H)/\∀m σ H,W m σ H ->
 c σ H λb H1=>if b=true then ∃N:St->Hp->Prop,(∀aw H',N aw H'->∃m',m'<m/\W m' aw H')/\tb { D with nx:=N,ct:=N,bk:=D.nx } σ H1 else D.nx σ H1
theorem UE{c:Expr}{body:List Stmt}{tc:TT}{tb:TS}(hp:PassesOwn (model X.prog X.w) X.A X.env X.xe)(hc:PT X c tc)(hb:PSs X body tb):PS X (.While c body [] pos) (UD tc tb):=by
 intro pins s σ H D I h
 obtain⟨W,⟨m0,w0⟩,turn⟩:=h
 refine wpAny_While (codeAny_whileLoop (λn s'=>∃aw H',Inv X pins aw H' s'/\W n aw H') ?_ m0 ⟨σ,H,I,w0⟩)
 rintro n s1 ⟨fb,H1,I1,w1⟩
 refine wpAny_passesOwn hp (aB (hc pins s1 fb H1 _ I1 (turn n fb H1 w1)) λb s2 ⟨H2,I2,q2⟩=>?_)
 cases b with
 | true =>
  obtain⟨N,hN,q2⟩:=q2
  rw[if_pos rfl]
  refine wpAny_passesOwn hp (aB (hb pins s2 fb H2 _ I2 q2) λf s3 q3=>?_)
  cases f with
  | next =>
   obtain⟨iQ,H3,I3,n3⟩:=q3
   obtain⟨m',hm,w3⟩:=hN iQ H3 n3
   exact⟨m',hm,iQ,H3,I3,w3⟩
  | cont =>
   obtain⟨iQ,H3,I3,n3⟩:=q3
   obtain⟨m',hm,w3⟩:=hN iQ H3 n3
   exact⟨m',hm,iQ,H3,I3,w3⟩
  | brk=>exact q3
  | ret v=>exact q3
 | false =>
  rw[if_neg rf]
  exact wpAny_execs_nil ⟨fb,H2,I2,q2⟩
end
structure It where
 go:Nat->Hp->Prop
 fQ:Nat->Hp->V->Hp->Prop
 stop:Nat->Hp->Prop
noncomputable def fu(X:Cx)(pins:List (Addr × Obj))(H:Hp)(b:Addr):Prop :=
 H b=none/\b≠X.env.locals/\b ∉ X.fs/\(b∈X.ex\/X.bR.heap.objs.size<=b)/\(∀x c,X.env.cells.lookup x=some c->c≠b)/\∀p∈X.pn++pins,p.1≠b
theorem Inv.oi{X:Cx}{pins:List (Addr × Obj)}{σ:St}{H H':Hp}{s:Shared}{b:Addr}(I:Inv X pins σ H s)(hb:s.heap.objs.size<=b)(hn:H' b=none):fu X pins H' b:=by
 refine⟨hn,B5 (cJ I.lt hb),I.LB hb,.inr (dY I.sz hb),λx c e z=>?_,λp hp z=>?_⟩
 ·obtain⟨v,q⟩:=I.cell x c e
  exact absurd (cJ q.lt (by rw[z];exact hb)) (fN _)
 ·exact absurd (cJ (bC (I.pin p hp).1) (by rw[z];exact hb)) (fN _)
structure Turn(P:Program)(w:World)(K:PySem.W.Frag)(tg:Expr)(J:It)(fp:List Addr)(it:Addr)(tn:Nat->Heap->Prop):Prop where
 mem:it∈fp
 obj:∀i h,tn i h->∀b∈fp,∃o,h.get? b=some o/\∀v,o.data≠.cell v
 keep:∀i h h',tn i h->(∀b∈fp,∀o,h.get? b=some o->h'.get? b=some o)->tn i h'
 item:∀(X:Cx),X.prog=P->X.w=w->X.K=K->X.calm=true->∀(i:Nat) (pins:List (Addr × Obj)) (s:Shared) (σ:St) (H:Hp) (E:Value->Shared->Prop),Inv X pins σ H s->(∀b∈fp,fu X pins H b)->tn i s.heap->J.go i H ->
  wpAny (model P w) X.A (pyNext (.ref it)) (λr s1=>∃u,r=some u /\
   wpAny (model P w) X.A (letOwnedTupleGo tg (.ref it) u) (λ_ s2=>∃x H',Inv X pins σ H' s2/\RelV x u/\J.fQ i H x H'/\tn (i+1) s2.heap/\∀b∈fp,H' b=none) E s1) E s
 done:∀(X:Cx),X.prog=P->X.w=w->X.K=K->X.calm=true->∀(i:Nat) (pins:List (Addr × Obj)) (s:Shared) (σ:St) (H:Hp) (E:Value->Shared->Prop),Inv X pins σ H s->(∀b∈fp,fu X pins H b)->tn i s.heap->J.stop i H ->
  wpAny (model P w) X.A (pyNext (.ref it)) (λr s1=>r=none/\Inv X pins σ H s1) E s
 self:∀(A:Around) (i:Nat) (s:Shared) (Q:Value->Shared->Prop) (E:Value->Shared->Prop),tn i s.heap->Q (.ref it) s->wpAny (model P w) A (pyIter (.ref it)) Q E s
noncomputable abbrev TI:=St->Hp->(It->Hp->Prop)->Prop
noncomputable def LO(X:Cx)(pins:List (Addr × Obj))(σ:St)(tg:Expr)(R:It->Hp->Prop)(CY:Value)(s2:Shared):Prop :=
 ∃(it:Addr) (fp:List Addr) (tn:Nat->Heap->Prop) (J:It) (H':Hp),CY=.ref it/\Inv X pins σ H' s2/\Turn X.prog X.w X.K tg J fp it tn/\tn 0 s2.heap/\(∀b∈fp,fu X pins H' b)/\R J H'
noncomputable def PI(X:Cx)(tg iter:Expr)(wi:TI):Prop :=
 ∀(pins:List (Addr × Obj)) (s:Shared) (σ:St) (H:Hp) (R:It->Hp->Prop),Inv X pins σ H s->wi σ H R ->
  wpAny (model X.prog X.w) X.A (eval iter X.env) (λv s1=>wpAny (model X.prog X.w) X.A (pyIter v) (LO X pins σ tg R) X.xe s1) X.xe s
theorem yW{M:Model}{A:Around}{E:Value->Shared->Prop}{s:Shared}{tg:Expr}{it:Addr}{u:Value}{o:Obj}{n:String}{vs:Array Value}{Q:Unit->Shared->Prop}(ho:s.heap.get? it=some o)(hc:o.cls=.type n)(hd:o.data=.fields vs)
  (hn:["enumerate","zip","dict_itemiterator","dict_reverseitemiterator","odict_iterator","itertools.zip_longest","itertools.pairwise"].contains n=false) (hQ:Q () s):wpAny M A (letOwnedTupleGo tg (.ref it) u) Q E s:=by
 unfold letOwnedTupleGo
 cases tg<;>first
  | exact wpAny_pure hQ
  | (cases u<;>first
    | exact wpAny_pure hQ
    | (refine wpAny_bind (wpAny_load ho ?_)
       rw[hc,hd]
       show wpAny M A (if(["enumerate","zip","dict_itemiterator","dict_reverseitemiterator","odict_iterator","itertools.zip_longest","itertools.pairwise"].contains n&&vs[0]?==some (rawInt _))=true then _ else _) Q E s
       rw[if_neg (by intro h;rw[hn,rh]at h;cases h)]
       exact wpAny_pure hQ))
noncomputable def CZ(K:PySem.W.Frag)(a:Addr):It :=
 ⟨λi H=>∃xs x,bf K H a xs/\xs[i]?=some x,λi H x H'=>H'=H/\∀xs,bf K H a xs->xs[i]?=some x,λi H=>∃xs,bf K H a xs/\xs.length<=i⟩
noncomputable def C2(K:PySem.W.Frag)(a:Addr):It :=
 ⟨λi H=>∃xs x,cj K H a xs/\xs[i]?=some x,λi H x H'=>H'=H/\∀xs,cj K H a xs->xs[i]?=some x,λi H=>∃xs,cj K H a xs/\xs.length<=i⟩
noncomputable def v7(lo:Int)(n:Nat):It:=⟨λi _=>i<n,λi H x H'=>H'=H/\x=.int (lo+i),λi _=>n<=i⟩
theorem UG{P:Program}{w:World}{K:PySem.W.Frag}{tg:Expr}(a it:Addr):Turn P w K tg (CZ K a) [it] it (λi h=>h.IsListIter it a i) where
 mem:=by simp
 obj:=λi h st b hb=>by
  have e:b=it:=by simpa using hb
  subst e
  obtain⟨o,e,c,d⟩:=st
  exact⟨o,e,λv z=>by rw[d]at z;cases z⟩
 keep:=λi h h' st k=>st.at λo e=>k it (by simp) o e
 item:=by
  intro X hP hw hK hc i pins s σ H E I hf st hg
  subst hP hw hK
  obtain⟨xs,x,hq,hx⟩:=hg
  obtain⟨its,rv,p,hz⟩:=I.list hq
  obtain⟨u,hu,ru⟩:=rv.get hx
  obtain⟨f0,f1,f2,f3,f4,f5⟩:=hf it (by simp)
  refine wpAny_pyNext_list_item st p.isList (x:=u) (by simpa using hu) λh' gD sb=>?_
  have I1:Inv X pins σ H { s with heap:=h' }:=I.turned (t':=s.toks) (λb o hb e=>(sb.2 b hb).trans e) f0 f1 f3 f4 f5
  obtain⟨o,e,c,d⟩:=id gD
  exact⟨u,rfl,yW (s:={ s with heap:=h' }) e c d (by decide) ⟨x,H,I1,ru,⟨rfl,λys hy=>by rw[I.yR hy hq];exact hx⟩,gD,λb hb=>(hf b hb).1⟩⟩
 done:=by
  intro X hP hw hK hc i pins s σ H E I hf st hg
  subst hP hw hK
  obtain⟨xs,hq,hx⟩:=hg
  obtain⟨its,rv,p,hz⟩:=I.list hq
  obtain⟨f0,f1,f2,f3,f4,f5⟩:=hf it (by simp)
  have hl:=rv.length
  exact wpAny_pyNext_list_end (I.ok.hd hc) st p.isList (by simp;omega) λh' eb=>⟨rfl,I.turned (t':=s.toks) (λb o hb e=>eb b o hb e) f0 f1 f3 f4 f5⟩
 self:=λ_ _ _ _ _ st h=>wpAny_pyIter_listiter st h
theorem UH{P:Program}{w:World}{K:PySem.W.Frag}{tg:Expr}(a it:Addr):Turn P w K tg (C2 K a) [it] it (λi h=>h.IsTupleIter it a i) where
 mem:=by simp
 obj:=λi h st b hb=>by
  have e:b=it:=by simpa using hb
  subst e
  obtain⟨o,e,c,d⟩:=st
  exact⟨o,e,λv z=>by rw[d]at z;cases z⟩
 keep:=λi h h' st k=>st.at λo e=>k it (by simp) o e
 item:=by
  intro X hP hw hK hc i pins s σ H E I hf st hg
  subst hP hw hK
  obtain⟨xs,x,hq,hx⟩:=hg
  obtain⟨its,rv,p,hz⟩:=I.tuple hq
  obtain⟨u,hu,ru⟩:=rv.get hx
  obtain⟨f0,f1,f2,f3,f4,f5⟩:=hf it (by simp)
  refine wpAny_pyNext_tuple_item st (show s.heap.IsTuple a its.toArray from p) (x:=u) (by simpa using hu) λh' gD sb=>?_
  have I1:Inv X pins σ H { s with heap:=h' }:=I.turned (t':=s.toks) (λb o hb e=>(sb.2 b hb).trans e) f0 f1 f3 f4 f5
  obtain⟨o,e,c,d⟩:=id gD
  exact⟨u,rfl,yW (s:={ s with heap:=h' }) e c d (by decide) ⟨x,H,I1,ru,⟨rfl,λys hy=>by rw[I.Uh hy hq];exact hx⟩,gD,λb hb=>(hf b hb).1⟩⟩
 done:=by
  intro X hP hw hK hc i pins s σ H E I hf st hg
  subst hP hw hK
  obtain⟨xs,hq,hx⟩:=hg
  obtain⟨its,rv,p,hz⟩:=I.tuple hq
  obtain⟨f0,f1,f2,f3,f4,f5⟩:=hf it (by simp)
  have hl:=rv.length
  exact wpAny_pyNext_tuple_end (I.ok.hd hc) st (show s.heap.IsTuple a its.toArray from p) (by simp;omega) λh' eb=>⟨rfl,I.turned (t':=s.toks) (λb o hb e=>eb b o hb e) f0 f1 f3 f4 f5⟩
 self:=λ_ _ _ _ _ st h=>wpAny_pyIter_tupleiter st h
theorem UI{P:Program}{w:World}{K:PySem.W.Frag}{tg:Expr}(it:Addr)(lo:Int)(n:Nat):Turn P w K tg (v7 lo n) [it] it (λi h=>IsRangeIter h it (lo+(i:Nat)*1) ((n:Int)-(i:Nat)) 1) where
 mem:=by simp
 obj:=λi h st b hb=>by
  have e:b=it:=by simpa using hb
  subst e
  exact⟨_,st,λv z=>by
   have z':B6 _=Data.cell v:=z
   cases z'⟩
 keep:=λi h h' st k=>k it (by simp) _ st
 item:=by
  intro X hP hw hK hc i pins s σ H E I hf st hg
  subst hP hw hK
  obtain⟨f0,f1,f2,f3,f4,f5⟩:=hf it (by simp)
  have W:=Walks.range (prog:=X.prog) (w:=X.w) (I.ok.hd hc) it lo 1 n
  refine W.item i s _ _ hg st λv h' tk hv gD kk=>?_
  obtain⟨t,rfl⟩:=hv
  have I1:Inv X pins σ H { s with heap:=h',toks:=tk }:=I.turned (λb o hb e=>kk b o (by simpa using hb) e) f0 f1 f3 f4 f5
  refine⟨_,rfl,yW (s:={ s with heap:=h',toks:=tk }) (n:="range_iterator") gD rfl rfl (by decide) ⟨.int (lo+i),H,I1,⟨t,?_⟩,⟨rfl,rfl⟩,gD,λb hb=>(hf b hb).1⟩⟩
  rw[Int.mul_one]
 done:=by
  intro X hP hw hK hc i pins s σ H E I hf st hg
  subst hP hw hK
  obtain⟨f0,f1,f2,f3,f4,f5⟩:=hf it (by simp)
  exact wpAny_pyNext_range_end (I.ok.hd hc) st (by have:n<=i:=hg;omega) λh' eb=>⟨rfl,I.turned (t':=s.toks) (λb o hb e=>eb b o hb e) f0 f1 f3 f4 f5⟩
 self:=λ_ _ _ _ _ st h=>wpAny_pyIter_rangeiter st h
end L2
namespace L2
open PySem PySem.Spec PyProof.Rows
section
variable{X:Cx}{tg:Expr}
noncomputable def UJ(K:PySem.W.Frag)(tl:TE):TI:=λσ H R=>tl σ H λx H1=>∃a,x=.ref a/\(∃xs,bf K H1 a xs)/\R (CZ K a) H1
noncomputable def UK(K:PySem.W.Frag)(tl:TE):TI:=λσ H R=>tl σ H λx H1=>∃a,x=.ref a/\(∃xs,cj K H1 a xs)/\R (C2 K a) H1
theorem UL{l:Expr}{tl:TE}(hl:PE X l tl):PI X tg l (UJ X.K tl):=by
 intro pins s σ H R I h
 refine aB (hl pins s σ H _ I h) λv s1 ⟨x,H1,I1,r1,q1⟩=>?_
 obtain⟨a,e,⟨xs,hq⟩,q⟩:=q1
 subst e
 cases r1
 obtain⟨its,rv,p,hz⟩:=I1.list hq
 refine wpAny_pyIter_list p.isList ?_
 refine⟨s1.heap.objs.size,[s1.heap.objs.size],_,_,H1,rfl,I1.kept (t':=s1.toks) λb o e=>cN _ e,UG a _,⟨_,dA _ rfl,rfl,rfl⟩,λb hb=>?_,q⟩
 have e:b=s1.heap.objs.size:=by simpa using hb
 subst e
 exact I1.oi (aX _) (I1.ay.fresh (aX _))
theorem UM{l:Expr}{tl:TE}(hl:PE X l tl):PI X tg l (UK X.K tl):=by
 intro pins s σ H R I h
 refine aB (hl pins s σ H _ I h) λv s1 ⟨x,H1,I1,r1,q1⟩=>?_
 obtain⟨a,e,⟨xs,hq⟩,q⟩:=q1
 subst e
 cases r1
 obtain⟨its,rv,p,hz⟩:=I1.tuple hq
 refine wpAny_pyIter_tuple (show s1.heap.IsTuple a its.toArray from p) ?_
 refine⟨s1.heap.objs.size,[s1.heap.objs.size],_,_,H1,rfl,I1.kept (t':=s1.toks) λb o e=>cN _ e,UH a _,⟨_,dA _ rfl,rfl,rfl⟩,λb hb=>?_,q⟩
 have e:b=s1.heap.objs.size:=by simpa using hb
 subst e
 exact I1.oi (aX _) (I1.ay.fresh (aX _))
theorem LP{pins:List (Addr × Obj)}{σ:St}{H:Hp}{s:Shared}{R:It->Hp->Prop}{E:Value->Shared->Prop}{lo hi:Int}{t u v:Tok}{tk:Nat}(I:Inv X pins σ H s)(h1:-(2 ^ 62)<=lo)(h2:lo<2 ^ 62)(h3:-(2 ^ 62)<=hi)(h4:hi<2 ^ 62)
  (q:R (v7 lo (hi-lo).toNat) H):wpAny (model X.prog X.w) X.A (pyIter (.ref s.heap.objs.size)) (LO X pins σ tg R) E { s with heap:=s.heap.push { cls:=.type "range",data:=.fields #[.int lo t,.int hi u,.int 1 v] },toks:=tk }:=by
 refine wpAny_pyIter_range (IsRange.new ..) (small_one h1 h2 h3 h4) ?_
 have I1:Inv X pins σ H { s with heap:=s.heap.push { cls:=.type "range",data:=.fields #[.int lo t,.int hi u,.int 1 v] },toks:=tk }:=I.kept λb o e=>cN _ e
 refine⟨(s.heap.push { cls:=.type "range",data:=.fields #[.int lo t,.int hi u,.int 1 v] }).objs.size,[(s.heap.push { cls:=.type "range",data:=.fields #[.int lo t,.int hi u,.int 1 v] }).objs.size],_,_,H,rfl,
  I1.kept (t':=tk) λb o e=>cN _ e,UI _ lo (hi-lo).toNat,?_,λb hb=>?_,q⟩
 ·have e1:lo+((0:Nat):Int)*1=lo:=by simp
  have e2:(((hi-lo).toNat:Nat):Int)-((0:Nat):Int)=ik lo hi 1:=by rw[rangeSize_one];split<;>omega
  show IsRangeIter _ _ (lo+((0:Nat):Int)*1) ((((hi-lo).toNat:Nat):Int)-((0:Nat):Int)) 1
  rw[e1,e2]
  exact dA _ rfl
 ·have e:b=(s.heap.push { cls:=.type "range",data:=.fields #[.int lo t,.int hi u,.int 1 v] }).objs.size:=by simpa using hb
  subst e
  exact I1.oi (aX _) (I1.ay.fresh (aX _))
noncomputable def UN(ta:TA):TI:=λσ H R=>ta σ H λvs H1=>∃j:Int,vs=[.int j]/\-(2 ^ 62)<=j/\j<2 ^ 62/\R (v7 0 j.toNat) H1
noncomputable def UO(ta:TA):TI:=λσ H R=>ta σ H λvs H1=>∃i j:Int,vs=[.int i,.int j]/\(-(2 ^ 62)<=i/\i<2 ^ 62/\-(2 ^ 62)<=j/\j<2 ^ 62)/\R (v7 i (j-i).toNat) H1
theorem UP{a:Expr}{ta:TA}{p pos:Pos}(hg:Gl X "range")(hm:X.mg "range"=none)(ha:PA X [a] ta)(hs:starEach [a] X.env=[(false,eval a X.env)]:=by rfl):PI X tg (.Call (.Name "range" p) [a] [] pos) (UN ta):=by
 intro pins s σ H R I h
 refine Call_ (j4 I hg hm boot_range (rj (aB (ha pos pins s σ H _ I h) λus s1 ⟨vs,H1,I1,r1,q1⟩=>?_) hs rfl))
 obtain⟨j,e,q1,q2,q⟩:=q1
 subst e
 cases r1 with
 | cons r rr =>
  cases rr
  obtain⟨t,rfl⟩:=r
  exact call_range_1 (LP I1 (by omega) (by omega) q1 q2 (by simpa using q))
theorem UQ{a b:Expr}{ta:TA}{p pos:Pos}(hg:Gl X "range")(hm:X.mg "range"=none)(ha:PA X [a,b] ta)(hs:starEach [a,b] X.env=[(false,eval a X.env),(false,eval b X.env)]:=by rfl)(dB:starEach [b] X.env=[(false,eval b X.env)]:=by rfl) :
  PI X tg (.Call (.Name "range" p) [a,b] [] pos) (UO ta):=by
 intro pins s σ H R I h
 refine Call_ (j4 I hg hm boot_range (rj (aB (ha pos pins s σ H _ I h) λus s1 ⟨vs,H1,I1,r1,q1⟩=>?_) (by rw[hs,dB]) (by rw[dB];rfl)))
 obtain⟨i,j,e,⟨q1,q2,q3,q4⟩,q⟩:=q1
 subst e
 cases r1 with
 | cons r rr =>
  cases rr with
  | cons r' rr =>
   cases rr
   obtain⟨t,rfl⟩:=r
   obtain⟨t',rfl⟩:=r'
   exact call_range_2 (LP I1 q1 q2 q3 q4 q)
noncomputable def UR(wi:TI)(g:TG)(tb:TS):TS:=λD σ H=>wi σ H λJ H1=>∃W:Nat->Nat->St->Hp->Prop,(∃m,W 0 m σ H1)/\∀i m σ H,W i m σ H ->
 (J.stop i H/\D.nx σ H)\/(J.go i H/\∃N:St->Hp->Prop,(∀aw H',N aw H'->∃m',m'<m/\W (i+1) m' aw H')/\∀x H',J.fQ i H x H'->g x σ H' λjq H2=>tb { D with nx:=N,ct:=N,bk:=D.nx } jq H2)
noncomputable def v9(fp:List Addr)(h:Heap):List (Addr × Obj):=fp.filterMap λb=>(h.get? b).map λo=>(b,o)
theorem yX{fp:List Addr}{h:Heap}{b:Addr}{o:Obj}(hb:b∈fp)(e:h.get? b=some o):(b,o)∈v9 fp h:=S2.mpr ⟨b,hb,by rw[e];rfl⟩
theorem US{fp:List Addr}{h:Heap}{p:Addr × Obj}(hp:p∈v9 fp h):p.1∈fp/\h.get? p.1=some p.2:=by
 obtain⟨b,hb,e⟩:=S2.mp hp
 cases q:h.get? b with
 | none=>rw[q]at e;cases e
 | some o =>
  rw[q]at e
  have e':(b,o)=p:=dw e
  subst e'
  exact⟨hb,q⟩
theorem Inv.pinned{pins:List (Addr × Obj)}{σ:St}{H:Hp}{s:Shared}{fp:List Addr}(I:Inv X pins σ H s)(hf:∀b∈fp,fu X pins H b)(ho:∀b∈fp,∃o,s.heap.get? b=some o/\∀v,o.data≠.cell v):Inv X (pins++v9 fp s.heap) σ H s :=
 I.LC λp hp=>(eA.mp hp).elim (λz=>I.pin p (eP _ z)) λz=>by
  obtain⟨hb,e⟩:=US z
  obtain⟨f0,f1,f2,_⟩:=hf p.1 hb
  obtain⟨o,e',d⟩:=ho p.1 hb
  rw[e]at e';cases e'
  exact⟨e,f0,f1,f2,d⟩
theorem Inv.wa{pins pl:List (Addr × Obj)}{σ:St}{H:Hp}{s:Shared}(I:Inv X (pins++pl) σ H s):Inv X pins σ H s:=I.LC λp hp=>I.pin p (eP _ (fO _ hp))
theorem UT{iter:Expr}{body:List Stmt}{wi:TI}{g:TG}{tb:TS}{pos:Pos}(hp:PassesOwn (model X.prog X.w) X.A X.env X.xe)(hc:X.calm=true)(hi:PI X tg iter wi)(hg:PG X tg g)(hb:PSs X body tb)
  (hs:∀x,foldedSetIterable iter X.env x=pure x:=by intro _;rfl):PS X (.For tg iter body [] pos) (UR wi g tb):=by
 intro pins s σ H D I h
 refine wpAny_For (aB (hi pins s σ H _ I h) λv s1 h1=>aB h1 λCY s2 h2=>?_) hs
 obtain⟨it,fp,tn,J,H2,e,I2,T,wb,f2,W,⟨m0,w0⟩,turn⟩:=h2
 subst e
 have C3:∀{H':Hp},(∀b∈fp,H' b=none)->∀b∈fp,fu X pins H' b:=λhn b hb=>⟨hn b hb,(f2 b hb).2⟩
 refine codeAny_forLoop_any (λn s'=>∃i aw H',Inv X pins aw H' s'/\tn i s'.heap/\(∀b∈fp,H' b=none)/\W i n aw H') ?_ m0 ⟨0,σ,H2,I2,wb,λb hb=>(f2 b hb).1,w0⟩
 rintro n s3 ⟨i,iQ,H3,I3,LQ,LR,w3⟩
 rcases turn i n iQ H3 w3 with⟨stop,qn⟩ | ⟨go,N,hN,step⟩
 ·refine wpAny_passesOwn hp (aB (T.done X rfl rfl rfl hc i pins s3 iQ H3 X.xe I3 (C3 LR) LQ stop) λr s4 ⟨hr,I4⟩=>?_)
  subst hr
  exact wpAny_execs_nil ⟨iQ,H3,I4,qn⟩
 ·refine wpAny_passesOwn hp (aB (T.item X rfl rfl rfl hc i pins s3 iQ H3 X.xe I3 (C3 LR) LQ go) λr s4 ⟨u,hr,h4⟩=>?_)
  subst hr
  refine wpAny_passesOwn hp (aB h4 λ_ s5 ⟨x,H5,I5,r5,y5,oj,C4⟩=>?_)
  have C5:=I5.pinned (C3 C4) (T.obj _ _ oj)
  refine wpAny_passesOwn hp (aB (hg _ s5 iQ H5 x u _ C5 r5 (step x H5 y5)) λ_ s6 ⟨C6,H6,I6,q6⟩=>?_)
  refine wpAny_passesOwn hp (aB (hb _ s6 C6 H6 _ I6 q6) λf s7 q7=>?_)
  have again:∀{iR:St} {H7:Hp},Inv X (pins++v9 fp s5.heap) iR H7 s7->N iR H7->∃m,m<n/\∃i aw H',Inv X pins aw H' s7/\tn i s7.heap/\(∀b∈fp,H' b=none)/\W i m aw H':=λ{iR H7} I7 n7=>by
   obtain⟨m',hm,w7⟩:=hN iR H7 n7
   refine⟨m',hm,i+1,iR,H7,I7.wa,T.keep _ _ _ oj λb hb o e=>(I7.pin (b,o) (eP _ (eP _ (yX hb e)))).1,λb hb=>?_,w7⟩
   obtain⟨o,e,d⟩:=T.obj _ _ oj b hb
   exact(I7.pin (b,o) (eP _ (eP _ (yX hb e)))).2.1
  cases f with
  | next=>obtain⟨iR,H7,I7,n7⟩:=q7;exact again I7 n7
  | cont=>obtain⟨iR,H7,I7,n7⟩:=q7;exact again I7 n7
  | brk=>obtain⟨iR,H7,I7,q7⟩:=q7;exact⟨iR,H7,I7.wa,q7⟩
  | ret v=>obtain⟨x7,iR,H7,I7,r7,q7⟩:=q7;exact⟨x7,iR,H7,I7.wa,r7,q7⟩
end
end L2
namespace L2
open PySem PySem.Spec PyProof.Rows
noncomputable abbrev R2:=V->V->Hp->VK->Prop
noncomputable def cu(X:Cx)(f:Value->Value->Sem Value)(r:R2):Prop :=
 ∀(pins:List (Addr × Obj)) (s:Shared) (σ:St) (H:Hp) (x y:V) (v u:Value) (Q:VK),Inv X pins σ H s->RelV x v->RelV y u->r x y H Q ->
  wpAny (model X.prog X.w) X.A (f v u) (EP X pins σ Q) X.xe s
noncomputable def C7(X:Cx)(f:Value->Sem Value)(r:V->Hp->VK->Prop):Prop :=
 ∀(pins:List (Addr × Obj)) (s:Shared) (σ:St) (H:Hp) (x:V) (v:Value) (Q:VK),Inv X pins σ H s->RelV x v->r x H Q ->
  wpAny (model X.prog X.w) X.A (f v) (EP X pins σ Q) X.xe s
noncomputable def fc(X:Cx)(f:Value)(r:List V->Hp->VK->Prop):Prop :=
 ∀(pins:List (Addr × Obj)) (s:Shared) (σ:St) (H:Hp) (xs:List V) (us:List Value) (Q:VK),Inv X pins σ H s->Vals xs us->r xs H Q ->
  wpAny (model X.prog X.w) X.A (call f us) (EP X pins σ Q) X.xe s
noncomputable def wc(r:R2)(ta tb:TE):TE:=λσ H Q=>ta σ H λx H1=>tb σ H1 λy H2=>r x y H2 Q
noncomputable def UU(r:V->Hp->VK->Prop)(ta:TE):TE:=λσ H Q=>ta σ H λx H1=>r x H1 Q
noncomputable def rI(C:Int->Int->Prop)(g:Int->Int->V):R2:=λx y H Q=>∃i j,x=.int i/\y=.int j/\C i j/\Q (g i j) H
noncomputable def gE(g:Int->Int->V):R2:=λx y H Q=>∃i j,x=.int i/\y=.int j/\Q (g i j) H
noncomputable def rU(g:Int->V):V->Hp->VK->Prop:=λx H Q=>∃i,x=.int i/\Q (g i) H
section
variable{X:Cx}{a b c:Expr}{ta tb tc:TE}{pos:Pos}
theorem C8(ha:PE X a ta)(hb:PE X b tb){pins:List (Addr × Obj)}{s:Shared}{σ:St}{H:Hp}{R:V->V->Hp->Prop}(I:Inv X pins σ H s)
  (h:ta σ H λx H1=>tb σ H1 λy H2=>R x y H2) {Q:Value->Shared->Prop} {f:Value->Value->Sem Value}
  (hf:∀v u s2 x y H2,Inv X pins σ H2 s2->RelV x v->RelV y u->R x y H2->wpAny (model X.prog X.w) X.A (f v u) Q X.xe s2) :
  wpAny (model X.prog X.w) X.A (eval a X.env) (λv bb=>wpAny (model X.prog X.w) X.A (eval b X.env) (λu iP=>wpAny (model X.prog X.w) X.A (f v u) Q X.xe iP) X.xe bb) X.xe s:=by
 refine aB (ha pins s σ H _ I h) λv s1 ⟨x,H1,I1,r1,q1⟩=>?_
 refine aB (hb pins s1 σ H1 _ I1 q1) λu s2 ⟨y,H2,I2,r2,q2⟩=>?_
 exact hf v u s2 x y H2 I2 r1 r2 q2
theorem yY{op:Operator}{r:R2}(ho:cu X (binaryOp op) r)(ha:PE X a ta)(hb:PE X b tb):PE X (.BinOp a op b pos) (wc r ta tb):=by
 intro pins s σ H Q I h
 exact wpAny_BinOp (C8 ha hb I h λv u s2 x y H2 I2 rx ry q=>ho pins s2 σ H2 x y v u Q I2 rx ry q)
theorem UW{op:UnaryOp}{r:V->Hp->VK->Prop}(ho:C7 X (unaryOp op) r)(ha:PE X a ta):PE X (.UnaryOp op a pos) (UU r ta):=by
 intro pins s σ H Q I h
 exact UnaryOp_ (aB (ha pins s σ H _ I h) λv s1 ⟨x,H1,I1,r1,q1⟩=>ho pins s1 σ H1 x v Q I1 r1 q1)
theorem wd{f:Value->Value->Sem Value}{C:Int->Int->Prop}{g:Int->Int->Int}
  (rule:∀(i j:Int) (t u:Tok) (s:Shared) (Q:Value->Shared->Prop) (E:Value->Shared->Prop),C i j->Q (.int (g i j) s.toks) { s with toks:=s.toks+1 }->wpAny (model X.prog X.w) X.A (f (.int i t) (.int j u)) Q E s) :
  cu X f (rI C λi j=>.int (g i j)):=by
 intro pins s σ H x y v u Q I rx ry h
 obtain⟨i,j,rfl,rfl,hc,q⟩:=h
 obtain⟨t,rfl⟩:=rx
 obtain⟨t',rfl⟩:=ry
 exact rule i j t t' s _ _ hc ⟨.int (g i j),H,I.tok _,⟨_,rfl⟩,q⟩
theorem om{f:Value->Value->Sem Value}{g:Int->Int->Int}
  (rule:∀(i j:Int) (t u:Tok) (s:Shared) (Q:Value->Shared->Prop) (E:Value->Shared->Prop),Q (.int (g i j) s.toks) { s with toks:=s.toks+1 }->wpAny (model X.prog X.w) X.A (f (.int i t) (.int j u)) Q E s) :
  cu X f (gE λi j=>.int (g i j)):=by
 intro pins s σ H x y v u Q I rx ry h
 obtain⟨i,j,rfl,rfl,q⟩:=h
 obtain⟨t,rfl⟩:=rx
 obtain⟨t',rfl⟩:=ry
 exact rule i j t t' s _ _ ⟨.int (g i j),H,I.tok _,⟨_,rfl⟩,q⟩
theorem yZ{f:Value->Value->Sem Value}{g:Int->Int->Bool}
  (rule:∀(i j:Int) (t u:Tok) (s:Shared) (Q:Value->Shared->Prop) (E:Value->Shared->Prop),Q (.bool (g i j)) s->wpAny (model X.prog X.w) X.A (f (.int i t) (.int j u)) Q E s) :
  cu X f (gE λi j=>.bl (g i j)):=by
 intro pins s σ H x y v u Q I rx ry h
 obtain⟨i,j,rfl,rfl,q⟩:=h
 obtain⟨t,rfl⟩:=rx
 obtain⟨t',rfl⟩:=ry
 exact rule i j t t' s _ _ ⟨.bl (g i j),H,I,rfl,q⟩
noncomputable def oo(i j:Int):Prop:=(-(2 ^ 64)<i/\i<2 ^ 64)\/(-(2 ^ 64)<j/\j<2 ^ 64)
theorem oo.ok{i j:Int}(h:oo i j):IntMulOk i j:=by
 rcases h with⟨h1,h2⟩ | ⟨h1,h2⟩
 ·exact .of_left (intBits_le_64 h1 h2)
 ·exact .of_right (intBits_le_64 h1 h2)
theorem UX(k:Nat):(0:Int)<=2 ^ k:=by
 rw[two_pow_cast]
 exact K6 _
theorem UY:cu X (binaryOp .Add) (gE λi j=>.int (i+j)):=om λ_ _ _ _ _ _ _ q=>add_int q
theorem C9:cu X (binaryOp .Sub) (gE λi j=>.int (i-j)):=om λ_ _ _ _ _ _ _ q=>sub_int q
theorem UZ:cu X (binaryOp .Mod) (rI (λ_ j=>0<j) λi j=>.int (i%j)):=wd λi j _ _ _ _ _ hc q=>by
 have h1:(0:Int)<j:=hc
 exact mod_int' (by omega) (by rw[Int.fmod_eq_emod_of_nonneg i (by omega)];exact q)
theorem U0:cu X (binaryOp .RShift) (rI (λ_ j=>0<=j) λi j=>.int (i/2 ^ j.toNat)):=wd λi j _ _ _ _ _ hc q =>
 rshift_int hc (by rw[S3 i (UX _)];exact q)
theorem U1:cu X (binaryOp .BitAnd) (gE λi j=>.int (kX i j)):=om λ_ _ _ _ _ _ _ q=>and_int q
theorem U2:cu X (binaryOp .BitXor) (gE λi j=>.int (kY i j)):=om λ_ _ _ _ _ _ _ q=>xor_int q
theorem U3:cu X (inplaceOp .Add) (gE λi j=>.int (i+j)):=om λ_ _ _ _ _ _ _ q=>iadd_int q
theorem U4:cu X (inplaceOp .Sub) (gE λi j=>.int (i-j)):=om λ_ _ _ _ _ _ _ q=>isub_int q
theorem U5:cu X (inplaceOp .BitXor) (gE λi j=>.int (kY i j)):=om λ_ _ _ _ _ _ _ q=>ixor_int q
theorem U6{f:Value->Sem Value}{g:Int->Int}
  (rule:∀(i:Int) (t:Tok) (s:Shared) (Q:Value->Shared->Prop) (E:Value->Shared->Prop),Q (.int (g i) s.toks) { s with toks:=s.toks+1 }->wpAny (model X.prog X.w) X.A (f (.int i t)) Q E s) :
  C7 X f (rU λi=>.int (g i)):=by
 intro pins s σ H x v Q I rx h
 obtain⟨i,rfl,q⟩:=h
 obtain⟨t,rfl⟩:=rx
 exact rule i t s _ _ ⟨.int (g i),H,I.tok _,⟨_,rfl⟩,q⟩
theorem U7:C7 X (unaryOp .USub) (rU λi=>.int (-i)):=U6 λ_ _ _ _ _ q=>neg_int q
end
section
variable{X:Cx}{a b c:Expr}{ta tb tc:TE}{pos:Pos}
theorem U8:cu X (compareOp .Lt) (gE λi j=>.bl (decide (i<j))):=yZ λ_ _ _ _ _ _ _ q=>lt_int q
theorem U9:cu X (compareOp .LtE) (gE λi j=>.bl (decide (i<=j))):=yZ λ_ _ _ _ _ _ _ q=>le_int q
theorem Va:cu X (compareOp .Gt) (gE λi j=>.bl (decide (j<i))):=yZ λ_ _ _ _ _ _ _ q=>gt_int q
theorem Vb:cu X (compareOp .GtE) (gE λi j=>.bl (decide (j<=i))):=yZ λ_ _ _ _ _ _ _ q=>ge_int q
theorem cu.or{f:Value->Value->Sem Value}{r r':R2}(h:cu X f r)(h':cu X f r'):cu X f (λx y H Q=>r x y H Q\/r' x y H Q):=by
 intro pins s σ H x y v u Q I rx ry q
 rcases q with q | q
 ·exact h pins s σ H x y v u Q I rx ry q
 ·exact h' pins s σ H x y v u Q I rx ry q
theorem bS(b:Expr){op:CmpOp}(h:op≠.In:=by decide)(h2:op≠.NotIn:=by decide):behindInMarks op b=false:=by
 have e1:(op==CmpOp.In)=false:=by cases op<;>first | rfl | exact absurd rfl h
 have e2:(op==CmpOp.NotIn)=false:=by cases op<;>first | rfl | exact absurd rfl h2
 cases b<;>simp[behindInMarks,e1,e2]
theorem Vc{op:CmpOp}{r:R2}(ho:cu X (compareOp op) r)(ha:PE X a ta)(hb:PE X b tb)(hm:behindInMarks op b=false):PE X (.Compare a [op] [b] pos) (wc r ta tb):=by
 intro pins s σ H Q I h
 exact wpAny_Compare1 (C8 ha hb I h λv u s2 x y H2 I2 rx ry q=>ho pins s2 σ H2 x y v u Q I2 rx ry q) hm
noncomputable def LS(t:TE):TT:=λσ H Q=>t σ H λx H'=>∃k,x=.bl k/\Q k H'
theorem Vd{op:CmpOp}{r:R2}(ho:cu X (compareOp op) r)(ha:PE X a ta)(hb:PE X b tb)(hm:behindInMarks op b=false):PT X (.Compare a [op] [b] pos) (LS (wc r ta tb)):=by
 intro pins s σ H Q I h
 refine wpAny_isTrue_Compare1 (aB (ha pins s σ H _ I h) λv s1 ⟨x,H1,I1,r1,q1⟩=>aB (hb pins s1 σ H1 _ I1 q1) λu s2 ⟨y,H2,I2,r2,q2⟩ =>
  aB (ho pins s2 σ H2 x y v u _ I2 r1 r2 q2) λc s3 ⟨z,H3,I3,r3,k,e,q3⟩=>?_) hm
 subst e
 cases r3
 exact wpAny_truthy_bool ⟨H3,I3,q3⟩
noncomputable def LU(r r':R2)(ta tb tc:TE):TE:=λσ H Q=>ta σ H λx H1=>tb σ H1 λy H2=>r x y H2 λz H3=>∃k,z=.bl k /\
 (if k=true then tc σ H3 λw' H4=>r' y w' H4 Q else Q (.bl false) H3)
theorem Ve{op oq:CmpOp}{r r':R2}(ho:cu X (compareOp op) r)(iM:cu X (compareOp oq) r')(ha:PE X a ta)(hb:PE X b tb)(hc:PE X c tc)
  (hm:lastMarks [op,oq] [b,c]=false:=by with_unfolding_all rfl):PE X (.Compare a [op,oq] [b,c] pos) (LU r r' ta tb tc):=by
 intro pins s σ H Q I h
 refine Compare_chain (aB (ha pins s σ H _ I h) λv s1 ⟨x,H1,I1,r1,q1⟩=>chain_link (aB (hb pins s1 σ H1 _ I1 q1) λu s2 ⟨y,H2,I2,r2,q2⟩ =>
  aB (ho pins s2 σ H2 x y v u _ I2 r1 r2 q2) λd s3 ⟨z,H3,I3,r3,k,e,q3⟩=>?_)) hm
 subst e
 cases r3
 refine wpAny_truthy_bool ?_
 cases k with
 | false=>exact ite_ff ⟨.bl false,H3,I3,rfl,q3⟩
 | true=>exact ite_tt (chain_last (aB (hc pins s3 σ H3 _ I3 q3) λw' s4 ⟨z',H4,I4,r4,q4⟩=>iM pins s4 σ H4 y z' u w' Q I4 r2 r4 q4))
theorem rK:(sizeLine:Nat)<2 ^ 63:=by rw[sizeLine_eq];decide
theorem Vf:cu X (binaryOp .Add) (λx y H Q=>∃i j,x=.str i/\y=.str j/\i.length+j.length<=sizeLine/\Q (.str (i++j)) H):=by
 intro pins s σ H x y v u Q I rx ry h
 obtain⟨i,j,rfl,rfl,hz,q⟩:=h
 obtain⟨t,rfl⟩:=rx
 obtain⟨t',rfl⟩:=ry
 exact add_str (λt' tk=>⟨.str (i++j),H,I.tok _,⟨_,rfl⟩,q⟩) hz
theorem y6{x:V}{us:List Value}(r:Vals [x] us):∃u,us=[u]/\RelV x u:=by
 cases r with
 | cons r1 r2=>cases r2;exact⟨_,rfl,r1⟩
theorem Vg{x y:V}{us:List Value}(r:Vals [x,y] us):∃u w',us=[u,w']/\RelV x u/\RelV y w':=by
 cases r with
 | cons r1 r2 =>
  cases r2 with
  | cons r3 r4=>cases r4;exact⟨_,_,rfl,r1,r3⟩
theorem Vh(hc:X.calm=true):fc X (.builtin "max") (λxs H Q=>∃i j,xs=[.int i,.int j]/\Q (.int (if j>i then j else i)) H):=by
 intro pins s σ H xs us Q I r h
 obtain⟨i,j,rfl,q⟩:=h
 obtain⟨u,w',rfl,⟨t,rfl⟩,⟨t',rfl⟩⟩:=Vg r
 refine max_two_ints (I.ok.hd hc) λh' tk k=>⟨_,H,I.kept k,?_,q⟩
 by_cases hj:j>i
 ·rw[if_pos hj,if_pos hj];exact⟨_,rfl⟩
 ·rw[if_neg hj,if_neg hj];exact⟨_,rfl⟩
end
end L2
namespace L2
open PySem PySem.Spec PyProof.Rows
structure ou(h:Heap)(x dx C:Addr)(mA:Str->Option Value):Prop where
 obj:h.get? x=some (PySem.W.instObj C dx)
 ns:h.Ns1 dx mA
 ne:dx≠x
theorem Vi{h:Heap}{dx:Addr}{mA:Str->Option Value}(n:h.Ns1 dx mA):∃od,h.get? dx=some od/\∀name,PySem.W.lookIn name od=some (mA name):=by
 obtain⟨o,es,ep,ho,hd,hk,_,hm⟩:=n
 refine⟨o,ho,λname=>?_⟩
 have e:=hm name
 unfold nsFind findBy at e
 rw[<-Array.find?_toList]at e
 unfold PySem.W.lookIn
 rw[hd]
 dsimp only
 split
 ·rename_i y q
  rw[q]at e
  exact congrArg some e
 ·rename_i q
  rw[q]at e
  have a:es.toList.any (·.refKey)=false:=by
   rw[List.any_eq_false]
   intro y hy
   obtain⟨z,t,Vj⟩:=hk y (Array.mem_toList_iff.mp hy)
   simp[DictEntry.refKey,Vj]
  have a':¬ es.toList.any (·.refKey)=true:=by rw[a];exact rf
  rw[if_neg a']
  exact congrArg some e
theorem ou.look{h:Heap}{x dx C:Addr}{mA:Str->Option Value}(I:ou h x dx C mA):∃od,PySem.W.InstAt h x (PySem.W.instObj C dx) C (some od)/\∀name,PySem.W.lookIn name od=some (mA name) :=
 let⟨od,ho,hl⟩:=Vi I.ns
 ⟨od,⟨I.obj,rfl,rfl,ho⟩,hl⟩
section
variable{prog:Program}{w:World}{A:Around}{E:Value->Shared->Prop}{s:Shared}{K:PySem.W.Frag}{x dx C f:Addr}{mA:Str->Option Value}{name:Str}{v:Value}
theorem Vk{expr:Bool}{Q:Value->Shared->Prop}(X:K.In s.heap)(I:ou s.heap x dx C mA)(hg:PySem.W.plainGet K C name=true)(hh:PySem.W.hasDictIn K C=true)
  (ha:PySem.W.findIn K (.ref C) name=some none) (hv:mA name=some v) (Vl:PySem.W.handedIn v=true) (h:Q v { s with toks:=s.toks+1 }) :
  wpAny (model prog w) A (getAttr (.ref x) name expr) Q E s:=by
 obtain⟨od,J,hl⟩:=I.look
 exact PySem.W.get_value X J (PySem.W.plainGet_of hg).1 (PySem.W.findObj_own hh ha rfl (by rw[hl,hv])) Vl h
theorem Vm{pl:Sem Bool}{Q:Value × List Value->Shared->Prop}(X:K.In s.heap)(I:ou s.heap x dx C mA)(hg:PySem.W.plainGet K C name=true)
  (hf:PySem.W.findIn K (.ref C) name=some (some (.ref f))) (ht:PySem.W.isFn K (.ref f)=true) (hv:mA name=none) (h:Q (.ref f,[.ref x]) s) :
  wpAny (model prog w) A (getMethod (.ref x) name pl) Q E s:=by
 obtain⟨od,J,hl⟩:=I.look
 exact PySem.W.method_fn X J (PySem.W.plainGet_of hg).1 (PySem.W.plainGet_of hg).2 hf (beq_iff_eq.mp ht) (by show(PySem.W.lookIn name od).map (·.isSome)=some false;rw[hl,hv];rfl) h
theorem Vn{ns:List Str}{Q:Unit->Shared->Prop}(X:K.In s.heap)(I:ou s.heap x dx C mA)
  (hs:PySem.W.findIn K (.ref C) "__setattr__"=some (some (.builtin "object.__setattr__"))) (hp:PySem.W.plainOver K C=true) (ht:PySem.W.takerIn K C name=some none) (hh:PySem.W.hasDictIn K C=true)
  (hw:PySem.Within mA ns) (iS:ns.length<=sizeLine)
  (h:∀h',ou h' x dx C (λy=>if y=name then some v else mA y)->B4 dx s.heap h'->Q () { s with heap:=h',toks:=s.toks+2 }) :
  wpAny (model prog w) A (setAttr (.ref x) name v) Q E s:=by
 obtain⟨od,J,hl⟩:=I.look
 refine PySem.W.set_plain X J hs (PySem.W.osa_open (s:={ s with toks:=s.toks+1 }) (r:=none) X J hp ht λb=>?_)
 obtain⟨cd,hc,vW⟩:=PySem.W.any_some hh
 have hx:s.heap.get? x=some ⟨.ref C,some dx,.plain,#[]⟩:=I.obj
 refine wpAny_bind (wpAny_pure (wpAny_bind (wpAny_bind (wpAny_loadPart hx (wpAny_bind (PySem.W.Looks.here (s:={ s with toks:=s.toks+1 }) (PySem.W.looks_clsIn X hc) ?_))))))
 rw[vW]
 refine wpAny_pure (a:=some dx) (wpAny_bind (wpAny_pure (wpAny_bind ?_)))
 refine wpAny_nsSet1 (s:={ s with toks:=s.toks+1 }) I.ns λh' y7 dB=>?_
 obtain⟨oD,esD,epD,Vo,Vp,Vq⟩:=y7.count (PySem.Within.cons name v hw)
 refine wpAny_bind (wpAny_lookBehind Vo (by rw[Vp];exact pastItsLine_dict (dY Vq (by rw[fq];omega))) ?_)
 exact wpAny_pure (h _ ⟨(dB.2 _ (du I.ne)).trans I.obj,y7,I.ne⟩ dB)
theorem Vr{R:Result->Shared->Prop}{vs:List Value}{kw:List (Str × Value)}(X:K.In s.heap)(hm:PySem.W.makesIn K C=true)
  (hi:PySem.W.findIn K (.ref C) "__init__"=some (some (.ref f))) (hf:PySem.W.typeIn K (.ref f)=some (.type "function"))
  (h:codeAny (model prog w) (A.under (.builtin "type.__call__" ⟨.ref C::vs,kw⟩)) (.call (.ref f) ⟨.ref (s.heap.objs.size+1)::vs,kw⟩) (PySem.W.InitBack (s.heap.objs.size+1) R)
   { s with heap:=(s.heap.push PySem.W.emptyDict).push (PySem.W.instObj C s.heap.objs.size) }) :
  codeAny (model prog w) A (.call (.ref C) ⟨vs,kw⟩) R s:=by
 obtain⟨hh,g,d,t,os⟩:=s
 exact PySem.W.make_core (PySem.W.makes_of X hm) (PySem.W.looks_findIn X hi) (λself=>PySem.W.bind_fn X self hf) (.inl rfl) h
end
noncomputable def eD(f:Str)(v:V):List (Str × V)->List (Str × V)
 | []=>[(f,v)]
 | (g,x)::r=>if g=f then(g,v)::r else(g,x)::eD f v r
theorem LV(f g:Str)(v:V):∀fs:List (Str × V),(eD f v fs).lookup g=if g=f then some v else fs.lookup g
 | []=>by
  show jV g [(f,v)]=_
  by_cases h:g=f
  ·have hb:(g==f)=true:=beq_iff_eq.mpr h
   simp only[jV,hb,if_pos h]
  ·have hb:(g==f)=false:=beq_eq_false_iff_ne.mpr h
   simp only[jV,hb,if_neg h]
 | (k,x)::r=>by
  have ih:=LV f g v r
  rw[show eD f v ((k,x)::r)=(if k=f then(k,v)::r else(k,x)::eD f v r) from rfl]
  by_cases hk:k=f
  ·rw[if_pos hk]
   by_cases h:g=k
   ·have hb:(g==k)=true:=beq_iff_eq.mpr h
    simp only[jV,hb,if_pos (h.trans hk)]
   ·have hb:(g==k)=false:=beq_eq_false_iff_ne.mpr h
    simp only[jV,hb,if_neg (λe:g=f=>h (e.trans hk.symm))]
  ·rw[if_neg hk]
   by_cases h:g=k
   ·have hb:(g==k)=true:=beq_iff_eq.mpr h
    simp only[jV,hb,if_neg (λe:g=f=>hk (h.symm.trans e))]
   ·have hb:(g==k)=false:=beq_eq_false_iff_ne.mpr h
    simp only[jV,hb]
    exact ih
theorem Dc(f:Str)(v:V):∀fs:List (Str × V),f∈(eD f v fs).map (·.1)/\∀g,g∈fs.map (·.1)->g∈(eD f v fs).map (·.1)
 | []=>⟨by simp[eD],λg h=>by simp at h⟩
 | (k,x)::r=>by
  obtain⟨i1,i2⟩:=Dc f v r
  rw[show eD f v ((k,x)::r)=(if k=f then(k,v)::r else(k,x)::eD f v r) from rfl]
  by_cases hk:k=f
  ·rw[if_pos hk]
   subst hk
   exact⟨by simp,λg h=>by simpa using h⟩
  ·rw[if_neg hk]
   refine⟨?_,λg h=>?_⟩
   ·rw[dj]
    exact jT _ i1
   ·rw[dj]at h ⊢
    rcases bM.mp h with e | e
    ·exact bM.mpr (.inl e)
    ·exact jT _ (i2 g e)
theorem LW(f:Str)(v:V):∀fs:List (Str × V),(eD f v fs).length<=fs.length+1
 | []=>by simp[eD]
 | (k,x)::r=>by
  have ih:=LW f v r
  rw[show eD f v ((k,x)::r)=(if k=f then(k,v)::r else(k,x)::eD f v r) from rfl]
  by_cases hk:k=f
  ·rw[if_pos hk,fq,fq];omega
  ·rw[if_neg hk,fq,fq];omega
theorem jl.some_of{v:V}{o:Option Value}(r:jl (some v) o):∃u,o=some u/\RelV v u:=by
 cases o with
 | none=>exact(show False from r).elim
 | some u=>exact⟨u,rfl,r⟩
theorem jl.none_of{o:Option Value}(r:jl none o):o=none:=by
 cases o with
 | none=>rfl
 | some u=>exact(show False from r).elim
theorem Vs{v:V}{u:Value}(r:RelV v u):PySem.W.handedIn u=true:=by
 cases v with
 | aq=>cases(show u=je from r);rfl
 | bl b=>cases(show u=B0 b from r);rfl
 | int i=>obtain⟨t,e⟩:=(show ∃t,u=vq i t from r);cases e;rfl
 | str x=>obtain⟨t,e⟩:=(show ∃t,u=Value.str x t from r);cases e;rfl
 | yK b=>obtain⟨t,e⟩:=(show ∃t,u=Value.bytes b t from r);cases e;rfl
 | nZ b=>obtain⟨t,e⟩:=(show ∃t,u=Value.float b t from r);cases e;rfl
 | ref a=>cases(show u=dr a from r);rfl
 | ty n=>cases(show u=Value.type n from r);rfl
section
variable{P:Program}{w:World}{H H':Hp}{h h':Heap}{a C dx:Addr}{fs CI:List (Str × V)}
theorem y8(ay:bZ P w H h)(e:H a=some (.ins C dx fs)):∃mA,ou h a dx C mA/\(∀f,jl (fs.lookup f) (mA f))/\PySem.Within mA (fs.map (·.1))/\fs.length<=1000/\H dx=some (.own a):=by
 obtain⟨d,z,ne,ob,mA,n,r,q⟩:=(show cX P w H h a (.ins C dx fs) from ay a _ e)
 exact⟨mA,⟨ob,n,ne⟩,r,q,z,d⟩
end
structure dk(K:PySem.W.Frag)(C:Addr):Prop where
 pg:PySem.W.plainGet K C Str.empty=true
 hd:PySem.W.hasDictIn K C=true
 po:PySem.W.plainOver K C=true
 sa:PySem.W.findIn K (.ref C) "__setattr__"=some (some (.builtin "object.__setattr__"))
theorem dk.get{K:PySem.W.Frag}{C:Addr}(c:dk K C)(f:Str):PySem.W.plainGet K C f=true:=c.pg
noncomputable def bU(K:PySem.W.Frag)(C:Addr)(f:Str):Prop:=PySem.W.findIn K (.ref C) f=some none
theorem bU.Vt{K:PySem.W.Frag}{C:Addr}{f:Str}(n:bU K C f):PySem.W.takerIn K C f=some none:=by
 unfold PySem.W.takerIn
 rw[show PySem.W.findIn K (.ref C) f=some none from n]
 rfl
structure Meth(K:PySem.W.Frag)(C:Addr)(m:Str)(f:Addr):Prop where
 at_:PySem.W.findIn K (.ref C) m=some (some (.ref f))
 fn:PySem.W.isFn K (.ref f)=true
 kp:PySem.W.keepIn K (.ref f)=true
section
variable{X:Cx}{pins:List (Addr × Obj)}{σ:St}{H:Hp}{s:Shared}{a C dx:Addr}{fs:List (Str × V)}{f:Str}{v:V}{A:Around}{E:Value->Shared->Prop}
theorem Vu{b:Bool}{Q:Value->Shared->Prop}(I:Inv X pins σ H s)(e:H a=some (.ins C dx fs))(c:dk X.K C)(n:bU X.K C f)(l:fs.lookup f=some v)
  (h:∀u s',Inv X pins σ H s'->RelV v u->Q u s'):wpAny (model X.prog X.w) A (getAttr (.ref a) f b) Q E s:=by
 obtain⟨mA,O,r,_,_,_⟩:=y8 I.ay e
 obtain⟨u,hu,ru⟩:=jl.some_of (v:=v) (o:=mA f) (by rw[<-l];exact r f)
 exact Vk I.cE O (c.get f) c.hd n hu (Vs ru) (h u _ (I.tok _) ru)
theorem y9{m:Str}{g:Addr}{pl:Sem Bool}{Q:Value × List Value->Shared->Prop}(I:Inv X pins σ H s)(e:H a=some (.ins C dx fs))(c:dk X.K C)(k:Meth X.K C m g)(l:fs.lookup m=none)
  (h:Q (.ref g,[.ref a]) s):wpAny (model X.prog X.w) A (getMethod (.ref a) m pl) Q E s:=by
 obtain⟨mA,O,r,_,_,_⟩:=y8 I.ay e
 have hn:mA m=none:=jl.none_of (by rw[<-l];exact r m)
 exact Vm I.cE O (c.get m) k.at_ k.fn hn h
theorem Vv{y:V}{u:Value}{Q:Unit->Shared->Prop}(I:Inv X pins σ H s)(e:H a=some (.ins C dx fs))(c:dk X.K C)(n:bU X.K C f)(hl:fs.length<1000)(ry:RelV y u)
  (h:∀s',Inv X pins σ (upd H a (.ins C dx (eD f y fs))) s'->Q () s'):wpAny (model X.prog X.w) A (setAttr (.ref a) f u) Q E s:=by
 obtain⟨mA,O,r,wi,_,ho⟩:=y8 I.ay e
 have hz:(fs.map (·.1)).length<=sizeLine:=by rw[dS,sizeLine_eq];omega
 refine Vn I.cE O c.sa c.po n.Vt c.hd wi hz λh' O' sb=>h _ ?_
 have hd:∃o,h'.get? dx=some o:=let⟨o,_,_,e',_⟩:=O'.ns;⟨o,e'⟩
 refine I.write (x:=a) (e:=dx) (by rw[e];exact rk) (.inr ho) (λb q hb z=>(sb.2 b hb).trans z) hd ?_
 refine⟨by rw[aP O.ne];exact ho,?_,O.ne,O'.obj,_,O'.ns,λg=>?_,λg hg=>?_⟩
 ·have:=LW f y fs;omega
 ·show jl ((eD f y fs).lookup g) (if g=f then some u else mA g)
  rw[LV]
  by_cases q:g=f
  ·rw[if_pos q,if_pos q];exact ry
  ·rw[if_neg q,if_neg q];exact r g
 ·by_cases q:g=f
  ·rw[q];exact(Dc f y fs).1
  ·refine(Dc f y fs).2 g (wi g λz=>hg ?_)
   show(if g=f then some u else mA g)=none
   rw[if_neg q];exact z
theorem Inv.made(I:Inv X pins σ H s):Inv X pins σ (upd (upd H s.heap.objs.size (.own (s.heap.objs.size+1))) (s.heap.objs.size+1) (.ins C s.heap.objs.size []))
  { s with heap:=(s.heap.push PySem.W.emptyDict).push (PySem.W.instObj C s.heap.objs.size) }:=by
 have e1:(s.heap.push PySem.W.emptyDict).get? s.heap.objs.size=some PySem.W.emptyDict:=dA s.heap rfl
 have e2:((s.heap.push PySem.W.emptyDict).push (PySem.W.instObj C s.heap.objs.size)).get? (s.heap.objs.size+1)=some (PySem.W.instObj C s.heap.objs.size):=by
  have:=dA (s.heap.push PySem.W.emptyDict) (o:=PySem.W.instObj C s.heap.objs.size) rfl
  rwa [nD]at this
 have e3:(s.heap.push PySem.W.emptyDict).Ns s.heap.objs.size (λ_=>none):=⟨PySem.W.emptyDict,#[],_,e1,rfl,(λe he=>absurd he (by simp)),λ_=>rfl⟩
 have I1:=I.laid (a:=s.heap.objs.size) (o:=.own (s.heap.objs.size+1)) (h':=s.heap.push PySem.W.emptyDict) (t':=s.toks) (λb u q=>cN _ q) (aX _) ⟨_,e1⟩
 refine I1.laid (a:=s.heap.objs.size+1) (o:=.ins C s.heap.objs.size []) (t':=s.toks) (λb u q=>cN _ q) (K7 (nD _ _)) ?_
 have ne:s.heap.objs.size≠s.heap.objs.size+1:=eu (B7 _)
 refine⟨by rw[aP ne,bN],iE _,ne,e2,λ_=>none,(Heap.Ns1.of_empty e3).at λo q=>cN _ q,λ_=>rk,λy hy=>absurd rfl hy⟩
theorem Vw{prog:Program}{w:World}{env:Env}{e:Expr}{f:Str}{pos:Pos}{s:Shared}{Q:Value->Shared->Prop}(hb:attributeBase e f env (eval e env)=eval e env)
  (h:wpAny (model prog w) A (eval e env) (λo bb=>wpAny (model prog w) A (getAttr o f true) Q E bb) E s):wpAny (model prog w) A (eval (.Attribute e f pos) env) Q E s :=
 Attribute_any_ h (by rw[arm_eval_Attribute,hb])
end
noncomputable def Vx(K:PySem.W.Frag)(ta:TE)(f:Str):TE:=λσ H Q=>ta σ H λx H1=>∃a C dx fs v,x=.ref a/\H1 a=some (.ins C dx fs)/\dk K C/\bU K C f/\fs.lookup f=some v/\Q v H1
noncomputable def Vy(K:PySem.W.Frag)(ta tv:TE)(f:Str):TS:=λD σ H=>tv σ H λy H1=>ta σ H1 λx H2=>∃a C dx fs,x=.ref a/\H2 a=some (.ins C dx fs)/\dk K C/\bU K C f/\fs.length<1000 /\
 D.nx σ (upd H2 a (.ins C dx (eD f y fs)))
section
variable{X:Cx}{o e value:Expr}{f:Str}{pos pos' iT:Pos}{ta tv:TE}
theorem zc(he:PE X e ta)(hb:attributeBase e f X.env (eval e X.env)=eval e X.env):PE X (.Attribute e f pos) (Vx X.K ta f):=by
 intro pins s σ H Q I h
 refine Vw hb (aB (he pins s σ H _ I h) λu s1 ⟨x,H1,I1,rx,a,C,dx,fs,v,ex,ea,c,n,l,q⟩=>?_)
 subst ex
 obtain rfl:u=dr a:=rx
 exact Vu I1 ea c n l λu' s2 I2 ru=>⟨v,H1,I2,ru,q⟩
theorem lM(ha:PE X o ta)(hv:PE X value tv)(hs:swapsWith value (some (.Attribute o f pos')) pos.line X.env=pure false):PS X (.Assign [.Attribute o f pos'] value pos) (Vy X.K ta tv f):=by
 intro pins s σ H D I h
 refine plainObj_wpAny_Assign_Attribute (aB (hv pins s σ H _ I h) λu s1 ⟨y,H1,I1,ry,q⟩=>aB (ha pins s1 σ H1 _ I1 q) λov s2 ⟨x,H2,I2,rx,a,C,dx,fs,ex,ea,c,n,l,q2⟩=>?_) hs
 subst ex
 obtain rfl:ov=dr a:=rx
 exact Vv I2 ea c n l ry λs3 I3=>⟨σ,_,I3,q2⟩
end
section
variable{X:Cx}{pins:List (Addr × Obj)}{σ:St}{H:Hp}{s:Shared}{A:Around}{E:Value->Shared->Prop}{Q:Value->Shared->Prop}{c:Value}{b:Bool}
inductive fR(K:PySem.W.Frag)(H:Hp):V->Value->Prop where
 | aq:fR K H .aq (.type "NoneType")
 | bl (x:Bool):fR K H (.bl x) (.type "bool")
 | int (i:Int):fR K H (.int i) (.type "int")
 | str (x:Str):fR K H (.str x) (.type "str")
 | nZ (x:UInt64):fR K H (.nZ x) (.type "float")
 | lst {a:Addr} {xs:List V} (e:H a=some (.lst xs)):fR K H (.ref a) (.type "list")
 | bQ {a:Addr} {o:Obj} {xs:List V} (e:H a=some (.bQ o (.lst xs))):fR K H (.ref a) (.type "list")
 | tup {a:Addr} {xs:List V} (e:H a=some (.tup xs)):fR K H (.ref a) (.type "tuple")
 | dK {a:Addr} {cO:List (Key × V)} (e:H a=some (.dK cO)):fR K H (.ref a) (.type "dict")
 | dT {a:Addr} {cO:List (List Key × V)} (e:H a=some (.dT cO)):fR K H (.ref a) (.type "dict")
 | ins {a C dx:Addr} {fs:List (Str × V)} (e:H a=some (.ins C dx fs)) (cl:dk K C) (ha:PySem.W.findIn K (.ref C) "__class__"=some (some (.builtin "object.__class__")))
   (hn:PySem.W.specialIn K (.builtin "object.__class__") "__get__"=some (some (.builtin "getset_descriptor.__get__"))) (De:PySem.W.takesIn K (.builtin "object.__class__")=some true)
   (hm:PySem.W.mroIn K C (.type "object")=some true):fR K H (.ref a) (.ref C)
theorem Vz{x:V}{u t:Value}(I:Inv X pins σ H s)(rx:RelV x u)(ty:fR X.K H x t)(e:PySem.W.kitOne X.K t c=some b)(h:∀tk,Q (.bool b) { s with toks:=tk }) :
  wpAny (model X.prog X.w) A (call (.builtin "isinstance") [u,c]) Q E s:=by
 cases ty with
 | aq=>cases(show u=je from rx);exact PySem.W.kia_one PySem.W.kitx_none I.cE rk e (λz=>nomatch z) h
 | bl y=>cases(show u=B0 y from rx);exact PySem.W.kia_one PySem.W.kitx_bool I.cE rk e (λz=>nomatch z) h
 | int i=>obtain⟨t,q⟩:=(show ∃t,u=vq i t from rx);cases q;exact PySem.W.kia_one PySem.W.kitx_int I.cE rk e (λz=>nomatch z) h
 | str y=>obtain⟨t,q⟩:=(show ∃t,u=Value.str y t from rx);cases q;exact PySem.W.kia_one PySem.W.kitx_str I.cE rk e (λz=>nomatch z) h
 | nZ y=>obtain⟨t,q⟩:=(show ∃t,u=Value.float y t from rx);cases q;exact PySem.W.kia_one PySem.W.kitx_float I.cE rk e (λz=>nomatch z) h
 | @lst a xs ea =>
  cases(show u=dr a from rx)
  obtain⟨_,_,n,_,h1⟩:=(show cX X.prog X.w H s.heap a (.lst xs) from I.ay a _ ea)
  exact PySem.W.kia_one PySem.W.kitx_list I.cE ⟨_,h1,rfl⟩ e (λz=>nomatch z) h
 | @bQ a ob xs ea =>
  cases(show u=dr a from rx)
  obtain⟨_,_,_,n,_,h1⟩:=(show cX X.prog X.w H s.heap a (.bQ ob (.lst xs)) from I.ay a _ ea)
  exact PySem.W.kia_one PySem.W.kitx_list I.cE ⟨_,h1,rfl⟩ e (λz=>nomatch z) h
 | @tup a xs ea =>
  cases(show u=dr a from rx)
  obtain⟨_,_,_,p⟩:=(show cX X.prog X.w H s.heap a (.tup xs) from I.ay a _ ea)
  obtain⟨o,h1,h2,_⟩:=p
  exact PySem.W.kia_one PySem.W.kitx_tuple I.cE ⟨o,h1,h2⟩ e (λz=>nomatch z) h
 | @dK a cO ea =>
  cases(show u=dr a from rx)
  obtain⟨_,_,vs,_,p⟩:=(show cX X.prog X.w H s.heap a (.dK cO) from I.ay a _ ea)
  obtain⟨o,es,ep,h1,h2,_⟩:=p
  exact PySem.W.kia_one PySem.W.kitx_dict I.cE ⟨o,h1,h2.1⟩ e (λz=>nomatch z) h
 | @dT a cO ea =>
  cases(show u=dr a from rx)
  obtain⟨_,_,xs,_,o,es,ep,h1,h2,_⟩:=(show cX X.prog X.w H s.heap a (.dT cO) from I.ay a _ ea)
  exact PySem.W.kia_one PySem.W.kitx_dict I.cE ⟨o,h1,h2.1⟩ e (λz=>nomatch z) h
 | @ins a C dx fs ea cl ha hn De hm =>
  cases(show u=dr a from rx)
  obtain⟨mA,O,_⟩:=y8 I.ay ea
  obtain⟨od,J,_⟩:=O.look
  exact PySem.W.kia_one (PySem.W.kitx_own (cl.get _) cl.hd ha hn De hm) I.cE J e (λz=>nomatch z) h
end
end L2
namespace L2
open PySem PySem.Spec PyProof.Rows
structure bE(k:Nat)(A:Around):Prop where
 hd:A.handled=none
 dp:A.depth+3*k+5<recursionLimit
 un:A.units+16*k+200<cLine
theorem bE.mono{j k:Nat}{A:Around}(r:bE k A)(h:j<=k):bE j A:=⟨r.hd,by have:=r.dp;omega,by have:=r.un;omega⟩
theorem bE.deeper{k:Nat}{A:Around}(r:bE (k+1) A)(env:Env):bE k (A.deeper env) :=
 ⟨r.hd,by have:=r.dp;show A.depth+1+3*k+5<_;omega,by have:=r.un;show A.units+3+16*k+200<_;omega⟩
theorem bE.in1{k:Nat}{A:Around}(r:bE (k+1) A):bE k A.in1 :=
 ⟨r.hd,by have:=r.dp;show A.depth+3*k+5<_;omega,by have:=r.un;show A.units+1+16*k+200<_;omega⟩
theorem VA{A:Around}{C:Addr}{us:List Value}{kw:List (Str × Value)}:(A.under (.builtin "type.__call__" ⟨.ref C::us,kw⟩)).depth=A.depth+1:=by
 first | rfl | simp[Around.under,Code.weight,Code.isCreation,Code.isGuard,Code.isCaller,Code.frames,Code.isFrame,guardIds]
theorem VB{A:Around}{C:Addr}{us:List Value}{kw:List (Str × Value)}:(A.under (.builtin "type.__call__" ⟨.ref C::us,kw⟩)).units=A.units+1:=by
 first | rfl | simp[Around.under,Code.cUnits,Code.frames,Code.isFrame]
theorem bE.make{k:Nat}{A:Around}(r:bE (k+1) A)(C:Addr)(us:List Value)(kw:List (Str × Value)):bE k (A.under (.builtin "type.__call__" ⟨.ref C::us,kw⟩)) :=
 ⟨r.hd,by have:=r.dp;rw[VA];omega,by have:=r.un;rw[VB];omega⟩
theorem bE.depth{k:Nat}{A:Around}(r:bE k A):A.depth<recursionLimit:=by have:=r.dp;omega
theorem bE.units{k:Nat}{A:Around}(r:bE k A):A.units+64<cLine:=by have:=r.un;omega
noncomputable def VC:TA:=λ_ H Q=>Q [] H
noncomputable def VD(ta:TE)(tr:TA):TA:=λσ H Q=>ta σ H λx H1=>tr σ H1 λxs H2=>Q (x::xs) H2
section
variable{X:Cx}{e:Expr}{es:List Expr}{te:TE}{t:TA}{pos:Pos}
theorem gY:PA X [] VC:=λ_ _ _ _ H Q I h=>Calls.spliced_nil ⟨[],H,I,.nil,h⟩
theorem eE(ha:PE X e te)(hr:PA X es t)(hs:starEach (e::es) X.env=(false,eval e X.env)::starEach es X.env:=by rfl):PA X (e::es) (VD te t):=by
 intro pos pins s σ H Q I h
 rw[hs]
 show wpAny _ _ (spliced ((false,eval e X.env)::backTo pos (starEach es X.env))) _ _ s
 refine Calls.spliced_cons (aB (ha pins s σ H _ I h) λu s1 ⟨x,H1,I1,r1,q1⟩=>?_)
 exact aB (hr pos pins s1 σ H1 _ I1 q1) λus s2 ⟨xs,H2,I2,r2,q2⟩=>⟨x::xs,H2,I2,.cons r1 r2,q2⟩
noncomputable def VE(t:TA):TE:=λσ H Q=>t σ H λxs H1=>xs.length<=sizeLine/\∀p,H1 p=none->Q (.ref p) (upd H1 p (.tup xs))
noncomputable def VF(t:TA):TE:=λσ H Q=>t σ H λxs H1=>xs.length<=sizeLine/\∀p,H1 p=none->Q (.ref p) (upd H1 p (.lst xs))
theorem VG{x1}(h:PA X es t):PE X (.Tuple es x1 pos) (VE t):=by
 intro pins s σ H Q I hq
 refine wpAny_Tuple_spliced (aB (h pos pins s σ H _ I hq) λus s1 ⟨xs,H1,I1,r,z,q⟩=>⟨by rw[<-r.length];exact z,?_⟩)
 have hf:H1 s1.heap.objs.size=none:=I1.ay.fresh (aX _)
 refine⟨.ref s1.heap.objs.size,upd H1 s1.heap.objs.size (.tup xs),I1.laid (t':=s1.toks) (λb u e=>cN _ e) (aX _) ?_,rfl,q _ hf⟩
 exact⟨z,us,r,⟨_,dA _ rfl,rfl,_,rfl⟩⟩
theorem VH(h:PA X es t):PE X (.List es pos) (VF t):=by
 intro pins s σ H Q I hq
 refine wpAny_List_spliced (aB (h pos pins s σ H _ I hq) λus s1 ⟨xs,H1,I1,r,z,q⟩=>⟨by rw[<-r.length];exact z,?_⟩)
 have hf:H1 s1.heap.objs.size=none:=I1.ay.fresh (aX _)
 refine⟨.ref s1.heap.objs.size,upd H1 s1.heap.objs.size (.lst xs),I1.laid (t':=s1.toks) (λb u e=>cN _ e) (aX _) ?_,rfl,q _ hf⟩
 exact⟨z,us,0,r,dA _ rfl⟩
end
noncomputable abbrev Sp:=List V->Hp->VK->XK->Prop
noncomputable abbrev dH:=List Env->Hp->Shared->XK->Value->Shared->Prop
structure fe(P:Program)(w:World)(K:PySem.W.Frag)(mg:Str->Option Value)(base:Heap)(A:Around)(outer:List Env)(s:Shared)(H:Hp):Prop where
 frames:A.frames=some outer
 mod:Mod K mg base
 bs:∀b o,base.get? b=some o->s.heap.get? b=some o/\H b=none
 gy:base.objs.size<=s.heap.objs.size
 eS:s.heap.FunFrames base outer
 gW:∀b∈cP outer,H b=none
 ay:bZ P w H s.heap
 bare:AllBare s.gens
noncomputable def CE(outer:List Env)(P:Program)(w:World)(H:Hp)(s:Shared)(Q:VK)(u:Value)(s':Shared):Prop :=
 ∃v H',s'.os=s.os/\AllBare s'.gens/\Un (cP outer) [] H H' s.heap s'.heap/\bZ P w H' s'.heap/\RelV v u/\Q v H'
noncomputable def CR(CX:dH)(outer:List Env)(P:Program)(w:World)(H:Hp)(s:Shared)(Q:VK)(E:XK)(r:Result)(s':Shared):Prop :=
 match r with
 | .ok (.ret u)=>CE outer P w H s Q u s'
 | .ok _=>False
 | .error e=>CX outer H s E e s'
structure aO(P:Program)(w:World)(K:PySem.W.Frag)(mg:Str->Option Value)(base:Heap)(CX:dH)(k:Nat)(f:Addr)(fd:FuncData)(ps:List Str)(sp:Sp):Prop where
 len:∀vs H Q E,sp vs H Q E->vs.length=ps.length
 run:∀(A:Around) (outer:List Env) (s:Shared) (H:Hp) (args:Args) (us:List Value) (vs:List V) (Q:VK) (E:XK),bE k A->fe P w K mg base A outer s H->BindsTo s fd args (ps.zip us)->Vals vs us->sp vs H Q E ->
  codeAny (model P w) A (.call (.ref f) args) (CR CX outer P w H s Q E) s
theorem aO.mono{P:Program}{w:World}{K:PySem.W.Frag}{mg:Str->Option Value}{base:Heap}{CX:dH}{j k:Nat}{f:Addr}{fd:FuncData}{ps:List Str}{sp:Sp}(F:aO P w K mg base CX j f fd ps sp)(h:j<=k) :
  aO P w K mg base CX k f fd ps sp:=⟨F.len,λA outer s H args us vs Q E hr=>F.run A outer s H args us vs Q E (hr.mono h)⟩
theorem aO.imp{P:Program}{w:World}{K:PySem.W.Frag}{mg:Str->Option Value}{base:Heap}{CX:dH}{k:Nat}{f:Addr}{fd:FuncData}{ps:List Str}{sp LX:Sp}(F:aO P w K mg base CX k f fd ps sp)
  (h:∀vs H Q E,LX vs H Q E->sp vs H Q E):aO P w K mg base CX k f fd ps LX :=
 ⟨λvs H Q E q=>F.len vs H Q E (h _ _ _ _ q),λA outer s H args us vs Q E hr he hb hv hs=>F.run A outer s H args us vs Q E hr he hb hv (h _ _ _ _ hs)⟩
theorem fe.make{P:Program}{w:World}{K:PySem.W.Frag}{mg:Str->Option Value}{base:Heap}{A:Around}{outer:List Env}{s:Shared}{H:Hp}(e:fe P w K mg base A outer s H)(C:Addr)(us:List Value)(kw:List (Str × Value)) :
  fe P w K mg base (A.under (.builtin "type.__call__" ⟨.ref C::us,kw⟩)) outer s H:=⟨by first | exact e.frames | (simpa[Around.under,Code.envs,Code.isFrame,pushEnvs]using e.frames),e.mod,e.bs,e.gy,e.eS,e.gW,e.ay,e.bare⟩
theorem fe.in1{P:Program}{w:World}{K:PySem.W.Frag}{mg:Str->Option Value}{base:Heap}{A:Around}{outer:List Env}{s:Shared}{H:Hp}(e:fe P w K mg base A outer s H) :
  fe P w K mg base A.in1 outer s H:=⟨e.frames,e.mod,e.bs,e.gy,e.eS,e.gW,e.ay,e.bare⟩
section
variable{X:Cx}{pins:List (Addr × Obj)}{σ:St}{H:Hp}{s s':Shared}
theorem Inv.rL(I:Inv X pins σ H s):fe X.prog X.w X.K X.mg X.base X.A X.stack s H :=
 ⟨I.ok.frames,I.ok.mod,I.bs,dY I.ok.gy I.sz,I.stack,I.yN,I.ay,I.bare⟩
theorem Inv.after{Q:VK}{u:Value}(I:Inv X pins σ H s)(h:CE X.stack X.prog X.w H s Q u s'):EP X pins σ Q u s':=by
 obtain⟨v,H',os,bare,un,ay,r,q⟩:=h
 obtain⟨hh,g,d,t,VI⟩:=s'
 obtain rfl:VI=s.os:=os
 exact⟨v,H',I.call (h':=hh) (g':=g) (d':=d) (t':=t) (ch:=[]) un ay bare (λb z=>absurd z (by simp)),r,q⟩
end
noncomputable def VJ(sp:Sp)(dZ:List V)(E:XK)(t:TA):TE:=λσ H Q=>t σ H λvs H1=>sp (vs++dZ) H1 Q E
noncomputable def VL(C:Addr)(m:Str)(sp:Sp)(dZ:List V)(E:XK)(ta:TE)(t:TA):TE:=λσ H Q=>ta σ H λx H1=>∃a dx fs,x=.ref a/\H1 a=some (.ins C dx fs)/\fs.lookup m=none /\
 t σ H1 λvs H2=>sp (x::(vs++dZ)) H2 Q E
noncomputable def VM(C:Addr)(sp:Sp)(dZ:List V)(E:XK)(t:TA):TE:=λσ H Q=>t σ H λvs H1=>∀x dx,H1 x=none->H1 dx=none->dx≠x ->
 sp (.ref x::(vs++dZ)) (upd (upd H1 dx (.own x)) x (.ins C dx [])) (λv H2=>v=.aq/\Q (.ref x) H2) E
noncomputable def Binds(K:PySem.W.Frag)(fd:FuncData)(ps:List Str)(ds:List Value):Prop :=
 ∀(s:Shared) (us:List Value),K.In s.heap->(us++ds).length=ps.length->BindsTo s fd ⟨us,[]⟩ (ps.zip (us++ds))
theorem Binds.all{K:PySem.W.Frag}{fd:FuncData}{ps:List Str}(h:∀us:List Value,us.length=ps.length->bindArgs fd ⟨us,[]⟩=pure (ps.zip us)):Binds K fd ps []:=λs us _ hl=>by
 rw[iF]at hl ⊢
 exact .of_eq (h us hl)
noncomputable def jr(CX:dH)(X:Cx)(E:XK):Prop:=∀(pins:List (Addr × Obj)) (σ:St) (H:Hp) (s:Shared) (e:Value) (s':Shared),Inv X pins σ H s->CX X.stack H s E e s'->X.xe e s'
section
variable{X:Cx}{CX:dH}{k:Nat}{f C:Addr}{fd:FuncData}{ps:List Str}{sp:Sp}{dZ:List V}{ds:List Value}{E:XK}{x m:Str}{p pos apos:Pos}{e o:Expr}{es:List Expr}{ta:TE}{t:TA}
theorem zd{pins:List (Addr × Obj)}{σ:St}{H:Hp}{s:Shared}{Q:VK}{us:List Value}{vs:List V}(F:aO X.prog X.w X.K X.mg X.base CX k f fd ps sp)(hr:bE k X.A)(hb:Binds X.K fd ps ds)(hd:Vals dZ ds)(hx:jr CX X E)
  (I:Inv X pins σ H s) (r:Vals vs us) (h:sp (vs++dZ) H Q E):wpAny (model X.prog X.w) X.A (call (.ref f) us) (EP X pins σ Q) X.xe s:=by
 have r2:Vals (vs++dZ) (us++ds):=r.append hd
 have hl:(us++ds).length=ps.length:=by rw[<-r2.length];exact F.len _ _ _ _ h
 refine wpAny_call (codeAny_mono (F.run X.A X.stack s H ⟨us,[]⟩ (us++ds) (vs++dZ) Q E hr I.rL (hb s us I.cE hl) r2 h) λr s' hq=>?_)
 cases r with
 | error e=>exact hx pins σ H s e s' I hq
 | ok fl =>
  cases fl with
  | ret u=>exact I.after hq
  | next=>exact dy hq
  | brk=>exact dy hq
  | cont=>exact dy hq
theorem ow(F:aO X.prog X.w X.K X.mg X.base CX k f fd ps sp)(hr:bE k X.A)(hg:Gl X x)(hm:X.mg x=some (.ref f))(hk:PySem.W.keepIn X.K (.ref f)=true)(hb:Binds X.K fd ps ds)(hd:Vals dZ ds)(hx:jr CX X E)
  (ha:PA X (e::es) t) (dJ:(x==("__debug__":Str))=false:=by decide) (he:starEach (e::es) X.env=(false,eval e X.env)::starEach es X.env:=by rfl) (bu:(backTo pos (starEach es X.env)).any (·.1)=false:=by rfl) :
  PE X (.Call (.Name x p) (e::es) [] pos) (VJ sp dZ E t):=by
 intro pins s σ H Q I h
 refine wpAny_Call_Name_kw (yP I hg hm ?_ dJ)
 refine PySem.W.callWith_K (h₀:=X.base) I.ok.mod.jn hk (aB (ha pos pins s σ H _ I h) λus s1 ⟨vs,H1,I1,r,q⟩=>⟨I1.cE,?_⟩) he bu
 exact zd F hr hb hd hx I1 r q
theorem VN{pl:Sem Bool}(he:PE X o ta)(c:dk X.K C)(hm:Meth X.K C m f)(F:aO X.prog X.w X.K X.mg X.base CX k f fd ps sp)(hr:bE k X.A)(hb:Binds X.K fd ps ds)(hd:Vals dZ ds)(hx:jr CX X E)(ha:PA X (e::es) t)
  (cn:starEach (e::es) X.env=(false,eval e X.env)::starEach es X.env:=by rfl) (bu:(backTo pos (starEach es X.env)).any (·.1)=false:=by rfl)
  (ht:eval (.Call (.Attribute o m apos) (e::es) [] pos) X.env=(do
   let ov<-eval o X.env
   standAt apos.atName
   let (f,first)<-holding [ov] (getMethod ov m pl)
   callWith pos f first (backTo pos (starEach (e::es) X.env)) (backToKw pos (keywordEach [] X.env))):=by rfl) :
  PE X (.Call (.Attribute o m apos) (e::es) [] pos) (VL C m sp dZ E ta t):=by
 intro pins s σ H Q I h
 refine PySem.W.methodCall_KW (pl:=pl) (aB (he pins s σ H _ I h) λu s1 ⟨x,H1,I1,rx,a,dx,fs,ex,ea,l,q⟩=>?_) ht
 subst ex
 obtain rfl:u=dr a:=rx
 refine y9 I1 ea c hm l ?_
 refine PySem.W.callWith_K (first:=[.ref a]) (h₀:=X.base) I.ok.mod.jn hm.kp (aB (ha pos pins s1 σ H1 _ I1 q) λus s2 ⟨vs,H2,I2,r,q2⟩=>⟨I2.cE,?_⟩) cn bu
 exact zd (us:=.ref a::us) (vs:=.ref a::vs) F hr hb hd hx I2 (.cons rfl r) q2
structure Mk(K:PySem.W.Frag)(C f:Addr):Prop where
 makes:PySem.W.makesIn K C=true
 init:PySem.W.findIn K (.ref C) "__init__"=some (some (.ref f))
 fn:PySem.W.isFn K (.ref f)=true
 kp:PySem.W.keepIn K (.ref C)=true
theorem VO{pins:List (Addr × Obj)}{σ:St}{H:Hp}{s:Shared}{Q:VK}{us:List Value}{vs:List V}(M:Mk X.K C f)(F:aO X.prog X.w X.K X.mg X.base CX k f fd ps sp)(hr:bE (k+1) X.A)(hb:Binds X.K fd ps ds)(hd:Vals dZ ds)
  (hx:jr CX X E) (I:Inv X pins σ H s) (r:Vals vs us)
  (h:∀x dx,H x=none->H dx=none->dx≠x->sp (.ref x::(vs++dZ)) (upd (upd H dx (.own x)) x (.ins C dx [])) (λv H2=>v=.aq/\Q (.ref x) H2) E) :
  wpAny (model X.prog X.w) X.A (call (.ref C) us) (EP X pins σ Q) X.xe s:=by
 have hq:=h (s.heap.objs.size+1) s.heap.objs.size (I.ay.fresh (Nat.le_succ _)) (I.ay.fresh (aX _)) (eu (B7 _))
 have I2:=Inv.made (C:=C) I
 have r2:Vals (V.ref (s.heap.objs.size+1)::(vs++dZ)) (dr (s.heap.objs.size+1)::(us++ds)):=.cons rfl (r.append hd)
 have hl:(dr (s.heap.objs.size+1)::us++ds).length=ps.length:=by
  have e:=r2.length
  rw[F.len _ _ _ _ hq]at e
  exact e.symm
 refine wpAny_call (Vr (f:=f) I.cE M.makes M.init (beq_iff_eq.mp M.fn) (codeAny_mono (F.run _ X.stack _ _ ⟨dr (s.heap.objs.size+1)::us,[]⟩ (dr (s.heap.objs.size+1)::(us++ds)) _ _ E (hr.make C us [])
  (I2.rL.make C us []) (hb _ (dr (s.heap.objs.size+1)::us) I2.cE hl) r2 hq) λr s' j5=>?_))
 cases r with
 | error e=>exact hx pins σ _ _ e s' I2 j5
 | ok fl =>
  cases fl with
  | ret u =>
   obtain⟨v,H',I3,rv,ev,q3⟩:=I2.after j5
   subst ev
   exact⟨rv,⟨V.ref (s.heap.objs.size+1),H',I3,rfl,q3⟩⟩
  | next=>exact dy j5
  | brk=>exact dy j5
  | cont=>exact dy j5
theorem VP(M:Mk X.K C f)(F:aO X.prog X.w X.K X.mg X.base CX k f fd ps sp)(hr:bE (k+1) X.A)(hg:Gl X x)(hm:X.mg x=some (.ref C))(hb:Binds X.K fd ps ds)(hd:Vals dZ ds)(hx:jr CX X E)
  (ha:PA X (e::es) t) (dJ:(x==("__debug__":Str))=false:=by decide) (he:starEach (e::es) X.env=(false,eval e X.env)::starEach es X.env:=by rfl) (bu:(backTo pos (starEach es X.env)).any (·.1)=false:=by rfl) :
  PE X (.Call (.Name x p) (e::es) [] pos) (VM C sp dZ E t):=by
 intro pins s σ H Q I h
 refine wpAny_Call_Name_kw (yP I hg hm ?_ dJ)
 refine PySem.W.callWith_K (h₀:=X.base) I.ok.mod.jn M.kp (aB (ha pos pins s σ H _ I h) λus s1 ⟨vs,H1,I1,r,q⟩=>⟨I1.cE,?_⟩) he bu
 exact VO M F hr hb hd hx I1 r q
end
section
variable{X:Cx}{CX:dH}{k:Nat}{f C:Addr}{fd:FuncData}{ps ks:List Str}{sp:Sp}{E:XK}{x m:Str}{p pos apos dF5:Pos}{e o:Expr}{es:List Expr}{kws:List Keyword}{te ta:TE}{t tk:TA}{nm:Option Str}
variable{g:List Value->List Value->List Value}{gV:List V->List V->List V}
end
structure bj(N P:List Str)(sc:Scope):Prop where
 kind:sc.kind=.function
 co:sc.isCoroutine=false
 gen:sc.isGenerator=false
 nd:N.Nodup
 pre:N.take P.length=P
 par:∀x∈P,sc.names.lookup x=some .local\/sc.names.lookup x=some .cell
 VQ:∀y∈sc.names,y.2≠.free
theorem LY{kindOf:Str->Option NameKind}{x:Str}:∀{binds:List (Str × Value)} {m:Str->Option Value},(∀v,(x,v) ∉ binds)->bindL kindOf binds m x=m x
 | [],_,_=>rfl
 | (n,v)::r,m,h=>by
  unfold bindL
  rw[LY λw hw=>h w (jT _ hw)]
  split
  ·have:x≠n:=by rintro rfl;exact h v K4
   simp[this]
  ·rfl
theorem LZ{kindOf:Str->Option NameKind}{x:Str}:∀{binds:List (Str × Value)} {m:Str->Option Value},(∀v,(x,v) ∉ binds)->bindC kindOf binds m x=m x
 | [],_,_=>rfl
 | (n,v)::r,m,h=>by
  unfold bindC
  rw[LZ λw hw=>h w (jT _ hw)]
  split
  ·rfl
  ·have:x≠n:=by rintro rfl;exact h v K4
   simp[this]
theorem L0{kindOf:Str->Option NameKind}{x:Str}{v:Value}:∀{P:List Str} {vs:List Value} {i:Nat} {m:Str->Option Value},P.Nodup->P[i]?=some x->vs[i]?=some v->kindOf x=some .local ->
  bindL kindOf (P.zip vs) m x=some v
 | [],_,_,_,_,h,_,_=>by simp at h
 | _::_,[],_,_,_,_,h,_=>by simp at h
 | p::P,w::vs,0,m,nd,h1,h2,hk=>by
  simp at h1 h2;subst h1;subst h2
  show bindL kindOf ((p,w)::P.zip vs) m p=_
  unfold bindL
  rw[LY λv hv=>(jf.mp nd).1 (yv hv).1,if_pos hk]
  simp
 | p::P,w::vs,i+1,m,nd,h1,h2,hk=>by
  show bindL kindOf ((p,w)::P.zip vs) m x=_
  unfold bindL
  exact L0 (i:=i) (jf.mp nd).2 (by simpa using h1) (by simpa using h2) hk
theorem L4{kindOf:Str->Option NameKind}{x:Str}{v:Value}:∀{P:List Str} {vs:List Value} {i:Nat} {m:Str->Option Value},P.Nodup->P[i]?=some x->vs[i]?=some v->kindOf x≠some .local ->
  bindC kindOf (P.zip vs) m x=some v
 | [],_,_,_,_,h,_,_=>by simp at h
 | _::_,[],_,_,_,_,h,_=>by simp at h
 | p::P,w::vs,0,m,nd,h1,h2,hk=>by
  simp at h1 h2;subst h1;subst h2
  show bindC kindOf ((p,w)::P.zip vs) m p=_
  unfold bindC
  rw[LZ λv hv=>(jf.mp nd).1 (yv hv).1,if_neg hk]
  simp
 | p::P,w::vs,i+1,m,nd,h1,h2,hk=>by
  show bindC kindOf ((p,w)::P.zip vs) m x=_
  unfold bindC
  exact L4 (i:=i) (jf.mp nd).2 (by simpa using h1) (by simpa using h2) hk
noncomputable def start(N:List Str)(vs:List V):St:=vs.map some++aN (N.length-vs.length) none
noncomputable def gF(CX:dH)(P:Program)(w:World)(K:PySem.W.Frag)(mg:Str->Option Value)(base:Heap)(N:List Str)(qual:Str)(scope:Scope)(f:Addr)(cd:Value)(A:Around)(outer:List Env)(s:Shared)(H:Hp)(E:XK):Cx where
 prog:=P
 w:=w
 K:=K
 mg:=mg
 base:=base
 A:=A.deeper (envOfC qual scope s.heap.objs.size f cd)
 N:=N
 bR:=s
 iK:=H
 env:=envOfC qual scope s.heap.objs.size f cd
 outer:=outer
 stack:=envOfC qual scope s.heap.objs.size f cd::outer
 ex:=[]
 calm:=true
 fn:=λ_=>true
 pn:=[]
 xe:=λe s'=>wpAny (model P w) (A.deeper (envOfC qual scope s.heap.objs.size f cd)) (leaving (envOfC qual scope s.heap.objs.size f cd) e) (λ_ oy=>CX outer H s E e oy) (λe' oy=>CX outer H s E e' oy) s'
theorem L5{sc:Scope}{n:Nat}{x:Str}(h:sc.names.lookup x=some .cell):∃c,(cellsFrom n sc.names []).lookup x=some c:=by
 have q:=PySem.W.cellsFrom_some sc.names n [] (.inl h)
 exact S4.mp q
theorem VR{CX:dH}{P:Program}{w:World}{K:PySem.W.Frag}{mg:Str->Option Value}{base:Heap}{N ps:List Str}{qual:Str}{scope:Scope}{f:Addr}{cd:Value}{A:Around}{outer:List Env}{s s1:Shared}{H:Hp}{E:XK}{us:List Value}{vs:List V}
  (S:bj N ps scope) (hd:A.handled=none) (e0:fe P w K mg base A outer s H) (hl:vs.length=ps.length) (r:Vals vs us)
  (x:InCallC s s.heap.objs.size (bindL (envOfC qual scope s.heap.objs.size f cd).kindOf (ps.zip us) λ_=>none) (cellsFrom (s.heap.objs.size+1) scope.names []) (bindC (envOfC qual scope s.heap.objs.size f cd).kindOf (ps.zip us) λ_=>none) s1) :
  Inv (gF CX P w K mg base N qual scope f cd A outer s H E) [] (start N vs) H s1:=by
 have bu:ps.length<=N.length:=by have:=congrArg B8 S.pre;rw[gu]at this;omega
 obtain⟨h1,tk,rfl,hk⟩:=x.done
 have we:∀b:Addr,b ∉ (gF CX P w K mg base N qual scope f cd A outer s H E).ex:=λb z=>absurd (show b∈([]:List Addr) from z) (by simp)
 refine⟨⟨e0.mod,S.kind,rfl,rfl,aX _,λy z c h1 h2=>?_,λy hy=>?_,λy c _ h=>?_,λ_=>hd,Around.frames_deeper e0.frames,.inr ⟨rfl,rfl⟩,λb z=>absurd z (we b),e0.bs,e0.gy,λb _ _=>we b,λb z=>absurd z (we b),e0.eS,e0.gW⟩,
  rfl,e0.bare,Un.kept hk,⟨_,x.toInCall.ns,λi y v h1 h2 h3=>?_⟩,λy c h=>⟨_,x.cell y c h⟩,e0.ay.fresh (aX _),λy c h=>?_,λp hp=>absurd (show p∈([]:List (Addr × Obj)) from hp) (by simp),e0.ay.kept hk,?_⟩
 ·exact name_of_addr x.apart (PySem.mem_of_lookup h1) (PySem.mem_of_lookup h2)
 ·have hy:scope.names.lookup y=some .cell\/scope.names.lookup y=some .free:=hy
  rcases hy with hy | hy
  ·exact L5 hy
  ·exact absurd rfl (S.VQ _ (PySem.mem_of_lookup hy))
 ·exact B3 (x.above y c (PySem.mem_of_lookup h))
 ·have hi:i<vs.length:=by
   unfold start at h2
   by_cases hi:i<vs.length
   ·exact hi
   ·rw[nE (by simpa using hi)]at h2
    rw[vw]at h2
    split at h2<;>cases h2
  have ha:vs[i]?=some v:=by
   unfold start at h2
   rw[vx (by simpa using hi),eZ]at h2
   cases e:vs[i]? with
   | none=>rw[e]at h2;cases h2
   | some a=>rw[e]at h2;cases h2;rfl
  obtain⟨u,hu,rv⟩:=r.get ha
  have hp:ps[i]?=some y:=by
   rw[<-S.pre,List.getElem?_take_of_lt (by omega)];exact h1
  have L6:ps.Nodup:=by rw[<-S.pre];exact S.nd.sublist (List.take_sublist _ _)
  refine⟨u,rv,?_⟩
  rcases S.par y (vy hp)with k | k
  ·exact .inl ⟨k,L0 L6 hp hu k⟩
  ·obtain⟨c,e⟩:=L5 (n:=s.heap.objs.size+1) k
   refine .inr ⟨.inl k,c,e,?_⟩
   have q:=x.cell y c e
   rw[L4 L6 hp hu (by show scope.names.lookup y≠_;rw[k];decide)]at q
   exact q
 ·exact e0.ay.fresh (B3 (x.above y c (PySem.mem_of_lookup h)))
 ·unfold start
  show _=N.length
  rw[jg,dS,fP]
  omega
theorem Df{CX:dH}{P:Program}{w:World}{K:PySem.W.Frag}{mg:Str->Option Value}{base:Heap}{k:Nat}{f:Addr}{name qual:Str}{params:Arguments}{body:List Stmt}{scope:Scope}{dV kV doc pm aF ct oc:Value}{an od:Option Addr}
  {js:Array (Option Value)} {N ps:List Str} {sp:Sp} (lk:K.lookup f=some ⟨oc,od,.func (PySem.W.fnOf name qual params body scope dV kV doc pm an aF ct),js⟩) (bX:PySem.W.codeIn K aF qual=true) (S:bj N ps scope)
  (len:∀vs H Q E,sp vs H Q E->vs.length=ps.length)
  (fS:∀(A:Around) (outer:List Env) (s:Shared) (H:Hp) (vs:List V) (Q:VK) (E:XK),bE k (A.deeper (envOfC qual scope s.heap.objs.size f aF))->sp vs H Q E ->
   ∃t,PSs (gF CX P w K mg base N qual scope f aF A outer s H E) body t/\t { nx:=λ_ H'=>Q .aq H',rt:=Q } (start N vs) H) :
  aO P w K mg base CX (k+1) f (PySem.W.fnOf name qual params body scope dV kV doc pm an aF ct) ps sp:=by
 refine⟨len,λA outer s H args us vs Q E hr e0 hb r fv=>?_⟩
 have hl:=len _ _ _ _ fv
 have KX:K.In s.heap:=e0.mod.jn.keeps λb o e=>(e0.bs b o e).1
 have lim:s.heap.NoLimit:=e0.mod.nolimit.keeps λb o e=>(e0.bs b o e).1
 have fU:∀y∈ps.zip us,scope.names.lookup y.1=some .local\/(scope.names.lookup y.1=some .cell/\((cellsFrom (s.heap.objs.size+1) scope.names []).lookup y.1).isSome=true):=λ⟨n,v⟩ hy=>by
  rcases S.par n (yv hy).1 with q | q
  ·exact .inl q
  ·exact .inr ⟨q,PySem.W.cellsFrom_some _ _ _ (.inl q)⟩
 refine codeAny_call_function hr.depth (KX _ _ lk) rfl S.co S.gen rfl (PySem.W.codeRec_of KX bX) (hb _ _ _ _ ?_)
 refine wpAny_newFunctionEnv_cells S.kind fU λenv he s1 x=>?_
 subst he
 refine⟨lim.keeps x.toInCall.keep,codeAny_func ?_⟩
 obtain⟨t,ht,hq⟩:=fS A outer s H vs Q E (hr.deeper _) fv
 have I:Inv (gF CX P w K mg base N qual scope f aF A outer s H E) [] (start N vs) H s1:=VR S hr.hd e0 hl r x
 refine wpAny_mono (ht [] s1 (start N vs) H _ I hq) (λfl s' hs=>?_) λe s' hs=>hs
 have fin:∀{aw:St} {H':Hp} {v:V} {u:Value},Inv (gF CX P w K mg base N qual scope f aF A outer s H E) [] aw H' s'->RelV v u->Q v H'->CE outer P w H s Q u s' :=
  λ{aw H' v u} J rv q=>⟨v,H',J.os,J.bare,J.base,J.ay,rv,q⟩
 cases fl with
 | ret u =>
  obtain⟨v,aw,H',J,rv,q⟩:=hs
  exact fin J rv q
 | next =>
  obtain⟨aw,H',J,q⟩:=hs
  exact fin (v:=V.aq) (u:=je) J rfl q
 | brk =>
  obtain⟨_,_,_,q⟩:=hs
  exact dy q
 | cont =>
  obtain⟨_,_,_,q⟩:=hs
  exact dy q
end L2
namespace L2
open PySem PySem.Spec PyProof.Rows
section
variable{X:Cx}{x:Str}{p pos:Pos}{e:Expr}{es:List Expr}{t:TA}{id T:String}{r:List V->Hp->VK->Prop}
noncomputable def Dg(r:List V->Hp->VK->Prop)(t:TA):TE:=λσ H Q=>t σ H λvs H1=>r vs H1 Q
theorem L7(hc:fc X (.builtin id) r)(hg:Gl X x)(hm:X.mg x=none)(hv:bootBuiltins x=some (.builtin id))(ha:PA X (e::es) t)(hn:x≠"__name__":=by decide)(dJ:(x==("__debug__":Str))=false:=by decide)
  (he:starEach (e::es) X.env=(false,eval e X.env)::starEach es X.env:=by rfl) (bu:(backTo pos (starEach es X.env)).any (·.1)=false:=by rfl):PE X (.Call (.Name x p) (e::es) [] pos) (Dg r t):=by
 intro pins s σ H Q I h
 refine wpAny_Call_Name_kw (j4 I hg hm hv ?_ hn dJ)
 exact PyProof.Rows.callWith_builtin1 (aB (ha pos pins s σ H _ I h) λus s1 ⟨vs,H1,I1,r1,q1⟩=>hc pins s1 σ H1 vs us Q I1 r1 q1) he bu
theorem L8(hc:fc X (.type T) r)(hg:Gl X x)(hm:X.mg x=none)(hv:bootBuiltins x=some (.type T))(ha:PA X (e::es) t)(hn:x≠"__name__":=by decide)(dJ:(x==("__debug__":Str))=false:=by decide)
  (he:starEach (e::es) X.env=(false,eval e X.env)::starEach es X.env:=by rfl) (bu:(backTo pos (starEach es X.env)).any (·.1)=false:=by rfl):PE X (.Call (.Name x p) (e::es) [] pos) (Dg r t):=by
 intro pins s σ H Q I h
 refine wpAny_Call_Name_kw (j4 I hg hm hv ?_ hn dJ)
 exact rj (aB (ha pos pins s σ H _ I h) λus s1 ⟨vs,H1,I1,r1,q1⟩=>hc pins s1 σ H1 vs us Q I1 r1 q1) he bu
end
end L2
namespace HT
open PySem PyProof.Rows
section
open PySem.SeqAt
open PySem.AutoSeq1 (wpAny_loadPart')
open PySem.MeetsSeq PySem.MeetsSeq2 PySem.MeetsSeq3
end
section
variable{prog:Program}{w:World}{A:Around}{E:Value->Shared->Prop}{s:Shared}
noncomputable def ck(n d:Nat):Option Int->Nat
 | none=>d
 | some v=>if v<0 then(v+(n:Int)).toNat else min v.toNat n
theorem Dh(n d k:Nat):ck n d (some (k:Int))=min k n:=by
 show(if(k:Int)<0 then((k:Int)+(n:Int)).toNat else min (k:Int).toNat n)=min k n
 rw[if_neg (by omega),jW]
end
end HT
namespace L2
open PySem PySem.Spec PyProof.Rows
noncomputable abbrev TO:=St->Hp->(Option Int->Hp->Prop)->Prop
noncomputable def PO(X:Cx)(e:Option Expr)(t:TO):Prop :=
 ∀(pins:List (Addr × Obj)) (s:Shared) (σ:St) (H:Hp) (Q:Option Int->Hp->Prop),Inv X pins σ H s->t σ H Q ->
  wpAny (model X.prog X.w) X.A (evalPart e X.env) (λu s'=>∃o H',Inv X pins σ H' s'/\IsPart u o/\Q o H') X.xe s
noncomputable def VS:TO:=λ_ H Q=>Q none H
noncomputable def VT(t:TE):TO:=λσ H Q=>t σ H λx H1=>∃i,x=.int i/\Q (some i) H1
section
variable{X:Cx}{e:Expr}{te:TE}{lo hi:Option Expr}{tl th:TO}{pos p2:Pos}
theorem VU:PO X none VS:=by
 intro pins s σ H Q I h
 rw[evalPart_none]
 exact wpAny_pure ⟨none,H,I,.none,h⟩
theorem VV(h:PE X e te):PO X (some e) (VT te):=by
 intro pins s σ H Q I hw
 rw[evalPart_some]
 refine aB (h pins s σ H _ I hw) λu s1 ⟨x,H1,I1,r1,q1⟩=>?_
 obtain⟨i,rfl,q⟩:=q1
 obtain⟨t,rfl⟩:=r1
 exact⟨some i,H1,I1,.int i t,q⟩
noncomputable def oA(X:Cx)(r:V->Option Int->Option Int->Hp->VK->Prop):Prop :=
 ∀(pins:List (Addr × Obj)) (s:Shared) (σ:St) (H:Hp) (x:V) (v vl vu:Value) (lo hi:Option Int) (sl:Addr) (Q:VK),Inv X pins σ H s->RelV x v->s.heap.IsSliceOf sl vl vu .none->IsPart vl lo->IsPart vu hi->r x lo hi H Q ->
  ∃T id,typeLookup (.type T) "__getitem__"=pure (some (.builtin id))/\s.TypeIs v T/\wpAny (model X.prog X.w) X.A (getItem v (.ref sl)) (EP X pins σ Q) X.xe s
theorem oA.or{r r':V->Option Int->Option Int->Hp->VK->Prop}(h:oA X r)(h':oA X r'):oA X (λx lo hi H Q=>r x lo hi H Q\/r' x lo hi H Q):=by
 intro pins s σ H x v vl vu lo hi sl Q I rx hs pl pu q
 rcases q with q | q
 ·exact h pins s σ H x v vl vu lo hi sl Q I rx hs pl pu q
 ·exact h' pins s σ H x v vl vu lo hi sl Q I rx hs pl pu q
noncomputable def VW(r:V->Option Int->Option Int->Hp->VK->Prop)(te:TE)(tl th:TO):TE:=λσ H Q=>te σ H λx H1=>tl σ H1 λl H2=>th σ H2 λu H3=>r x l u H3 Q
theorem VX{r:V->Option Int->Option Int->Hp->VK->Prop}(hr:oA X r)(he:PE X e te)(hl:PO X lo tl)(hu:PO X hi th):PE X (.Subscript e (.Slice lo hi none p2) pos) (VW r te tl th):=by
 intro pins s σ H Q I h
 refine Subscript_ (aB (he pins s σ H _ I h) λv s1 ⟨x,H1,I1,r1,q1⟩=>?_)
 refine wpAny_Slice (aB (hl pins s1 σ H1 _ I1 q1) λvl s2 ⟨l,H2,I2,pl,q2⟩=>aB (hu pins s2 σ H2 _ I2 q2) λvu s3 ⟨u,H3,I3,pu,q3⟩=>?_)
 rw[evalPart_none]
 refine wpAny_pure ?_
 have I4:Inv X pins σ H3 { s3 with heap:=s3.heap.push { cls:=.type "slice",data:=.fields #[vl,vu,.none] } }:=I3.kept (t':=s3.toks) λb ob q=>cN _ q
 obtain⟨T,id,hT,ht,hg⟩:=hr pins { s3 with heap:=s3.heap.push { cls:=.type "slice",data:=.fields #[vl,vu,.none] } } σ H3 x v vl vu l u s3.heap.objs.size Q I4 r1 (Heap.IsSliceOf.new ..) pl pu q3
 show wpAny (model X.prog X.w) X.A (subscriptTail e (.Slice lo hi none p2) v (.ref s3.heap.objs.size)) (EP X pins σ Q) X.xe { s3 with heap:=s3.heap.push { cls:=.type "slice",data:=.fields #[vl,vu,.none] } }
 exact tail_any (ops:=[.ref s3.heap.objs.size,v]) ht hT hg (by with_unfolding_all rfl)
noncomputable def rM(xs:List V)(lo hi:Option Int):List V:=(xs.drop (HT.ck xs.length 0 lo)).take (HT.ck xs.length xs.length hi-HT.ck xs.length 0 lo)
theorem VY(xs:List V)(lo hi:Option Int):(rM xs lo hi).length<=xs.length:=by
 unfold rM
 rw[gu,jX]
 omega
end
end L2
namespace L2
open PySem PySem.Spec PyProof.Rows
noncomputable def gZ(n:Nat)(i:Int):Option Nat:=if 0<=i then(if i<n then some i.toNat else none)else if -(n:Int)<=i then some (i+n).toNat else none
noncomputable def dm{α:Type}(xs:List α)(i:Int):Option α:=(gZ xs.length i).bind λj=>xs[j]?
theorem L9{n:Nat}{i:Int}{j:Nat}(h:gZ n i=some j):seqIndex? i n=some j/\j<n/\-(n:Int)<=i/\i<n:=by
 unfold gZ at h
 by_cases h0:0<=i
 ·rw[if_pos h0]at h
  by_cases h1:i<n
  ·rw[if_pos h1]at h
   have e:i.toNat=j:=dw h
   exact⟨by rw[seqIndex_of h0 h1,e],by omega,by omega,h1⟩
  ·rw[if_neg h1]at h;cases h
 ·rw[if_neg h0]at h
  by_cases h1:-(n:Int)<=i
  ·rw[if_pos h1]at h
   have e:(i+n).toNat=j:=dw h
   exact⟨by rw[seqIndex_neg (by omega) h1,e],by omega,h1,by omega⟩
  ·rw[if_neg h1]at h;cases h
theorem lN{α:Type}{xs:List α}{i:Int}{v:α}(h:dm xs i=some v):∃j,seqIndex? i xs.length=some j/\xs[j]?=some v/\j<xs.length/\-(xs.length:Int)<=i/\i<xs.length:=by
 unfold dm at h
 cases e:gZ xs.length i with
 | none=>rw[e]at h;cases h
 | some j =>
  rw[e]at h
  obtain⟨h1,h2,h3,h4⟩:=L9 e
  exact⟨j,h1,h,h2,h3,h4⟩
noncomputable def Di(b:Expr):Prop:=∀o i,subscripted b false o i=operate [o,i] (getItem o i)
noncomputable def j6(X:Cx)(r:R2):Prop :=
 ∀(value slice:Expr) (pins:List (Addr × Obj)) (s:Shared) (σ:St) (H:Hp) (x y:V) (v u:Value) (Q:VK),Inv X pins σ H s->RelV x v->RelV y u->r x y H Q ->
  subscripted slice false v u=operate [v,u] (getItem v u)->wpAny (model X.prog X.w) X.A (subscriptTail value slice v u) (EP X pins σ Q) X.xe s
noncomputable def lQ(X:Cx)(id:String)(r:V->List V->Hp->VK->Prop):Prop :=
 ∀(pins:List (Addr × Obj)) (s:Shared) (σ:St) (H:Hp) (x:V) (xs:List V) (v:Value) (us:List Value) (Q:VK),Inv X pins σ H s->RelV x v->Vals xs us->r x xs H Q ->
  wpAny (model X.prog X.w) X.A (call (.builtin id) (v::us)) (EP X pins σ Q) X.xe s
section
variable{X:Cx}{a b:Expr}{ta tb:TE}{pos:Pos}
theorem j6.or{r r':R2}(h:j6 X r)(h':j6 X r'):j6 X (λx y H Q=>r x y H Q\/r' x y H Q):=by
 intro value slice pins s σ H x y v u Q I rx ry q hs
 rcases q with q | q
 ·exact h value slice pins s σ H x y v u Q I rx ry q hs
 ·exact h' value slice pins s σ H x y v u Q I rx ry q hs
theorem lQ.or{id:String}{r r':V->List V->Hp->VK->Prop}(h:lQ X id r)(h':lQ X id r'):lQ X id (λx xs H Q=>r x xs H Q\/r' x xs H Q):=by
 intro pins s σ H x xs v us Q I rx rs q
 rcases q with q | q
 ·exact h pins s σ H x xs v us Q I rx rs q
 ·exact h' pins s σ H x xs v us Q I rx rs q
theorem Ma{r:R2}(hr:j6 X r)(ha:PE X a ta)(hb:PE X b tb)(hs:Di b):PE X (.Subscript a b pos) (wc r ta tb):=by
 intro pins s σ H Q I h
 exact Subscript_ (C8 ha hb I h λv u s2 x y H2 I2 rx ry q=>hr a b pins s2 σ H2 x y v u Q I2 rx ry q (hs _ _))
noncomputable def Mb(K:PySem.W.Frag):R2:=λx y H Q=>∃p xs i v,x=.ref p/\y=.int i/\bf K H p xs/\dm xs i=some v/\Q v H
noncomputable def Mc(K:PySem.W.Frag):R2:=λx y H Q=>∃p xs i v,x=.ref p/\y=.int i/\cj K H p xs/\dm xs i=some v/\Q v H
noncomputable def Md:R2:=λx y H Q=>∃z i c,x=.str z/\y=.int i/\z.length<=sizeLine/\dm z.cps.toList i=some c/\Q (.str ⟨#[c]⟩) H
theorem VZ:j6 X (Mb X.K):=by
 intro value slice pins s σ H x y v u Q I rx ry h hs
 obtain⟨p,xs,i,z,rfl,rfl,hq,he,q⟩:=h
 cases rx
 obtain⟨t,rfl⟩:=ry
 obtain⟨its,r,pl,hz⟩:=I.list hq
 obtain⟨j,h1,h2,h3,h4,h5⟩:=lN he
 obtain⟨w,ew,aR⟩:=r.get h2
 have hl:=r.length
 have hn:=rK
 have fin:EP X pins σ Q w s:=⟨z,H,I,aR,q⟩
 by_cases h0:0<=i
 ·have hj:i.toNat=j:=by
   rw[seqIndex_of h0 h5]at h1
   exact dw h1
  exact item_listR pl.isList h0 (by omega) (by rw[hj];simpa using ew) fin hs
 ·have hj:(i+(its.toArray.size:Int)).toNat=j:=by
   rw[seqIndex_neg (by omega) h4]at h1
   rw[cS,<- hl]
   exact dw h1
  exact subscriptTail_builtinR (x:=w) pl.isList.typeIs slot_list_getitem.lookup
   (wpAny_getItem_list_neg (Q:=λr s'=>r=w/\EP X pins σ Q r s') pl.isList (by omega) (by rw[cS]<;>omega) (by omega) (by rw[hj];simpa using ew) ⟨rfl,fin⟩) hs
theorem Me:j6 X (Mc X.K):=by
 intro value slice pins s σ H x y v u Q I rx ry h hs
 obtain⟨p,xs,i,z,rfl,rfl,hq,he,q⟩:=h
 cases rx
 obtain⟨t,rfl⟩:=ry
 obtain⟨its,r,pl,hz⟩:=I.tuple hq
 obtain⟨j,h1,h2,h3,h4,h5⟩:=lN he
 obtain⟨w,ew,aR⟩:=r.get h2
 have hl:=r.length
 have hn:=rK
 have fin:EP X pins σ Q w s:=⟨z,H,I,aR,q⟩
 exact subscriptTail_builtinR (x:=w) pl.typeIs slot_tuple_getitem.lookup
  (getItem_tuple (j:=j) (Q:=λr s'=>r=w/\EP X pins σ Q r s') pl (by omega) (by omega) (by rw[cS,<- hl];exact h1) (by simpa using ew) ⟨rfl,fin⟩) hs
theorem V0:j6 X Md:=by
 intro value slice pins s σ H x y v u Q I rx ry h hs
 obtain⟨z,i,c,rfl,rfl,hz,he,q⟩:=h
 obtain⟨t,rfl⟩:=rx
 obtain⟨t',rfl⟩:=ry
 obtain⟨j,h1,h2,h3,h4,h5⟩:=lN he
 have hl:z.cps.toList.length=z.length:=by simp[Str.length]
 rw[hl]at h1 h4 h5
 have hn:=rK
 exact tail_any (typeIs_str s z t) slot_str_getitem.lookup (getItem_str (c:=c) (by
  have e1:decide (i < -(2 ^ 63:Int))=false:=decide_eq_false (by omega)
  have e2:decide (i ≥ 2 ^ 63)=false:=decide_eq_false (by omega)
  rw[e1,e2,rm]) (by rw[h1];simpa using h2) ⟨.str ⟨#[c]⟩,H,I.tok _,⟨_,rfl⟩,q⟩) hs
noncomputable def V1(K:PySem.W.Frag):R2:=λx y H Q=>Mb K x y H Q\/Mc K x y H Q\/Md x y H Q
theorem V2:j6 X (V1 X.K):=VZ.or (Me.or V0)
theorem V3(its:List Value)(n j:Nat)(u:Value):yw (·.setIfInBounds j u) { cls:=.type "list",data:=.seq its.toArray n }={ cls:=.type "list",data:=.seq (its.set j u).toArray n }:=by
 simp[yw]
theorem Inv.lst{pins:List (Addr × Obj)}{σ:St}{H:Hp}{s:Shared}{p:Addr}{xs:List V}(I:Inv X pins σ H s)(h:H p=some (.lst xs)) :
  ∃(its:List Value) (n:Nat),Vals xs its/\s.heap.get? p=some { cls:=.type "list",data:=.seq its.toArray n }/\xs.length<=sizeLine:=by
 obtain⟨z,its,n,r,e⟩:=I.ay p _ h
 exact⟨its,n,r,e,z⟩
theorem Inv.V4{pins:List (Addr × Obj)}{σ:St}{H:Hp}{s:Shared}{p:Addr}{xs ys:List V}{its its':List Value}{n n':Nat}{f:Obj->Obj}(I:Inv X pins σ H s)(h:H p=some (.lst xs))
  (ho:s.heap.get? p=some { cls:=.type "list",data:=.seq its.toArray n }) (hf:f { cls:=.type "list",data:=.seq its.toArray n }={ cls:=.type "list",data:=.seq its'.toArray n' }) (r:Vals ys its') (hz:ys.length<=sizeLine) (t:Nat) :
  Inv X pins σ (upd H p (.lst ys)) { s with heap:=s.heap.update p f,toks:=t }:=by
 have e:(s.heap.update p f).get? p=some { cls:=.type "list",data:=.seq its'.toArray n' }:=by
  rw[yx f ho (by rw[hf]<;>rfl),hf]
 refine I.write (x:=p) (e:=p) (by rw[h];trivial) (.inl rfl) (λb u hb q=>(nF _ _ (du hb)).trans q) ⟨_,e⟩ ?_
 exact⟨hz,its',n',r,e⟩
noncomputable def V5:V->V->V->Hp->(Hp->Prop)->Prop:=λo i v H Q=>∃p xs k j,o=.ref p/\i=.int k/\H p=some (.lst xs)/\gZ xs.length k=some j/\Q (upd H p (.lst (xs.set j v)))
theorem V6:LM X V5:=by
 intro pins s σ H o i v ov iv u Q I ro ri rv h
 obtain⟨p,xs,k,j,rfl,rfl,hp,hj,q⟩:=h
 cases ro
 obtain⟨t,rfl⟩:=ri
 obtain⟨its,n,r,ho,hz⟩:=I.lst hp
 obtain⟨h1,h2,h3,h4⟩:=L9 hj
 have hl:=r.length
 have hn:=rK
 have I':Inv X pins σ (upd H p (.lst (xs.set j v))) { s with heap:=s.heap.update p (yw (·.setIfInBounds j u)) } :=
  I.V4 hp ho (V3 its n j u) (r.set rv j) (by rw[B9];exact hz) s.toks
 by_cases h0:0<=k
 ·have hk:k.toNat=j:=by
   rw[seqIndex_of h0 h4]at h1
   exact dw h1
  exact PySem.W.ki_setAt ho h0 (by omega) (by rw[cS,<- hl];exact h4) (by rw[hk];exact⟨_,I',q⟩)
 ·have hk:(k+(its.toArray.size:Int)).toNat=j:=by
   rw[seqIndex_neg (by omega) h3]at h1
   rw[cS,<- hl]
   exact dw h1
  exact PySem.W.ki_setBack ho (by omega) (by rw[cS,<- hl];exact h3) (by omega) (by rw[hk];exact⟨_,I',q⟩)
theorem Dj(lo hi:Option Int)(n:Nat):(sliceBounds lo hi none n).1=((HT.ck n 0 lo:Nat):Int)/\(sliceBounds lo hi none n).2.1=((HT.ck n n hi:Nat):Int)/\(sliceBounds lo hi none n).2.2=1:=by
 refine⟨?_,?_,rfl⟩
 ·cases lo with
  | none=>simp[sliceBounds,HT.ck]
  | some i =>
   simp only[sliceBounds,HT.ck,nG,show(1:Int)>0 by decide,if_true]
   by_cases h:i<0
   ·simp only[h,if_true]<;>omega
   ·simp only[h,if_false]<;>omega
 ·cases hi with
  | none=>simp[sliceBounds,HT.ck]
  | some i =>
   simp only[sliceBounds,HT.ck,nG,show(1:Int)>0 by decide,if_true]
   by_cases h:i<0
   ·simp only[h,if_true]<;>omega
   ·simp only[h,if_false]<;>omega
theorem V7(its:List Value)(lo hi:Option Int):slicePick its.toArray lo hi none=((its.drop (HT.ck its.length 0 lo)).take (HT.ck its.length its.length hi-HT.ck its.length 0 lo)).toArray:=by
 obtain⟨h1,h2,h3⟩:=Dj lo hi its.toArray.size
 unfold slicePick
 rw[h1,h2,h3]
 simp only[sliceRange_one,pick_run,cS]<;>rfl
noncomputable def V8(K:PySem.W.Frag):V->Option Int->Option Int->Hp->VK->Prop:=λx lo hi H Q=>∃a xs,x=.ref a/\bf K H a xs/\∀p,H p=none->Q (.ref p) (upd H p (.lst (rM xs lo hi)))
theorem V9:oA X (V8 X.K):=by
 intro pins s σ H x v vl vu lo hi sl Q I rx hs pl pu h
 obtain⟨a,xs,rfl,hx,q⟩:=h
 cases rx
 obtain⟨its,r,ht,hz⟩:=I.list hx
 have hlen:=r.length
 refine⟨"list",_,slot_list_getitem.lookup,ht.isList.typeIs,?_⟩
 refine wpAny_getItem_list_slice ht.isList hs pl pu .none (by simp) ?_ (by rw[cS]<;>omega)
 rw[V7,<- hlen]
 refine⟨.ref s.heap.objs.size,_,I.laid (t':=s.toks) (o:=.lst (rM xs lo hi)) (λb ob q=>cN _ q) (aX _) ?_,rfl,q _ (I.ay.fresh (aX _))⟩
 exact⟨dY (VY xs lo hi) hz,_,0,(r.drop (HT.ck xs.length 0 lo)).take (HT.ck xs.length xs.length hi-HT.ck xs.length 0 lo),dA _ rfl⟩
theorem Wa:fc X (.builtin "len") (λxs H Q=>∃p ys,xs=[.ref p]/\(bf X.K H p ys\/cj X.K H p ys)/\Q (.int ys.length) H):=by
 intro pins s σ H xs us Q I r h
 obtain⟨p,ys,rfl,hq,q⟩:=h
 obtain⟨u,rfl,rx⟩:=y6 r
 cases rx
 have hn:=rK
 rcases hq with hq | hq
 ·obtain⟨its,r',pl,hz⟩:=I.list hq
  have hlen:=r'.length
  exact Calls.call_len_list pl.isList (by simp only[cS]<;>omega) ⟨.int ys.length,H,I.tok _,⟨s.toks+1,by rw[cS,hlen]⟩,q⟩
 ·obtain⟨its,r',pl,hz⟩:=I.tuple hq
  have hlen:=r'.length
  exact len_tuple pl (by simp only[cS]<;>omega) ⟨.int ys.length,H,I.tok _,⟨s.toks+1,by rw[cS,hlen]⟩,q⟩
theorem Wb:fc X (.builtin "len") (λxs H Q=>∃z,xs=[.str z]/\z.length<=sizeLine/\Q (.int z.length) H):=by
 intro pins s σ H xs us Q I r h
 obtain⟨z,rfl,hz,q⟩:=h
 obtain⟨u,rfl,t,rfl⟩:=y6 r
 have hn:=rK
 exact len_str (by omega) ⟨.int z.length,H,I.tok _,⟨_,rfl⟩,q⟩
theorem fc.or{f:Value}{r r':List V->Hp->VK->Prop}(h:fc X f r)(h':fc X f r'):fc X f (λxs H Q=>r xs H Q\/r' xs H Q):=by
 intro pins s σ H xs us Q I rs q
 rcases q with q | q
 ·exact h pins s σ H xs us Q I rs q
 ·exact h' pins s σ H xs us Q I rs q
theorem Wc:fc X (.type "list") (λxs H Q=>∃p ys,xs=[.ref p]/\(bf X.K H p ys\/cj X.K H p ys)/\∀l,H l=none->Q (.ref l) (upd H l (.lst ys))):=by
 intro pins s σ H xs us Q I r h
 obtain⟨p,ys,rfl,hq,q⟩:=h
 obtain⟨u,rfl,rx⟩:=y6 r
 cases rx
 have fin:∀(its:List Value),Vals ys its->ys.length<=sizeLine->∀(h':Heap) (c':Nat),(∀b o',s.heap.get? b=some o'->h'.get? b=some o') ->
   h'.get? s.heap.objs.size=some { cls:=.type "list",dict:=none,data:=.seq its.toArray c',slots:=#[] }->EP X pins σ Q (.ref s.heap.objs.size) { s with heap:=h' }:=λits r' hz h' c' kp e =>
  ⟨.ref s.heap.objs.size,_,I.laid (t':=s.toks) kp (aX _) (show cX X.prog X.w _ h' _ (.lst ys) from⟨hz,its,c',r',e⟩),rfl,q _ (I.ay.fresh (aX _))⟩
 rcases hq with hq | hq
 ·obtain⟨its,r',pl,hz⟩:=I.list hq
  have hlen:=r'.length
  obtain⟨o,ho,hc,n,hd⟩:=pl.isList
  exact call_list_seq p (.inl rfl) ho hc hd (λh' c' kp e=>fin its r' hz h' c' kp e) (by simp only[cS]<;>omega)
 ·obtain⟨its,r',pl,hz⟩:=I.tuple hq
  have hlen:=r'.length
  obtain⟨o,ho,hc,n,hd⟩:=pl
  exact call_list_seq p (.inr rfl) ho hc hd (λh' c' kp e=>fin its r' hz h' c' kp e) (by simp only[cS]<;>omega)
theorem Wd:fc X (.type "tuple") (λxs H Q=>∃p ys,xs=[.ref p]/\((bf X.K H p ys/\∀l,H l=none->Q (.ref l) (upd H l (.tup ys)))\/(cj X.K H p ys/\Q (.ref p) H))):=by
 intro pins s σ H xs us Q I r h
 obtain⟨p,ys,rfl,h⟩:=h
 obtain⟨u,rfl,rx⟩:=y6 r
 cases rx
 rcases h with⟨hq,q⟩ | ⟨hq,q⟩
 ·obtain⟨its,r',pl,hz⟩:=I.list hq
  have hlen:=r'.length
  refine call_tuple_list pl.isList (λh' kp=>?_) (by simp only[cS]<;>omega)
  have I1:Inv X pins σ H { s with heap:=h' }:=I.kept (t':=s.toks) kp
  have I2:Inv X pins σ (upd H h'.objs.size (.tup ys)) { s with heap:=h'.push { cls:=.type "tuple",data:=.seq its.toArray } } :=
   I1.laid (t':=s.toks) (λb o e=>cN _ e) (aX _) (show cX X.prog X.w _ _ _ (.tup ys) from⟨hz,its,r',IsTup.new _ _⟩)
  exact⟨.ref h'.objs.size,_,I2,rfl,q _ (I1.ay.fresh (aX _))⟩
 ·obtain⟨its,r',pl,hz⟩:=I.tuple hq
  exact call_tuple_same pl ⟨.ref p,H,I,rfl,q⟩
noncomputable def Dk(K:PySem.W.Frag)(T:String)(x:V)(H:Hp):Prop:=match x with
 | .str _=>T="str"
 | .int _=>T="int"
 | .ref p=>(T="list"/\∃xs,bf K H p xs)\/(T="tuple"/\∃o,K.lookup p=some o/\o.cls=.type "tuple"/\o.dict=none) \/
   (T="dict"/\((∃cO,H p=some (.dK cO))\/∃cO,H p=some (.dT cO)))\/(T="set"/\∃S n,H p=some (.set S n))
 | _=>False
theorem Mg{pins:List (Addr × Obj)}{σ:St}{H:Hp}{s:Shared}{T:String}{x:V}{v:Value}(I:Inv X pins σ H s)(r:RelV x v)(ty:Dk X.K T x H) :
  s.TypeIs v T/\∀a,v=.ref a->∃ob,s.heap.get? a=some ob/\ob.dict=none:=by
 cases x with
 | str z =>
  obtain⟨t,rfl⟩:=r
  cases(show T="str" from ty)
  exact⟨typeIs_str s z t,λ_ e=>nomatch e⟩
 | int i =>
  obtain⟨t,rfl⟩:=r
  cases(show T="int" from ty)
  exact⟨typeIs_int s i t,λ_ e=>nomatch e⟩
 | ref p =>
  cases r
  rcases ty with⟨rfl,xs,hq⟩ | ⟨rfl,o,hk,hc,hd⟩ | ⟨rfl,hk⟩ | ⟨rfl,S,n,hk⟩
  ·obtain⟨its,_,pl,_⟩:=I.list hq
   refine⟨pl.isList.typeIs,λa e=>?_⟩
   cases e
   obtain⟨o,n,e,c,hd,_⟩:=pl
   exact⟨o,e,hd⟩
  ·refine⟨⟨o,I.cE p o hk,hc⟩,λa e=>?_⟩
   cases e
   exact⟨o,I.cE _ o hk,hd⟩
  ·have z:∃o,s.heap.get? p=some o/\o.ExactDict:=by
    rcases hk with⟨cO,hk⟩ | ⟨cO,hk⟩
    ·obtain⟨_,_,_,_,o,_,_,e,ex,_⟩:=I.ay p _ hk
     exact⟨o,e,ex⟩
    ·obtain⟨_,_,_,_,o,_,_,e,ex,_⟩:=I.ay p _ hk
     exact⟨o,e,ex⟩
   obtain⟨o,e,ex⟩:=z
   refine⟨⟨o,e,ex.1⟩,λa e2=>?_⟩
   cases e2
   exact⟨o,e,ex.2.1⟩
  ·obtain⟨o,_,_,_,e,ex,_⟩:=I.ay p _ hk
   refine⟨⟨o,e,ex.1⟩,λa e2=>?_⟩
   cases e2
   exact⟨o,e,ex.2.1⟩
 | _=>exact dy ty
noncomputable def Mh(K:PySem.W.Frag)(T:String)(r:V->List V->Hp->VK->Prop)(to:TE):TE:=λσ H Q=>to σ H λx H1=>Dk K T x H1/\r x [] H1 Q
noncomputable def We(K:PySem.W.Frag)(T:String)(r:V->List V->Hp->VK->Prop)(to:TE)(t:TA):TE:=λσ H Q=>to σ H λx H1=>Dk K T x H1/\t σ H1 λxs H2=>r x xs H2 Q
variable{o e:Expr}{es:List Expr}{to:TE}{t:TA}{name:Str}{apos bG:Pos}{T id:String}{r:V->List V->Hp->VK->Prop}
theorem Dm(pa:PlainAttrs T)(slot:Slot T name id)(Dn:typeOf (.builtin id)=pure (.type "method_descriptor"))(hm:lQ X id r)(ho:PE X o to)
  (g6:attributeBase o name X.env (eval o X.env)=eval o X.env:=by rfl) (g9:(apos.endLine==bG.line)=true:=by rfl):PE X (.Call (.Attribute o name apos) [] [] bG) (Mh X.K T r to):=by
 intro pins s σ H Q I h
 refine wpAny_Call_method0_late g6 g9 (aB (ho pins s σ H _ I h) λv s1 ⟨x,H1,I1,r1,ty,q1⟩=>?_)
 obtain⟨h1,h2⟩:=Mg I1 r1 ty
 exact⟨T,id,pa,slot,Dn,h1,h2,Calls.callWith_builtin rfl (PySem.evalArgs_none (hm pins s1 σ H1 x [] v [] Q I1 r1 .nil q1))⟩
theorem Wf(pa:PlainAttrs T)(slot:Slot T name id)(Dn:typeOf (.builtin id)=pure (.type "method_descriptor"))(hm:lQ X id r)(ho:PE X o to)(ha:PA X (e::es) t)
  (g6:attributeBase o name X.env (eval o X.env)=eval o X.env:=by rfl)
  (Dq:((backTo bG (starEach (e::es) X.env)).all (λx=>!x.1)&&(backToKw bG (keywordEach [] X.env)).all (λx=>x.1.isSome)
   && decide ((e::es).length+([]:List Keyword).length+(if([]:List Keyword).isEmpty then 0 else 1)<30))=true:=by rfl)
  (g9:(apos.endLine==bG.line)=true:=by rfl) (hs:starEach (e::es) X.env=(false,eval e X.env)::starEach es X.env:=by rfl) (Dr:(backTo bG (starEach es X.env)).any (·.1)=false:=by rfl) :
  PE X (.Call (.Attribute o name apos) (e::es) [] bG) (We X.K T r to t):=by
 intro pins s σ H Q I h
 refine wpAny_Call_method_late g6 Dq g9 rfl (aB (ho pins s σ H _ I h) λv s1 ⟨x,H1,I1,r1,ty,q1⟩=>?_)
 obtain⟨h1,h2⟩:=Mg I1 r1 ty
 refine⟨T,id,pa,slot,Dn,h1,h2,?_⟩
 have hA:=ha bG pins s1 σ H1 _ I1 q1
 rw[hs]at hA ⊢
 refine Calls.callWith_builtin (by show(false||(backTo bG (starEach es X.env)).any (·.1))=false;rw[Dr]<;>rfl) (Calls.evalArgs_plain ?_)
 exact aB hA λus s2 ⟨vs,H2,I2,r2,q2⟩=>hm pins s2 σ H2 x vs v us Q I2 r1 r2 q2
/- xs.append(e),list.index on a dF7 tuple .. are lQ facts of 06m -/
end
end L2
namespace L2
open PySem PySem.Spec PyProof.Rows
noncomputable def Mi(X:Cx)(id:String)(r:V->List V->Hp->VK->Prop):Prop :=
 ∀(pins:List (Addr × Obj)) (s:Shared) (σ:St) (H:Hp) (x:V) (xs:List V) (v:Value) (us:List Value) (Q:VK),Inv X pins σ H s->RelV x v->Vals xs us->r x xs H Q ->
  wpAny (model X.prog X.w) X.A (call (.builtin id) (v::us)) (EP X pins σ Q) X.xe s
theorem Vals.one:∀{x:V} {us:List Value},Vals [x] us->∃u,us=[u]/\RelV x u
 | _,_,.cons r .nil=>⟨_,rfl,r⟩
theorem Vals.two:∀{x y:V} {us:List Value},Vals [x,y] us->∃u v,us=[u,v]/\RelV x u/\RelV y v
 | _,_,_,.cons r (.cons q .nil)=>⟨_,_,rfl,r,q⟩
theorem Vals.zero:∀{us:List Value},Vals [] us->us=[]
 | _,.nil=>rfl
theorem Vals.dropLast{xs:List V}{us:List Value}(h:Vals xs us):Vals xs.dropLast us.dropLast:=by
 induction h with
 | nil=>exact .nil
 | cons r t ih =>
  cases t with
  | nil=>exact .nil
  | cons q t'=>exact .cons r ih
theorem Vals.eraseIdx:∀{xs:List V} {us:List Value} (i:Nat),Vals xs us->Vals (xs.eraseIdx i) (us.eraseIdx i)
 | _,_,_,.nil=>.nil
 | _,_,0,.cons _ t=>t
 | _,_,i+1,.cons r t=>.cons r (Vals.eraseIdx i t)
theorem Vals.reverse{xs:List V}{us:List Value}(h:Vals xs us):Vals xs.reverse us.reverse:=by
 induction h with
 | nil=>exact .nil
 | cons r t ih=>rw[List.reverse_cons,List.reverse_cons];exact Vals.append ih (.cons r .nil)
theorem Vals.rep{xs:List V}{us:List Value}(h:Vals xs us):∀k:Nat,Vals (aN k xs).flatten (aN k us).flatten
 | 0=>.nil
 | k+1=>by
  rw[nH,nH,rn,rn]
  exact Vals.append h (Vals.rep h k)
theorem Wg{α:Type}(l:List α):l.eraseIdx (l.length-1)=l.dropLast:=by
 induction l with
 | nil=>rfl
 | cons a r ih =>
  cases r with
  | nil=>rfl
  | cons b r =>
   have e:(a::b::r).length-1=((b::r).length-1)+1:=by
    have h1:(a::b::r).length=r.length+2:=rfl
    have h2:(b::r).length=r.length+1:=rfl
    omega
   rw[e,List.eraseIdx_cons_succ,ih]
   all_goals rfl
theorem Mj(its:List Value):∀(k:Nat) (acc:List Value),
  List.foldl (λx1 x2=>x1++x2) acc.toArray (aN k its.toArray)=(acc++(aN k its).flatten).toArray
 | 0,acc=>by simp
 | k+1,acc=>by
  have e:acc.toArray++its.toArray=(acc++its).toArray:=by simp
  have e2:(acc++its)++(aN k its).flatten=acc++(aN (k+1) its).flatten:=by
   rw[nH,rn,eB]
  rw[<-e2,<- Mj its k (acc++its),<- e,nH,List.foldl_cons]
section
variable{X:Cx}{pins:List (Addr × Obj)}{σ:St}{H:Hp}{s:Shared}{l b:Addr}{xs ys zs:List V}
theorem Inv.Ml{its its':List Value}{n:Nat}{f:Array Value->Array Value}{t':Nat}(I:Inv X pins σ H s)(hH:H l=some (.lst xs))
  (e:s.heap.get? l=some { cls:=.type "list",data:=.seq its.toArray n }) (hf:f its.toArray=its'.toArray) (hv:Vals ys its') (hz:ys.length<=sizeLine) :
  Inv X pins σ (upd H l (.lst ys)) { s with heap:=s.heap.update l (yw f),toks:=t' }:=by
 have q:=PySem.IsL.update e f
 rw[hf]at q
 refine I.write (x:=l) (e:=l) (by rw[hH];exact trivial) (.inl rfl) (λb' u hb hu=>(nF s.heap (yw f) (du hb)).trans hu) ⟨_,q⟩ ?_
 exact⟨hz,its',_,hv,q⟩
theorem Inv.Mm{its:List Value}{t':Nat}(I:Inv X pins σ H s)(hv:Vals ys its)(hz:ys.length<=sizeLine) :
  Inv X pins σ (upd H s.heap.objs.size (.lst ys)) { s with heap:=s.heap.push { cls:=.type "list",data:=.seq its.toArray },toks:=t' } :=
 I.laid (λ_ _ q=>cN _ q) (aX _) ⟨hz,its,0,hv,dA _ rfl⟩
theorem Inv.fresh(I:Inv X pins σ H s):H s.heap.objs.size=none:=I.ay.fresh (aX _)
theorem Inv.wg(I:Inv X pins σ H s)(hH:H l=some (.lst xs)):xs.length<=sizeLine/\∃(its:List Value) (n:Nat),Vals xs its/\xs.length=its.length/\s.heap.get? l=some { cls:=.type "list",data:=.seq its.toArray n }:=by
 obtain⟨z,its,n,r,e⟩:=I.ay l _ hH
 exact⟨z,its,n,r,r.length,e⟩
theorem Wh{n:Nat}(h:n<=sizeLine):K8 n=false:=by
 unfold K8
 exact decide_eq_false (by omega)
end
section
variable{X:Cx}
noncomputable def Wi:V->List V->Hp->VK->Prop:=λx vs H Q=>∃l xs y,x=.ref l/\vs=[y]/\H l=some (.lst xs)/\xs.length<sizeLine/\Q .aq (upd H l (.lst (xs++[y])))
theorem Mn:Mi X "list.append" Wi:=by
 intro pins s σ H x vs v us Q I rx rv h
 obtain⟨l,xs,y,rfl,rfl,hH,hz,q⟩:=h
 cases rx
 obtain⟨u,rfl,ru⟩:=rv.one
 obtain⟨z,its,n,r,hl,e⟩:=I.wg hH
 refine call_meets F.slot_list_append ⟨_,e,rfl⟩ F.entry_list_append (F.args_list_append_2 _ _) (PySem.list_append l its.toArray n u (by rw[cS];omega)) ⟨e,?_⟩
 refine⟨.aq,_,I.Ml (its':=its++[u]) hH e (by simp) (r.append (.cons ru .nil)) ?_,rfl,q⟩
 rw[jg,S5]
 omega
noncomputable def Wj:V->List V->Hp->VK->Prop:=λx vs H Q=>∃l xs y,x=.ref l/\vs=[]/\H l=some (.lst xs)/\xs[xs.length-1]?=some y/\Q y (upd H l (.lst xs.dropLast))
theorem Mo:Mi X "list.pop" Wj:=by
 intro pins s σ H x vs v us Q I rx rv h
 obtain⟨l,xs,y,rfl,rfl,hH,hy,q⟩:=h
 cases rx
 have Wk:=rv.zero
 subst Wk
 obtain⟨z,its,n,r,hl,e⟩:=I.wg hH
 obtain⟨u,hu,ru⟩:=r.get hy
 have rN:its.toArray[its.toArray.size-1]?=some u:=by
  show its.toArray[its.length-1]?=some u
  rw[<-Array.getElem?_toList,<- hl]
  exact hu
 refine call_meets F.slot_list_pop ⟨_,e,rfl⟩ F.entry_list_pop (F.args_list_pop_1 _) (MeetsSeq.list_pop_last l its.toArray n u rN (by rw[cS];omega)) ⟨e,?_⟩
 refine⟨y,_,I.Ml (its':=its.dropLast) hH e ?_ r.dropLast ?_,ru,q⟩
 ·show its.toArray.eraseIdxIfInBounds (its.toArray.size-1)=its.dropLast.toArray
  rw[cS,List.eraseIdxIfInBounds_toArray,Wg]
 ·rw[K9]
  omega
noncomputable def Wl:R2:=λx y H Q=>∃l b xs zs,x=.ref l/\y=.ref b/\H l=some (.lst xs)/\H b=some (.lst zs)/\xs.length+zs.length<=sizeLine/\∀p,H p=none->Q (.ref p) (upd H p (.lst (xs++zs)))
theorem Wm:cu X (binaryOp .Add) Wl:=by
 intro pins s σ H x y v u Q I rx ry h
 obtain⟨l,b,xs,zs,rfl,rfl,hH,hB,hz,q⟩:=h
 cases rx
 cases ry
 obtain⟨z,its,n,r,hl,e⟩:=I.wg hH
 obtain⟨z2,Mp,n2,r2,lR,e2⟩:=I.wg hB
 refine PySem.P.add_list e e2 ?_ (by rw[cS,cS];omega)
 have ea:its.toArray++Mp.toArray=(its++Mp).toArray:=by simp
 rw[ea]
 exact⟨.ref _,_,I.Mm (t':=s.toks) (r.append r2) (by rw[jg];omega),rfl,q _ I.fresh⟩
noncomputable def Wn:R2:=λx y H Q=>∃l k xs,x=.ref l/\y=.int k/\H l=some (.lst xs)/\-(2 ^ 63)<=k/\k<2 ^ 63/\xs.length*k.toNat<=sizeLine /\
 ∀p,H p=none->Q (.ref p) (upd H p (.lst (aN k.toNat xs).flatten))
theorem Wo{α:Type}(xs:List α)(k:Nat):(aN k xs).flatten.length=k*xs.length:=by
 induction k with
 | zero=>simp
 | succ k ih=>rw[nH,rn,jg,ih,Nat.succ_mul,Ca]
theorem Wq:cu X (binaryOp .Mult) Wn:=by
 intro pins s σ H x y v u Q I rx ry h
 obtain⟨l,k,xs,rfl,rfl,hH,h1,h2,hz,q⟩:=h
 cases rx
 obtain⟨t,rfl⟩:=ry
 obtain⟨z,its,n,r,hl,e⟩:=I.wg hH
 have hlen:its.toArray.size*k.toNat<=sizeLine:=by rw[cS,<- hl];exact hz
 have Wr:¬ its.toArray.size*k.toNat>(2 ^ 63-1)/8:=by
  have:(sizeLine:Nat)<=(2 ^ 63-1)/8:=by decide
  omega
 have Ws:¬ (!Builtin.List.listFitsIndex k)=true:=by
  rw[fitsIndex_both h1 h2]
  exact rf
 have Wt:¬ K8 (its.toArray.size*k.toNat)=true:=by
  rw[Wh hlen]
  exact rf
 have Wu:List.foldl (λx1 x2=>x1++x2) #[] (aN (if its.toArray.isEmpty=true then 0 else k.toNat) its.toArray)=(aN k.toNat its).flatten.toArray:=by
  have f0:∀m:Nat,List.foldl (λx1 x2=>x1++x2) #[] (aN m its.toArray)=(aN m its).flatten.toArray:=λm=>by
   have:=Mj its m []
   rw[nI]at this
   exact this
  rw[f0]
  cases its with
  | nil=>simp
  | cons a r'=>rw[if_neg (by simp)]
 refine wpAny_binaryOp_repeat_ref (T:="list") (U:="int") (by decide) ⟨_,e,rfl⟩ (λs'=>typeIs_int s' k t) noFill_list_mul F.fills_int_mul F.slot_int_rmul repeat_list F.slot_int_index.lookup
  (call_meets F.slot_int_rmul (typeIs_int s k t) F.entry_int_rmul (F.args_int_rmul_2 _ _) (int___rmul___int_list k t l its.toArray n)
   ⟨e,rfl,⟨_,e,rfl⟩,call_meets F.slot_list_mul ⟨_,e,rfl⟩ F.entry_list_mul (F.args_list_mul_2 _ _) (AutoListH.list___mul___list_int_3 l its.toArray n k t Ws Wr Wt) ⟨e,?_⟩⟩)
 rw[Wu]
 exact⟨.ref _,_,I.Mm (t':=s.toks) (r.rep k.toNat) (by rw[Wo,jY];exact hz),rfl,q _ I.fresh⟩
end
section
variable{prog:Program}{w:World}{A:Around}{E:Value->Shared->Prop}{s:Shared}
end
section
variable{X:Cx}
end
end L2
namespace Att
open PySem PySem.W PySem.Calls PyProof.Rows
theorem Wv{P:Params}{h:Heap}:∀(ns:List Int) (vs:List Value),WellAll P h vs (ns.map WData.int)->IntsAre vs ns:=by
 intro ns
 induction ns with
 | nil =>
  intro vs w
  rw[il]at w
  cases w
  exact .nil
 | cons n ns ih =>
  intro vs w
  rw[dj]at w
  cases w with
  | cons a b =>
   cases a
   exact .cons _ _ (ih _ b)
theorem Ww{l:OpenLaw}{n:Nat}(hn:l.most=some n){P:Params}{h:Heap}{args:List WData}{vals:List Value}
  (ze:l.row.toRowW.claim.pre args=true) (Ds:WellAll P h vals args) :
  ∃a vs ns,vals=[dr a]/\args=[WData.list (ns.map WData.int)]/\h.get? a=some { cls:=.type "list",data:=.seq vs.toArray }/\IntsAre vs ns/\ns.length<=n:=by
 have lU:WShape.hasAll [] args [.list .int]=true:=(pre_splitW ze).1
 have hc:l.pre.holds [] { args:=args }=true:=(pre_splitW ze).2
 obtain⟨d,r,rfl,h1,h2⟩:=hasAllW_cons lU
 obtain rfl:=hasAllW_nil h2
 obtain⟨xs,rfl,h3⟩:=hasW_list h1
 obtain⟨ns,rfl⟩:=items_int h3
 have hlen:ns.length<=n:=by
  unfold OpenLaw.pre at hc
  have h4:(WTm.not (.lt (.lit (.int (n:Int))) (.len (.arg 0)))).holds [] { args:=[.list (ns.map .int)] }=true:=by
   have h4:=(holds_andW hc).1
   rw[hn]at h4
   exact h4
  have h5:=condW_of h4 (w_not (w_lt w_lit (w_len_list (w_arg rfl))))
  rw[dS]at h5
  refine Nat.le_of_not_lt λq=>?_
  have q':(n:Int)<((ns.length:Nat):Int):=by omega
  first
   | (rw[decide_eq_true q']at h5;exact absurd h5 (by decide))
   | (simp at h5;omega)
 cases Ds with
 | cons w1 w2 =>
  cases w2
  cases w1 with
  | list ho Wx=>exact⟨_,_,ns,rfl,rfl,ho,Wv ns _ Wx,hlen⟩
theorem Wy(l:OpenLaw)(args:List WData):l.row.toRowW.claim.post args (.bool true) args=true :=
 postW_of (r:=l.row.toRowW) (X:=(true==true))
  (show WShape.has [] (.bool true) .bool=true by first | rfl | decide | simp[WShape.has,WShape.arms,WShape.armsAll])
  (show(WTm.eq .res (.lit (.bool true))).value [] { args:=args,res:=some (.bool true),after:=args }=some (.bool (true==true)) from w_eq_bool (w_res rfl) w_lit) rfl
theorem Wz{l:OpenLaw}{n:Nat}{q:Program}{loose:List Str}{XP:(Str->Option Value)->Heap->Prop}{YP:World->Heap->Prop}{d:DefRec}
  (hn:l.most=some n) (wj:d.params.defaults=[])
  (call:∀(w:World) (bR bb:Shared) (mg mb:Str->Option Value) (fa:Addr) (o:Obj) (pm cd doc:Value) (a:Addr) (vs:List Value) (ns:List Int),
   Ground q loose [] XP w bR mg mb bb.heap->YP w bb.heap ->
   bb.heap.get? fa=some o->o.data=.func (docDef d.name d.params d.body d.scope pm cd doc)->bb.heap.CodeRec cd d.name->mg d.name=some (.ref fa) ->
   bb.heap.get? a=some { cls:=.type "list",data:=.seq vs.toArray }->IntsAre vs ns->ns.length<=n->bb.gens=#[] ->
   codeAny (model l.prog w) callerA (.call (.ref fa) ⟨[.ref a],[]⟩) (λr s'=>r=.ok (.ret (.bool true))/\OldK bb.heap s'.heap/\s'.os=bb.os/\AllBare s'.gens) bb) :
  WalkO q loose XP YP l.row.toRowW d [] (λf vs=>PySem.call f vs):=by
 intro w bR bb mg mb G Y fa o pm cd doc dV kV ho hd bX hD wk hg args vals as ze dF8 hrd Ds ff
 obtain rfl:dV=.none:=Dflts.none hD wj
 obtain rfl:kV=.none:=Dflts.noKw hD
 obtain⟨a,vs,ns,rfl,rfl,Dt,hints,hlen⟩:=Ww hn ze Ds
 refine enter_call (codeAny_mono (call w bR bb mg mb fa o pm cd doc a vs ns G Y ho (fd_plain hd) bX wk Dt hints hlen hg) λr s' hq=>?_)
 obtain⟨rfl,h2,h3,h4⟩:=hq
 exact⟨.inl ⟨.bool true,.bool true,[],rfl,λ_=>rfl,.bool true,Wy l _,λ_=>⟨List.Pairwise.nil,λ_ hm=>(nomatch hm)⟩⟩,h2,h3,h4⟩
section
variable{prog:Program}{w:World}{A:Around}{E:Value->Shared->Prop}{s:Shared}{K:Frag}
noncomputable def cx1(h:Heap)(L d:Addr):List (Addr × Obj):=(bL h.objs.size).filterMap λa=>if a=L\/a=d then none else(h.get? a).map λo=>(a,o)
end
end Att
namespace L2
open PySem PySem.Spec PyProof.Rows
theorem Mq:∀{vs:List Value} {ns:List Int},IntsAre vs ns->Vals (ns.map V.int) vs
 | _,_,.nil=>.nil
 | _,_,.cons n t h=>.cons ⟨t,rfl⟩ (Mq h)
end L2
namespace L2
open PySem PySem.Spec PyProof.Rows
end L2
/- THE dG2 dG3 (shape;LID,My.* are dG5):
   My.oB: a structure of Mr addresses dG6 dG7 dG8 names (classes,dG9);My.Txt K t: a structure (Prop) of Mr equations over K;
   My.dH0:{K} {implicit addresses ..} (e1:nsIn K mainGlobals "law"=some (some (.ref f))) (e2:K.lookup f=some ⟨oc,od,.func (fnOf "law" "law" params body scope dV kV doc pm an aF ct),sl⟩) (e3:codeIn K aF "law"=true) ..:∃t,My.Txt K t
(Mr tactic k_is has no namespace: write k_is) -/
namespace L2
open PySem PySem.Spec PyProof.Rows
noncomputable def fV(s:Stmt)(j:Nat):Stmt:=match s with
 | .ClassDef _ _ _ body _ _ _ _ _ _ _=>body.getD j (.Pass ⟨0,0,0,0⟩)
 | _=>.Pass ⟨0,0,0,0⟩
noncomputable def bq(s:Stmt):Arguments:=match s with
 | .FunctionDef _ a _ _ _ _ _ _ _ _=>a
 | _=>{ posonlyargs:=[],args:=[],vararg:=none,kwonlyargs:=[],kw_defaults:=[],kwarg:=none,defaults:=[] }
noncomputable def aY(s:Stmt):List Stmt:=match s with
 | .FunctionDef _ _ b _ _ _ _ _ _ _=>b
 | _=>[]
noncomputable def ax(s:Stmt):Scope:=match s with
 | .FunctionDef _ _ _ _ _ _ sc _ _ _=>sc
 | _=>{ kind:=.function,names:=[],isGenerator:=false,isCoroutine:=false }
noncomputable abbrev aS:dH:=λ_ _ _ _ _ _=>False
noncomputable abbrev E0:XK:=λ_ _ _=>False
theorem br{X:Cx}:jr aS X E0:=λ_ _ _ _ _ _ _ h=>h.elim
structure bg(K:PySem.W.Frag)(x qual:Str)(st:Stmt)(f:Addr)(fd:FuncData):Prop where
 ex:∃(oc:Value) (od:Option Addr) (kV doc pm:Value) (an:Option Addr) (aF ct:Value) (js:Array (Option Value)),
  fd=PySem.W.fnOf x qual (bq st) (aY st) (ax st) .none kV doc pm an aF ct/\K.lookup f=some ⟨oc,od,.func fd,js⟩/\PySem.W.codeIn K aF qual=true
 kp:PySem.W.keepIn K (.ref f)=true
section
variable{P:Program}{w:World}{K:PySem.W.Frag}{mg:Str->Option Value}{base:Heap}
theorem bg.ok{x qual:Str}{st:Stmt}{f:Addr}{fd:FuncData}{N ps:List Str}{k:Nat}{sp:Sp}(F:bg K x qual st f fd)(S:bj N ps (ax st))(len:∀vs H Q E,sp vs H Q E->vs.length=ps.length)
  (fS:∀(aF:Value) (A:Around) (outer:List Env) (s:Shared) (H:Hp) (vs:List V) (Q:VK) (E:XK),bE k (A.deeper (envOfC qual (ax st) s.heap.objs.size f aF))->sp vs H Q E ->
   ∃t,PSs (gF aS P w K mg base N qual (ax st) f aF A outer s H E).eJ (aY st) t/\t { nx:=λ_ H'=>Q .aq H',rt:=Q } (start N vs) H):aO P w K mg base aS (k+1) f fd ps sp:=by
 obtain⟨oc,od,kV,doc,pm,an,aF,ct,js,rfl,lk,bX⟩:=F.ex
 refine Df lk bX S len λA outer s H vs Q E hr fv=>?_
 obtain⟨t,h,q⟩:=fS aF A outer s H vs Q E hr fv
 exact⟨t,h.eJ,q⟩
theorem bg.binds{x qual:Str}{st:Stmt}{f:Addr}{fd:FuncData}{ps:List Str}(F:bg K x qual st f fd)
  (h:∀(kV doc pm:Value) (an:Option Addr) (aF ct:Value) (us:List Value),us.length=ps.length->bindArgs (PySem.W.fnOf x qual (bq st) (aY st) (ax st) .none kV doc pm an aF ct) ⟨us,[]⟩=pure (ps.zip us)):Binds K fd ps []:=by
 obtain⟨oc,od,kV,doc,pm,an,aF,ct,js,rfl,lk,bX⟩:=F.ex
 exact .all (h kV doc pm an aF ct)
theorem bH{x qual:Str}{st:Stmt}{f:Addr}{oc:Value}{od an:Option Addr}{js:Array (Option Value)}{kV doc pm aF ct:Value}(l:K.lookup f=some ⟨oc,od,.func (PySem.W.fnOf x qual (bq st) (aY st) (ax st) .none kV doc pm an aF ct),js⟩)
  (c:PySem.W.codeIn K aF qual=true) (k:PySem.W.keepIn K (.ref f)=true):bg K x qual st f (PySem.W.fnOf x qual (bq st) (aY st) (ax st) .none kV doc pm an aF ct):=⟨⟨oc,od,kV,doc,pm,an,aF,ct,js,rfl,l,c⟩,k⟩
end
section
variable{X:Cx}
theorem pv(i:Nat){x:Str}{pos:Pos}(hN:X.N[i]?=some x:=by rfl)(hv:iL X.env.scope x:=by first | exact ar rfl | exact bh (ar rfl) | exact bh (bh rfl))(hd:(x==("__debug__":Str))=false:=by decide)
  (bX:(x==("__classdict__":Str))=false:=by decide):PE X (.Name x pos) (LK i):=lK hN hv hd bX
end
theorem iU{A B:Prop}(h:B):if false=true then A else B:=by
 rw[if_neg rf]
 exact h
theorem j7{A B:Prop}(h:A):if true=true then A else B:=by
 rw[if_pos rfl]
 exact h
noncomputable def ae(H H':Hp):Prop:=∀b o,H b=some o->H' b=some o
theorem ae.refl(H:Hp):ae H H:=λ_ _ h=>h
theorem ae.trans{H H1 H2:Hp}(a:ae H H1)(b:ae H1 H2):ae H H2:=λc o h=>b c o (a c o h)
theorem ae.free{H H':Hp}(e:ae H H'){l:Addr}(h:H' l=Cb):H l=Cb:=by
 cases q:H l with
 | none=>rfl
 | some o =>
  rw[e l o q]at h
  cases h
theorem ae.seq{K:PySem.W.Frag}{H H':Hp}{a:Addr}{xs:List V}(e:ae H H')(h:bf K H a xs):bf K H' a xs:=by
 rcases h with (h | ⟨o,h⟩) | h
 ·exact .inl (.inl (e _ _ h))
 ·exact .inl (.inr ⟨o,e _ _ h⟩)
 ·exact .inr h
end L2
namespace Mf
noncomputable def bl(n:Nat):Nat:=if n=0 then 0 else n.log2+1
theorem dD{n m:Nat}:bl n<=m↔n<2 ^ m:=by
 unfold bl
 by_cases h:n=0
 ·simp[h,vz]
 ·rw[if_neg h]
  rw[<-Nat.log2_lt h]
  omega
theorem Du{n m:Nat}:m<bl n↔2 ^ m<=n:=by
 have:=@dD n m
 omega
theorem gG(n:Nat):n<2 ^ bl n:=dD.mp (aX _)
theorem Ms{n:Nat}(h:n≠0):2 ^ (bl n-1)<=n:=by
 have:0<bl n:=by unfold bl;rw[if_neg h];omega
 exact Du.mp (by omega)
theorem fw{n:Nat}(h:n≠0):0<bl n:=by
 unfold bl;rw[if_neg h];omega
theorem j8:bl 0=0:=rfl
theorem rO{n:Nat}(h:n≠0):n.testBit (bl n-1)=true:=by
 have h1:=Ms h
 have h2:=gG n
 have hp:=fw h
 have e:bl n=(bl n-1)+1:=by omega
 rw[e,nJ]at h2
 rw[S6]
 have:n/2 ^ (bl n-1)=1:=by
  apply Nat.div_eq_of_lt_le
  ·omega
  ·omega
 rw[this];rfl
theorem WA{x n:Nat}(h:∀i,n<=i->x.testBit i=false):x<2 ^ n:=by
 apply Nat.lt_pow_two_of_testBit
 intro i hi
 exact h i hi
theorem Mt{x y n:Nat}(hx:x<2 ^ (n+1))(hy:y<2 ^ (n+1))(tx:x.testBit n=true)(ty:y.testBit n=true):x ^^^ y<2 ^ n:=by
 apply WA
 intro i hi
 rw[jZ]
 by_cases e:i=n
 ·rw[e,tx,ty];rfl
 ·have dM:n+1<=i:=by omega
  have p:2 ^ (n+1)<=2 ^ i:=yy (by decide) dM
  rw[Cc (cJ hx p),Cc (cJ hy p)]
  rfl
theorem Mu(x y z:Nat):(x ^^^ y) ^^^ (z ^^^ y)=x ^^^ z:=by
 apply yz;intro i;simp only[jZ]
 cases x.testBit i<;>cases y.testBit i<;>cases z.testBit i<;>rfl
theorem Mv(x y z t:Nat):(x ^^^ y) ^^^ (z ^^^ t)=(x ^^^ z) ^^^ (y ^^^ t):=by
 apply yz;intro i;simp only[jZ]
 cases x.testBit i<;>cases y.testBit i<;>cases z.testBit i<;>cases t.testBit i<;>rfl
noncomputable def P(a b:Nat):Nat->Nat
 | 0=>0
 | k+1=>P a b k ^^^ (if b.testBit k then a <<< k else 0)
noncomputable def cl(a b:Nat):Nat:=P a b (bl b)
theorem Mw{a b k:Nat}(h:b<2 ^ k):∀j,P a b (k+j)=P a b k
 | 0=>rfl
 | j+1=>by
  show P a b (k+j) ^^^ (if b.testBit (k+j)then a <<< (k+j)else 0)=_
  rw[Mw h j]
  have p:2 ^ k<=2 ^ (k+j):=yy (by decide) (by omega)
  rw[Cc (cJ h p)]
  simp
theorem rP{a b k:Nat}(h:b<2 ^ k):P a b k=cl a b:=by
 have h1:=dD.mpr h
 have e:k=bl b+(k-bl b):=by omega
 rw[e,Mw (gG b)]
 rfl
theorem Mx(a a' b:Nat):∀k,P (a ^^^ a') b k=P a b k ^^^ P a' b k
 | 0=>(iG 0).symm
 | k+1=>by
  show P (a ^^^ a') b k ^^^ _=(P a b k ^^^ _) ^^^ (P a' b k ^^^ _)
  rw[Mx a a' b k]
  by_cases t:b.testBit k=true
  ·rw[if_pos t,if_pos t,if_pos t,S7]
   ac_rfl
  ·rw[if_neg t,if_neg t,if_neg t]
   simp
theorem Mz(a b b':Nat):∀k,P a (b ^^^ b') k=P a b k ^^^ P a b' k
 | 0=>(iG 0).symm
 | k+1=>by
  show P a (b ^^^ b') k ^^^ _=(P a b k ^^^ _) ^^^ (P a b' k ^^^ _)
  rw[Mz a b b' k,jZ]
  cases b.testBit k<;>cases b'.testBit k<;>simp
  ·ac_rfl
  ·ac_rfl
  ·exact(Mu _ _ _).symm
theorem lV(a a' b:Nat):cl (a ^^^ a') b=cl a b ^^^ cl a' b:=Mx a a' b _
theorem rQ{x y n:Nat}(hx:x<2 ^ n)(hy:y<2 ^ n):x ^^^ y<2 ^ n:=Nat.xor_lt_two_pow hx hy
theorem WB(a b b':Nat):cl a (b ^^^ b')=cl a b ^^^ cl a b':=by
 let k:=bl b+bl b'
 have h1:b<2 ^ k:=dD.mp (by omega)
 have h2:b'<2 ^ k:=dD.mp (by omega)
 rw[<-rP (rQ h1 h2),<- rP h1,<- rP h2,Mz]
theorem WC(a:Nat):cl a 0=0:=rfl
theorem MA(b:Nat):∀k,P 0 b k=0
 | 0=>rfl
 | k+1=>by
  show P 0 b k ^^^ _=0
  rw[MA b k];simp
theorem lW(b:Nat):cl 0 b=0:=MA b _
theorem WD(b k:Nat):(b/2).testBit k=b.testBit (k+1):=by
 rw[Cd]
theorem MB(a b:Nat):∀k,P a b (k+1)=(if b%2=1 then a else 0) ^^^ P (2*a) (b/2) k
 | 0=>by
  show 0 ^^^ _=_ ^^^ 0
  rw[kZ,iG,yA]
  simp
 | k+1=>by
  show P a b (k+1) ^^^ _=_ ^^^ (P (2*a) (b/2) k ^^^ _)
  rw[MB a b k,WD,nK]
  have e:a <<< (k+1)=(2*a) <<< k:=by
   rw[iH,iH,nJ]
   rw[jY 2 a,rp,jY 2]
  rw[e]
theorem MC{b k:Nat}(h:b<2 ^ (k+1)):b/2<2 ^ k:=by
 rw[nJ]at h;omega
theorem MD(a b:Nat):cl a b=(if b%2=1 then a else 0) ^^^ cl (2*a) (b/2):=by
 have h:b<2 ^ (bl b+1):=Nat.lt_trans (gG b) (by rw[nJ];have:=vz (bl b);omega)
 rw[<-rP h,MB,rP (MC h)]
theorem ME(a b:Nat):∀k,P (2*a) b k=2*P a b k
 | 0=>rfl
 | k+1=>by
  show P (2*a) b k ^^^ _=2*(P a b k ^^^ _)
  rw[ME a b k]
  have d:∀x y:Nat,2*(x ^^^ y)=2*x ^^^ 2*y:=by
   intro x y
   have h:=@S7 1 x y
   rw[iH,iH,iH,Nat.pow_one]at h
   rw[jY 2 (x ^^^ y),jY 2 x,jY 2 y]
   exact h
  rw[d]
  by_cases t:b.testBit k=true
  ·rw[if_pos t,if_pos t,iH,iH,rp]
  ·rw[if_neg t,if_neg t]
theorem Dw(a b:Nat):cl (2*a) b=2*cl a b:=ME a b _
theorem wm(a c t:Nat)(ht:t<2):cl a (2*c+t)=2*cl a c ^^^ (if t=1 then a else 0):=by
 rw[MD,Dw,La]
 have e1:(2*c+t)/2=c:=by omega
 have e2:(2*c+t)%2=t:=by omega
 rw[e1,e2]
theorem WE(a c:Nat):cl a (2*c)=2*cl a c:=by
 have h:=wm a c 0 (by decide)
 simpa using h
theorem MF(c t:Nat)(ht:t<2):2*c ^^^ t=2*c+t:=by
 apply yz
 intro i
 cases i with
 | zero =>
  rw[jZ,yA,yA,yA]
  have:t=0\/t=1:=by omega
  rcases this with h | h<;>subst h<;>simp<;>omega
 | succ i =>
  rw[jZ,Cd,Cd,Cd]
  have e1:2*c/2=c:=by omega
  have e2:t/2=0:=by omega
  have e3:(2*c+t)/2=c:=by omega
  rw[e1,e2,e3];simp
theorem Dx:∀b:Nat,cl 1 b=b:=by
 intro b
 induction b using Ce with
 | ind b ih =>
  by_cases h:b=0
  ·subst h;rfl
  ·have e:b=2*(b/2)+b%2:=by omega
   rw[e,wm 1 (b/2) (b%2) (by omega),ih (b/2) (by omega)]
   have:b%2=0\/b%2=1:=by omega
   rcases this with h | h
   ·rw[h];simp
   ·rw[h];rw[if_pos rfl];exact MF _ _ (by decide)
theorem wo:∀b a:Nat,cl a b=cl b a:=by
 intro b
 induction b using Ce with
 | ind b ih =>
  intro a
  by_cases h:b=0
  ·subst h;rw[lW];rfl
  ·have e:b=2*(b/2)+b%2:=by omega
   have lt:b%2<2:=by omega
   have e':cl b a=cl (2*(b/2) ^^^ b%2) a:=by rw[MF _ _ lt,<- e]
   rw[e',lV,Dw,<- ih (b/2) (by omega) a]
   have WG:cl a b=cl a (2*(b/2)+b%2):=by rw[<-e]
   rw[WG,wm _ _ _ lt]
   have:b%2=0\/b%2=1:=by omega
   rcases this with h | h
   ·rw[h,lW];rfl
   ·rw[h,Dx];rfl
theorem Dy{a m:Nat}(h:a<2 ^ m)(b:Nat):∀k,P a b (k+1)<2 ^ (m+k)
 | 0=>by
  show 0 ^^^ _<_
  rw[kZ,Cf]
  by_cases t:b.testBit 0=true
  ·rw[if_pos t];simpa using h
  ·rw[if_neg t];exact vz m
 | k+1=>by
  show P a b (k+1) ^^^ _<_
  have i:=Dy h b k
  have p:2 ^ (m+k)<=2 ^ (m+(k+1)):=yy (by decide) (by omega)
  apply rQ (cJ i p)
  by_cases t:b.testBit (k+1)=true
  ·rw[if_pos t,iH,Nat.pow_add 2 m]
   exact(S8 (vz _)).mpr h
  ·rw[if_neg t];exact vz _
theorem WH{a b m n:Nat}(h:a<2 ^ m)(h':b<2 ^ (n+1)):cl a b<2 ^ (m+n):=by
 rw[<-rP h'];exact Dy h b n
theorem WI{a b:Nat}(ha:a≠0)(hb:b≠0):2 ^ (bl a-1+(bl b-1))<=cl a b:=by
 have e:bl b=(bl b-1)+1:=by have:=fw hb;omega
 have ta:=rO ha
 have tb:=rO hb
 apply Nat.ge_two_pow_of_testBit
 unfold cl
 rw[e]
 show(P a b (bl b-1) ^^^ _).testBit _=true
 have e2:bl b-1+1-1=bl b-1:=by omega
 rw[e2,jZ,if_pos tb]
 have f:(P a b (bl b-1)).testBit (bl a-1+(bl b-1))=false:=by
  cases q:bl b-1 with
  | zero=>show Nat.testBit 0 _=false;exact Nat.zero_testBit _
  | succ k =>
   apply Cc
   have l:=Dy (gG a) b k
   have p:=fw ha
   have e3:bl a-1+(k+1)=bl a+k:=by omega
   rw[e3];exact l
 rw[f,S9]
 have e4:bl a-1+(bl b-1)-(bl b-1)=bl a-1:=by omega
 rw[e4,ta]
 simp
theorem MG{a b:Nat}(ha:a≠0)(hb:b≠0):bl (cl a b)=bl a+bl b-1:=by
 have p1:=fw ha
 have p2:=fw hb
 have h1:bl (cl a b)<=bl a+(bl b-1):=dD.mpr (WH (gG a) (by
  have e:bl b-1+1=bl b:=by omega
  rw[e];exact gG b))
 have h2:=Du.mpr (WI ha hb)
 omega
theorem MH(s b:Nat):cl (2 ^ s) b=b <<< s:=by
 induction s with
 | zero=>rw[Nat.pow_zero,Dx];rfl
 | succ s ih =>
  rw[nJ,jY,Dw,ih,iH,iH,nJ]
  rw[<-rp,jY 2,rp,jY 2,<- rp,rp]
theorem WJ{a q b r s:Nat}(h:a=cl q b ^^^ r):a=cl (q ^^^ 2 ^ s) b ^^^ (r ^^^ b <<< s):=by
 rw[lV,MH,h,Mu]
theorem MI{b r:Nat}(hb:b≠0)(h:bl b<=bl r):bl (r ^^^ b <<< (bl r-bl b))<bl r:=by
 have p:=fw hb
 have hr:r≠0:=by
  intro z;rw[z,j8]at h;omega
 have:r ^^^ b <<< (bl r-bl b)<2 ^ (bl r-1):=by
  apply Mt
  ·have e:bl r-1+1=bl r:=by omega
   rw[e];exact gG r
  ·have e:bl r-1+1=bl b+(bl r-bl b):=by omega
   rw[e,iH,Nat.pow_add]
   exact(S8 (vz _)).mpr (gG b)
  ·exact rO hr
  ·rw[S9]
   have e:bl r-1-(bl r-bl b)=bl b-1:=by omega
   rw[e,rO hb]
   simp;omega
 have:=dD.mpr this
 omega
theorem WK{x y z:Nat}(h:x ^^^ y=z):x=z ^^^ y:=by
 rw[<-h,nK,yB,iG]
theorem Dz{x y:Nat}(h:x ^^^ y=0):x=y:=by
 have:=WK h
 rwa [kZ]at this
theorem WL{b q r q' r':Nat}(h:cl q b ^^^ r=cl q' b ^^^ r')(hr:bl r<bl b)(hr':bl r'<bl b):q=q'/\r=r':=by
 have hb:b≠0:=by intro z;rw[z,j8]at hr;omega
 have e:cl (q ^^^ q') b=r ^^^ r':=by
  rw[lV]
  have z:(cl q b ^^^ r) ^^^ (cl q' b ^^^ r')=0:=by rw[h,yB]
  rw[Mv]at z
  exact Dz z
 have lt:bl (r ^^^ r')<bl b:=by
  have h1:r<2 ^ (bl b-1):=dD.mp (by omega)
  have h2:r'<2 ^ (bl b-1):=dD.mp (by omega)
  have:=dD.mpr (rQ h1 h2)
  have:=fw hb
  omega
 have z:q ^^^ q'=0:=by
  apply Ta
  intro hq
  have h1:=MG hq hb
  have h2:=fw hq
  rw[e]at h1
  omega
 have zq:=Dz z
 subst zq
 rw[z,lW]at e
 exact⟨rfl,Dz e.symm⟩
end Mf
namespace Mf
open PySem PySem.Builtin.Int
theorem WM(x y:Nat):(x ^^^ y)+2*(x &&& y)=x+y:=by
 induction x using Ce generalizing y with
 | ind x ih =>
  by_cases h:x=0
  ·subst h;simp
  ·have h1:=ih (x/2) (by omega) (y/2)
   have e1:(x ^^^ y)/2=x/2 ^^^ y/2:=Nat.xor_div_two
   have e2:(x &&& y)/2=x/2 &&& y/2:=Nat.and_div_two
   have t:∀n:Nat,n%2=if n.testBit 0=true then 1 else 0:=by
    intro n
    rw[yA]
    by_cases h:n%2=1
    ·simp[h]
    ·simp[h];omega
   have m1:(x ^^^ y)%2=(x%2+y%2)%2:=by
    rw[t (x ^^^ y),t x,t y,jZ]
    cases x.testBit 0<;>cases y.testBit 0<;>rfl
   have m2:(x &&& y)%2=x%2*(y%2):=by
    rw[t (x &&& y),t x,t y,Lb]
    cases x.testBit 0<;>cases y.testBit 0<;>rfl
   have d1:=Nat.div_add_mod (x ^^^ y) 2
   have d2:=Nat.div_add_mod (x &&& y) 2
   rw[e1]at d1
   rw[e2]at d2
   have hx:x%2=0\/x%2=1:=by omega
   have hy:y%2=0\/y%2=1:=by omega
   rcases hx with hx | hx<;>rcases hy with hy | hy<;>rw[hx,hy]at m1 m2<;>omega
theorem MJ{x y:Int}(hx:0<=x)(hy:0<=y):kX x y=((x.toNat &&& y.toNat:Nat):Int):=by
 unfold kX
 rw[decide_eq_true hx,decide_eq_true hy]
theorem WN{x y:Int}(hx:0<=x)(hy:0<=y):Builtin.bitOr x y=((x.toNat ||| y.toNat:Nat):Int):=by
 unfold Builtin.bitOr kX Builtin.bitNot
 rw[decide_eq_false (by omega),decide_eq_false (by omega)]
 show-(-((((- (-x-1)-1).toNat ||| (-(-y-1)-1).toNat:Nat):Int))-1)-1=_
 have e1:(- (-x-1)-1).toNat=x.toNat:=by omega
 have e2:(- (-y-1)-1).toNat=y.toNat:=by omega
 rw[e1,e2]
 omega
theorem WO(x y:Nat):(x ||| y)=(x ^^^ y)+(x &&& y):=by
 have d:(x ^^^ y) &&& (x &&& y)=0:=by
  apply yz;intro i
  simp only[jZ,Lb,Nat.zero_testBit]
  cases x.testBit i<;>cases y.testBit i<;>rfl
 have e:(x ||| y)=(x ^^^ y) ^^^ (x &&& y):=by
  apply yz;intro i
  simp only[jZ,Lb,Nat.testBit_or]
  cases x.testBit i<;>cases y.testBit i<;>rfl
 have h:=WM (x ^^^ y) (x &&& y)
 rw[d]at h
 rw[e];omega
theorem WQ{x y:Int}(hx:0<=x)(hy:0<=y):kY x y=((x.toNat ^^^ y.toNat:Nat):Int):=by
 unfold kY
 rw[WN hx hy,MJ hx hy,WO]
 omega
theorem jt(x y:Nat):kY (x:Int) (y:Int)=((x ^^^ y:Nat):Int):=by
 rw[WQ (by omega) (by omega)];rfl
theorem MK(x y:Nat):kX (x:Int) (y:Int)=((x &&& y:Nat):Int):=by
 rw[MJ (by omega) (by omega)];rfl
theorem rR(x k:Nat):(x:Int)*2 ^ ((k:Int)).toNat=((x <<< k:Nat):Int):=by
 rw[iH]
 simp
theorem WR(x k:Nat):(x:Int)/2 ^ ((k:Int)).toNat=((x >>> k:Nat):Int):=by
 rw[Tc]
 simp
theorem WS(x k:Nat):((x >>> k) &&& 1=1)↔x.testBit k=true:=by
 rw[S6,Tc]
 have:(x/2 ^ k) &&& 1=(x/2 ^ k)%2:=Nat.and_two_pow_sub_one_eq_mod _ 1
 rw[this]
 simp
end Mf
namespace Mf
end Mf
namespace Mf
theorem ML(a b:Nat):∀c,cl (cl a b) c=cl a (cl b c):=by
 intro c
 induction c using Ce with
 | ind c ih =>
  by_cases h:c=0
  ·subst h;rfl
  ·have e:c=2*(c/2)+c%2:=by omega
   have lt:c%2<2:=by omega
   have i:=ih (c/2) (by omega)
   rw[e,wm _ _ _ lt,wm _ _ _ lt,i,WB,WE]
   have:c%2=0\/c%2=1:=by omega
   rcases this with h | h
   ·rw[h];rfl
   ·rw[h];rfl
noncomputable def rS:Nat->Nat->Nat->Nat
 | 0,a,_=>a
 | n+1,a,b=>if bl a<bl b then a else rS n (a ^^^ b <<< (bl a-bl b)) b
noncomputable def md(a b:Nat):Nat:=rS (bl a+1) a b
theorem MM{b:Nat}(hb:b≠0):∀n a,bl a<n->(∃q,a=cl q b ^^^ rS n a b)/\bl (rS n a b)<bl b
 | 0,_,h=>absurd h (by omega)
 | n+1,a,h=>by
  unfold rS
  by_cases l:bl a<bl b
  ·rw[if_pos l]
   exact⟨⟨0,by rw[lW,kZ]⟩,l⟩
  ·rw[if_neg l]
   have DA:=MI hb (show bl b<=bl a by omega)
   obtain⟨⟨q,e⟩,l2⟩:=MM hb n (a ^^^ b <<< (bl a-bl b)) (by omega)
   refine⟨⟨q ^^^ 2 ^ (bl a-bl b),?_⟩,l2⟩
   rw[lV,MH]
   have e2:a=(a ^^^ b <<< (bl a-bl b)) ^^^ b <<< (bl a-bl b):=by rw[nK,yB,iG]
   rw[e]at e2
   refine e2.trans ?_
   generalize rS n _ b=r
   rw[nK,La r,<- nK]
theorem wq{b:Nat}(hb:b≠0)(a:Nat):(∃q,a=cl q b ^^^ md a b)/\bl (md a b)<bl b:=MM hb _ a (by omega)
theorem wt{a b q r:Nat}(h:a=cl q b ^^^ r)(hr:bl r<bl b):md a b=r:=by
 have hb:b≠0:=by intro z;rw[z,j8]at hr;omega
 obtain⟨⟨q',e⟩,l⟩:=wq hb a
 exact(WL (e.symm.trans h) l hr).2
theorem WT(q:Nat){b:Nat}(hb:b≠0):md (cl q b) b=0 :=
 wt (q:=q) (by rw[iG]) (by rw[j8];exact fw hb)
noncomputable def MN:Nat->Nat->Nat->Nat
 | 0,a,_=>a
 | n+1,a,b=>if b=0 then a else MN n b (md a b)
noncomputable def gc(a b:Nat):Nat:=MN (bl b+1) a b
noncomputable def Dv(d a:Nat):Prop:=∃q,a=cl q d
end Mf
namespace Mf
theorem WU(y:Nat):bl (y/2)=bl y-1:=by
 by_cases h:y=0
 ·subst h;rfl
 ·have p:=fw h
  have h1:bl (y/2)<=bl y-1:=dD.mpr (MC (by
   have e:bl y-1+1=bl y:=by omega
   rw[e];exact gG y))
  have h2:bl y<=bl (y/2)+1:=dD.mpr (by
   have:=gG (y/2)
   rw[nJ];omega)
  omega
theorem WV(x:Nat):bl (2*x)<=bl x+1:=dD.mpr (by
 have:=gG x
 rw[nJ];omega)
theorem DB{x y:Nat}(h:x<=y):bl x<=bl y:=dD.mpr (lh h (gG y))
end Mf
namespace Mf
noncomputable def al(a:Nat):Bool:=decide (2<=a)&&(bL (2 ^ ((bl a-1)/2+1)-2)).all λi=>md a (2+i) != 0
theorem WW{a:Nat}(h:a<2):al a=false:=by
 unfold al;rw[decide_eq_false (by omega)];rfl
theorem WX{a:Nat}(h:2<=a)(k:∀i,i<2 ^ ((bl a-1)/2+1)-2->md a (2+i)≠0):al a=true:=by
 unfold al
 rw[decide_eq_true h,lj,dU]
 intro i hi
 have:=k i (iD.mp hi)
 simpa using this
theorem WY{a i:Nat}(k:i<2 ^ ((bl a-1)/2+1)-2)(z:md a (2+i)=0):al a=false:=by
 unfold al
 rw[Bool.and_eq_false_iff]
 right
 rw[List.all_eq_false]
 exact⟨i,iD.mpr k,by simp[z]⟩
theorem WZ{a:Nat}(h:2<=a){b:Nat}(hb:b<2 ^ ((bl a-1)/2+1)):b<a/\2*bl b<=bl a+1:=by
 have h2:2<=bl a:=by
  have:=Du.mpr (show 2 ^ 1<=a by omega)
  omega
 have l:=dD.mpr hb
 refine⟨cJ hb (dY (yy (by decide) ?_) (Ms (by omega))),by omega⟩
 omega
end Mf
namespace L2
open PySem PySem.Spec PyProof.Rows Mf
theorem cF:bootBuiltins "len"=some (.builtin "len"):=by decide +kernel
theorem W0:bootBuiltins "isinstance"=some (.builtin "isinstance"):=by decide +kernel
theorem MP:bootBuiltins "max"=some (.builtin "max"):=by decide +kernel
theorem DC:bootBuiltins "all"=some (.builtin "all"):=by decide +kernel
theorem W2:bootBuiltins "any"=some (.builtin "any"):=by decide +kernel
theorem W3:bootBuiltins "int"=some (.type "int"):=by decide +kernel
theorem W4:bootBuiltins "bool"=some (.type "bool"):=by decide +kernel
theorem wu:bootBuiltins "list"=some (.type "list"):=by decide +kernel
theorem MQ:bootBuiltins "tuple"=some (.type "tuple"):=by decide +kernel
section
variable{X:Cx}{a b o:Expr}{ta tb to:TE}{pos apos bG:Pos}
theorem MR(i:Int):Builtin.Int.intBits i=bl i.natAbs:=by
 unfold Builtin.Int.intBits bl
 by_cases h:i=0
 ·subst h;rfl
 ·have h':¬ i.natAbs=0:=by omega
  rw[if_neg h',if_neg (by simpa using h)]
noncomputable def MS:V->List V->Hp->VK->Prop:=λx vs H Q=>∃i,x=.int i/\vs=[]/\Q (.int (bl i.natAbs:Nat)) H
theorem W5:lQ X "int.bit_length" MS:=by
 intro pins s σ H x xs v us Q I rx rs h
 obtain⟨i,rfl,rfl,q⟩:=h
 obtain⟨t,rfl⟩:=rx
 cases rs
 refine call_int_bit_length ?_
 rw[MR]
 exact⟨.int _,H,I.tok _,⟨_,rfl⟩,q⟩
theorem DD(ho:PE X o to)(g6:attributeBase o "bit_length" X.env (eval o X.env)=eval o X.env:=by rfl)(g9:(apos.endLine==bG.line)=true:=by rfl) :
  PE X (.Call (.Attribute o "bit_length" apos) [] [] bG) (Mh X.K "int" MS to) :=
 Dm PySem.F.plainAttrs_int PySem.F.slot_int_bit_length PySem.F.type_int_bit_length W5 ho g6 g9
noncomputable def MT(i j:Int):Prop:=0<=j/\((bl i.natAbs:Nat):Int)+j<=134217728
theorem MU:cu X (binaryOp .LShift) (rI MT λi j=>.int (i*2 ^ j.toNat)):=wd λi j _ _ _ _ _ hc q =>
 lshift_int hc.1 (by rw[MR];exact Int.le_trans hc.2 (by decide)) q
theorem W6{x:Str}{n:String}(hg:Gl X x)(hm:X.mg x=none)(hv:bootBuiltins x=some (.type n))(hn:x≠"__name__":=by decide)(hd:(x==("__debug__":Str))=false:=by decide):PE X (.Name x pos) (tC (.ty n)) :=
 TZ hg hm hv rfl hn hd
noncomputable def W7(K:PySem.W.Frag):List V->Hp->VK->Prop:=λxs H Q=>∃x n t b,xs=[x,.ty n]/\fR K H x t/\PySem.W.kitOne K t (.type n)=some b/\Q (.bl b) H
theorem W8:fc X (.builtin "isinstance") (W7 X.K):=by
 intro pins s σ H xs us Q I r h
 obtain⟨x,n,t,b,rfl,ty,e,q⟩:=h
 obtain⟨u,v,rfl,ru,rv⟩:=r.two
 cases(show v=Value.type n from rv)
 exact Vz I ru ty e λtk=>⟨.bl b,H,I.tok _,rfl,q⟩
end
theorem W9(b i:Nat):decide (V.int (kX ((b:Int)/2 ^ ((0:Int)+(i:Int)).toNat) 1)=V.int 1)=b.testBit i:=by
 have e:((0:Int)+(i:Int)).toNat=((i:Int)).toNat:=by omega
 rw[e,WR,show(1:Int)=((1:Nat):Int) from rfl,MK,Cg,decide_eq_true_iff,<- WS]
 constructor
 ·intro h;injection h with h;omega
 ·intro h;rw[h]
theorem Xa{a b i:Nat}(h:b.testBit i=true):kY ((P a b i:Nat):Int) ((a:Int)*2 ^ ((0:Int)+(i:Int)).toNat)=((P a b (i+1):Nat):Int):=by
 have e:((0:Int)+(i:Int)).toNat=((i:Int)).toNat:=by omega
 rw[e,rR,jt]
 show _=((P a b i ^^^ (if b.testBit i then a <<< i else 0):Nat):Int)
 rw[if_pos h]
theorem Xb{a b i:Nat}(h:¬ b.testBit i=true):P a b (i+1)=P a b i:=by
 show P a b i ^^^ (if b.testBit i then a <<< i else 0)=_
 rw[if_neg h,iG]
theorem dI{i j:Int}:decide (V.int i=V.int j)=true↔i=j:=by
 rw[decide_eq_true_iff]
 exact⟨λh=>by injection h,λh=>by rw[h]⟩
end L2
namespace L2
open PySem PySem.Spec PyProof.Rows
section
variable{X:Cx}
end
end L2
namespace L2
open PySem PySem.Spec PyProof.Rows
noncomputable def cY(X:Cx)(scope:Scope)(N:List Str)(cl:List (Str × Addr))(C:Addr)(s:Shared)(H:Hp)(fp:List Addr):Cx where
 prog:=X.prog
 w:=X.w
 K:=X.K
 mg:=X.mg
 base:=X.base
 A:=X.A
 N:=N
 bR:=s
 iK:=H
 env:=compEnvC scope cl C X.env
 outer:=X.stack
 stack:=X.stack
 ex:=fp
 fn:=λ_=>false
 calm:=X.calm
 pn:=[]
 xe:=λ_ _=>False
noncomputable def j9(X:Cx)(scope:Scope)(cl:List (Str × Addr)):List (Str × Nat)->Prop
 | []=>True
 | (y,i)::r=>(X.N[i]?=some y/\(X.env.scope.names.lookup y=some .cell\/X.env.scope.names.lookup y=some .free)/\((relabel scope X.env).names.lookup y=some .cell\/(relabel scope X.env).names.lookup y=some .free)/\∃c,cl.lookup y=some c/\X.env.cells.lookup y=some c)/\j9 X scope cl r
theorem j9.at{X:Cx}{scope:Scope}{cl:List (Str × Addr)}:∀{av:List (Str × Nat)},j9 X scope cl av->∀p∈av,X.N[p.2]?=some p.1/\(X.env.scope.names.lookup p.1=some .cell\/X.env.scope.names.lookup p.1=some .free)/\((relabel scope X.env).names.lookup p.1=some .cell\/(relabel scope X.env).names.lookup p.1=some .free)/\∃c,cl.lookup p.1=some c/\X.env.cells.lookup p.1=some c
 | [],_,p,hp=>absurd hp (by simp)
 | (y,i)::r,h,p,hp=>by
  rcases bM.mp hp with e | e
  ·subst e;exact h.1
  ·exact j9.at h.2 p e
noncomputable def oE(Y:Cx)(ifs:List Expr)(t:TT):Prop :=
 ∀(pins:List (Addr × Obj)) (s:Shared) (σ:St) (H:Hp) (Q:Bool->Hp->Prop),Inv Y pins σ H s->t σ H Q ->
  wpAny (model Y.prog Y.w) Y.A (forIn ifs true λc r=>if r=true then do let ok<-isTrue c Y.env (eval c Y.env);pure (Ci ok)else pure (Ci r)) (TP Y pins σ Q) Y.xe s
noncomputable def Xc:TT:=λ_ H Q=>Q true H
theorem Xd{Y:Cx}:oE Y [] Xc:=λ_ _ _ H _ I h=>wpAny_tests_nil ⟨H,I,h⟩
section
variable{X:Cx}{elt iter:Expr}{x:Str}{px pos:Pos}{ifs:List Expr}{scope:Scope}{cl:List (Str × Addr)}{av:List (Str × Nat)}{wi:TI}{tt:TT}{te:TE}
theorem Xe{pins:List (Addr × Obj)}{σ:St}{H:Hp}{s:Shared}{fp:List Addr}{C:Addr}(I:Inv X pins σ H s)(fU:scope.kind=.function)(hC:s.heap.objs.size<=C)
  (fy:∀y c,cl.lookup y=some c->X.env.cells.lookup y=some c) (DE:∀y,((relabel scope X.env).names.lookup y=some .cell\/(relabel scope X.env).names.lookup y=some .free)->∃c,cl.lookup y=some c)
  (hf:∀b∈fp,fu X pins H b) (ho:∀b∈fp,∃o,s.heap.get? b=some o/\∀v,o.data≠.cell v) (N:List Str):(cY X scope N cl C s H fp).Ok where
 mod:=I.ok.mod
 kind:=fU
 glob:=I.ok.glob
 blt:=I.ok.blt
 above:=hC
 inj:=λy z c h1 h2=>I.ok.inj y z c (fy _ _ h1) (fy _ _ h2)
 has:=DE
 n6:=λ_ _ z=>nomatch z
 hd:=I.ok.hd
 frames:=I.ok.frames
 vU:=.inl rfl
 vV:=λb hb=>⟨by
  obtain⟨o,e,_⟩:=ho b hb
  exact eu (cJ (bC e) hC),λy c e z=>(hf b hb).2.2.2.2.1 y c (fy _ _ e) z⟩
 bs:=I.bs
 gy:=dY I.ok.gy I.sz
 rE:=λb o e hb=>by
  rcases(hf b hb).2.2.2.1 with z | z
  ·exact I.ok.rE b o e z
  ·exact absurd (cJ (bC (I.ok.bs b o e).1) z) (fN _)
 rF:=λb hb z=>(bM.mp (I.vX b z)).elim (hf b hb).2.1 (hf b hb).2.2.1
 eS:=I.stack
 gW:=I.yN
end
section
variable{prog:Program}{w:World}{A:Around}{R:Result->Shared->Prop}{s:Shared}
theorem Xf{elt target iter:Expr}{ifs:List Expr}{scope:Scope}{pos:Pos}{it acc:Value}{env:Env}(Iv:Nat->Shared->Prop)
  (turn:∀n s,Iv n s->wpAny (model prog w) A (pyNext it) (λr s1=>match r with
   | none=>R (.ok .next) s1
   | some v=>wpAny (model prog w) A (letOwnedTupleGo target it v) (λ_ t1=>wpAny (model prog w) A (assign target env v) (λ_ s2 =>
     wpAny (model prog w) A (forIn ifs true λc r=>if r=true then do let ok<-isTrue c env (eval c env);pure (Ci ok)else pure (Ci r)) (λok s3 =>
      if ok=true then wpAny (model prog w) A (eval elt env) (λy s4=>wpAny (model prog w) A (call (.builtin "list.append") [acc,y]) (λ_ s5=>∃m,m<n/\Iv m s5) (λ_ _=>False) s4) (λ_ _=>False) s3
      else ∃m,m<n/\Iv m s3) (λ_ _=>False) s2) (λ_ _=>False) t1) (λ_ _=>False) s1) (λ_ _=>False) s)
  (n:Nat) (h:Iv n s):codeAny (model prog w) A (.compLoop (.ListComp elt [⟨target,iter,ifs,0⟩] scope pos) 0 it acc env) R s:=by
 refine codeAny_loop rfl Iv (λn s hI=>?_) n h
 change wpAny _ A (Sem.onRaise (compTurn (.ListComp elt [⟨target,iter,ifs,0⟩] scope pos) 0 it acc env) λx=>do noteFrame x env;theTreesLotGoes x) _ _ s
 refine wpAny_noted (wpAny_mono (E:=λ_ _=>False) ?_ (λ_ _ q=>q) λ_ _ z=>z.elim)
 rw[compTurn_list]
 refine wpAny_bind (wpAny_standAt (wpAny_bind (aB (turn n s hI) λr s1 h1=>?_)))
 cases r with
 | none=>exact wpAny_pure h1
 | some v =>
  refine wpAny_bind (aB h1 λ_ t1 k1=>wpAny_bind (aB k1 λ_ s2 h2=>wpAny_bind (aB h2 λok s3 h3=>?_)))
  cases ok with
  | false=>exact wpAny_pure ⟨rfl,h3⟩
  | true=>exact wpAny_bind (wpAny_bind (aB h3 λy s4 h4=>wpAny_bind (aB h4 λ_ s5 h5=>wpAny_pure (wpAny_pure ⟨rfl,h5⟩))))
end
section
variable{X:Cx}{elt iter:Expr}{x:Str}{px pos:Pos}{ifs:List Expr}{scope:Scope}{cl:List (Str × Addr)}{av:List (Str × Nat)}{wi:TI}{tt:TT}{te:TE}
end
end L2
namespace L2
open PySem PySem.Spec PyProof.Rows
section
variable{X:Cx}
theorem MV{bs:List Bool}{us:List Value}(r:Vals (bs.map V.bl) us):bs.length=us.length/\∀(i:Nat) (v:Value),us[i]?=some v->∃b,bs[i]?=some b/\v=.bool b:=by
 have l:=r.length
 rw[dS]at l
 refine⟨l,λi v e=>?_⟩
 have hi:i<us.length:=(jU.mp e).1
 have hb:i<bs.length:=by omega
 obtain⟨u,e2,q⟩:=r.get (i:=i) (x:=V.bl bs[i]) (by rw[eZ,bc hb];rfl)
 rw[e]at e2
 cases e2
 exact⟨bs[i],bc hb,q⟩
theorem MW{s:Shared}{h':Heap}{o:Obj}(hk:∀b x,b ∉ [s.heap.objs.size]->(s.heap.push o).get? b=some x->h'.get? b=some x)(b:Addr)(x:Obj)(e:s.heap.get? b=some x):h'.get? b=some x :=
 hk b x (λhm=>fN _ (by have:=bC e;rw[nL.mp hm]at this;exact this)) (cN _ e)
theorem Xg(bs:List Bool):((bL bs.length).all λi=>(bs[i]?).getD true)=bs.all id:=by
 rw[Cg,dU,dU]
 constructor
 ·intro h b hb
  obtain⟨i,hi,rfl⟩:=yC hb
  have:=h i (iD.mpr hi)
  rwa [bc hi]at this
 ·intro h i hi
  have dM:=iD.mp hi
  rw[bc dM]
  exact h _ (iq dM)
theorem Xh(bs:List Bool):((bL bs.length).any λi=>(bs[i]?).getD false)=bs.any id:=by
 rw[Cg,List.any_eq_true,List.any_eq_true]
 constructor
 ·rintro⟨i,hi,h⟩
  have dM:=iD.mp hi
  rw[bc dM]at h
  exact⟨_,iq dM,h⟩
 ·rintro⟨b,hb,h⟩
  obtain⟨i,hi,rfl⟩:=yC hb
  exact⟨i,iD.mpr hi,by rw[bc hi];exact h⟩
theorem Xi(hc:X.calm=true):fc X (.builtin "all") (λxs H Q=>∃(p:Addr) (bs:List Bool),xs=[.ref p]/\bf X.K H p (bs.map V.bl)/\Q (.bl (bs.all id)) H):=by
 intro pins s σ H xs us Q I r h
 obtain⟨p,bs,rfl,hS,q⟩:=h
 obtain⟨u,rfl,ru⟩:=r.one
 cases ru
 obtain⟨its,rv,pl,hz⟩:=I.list hS
 obtain⟨hlen,DF⟩:=MV rv
 have hl:=pl.isList
 have fA:p<s.heap.objs.size:=by obtain⟨_,e,_⟩:=hl;exact bC e
 refine call_all_walk (wpAny_pyIter_list hl ?_)
 refine⟨s.heap.objs.size,[s.heap.objs.size,p],[s.heap.objs.size],its.toArray.size,_,_,λi=>(bs[i]?).getD true,rfl,Walks.list (A:=X.A.in1) (I.ok.hd hc) _ p (eu fA) its.toArray,
  ⟨⟨_,dA _ rfl,rfl,rfl⟩,hl.push _⟩,λi v s' Q' E' hP hQ=>?_,λh' tk hk=>?_⟩
 ·obtain⟨b,e,rfl⟩:=DF i v (by simpa using hP)
  simp only[e,nM]at hQ
  exact wpAny_truthy_bool hQ
 ·have e:((bL its.toArray.size).all λi=>(bs[i]?).getD true)=bs.all id:=by
   rw[cS,<- hlen];exact Xg bs
  rw[e]
  exact⟨.bl _,H,I.kept (h':=h') (t':=tk) (MW hk),rfl,q⟩
theorem Xj(hc:X.calm=true):fc X (.builtin "any") (λxs H Q=>∃(p:Addr) (bs:List Bool),xs=[.ref p]/\bf X.K H p (bs.map V.bl)/\Q (.bl (bs.any id)) H):=by
 intro pins s σ H xs us Q I r h
 obtain⟨p,bs,rfl,hS,q⟩:=h
 obtain⟨u,rfl,ru⟩:=r.one
 cases ru
 obtain⟨its,rv,pl,hz⟩:=I.list hS
 obtain⟨hlen,DF⟩:=MV rv
 have hl:=pl.isList
 have fA:p<s.heap.objs.size:=by obtain⟨_,e,_⟩:=hl;exact bC e
 refine call_any_walk (wpAny_pyIter_list hl ?_)
 refine⟨s.heap.objs.size,[s.heap.objs.size,p],[s.heap.objs.size],its.toArray.size,_,_,λi=>(bs[i]?).getD false,rfl,Walks.list (A:=X.A.in1) (I.ok.hd hc) _ p (eu fA) its.toArray,
  ⟨⟨_,dA _ rfl,rfl,rfl⟩,hl.push _⟩,λi v s' Q' E' hP hQ=>?_,λh' tk hk=>?_⟩
 ·obtain⟨b,e,rfl⟩:=DF i v (by simpa using hP)
  simp only[e,nM]at hQ
  exact wpAny_truthy_bool hQ
 ·have e:((bL its.toArray.size).any λi=>(bs[i]?).getD false)=bs.any id:=by
   rw[cS,<- hlen];exact Xh bs
  rw[e]
  exact⟨.bl _,H,I.kept (h':=h') (t':=tk) (MW hk),rfl,q⟩
end
noncomputable def ke(X:Cx):List (Str × Addr)->Prop
 | []=>True
 | (y,c)::r=>X.env.cells.lookup y=some c/\ke X r
theorem ke.all{X:Cx}:∀{cl:List (Str × Addr)},ke X cl->∀y c,cl.lookup y=some c->X.env.cells.lookup y=some c
 | [],_,y,c,h=>by simp at h
 | (z,d)::r,h,y,c,e=>by
  rw[gU]at e
  cases q:y==z with
  | true =>
   rw[q]at e
   cases e
   rw[eq_of_beq q]
   exact h.1
  | false =>
   rw[q]at e
   exact ke.all h.2 y c e
noncomputable def kg(cl:List (Str × Addr)):List (Str × NameKind)->Prop
 | []=>True
 | (y,k)::r=>(k=.local\/k=.globalImplicit\/∃c,cl.lookup y=some c)/\kg cl r
theorem kg.all{cl:List (Str × Addr)}:∀{ns:List (Str × NameKind)},kg cl ns->∀y,(ns.lookup y=some .cell\/ns.lookup y=some .free)->∃c,cl.lookup y=some c
 | [],_,y,h=>by simp at h
 | (z,k)::r,h,y,e=>by
  rw[gU]at e
  cases q:y==z with
  | true =>
   rw[q]at e
   rw[eq_of_beq q]
   rcases h.1 with g | g | g
   ·rw[g]at e;rcases e with e | e<;>cases e
   ·rw[g]at e;rcases e with e | e<;>cases e
   ·exact g
  | false =>
   rw[q]at e
   exact kg.all h.2 y e
section
variable{X:Cx}{elt iter:Expr}{x:Str}{px pos:Pos}{ifs:List Expr}{scope:Scope}{cl:List (Str × Addr)}{wi:TI}{tt:TT}{te:TE}
end
end L2
namespace L2
open PySem PySem.Spec PyProof.Rows Mf
end L2
namespace L2
end L2
namespace L2
open PySem PySem.Spec PyProof.Rows
noncomputable def fB(av:List (Str × Nat))(n:Nat)(σ:L2.St):St:=(av.map λp=>(σ[p.2]?).getD none)++aN n none
noncomputable def MX(J:It)(av:List (Str × Nat))(n:Nat)(g:TG)(tt:TT)(te:TE)(σ:L2.St)(H1:Hp)(Q:VK):Prop:=∀D,H1 D=none->∃W:Nat->Nat->List V->Hp->Prop,(∃m,W 0 m [] (upd H1 D (.lst []))) /\
 ∀i m acc H2,W i m acc H2->H2 D=some (.lst acc)/\((J.stop i H2/\Q (.ref D) H2)\/(J.go i H2/\∀x H3,J.fQ i H2 x H3->H3 D=some (.lst acc)/\g x (fB av n σ) H3 λfb H4 =>
  (fb.length=(fB av n σ).length/\∀j,j<av.length->fb[j]?=(fB av n σ)[j]?)/\tt fb H4 λb H5=>H5 D=some (.lst acc) /\
  if b=true then te fb H5 λy H6=>H6 D=some (.lst acc)/\acc.length<sizeLine/\∃m',m'<m/\W (i+1) m' (acc++[y]) (upd H6 D (.lst (acc++[y])))else ∃m',m'<m/\W (i+1) m' acc H5))
noncomputable def zf(wi:TI)(av:List (Str × Nat))(n:Nat)(g:TG)(tt:TT)(te:TE):TE:=λσ H Q=>wi σ H λJ H1=>MX J av n g tt te σ H1 Q
section
variable{X:Cx}{elt iter tg:Expr}{pos:Pos}{ifs:List Expr}{scope:Scope}{cl:List (Str × Addr)}{wi:TI}{tt:TT}{te:TE}{g:TG}
theorem MY(av:List (Str × Nat))(bI:List Str)(hc:X.calm=true)(hi:PI X tg iter wi)
  (hg:∀C s H fp,PG (cY X scope (av.map (·.1)++bI) cl C s H fp) tg g)
  (ht:∀C s H fp,oE (cY X scope (av.map (·.1)++bI) cl C s H fp) ifs tt) (he:∀C s H fp,PE (cY X scope (av.map (·.1)++bI) cl C s H fp) elt te)
  (kh:closureFor scope X.env=pure cl) (ki:ke X cl) (kj:kg cl (relabel scope X.env).names) (kl:j9 X scope cl av)
  (gC:∀y∈scope.names,y.2≠.cell) (fU:scope.kind=.function) (km:∀y∈scope.names,y.2=.local->scope.names.lookup y.1=some .local)
  (hs:∀x,foldedSetIterable iter X.env x=pure x:=by intro _;rfl) {pins:List (Addr × Obj)} {s:Shared} {σ:L2.St} {H:Hp} {Q:VK} {use:Option (Value->Sem Unit)} {bG:Pos} {Rf:Value->Shared->Prop} (I:Inv X pins σ H s) (h:zf wi av bI.length g tt te σ H Q)
  (Xk:∀(s':Shared) (H':Hp) (C Da:Addr) (m:Str->Option Value),Inv X pins σ H' s'->s'.heap.Ns C m->H' C=none->C≠X.env.locals->X.bR.heap.objs.size<=C->(∀x c,X.env.cells.lookup x=some c->c≠C)->(∀p∈X.pn++pins,p.1≠C)->C ∉ X.fs->Q (.ref Da) H' ->
   compPost (model X.prog X.w) X.A X.xe use Rf (.ref Da) C (.ok .next) s') :
  wpAny (model X.prog X.w) X.A (comprehension (.ListComp elt [⟨tg,iter,ifs,0⟩] scope pos) scope X.env bG (newList []) false (eval iter X.env) use) Rf X.xe s:=by
 have fy:=ki.all
 have DE:=kj.all
 refine wpAny_comprehension_free (use:=use) rfl hs kh fU km (aB (hi pins s σ H _ I h) λv s1 h1=>aB h1 λCY s2 h2=>?_)
 obtain⟨it,fp,tn,J,H2,e,I2,T,wb,f2,q⟩:=h2
 subst e
 refine wpAny_newList ?_
 refine wpAny_newFunctionEnv gC (λy hy=>nomatch hy) (λg1 DG zg=>?_) fU
 dsimp only at DG zg ⊢
 have hD:H2 s2.heap.objs.size=none:=I2.ay.fresh (aX _)
 obtain⟨W,⟨m0,w0⟩,turn⟩:=q s2.heap.objs.size hD
 generalize DH:s2.heap.push { cls:=.type "list",data:=.seq ([]:List Value).toArray }=g0 at DG zg ⊢
 have hCs:g0.objs.size=s2.heap.objs.size+1:=by rw[<-DH,nD]
 have MZ:s2.heap.objs.size≠g0.objs.size:=by omega
 have hle:s2.heap.objs.size<=g0.objs.size:=by omega
 have n9:∀b o,s2.heap.get? b=some o->b≠g0.objs.size:=λb o e=>eu (cJ (bC e) hle)
 have old:∀b o,s2.heap.get? b=some o->g1.get? b=some o:=λb o e=>zg.extBut b o (n9 b o e) (cN _ (DH ▸ cN _ e))
 have Xl:g1.get? s2.heap.objs.size=some { cls:=.type "list",data:=.seq ([]:List Value).toArray }:=zg.extBut _ _ MZ (cN _ (DH ▸ dA _ rfl))
 have M0:∀b∈fp,∃o,s2.heap.get? b=some o/\∀v,o.data≠.cell v:=T.obj _ _ wb
 have zh:=Xe (scope:=scope) (cl:=cl) (C:=g0.objs.size) I2 fU hle fy DE f2 M0 (av.map (·.1)++bI)
 have I4:Inv (cY X scope (av.map (·.1)++bI) cl g0.objs.size s2 H2 fp) [] (fB av bI.length σ) (upd H2 s2.heap.objs.size (.lst [])) { s2 with heap:=g1,toks:=s2.toks+([]:List (Str × Value)).length }:=by
  refine⟨zh,rfl,I2.bare,Un.laid old (aX _) hD,⟨_,DG,λi y v h1 h2 h3=>?_⟩,λy c e=>?_,?_,λy c e=>?_,λp hp=>absurd hp (by simp[cY]),I2.ay.laid old (aX _) ⟨iE _,[],0,.nil,Xl⟩,by simp[fB,cY]⟩
  ·by_cases DI:i<av.length
   case neg =>
    have fW:((av.map λp=>(σ[p.2]?).getD none)++aN bI.length none)[i]?=some (some v):=h2
    rw[nE (by simpa using DI),vw]at fW
    split at fW<;>cases fW
   case pos =>
    have gH:(av.map (·.1))[i]?=some y:=by
     have z:(av.map (·.1)++bI)[i]?=some y:=h1
     rwa [vx (by simpa using DI)]at z
    have fW:(av.map λp=>(σ[p.2]?).getD none)[i]?=some (some v):=by
     have z:((av.map λp=>(σ[p.2]?).getD none)++aN bI.length none)[i]?=some (some v):=h2
     rwa [vx (by simpa using DI)]at z
    rw[eZ]at gH fW
    cases hj:av[i]? with
    | none=>rw[hj]at gH;cases gH
    | some p =>
     rw[hj]at gH fW
     have ey:p.1=y:=dw gH
     have ev:(σ[p.2]?).getD none=some v:=dw fW
     obtain⟨hN,hk,M1,c,e1,e2⟩:=kl.at p (vy hj)
     obtain⟨m,hn,hl⟩:=I2.loc
     have es:σ[p.2]?=some (some v):=by
      cases z:σ[p.2]? with
      | none=>rw[z]at ev;cases ev
      | some o=>rw[z]at ev;exact congrArg some ev
     obtain⟨u,ru,lk⟩:=hl p.2 p.1 v hN es (hk.elim (λz=>.inr (.inl z)) λz=>.inr (.inr z))
     refine⟨u,ru,?_⟩
     rcases lk with⟨lk,_⟩ | ⟨_,c',e3,ic⟩
     ·rcases hk with hk | hk
      ·have:=hk.symm.trans lk;cases this
      ·have:=hk.symm.trans lk;cases this
     ·rw[e2]at e3
      cases e3
      subst ey
      obtain⟨oc,gB,DJ⟩:=ic
      exact .inr ⟨M1,c,e1,oc,old _ _ gB,DJ⟩
  ·obtain⟨v,o,ho,hd⟩:=I2.cell y c (fy y c e)
   exact⟨v,o,old _ _ ho,hd⟩
  ·show upd H2 _ _ g0.objs.size=none
   rw[aP (du MZ)]
   exact I2.ay.fresh hle
  ·obtain⟨v,o,ho,hd⟩:=I2.cell y c (fy y c e)
   rw[aP (eu (bC ho))]
   exact I2.gA y c (fy y c e)
 have fin:∀(s':Shared) (H':Hp) (aw:L2.St),Inv (cY X scope (av.map (·.1)++bI) cl g0.objs.size s2 H2 fp) [] aw H' s'->Q (.ref s2.heap.objs.size) H' ->
   compPost (model X.prog X.w) X.A X.xe use Rf (.ref s2.heap.objs.size) g0.objs.size (.ok .next) s':=by
  intro s' H' aw I' q'
  obtain⟨m,hn,_⟩:=I'.loc
  have u:=I'.base
  have Xm:H' g0.objs.size=none:=I'.free
  have IX:Inv X pins σ H' s':=I2.LJ (s':=s') (ch:=fp) I'.os ⟨u.keep,u.slot,u.free,u.there,u.e8,u.eR,u.eC⟩ I'.ay I'.bare λb hb=>by
   obtain⟨_,y1,y2,y3,y4,y5⟩:=f2 b hb
   exact⟨y3,y1,y4,y5⟩
  have M3:∀b,(∃o,s2.heap.get? b=some o)->b≠g0.objs.size:=λb ⟨o,e⟩=>n9 b o e
  refine Xk s' H' g0.objs.size s2.heap.objs.size m IX hn Xm (λz=>?_) (dY I2.sz hle) (λx c e z=>?_) (λp hp z=>?_) (λz=>?_) q'
  ·have h0:X.env.locals<s2.heap.objs.size:=I2.lt
   rw[<-z]at h0
   exact fN _ (cJ h0 hle)
  ·obtain⟨v,o,ho,_⟩:=I2.cell x c e
   exact M3 c ⟨o,ho⟩ z
  ·exact M3 p.1 ⟨_,(I2.pin p hp).1⟩ z
  ·exact I2.LB hle z
 have DK:∀(H':Hp),(∀b∈fp,H' b=none)->∀b∈fp,fu (cY X scope (av.map (·.1)++bI) cl g0.objs.size s2 H2 fp) [] H' b:=λH' hn b hb =>
  ⟨hn b hb,(zh.vV b hb).1,zh.rF b hb,.inl hb,(zh.vV b hb).2,λp hp=>absurd hp (by simp[cY])⟩
 have loop:codeAny (model X.prog X.w) X.A (.compLoop (.ListComp elt [⟨tg,iter,ifs,0⟩] scope pos) 0 (.ref it) (.ref s2.heap.objs.size) (compEnvC scope cl g0.objs.size X.env))
   (compPost (model X.prog X.w) X.A X.xe use Rf (.ref s2.heap.objs.size) g0.objs.size) { s2 with heap:=g1,toks:=s2.toks+([]:List (Str × Value)).length }:=by
  refine Xf (λn s'=>∃i acc H',Inv (cY X scope (av.map (·.1)++bI) cl g0.objs.size s2 H2 fp) [] (fB av bI.length σ) H' s'/\tn i s'.heap/\(∀b∈fp,H' b=none)/\W i n acc H') ?_ m0
   ⟨0,[],_,I4,T.keep _ _ _ wb λb hb o e=>old b o e,λb hb=>?_,w0⟩
  ·rintro n s' ⟨i,acc,H',I',gD,zi,w'⟩
   obtain⟨DL,⟨stop,qn⟩ | ⟨go,step⟩⟩:=turn i n acc H' w'
   ·refine aB (T.done (cY X scope (av.map (·.1)++bI) cl g0.objs.size s2 H2 fp) rfl rfl rfl hc i [] s' _ H' (λ_ _=>False) I' (DK H' zi) gD stop) λr t1 zz=>?_
    obtain⟨hr,I1⟩:=zz
    subst hr
    exact fin _ _ _ I1 qn
   ·refine aB (T.item (cY X scope (av.map (·.1)++bI) cl g0.objs.size s2 H2 fp) rfl rfl rfl hc i [] s' _ H' (λ_ _=>False) I' (DK H' zi) gD go) λr t1 zz=>?_
    obtain⟨u,hr,h4⟩:=zz
    subst hr
    refine aB h4 λ_ t2 zz=>?_
    obtain⟨x5,H5,I5,r5,y5,oj,C4⟩:=zz
    obtain⟨zj,Xn⟩:=step x5 H5 y5
    have C5:=I5.pinned (DK H5 C4) (T.obj _ _ oj)
    refine aB (hg _ _ _ _ _ t2 _ H5 x5 u _ C5 r5 Xn) λ_ t3 zz=>?_
    obtain⟨C6,H6,I6,⟨Xo,Xp⟩,Xq⟩:=zz
    have back:∀(s7:Shared) (H7:Hp) (DM:List V) (m7:Nat),Inv (cY X scope (av.map (·.1)++bI) cl g0.objs.size s2 H2 fp) ([]++v9 fp t2.heap) C6 H7 s7->W (i+1) m7 DM H7 ->
      ∃i acc H',Inv (cY X scope (av.map (·.1)++bI) cl g0.objs.size s2 H2 fp) [] (fB av bI.length σ) H' s7/\tn i s7.heap/\(∀b∈fp,H' b=none)/\W i m7 acc H':=λs7 H7 DM m7 I7 w7 =>
     ⟨i+1,DM,H7,(I7.wa).weak Xo.symm λj v z=>by
       by_cases hj:j<av.length
       ·rw[Xp j hj];exact z
       ·have z':((av.map λp=>(σ[p.2]?).getD none)++aN bI.length none)[j]?=some (some v):=z
        rw[nE (by simpa using hj),vw]at z'
        split at z'<;>(cases z'),
      T.keep _ _ _ oj λb hb o e=>(I7.pin (b,o) (eP _ (eP _ (yX hb e)))).1,λb hb=>by
       obtain⟨o,e,d⟩:=T.obj _ _ oj b hb
       exact(I7.pin (b,o) (eP _ (eP _ (yX hb e)))).2.1,w7⟩
    refine aB (ht _ _ _ _ _ t3 _ H6 _ I6 Xq) λok t4 zz=>?_
    obtain⟨H7,I7,hD7,q7⟩:=zz
    cases ok with
    | false =>
     obtain⟨m',hm,w7⟩:=(show ∃m',m'<n/\W (i+1) m' acc H7 from q7)
     exact⟨m',hm,back t4 H7 acc m' I7 w7⟩
    | true =>
     refine aB (he _ _ _ _ _ t4 _ H7 _ I7 q7) λy t5 zz=>?_
     obtain⟨v8,H8,I8,r8,Xr,Xs,m',hm,w8⟩:=zz
     exact aB (Mn _ t5 _ H8 (.ref s2.heap.objs.size) [v8] (.ref s2.heap.objs.size) [y] (λ_ H9=>H9=upd H8 s2.heap.objs.size (.lst (acc++[v8]))) I8 rfl (.cons r8 .nil) ⟨_,acc,v8,rfl,rfl,Xr,Xs,rfl⟩) λ_ t6 zz=>by
      obtain⟨_,H9,I9,_,e9⟩:=zz
      subst e9
      exact⟨m',hm,back t6 _ _ m' I9 w8⟩
  ·obtain⟨o,e,_⟩:=M0 b hb
   rw[aP (eu (bC e))]
   exact(f2 b hb).1
 exact codeAny_compStart_list loop (T.self _ 0 _ _ _ (T.keep _ _ _ wb λb hb o e=>old b o e) loop)
theorem Xt(av:List (Str × Nat))(bI:List Str)(hc:X.calm=true)(hi:PI X tg iter wi)
  (hg:∀C s H fp,PG (cY X scope (av.map (·.1)++bI) cl C s H fp) tg g)
  (ht:∀C s H fp,oE (cY X scope (av.map (·.1)++bI) cl C s H fp) ifs tt) (he:∀C s H fp,PE (cY X scope (av.map (·.1)++bI) cl C s H fp) elt te)
  (kh:closureFor scope X.env=pure cl) (ki:ke X cl) (kj:kg cl (relabel scope X.env).names) (kl:j9 X scope cl av)
  (gC:∀y∈scope.names,y.2≠.cell) (fU:scope.kind=.function) (km:∀y∈scope.names,y.2=.local->scope.names.lookup y.1=some .local)
  (hs:∀x,foldedSetIterable iter X.env x=pure x:=by intro _;rfl):PE X (.ListComp elt [⟨tg,iter,ifs,0⟩] scope pos) (zf wi av bI.length g tt te):=by
 intro pins s σ H Q I h
 rw[eval_ListComp]
 refine MY av bI hc hi hg ht he kh ki kj kl gC fU km hs I h λs' H' C Da m IX hn hC hL h1 h2 h3 h4 q'=>?_
 exact⟨m,hn,λh' sb=>⟨.ref Da,H',IX.turned (t':=s'.toks) (λb o hb e=>sb.extBut b o hb e) hC hL (.inr h1) h2 h3,rfl,q'⟩⟩
theorem Xu{i:Nat}{x:Str}{pos' apos:Pos}(hN:X.N.Nodup)(lY:X.N[i]?=some x)(hx:Loc X.env.scope x)(hf:X.fn x=true\/X.env.scope.names.lookup x=some .local)(av:List (Str × Nat))(bI:List Str)(hc:X.calm=true)(hi:PI X tg iter wi)
  (hg:∀C s H fp,PG (cY X scope (av.map (·.1)++bI) cl C s H fp) tg g)
  (ht:∀C s H fp,oE (cY X scope (av.map (·.1)++bI) cl C s H fp) ifs tt) (he:∀C s H fp,PE (cY X scope (av.map (·.1)++bI) cl C s H fp) elt te)
  (kh:closureFor scope X.env=pure cl) (ki:ke X cl) (kj:kg cl (relabel scope X.env).names) (kl:j9 X scope cl av)
  (gC:∀y∈scope.names,y.2≠.cell) (fU:scope.kind=.function) (km:∀y∈scope.names,y.2=.local->scope.names.lookup y.1=some .local)
  (oF:swapsWith (.ListComp elt [⟨tg,iter,ifs,0⟩] scope pos) (some (.Name x pos')) apos.line X.env=pure true) (hs:∀x,foldedSetIterable iter X.env x=pure x:=by intro _;rfl):PS X (.Assign [.Name x pos'] (.ListComp elt [⟨tg,iter,ifs,0⟩] scope pos) apos) (CV (zf wi av bI.length g tt te) (yU i)):=by
 intro pins s σ H D I h
 rw[exec_Assign_Name_used x pos' _ apos oF]
 refine wpAny_bind (wpAny_standAt (wpAny_bind ?_))
 have hh:zf wi av bI.length g tt te σ H λv H1=>D.nx (σ.set i (some v)) H1:=h
 show wpAny _ _ (comprehension (.ListComp elt [⟨tg,iter,ifs,0⟩] scope pos) scope X.env (firstIterPos [⟨tg,iter,ifs,0⟩] pos) (newList []) false (eval iter X.env) (some (assign (.Name x pos') X.env)) >>= λ_=>pure ()) _ _ _
 refine wpAny_bind (MY (use:=some (assign (.Name x pos') X.env)) (pos:=pos) av bI hc hi hg ht he kh ki kj kl gC fU km hs I hh λs' H' C Da m IX hn hC hL h1 h2 h3 h4 q'=>?_)
 obtain⟨oC,es,ep,Xv,M4,rest⟩:=id hn
 have IP:Inv X (pins++[(C,oC)]) σ H' s':=⟨IX.ok,IX.os,IX.bare,IX.base,IX.loc,IX.cell,IX.free,IX.gA,λp hp=>by
  rcases eA.mp hp with z | z
  ·exact IX.pin p (fO _ z)
  ·rcases eA.mp z with z | z
   ·exact IX.pin p (eP _ z)
   ·obtain rfl:=nL.mp z
    exact⟨Xv,hC,hL,h4,λv w=>by rw[M4]at w;cases w⟩,IX.ay,IX.len⟩
 refine aB (yV (X:=X) hN lY hx hf _ s' σ H' (.ref Da) (.ref Da) (λjq H2=>jq=σ.set i (some (.ref Da))/\H2=H') IP rfl ⟨rfl,rfl⟩) λ_ s2 zz=>?_
 obtain⟨jq,H2,I2,e1,e2⟩:=zz
 subst e1 e2
 have pC:=I2.pin (C,oC) (eP _ (eP _ (by simp)))
 refine⟨m,⟨oC,es,ep,pC.1,M4,rest⟩,λh' sb=>wpAny_pure (wpAny_pure ?_)⟩
 exact⟨σ.set i (some (.ref Da)),H2,(I2.wa).turned (t':=s2.toks) (λb o hb e=>sb.extBut b o hb e) hC hL (.inr h1) h2 h3,q'⟩
end
end L2
namespace L2
open PySem PySem.Spec PyProof.Rows
noncomputable def DN(lo st:Int)(n:Nat):It:=⟨λi _=>i<n,λi H x H'=>H'=H/\x=.int (lo+i*st),λi _=>n<=i⟩
theorem Xw{P:Program}{w:World}{K:PySem.W.Frag}{tg:Expr}(it:Addr)(lo c:Int)(n:Nat):Turn P w K tg (DN lo c n) [it] it (λi h=>IsRangeIter h it (lo+(i:Nat)*c) ((n:Int)-(i:Nat)) c) where
 mem:=by simp
 obj:=λi h st b hb=>by
  have e:b=it:=by simpa using hb
  subst e
  exact⟨_,st,λv z=>by
   have z':B6 _=Data.cell v:=z
   cases z'⟩
 keep:=λi h h' st k=>k it (by simp) _ st
 item:=by
  intro X hP hw hK hc i pins s σ H E I hf st hg
  subst hP hw hK
  obtain⟨f0,f1,f2,f3,f4,f5⟩:=hf it (by simp)
  have W:=Walks.range (prog:=X.prog) (w:=X.w) (I.ok.hd hc) it lo c n
  refine W.item i s _ _ hg st λv h' tk hv gD kk=>?_
  obtain⟨t,rfl⟩:=hv
  have I1:Inv X pins σ H { s with heap:=h',toks:=tk }:=I.turned (λb o hb e=>kk b o (by simpa using hb) e) f0 f1 f3 f4 f5
  exact⟨_,rfl,yW (s:={ s with heap:=h',toks:=tk }) (n:="range_iterator") gD rfl rfl (by decide) ⟨.int (lo+i*c),H,I1,⟨t,rfl⟩,⟨rfl,rfl⟩,gD,λb hb=>(hf b hb).1⟩⟩
 done:=by
  intro X hP hw hK hc i pins s σ H E I hf st hg
  subst hP hw hK
  obtain⟨f0,f1,f2,f3,f4,f5⟩:=hf it (by simp)
  exact wpAny_pyNext_range_end (I.ok.hd hc) st (by have:n<=i:=hg;omega) λh' eb=>⟨rfl,I.turned (t':=s.toks) (λb o hb e=>eb b o hb e) f0 f1 f3 f4 f5⟩
 self:=λ_ _ _ _ _ st h=>wpAny_pyIter_rangeiter st h
noncomputable def zk(a b c:Int):Prop:=(-(2 ^ 61)<=a/\a<2 ^ 61/\-(2 ^ 61)<=b/\b<2 ^ 61)/\((0<c/\c<2 ^ 29)\/c=-1)
theorem M5{a b c:Int}(h:zk a b c):0<=ik a b c/\ik a b c<=2 ^ 62:=by
 obtain⟨⟨h1,h2,h3,h4⟩,h5⟩:=h
 unfold ik
 rcases h5 with⟨h5,h6⟩ | rfl
 ·rw[if_pos h5]
  split
  ·have e1:0<=(b-a-1)/c:=Int.ediv_nonneg (by omega) (by omega)
   have e2:(b-a-1)/c<=b-a-1:=Int.ediv_le_self _ (by omega)
   omega
  ·omega
 ·rw[if_neg (by decide)]
  split
  ·have e:(a-b-1)/(-(-1:Int))=a-b-1:=by simp
   rw[e];omega
  ·omega
theorem Xx{a b c:Int}(h:zk a b c):Builtin.Range.small a b c=true:=by
 have z:=M5 h
 generalize hn:ik a b c=n at z
 obtain⟨⟨h1,h2,h3,h4⟩,h5⟩:=h
 unfold Builtin.Range.small
 rw[hn]
 simp only[Builtin.Range.rangeFitsLong,df,Lc,decide_eq_true_eq,beq_iff_eq]
 refine⟨⟨⟨⟨by omega,by omega⟩,by omega⟩,by omega⟩,.inr ?_⟩
 split<;>(simp only[df,decide_eq_true_eq];omega)
noncomputable def Xy(ta:TA):TI:=λσ H R=>ta σ H λvs H1=>∃a b c:Int,vs=[.int a,.int b,.int c]/\zk a b c/\R (DN a c (ik a b c).toNat) H1
section
variable{X:Cx}{tg:Expr}
theorem Xz{a b c:Expr}{ta:TA}{p pos:Pos}(hg:Gl X "range")(hm:X.mg "range"=none)(ha:PA X [a,b,c] ta)(hs:starEach [a,b,c] X.env=[(false,eval a X.env),(false,eval b X.env),(false,eval c X.env)]:=by rfl)
  (dB:starEach [b,c] X.env=[(false,eval b X.env),(false,eval c X.env)]:=by rfl):PI X tg (.Call (.Name "range" p) [a,b,c] [] pos) (Xy ta):=by
 intro pins s σ H R I h
 refine Call_ (j4 I hg hm boot_range (rj (aB (ha pos pins s σ H _ I h) λus s1 ⟨vs,H1,I1,r1,q1⟩=>?_) (by rw[hs,dB]) (by rw[dB];rfl)))
 obtain⟨i,j,k,e,hb,q⟩:=q1
 subst e
 cases r1 with
 | cons r rr =>
  cases rr with
  | cons r' rr =>
   cases rr with
   | cons r2 rr =>
    cases rr
    obtain⟨t,rfl⟩:=r
    obtain⟨t',rfl⟩:=r'
    obtain⟨t2,rfl⟩:=r2
    have hk:k≠0:=by have:=hb.2;omega
    have XA:k.natAbs<1073741824:=by have:=hb.2;omega
    refine call_range_3 hk ?_ (.inl (PyProof.noPylong_small XA))
    refine wpAny_pyIter_range (IsRange.new ..) (Xx hb) ?_
    have I2:Inv X pins σ H1 { s1 with heap:=s1.heap.push { cls:=.type "range",data:=.fields #[.int i t,.int j t',.int k t2] },toks:=s1.toks }:=I1.kept λb o e=>cN _ e
    refine⟨(s1.heap.push { cls:=.type "range",data:=.fields #[.int i t,.int j t',.int k t2] }).objs.size,[(s1.heap.push { cls:=.type "range",data:=.fields #[.int i t,.int j t',.int k t2] }).objs.size],_,_,H1,rfl,
     I2.kept (t':=s1.toks) λb o e=>cN _ e,Xw _ i k (ik i j k).toNat,?_,λb ju=>?_,q⟩
    ·have e1:i+((0:Nat):Int)*k=i:=by simp
     have e2:(((ik i j k).toNat:Nat):Int)-((0:Nat):Int)=ik i j k:=by have:=(M5 hb).1;omega
     show IsRangeIter _ _ (i+((0:Nat):Int)*k) ((((ik i j k).toNat:Nat):Int)-((0:Nat):Int)) k
     rw[e1,e2]
     exact dA _ rfl
    ·have e:b=(s1.heap.push { cls:=.type "range",data:=.fields #[.int i t,.int j t',.int k t2] }).objs.size:=by simpa using ju
     subst e
     exact I2.oi (aX _) (I2.ay.fresh (aX _))
end
end L2
namespace L2
open PySem PySem.Spec PyProof.Rows
noncomputable def DO(h:Heap)(a T:Addr)(cls fl:Value):Prop :=
 ∃oe vs oT ts,h.get? a=some oe/\oe.cls=cls/\oe.dict=none/\oe.data=.fields vs/\vs[1]?=some (.ref T)/\T≠a/\h.get? T=some oT/\oT.data=.fields ts/\ts[3]?=some fl
noncomputable abbrev jv(h:Heap)(a T:Addr)(cls:Value):Prop:=DO h a T cls .none
theorem XB(o:Obj)(f:Array Value->Array Value):(o.mapFields f).dict=o.dict:=by
 obtain⟨c,d,dt,sl⟩:=o
 cases dt<;>rfl
section
variable{M:Model}{A:Around}{E:Value->Shared->Prop}{s:Shared}{base:Heap}{env:Env}{outer:List Env}{L a T:Addr}{cls:Value}{oe:Obj}{vs:Array Value}{Q:Unit->Shared->Prop}
structure Ent(fs:List Addr)(h h':Heap)(a T:Addr)(oe:Obj)(L:Addr):Prop where
 new:h.get? T=none
 ne:T≠a
 keep:∀b o,b≠a->b ∉ fs->h.get? b=some o->h'.get? b=some o
 slot:∀b o,b≠a->h.get? b=some o->∃sl,h'.get? b=some { o with slots:=sl }
 exc:h'.get? a=some (oe.mapFields λz=>z.setIfInBounds 1 (.ref T))
 ent:∃oT ts,h'.get? T=some oT/\oT.data=.fields ts/\ts[3]?=some (rawInt L)
theorem M6{head:Value}{XC:Bool}(dE:A.frames=some (env::outer))(hl:s.heap.FunFrames base (env::outer))(hf:env.frame=some L)(he:s.heap.get? a=some oe)(hd:oe.data=.fields vs)(iS:1<vs.size)
  (na:a ∉ (env::outer).filterMap (·.frame)) (k:∀h' T',Ent ((env::outer).filterMap (·.frame)) s.heap h' a T' oe L->Q () { s with heap:=h' }) :
  wpAny M A (do let x<-frameOf env;let pl<-entryPlaceOf L XC;let b<-EntryCells.newEntry head x .none (rawInt L) .none pl;setField (.ref a) 1 b) Q E s:=by
 refine wpAny_bind (wpAny_frameOf_fun dE hl hf λg1 so=>wpAny_bind (wpAny_entryPlaceOf λpl ip=>?_))
 unfold EntryCells.newEntry newFields
 have e1:g1.get? a=some oe:=(so.2.1 a na).trans he
 refine wpAny_bind (wpAny_newObj_type ?_ (ip.sizeOk5 _ _ _ _ _))
 generalize M7:({ cls:=.type "traceback",dict:=none,data:=.fields ([head,dr L,.none,rawInt L,.none]++(if pl.isEmpty then aN 6 je else pl)).toArray }:Obj)=te
 have e2:(g1.push te).get? a=some oe:=cN te e1
 have XD:te.data=.fields ([head,dr L,.none,rawInt L,.none]++(if pl.isEmpty then aN 6 je else pl)).toArray:=by rw[<-M7]
 have nf:te.isFreed=false:=by rw[<-M7];rfl
 refine wpAny_setField e2 hd iS ?_
 have d3:=vA hd λz=>z.setIfInBounds 1 (dr g1.objs.size)
 have nT:g1.objs.size≠a:=B5 (bC e1)
 refine k _ g1.objs.size ⟨?_,nT,λb o hb hz q=>?_,λb o hb q=>?_,yx _ e2 (Cj d3),⟨te,_,?_,XD,?_⟩⟩
 ·cases q:s.heap.get? g1.objs.size with
  | none=>rfl
  | some o=>obtain⟨sl,z⟩:=so.2.2 _ _ q;exact absurd (bC z) (fN _)
 ·rw[nF _ _ (du hb)]
  exact cN te ((so.2.1 b hz).trans q)
 ·obtain⟨sl,z⟩:=so.2.2 b o q
  refine⟨sl,?_⟩
  rw[nF _ _ (du hb)]
  exact cN te z
 ·rw[nF _ _ (du nT)]
  exact dA g1 nf
 ·first | (simp;done) | (rcases ip with rfl | ⟨_,_,_,_,_,_,_,rfl⟩<;>simp)
structure M8(fs Z:List Addr)(h h':Heap)(a T:Addr)(cls:Value):Prop where
 new:h.get? T=none
 keep:∀b o,b ∉ Z->b ∉ fs->h.get? b=some o->h'.get? b=some o
 slot:∀b o,b ∉ Z->h.get? b=some o->∃sl,h'.get? b=some { o with slots:=sl }
 wz:jv h' a T cls
theorem M9{fl:Value}(tr:DO s.heap a T cls fl)(k:∀h',(∀b o,b≠T->s.heap.get? b=some o->h'.get? b=some o)->jv h' a T cls->Q () { s with heap:=h' }):wpAny M A (setFlight (.ref a) none) Q E s:=by
 obtain⟨oe,vs,oT,ts,h1,h2,h3,h4,h5,h6,h7,h8,h9⟩:=tr
 have sz:3<ts.size:=(Ld.mp h9).1
 unfold setFlight
 refine wpAny_bind (wpAny_field h1 h4 h5 ?_)
 rw[if_pos (by simp)]
 refine wpAny_setField h7 h8 sz (k _ (λb o hb q=>(nF _ _ (du hb)).trans q) ?_)
 have d:=vA h8 λz=>z.setIfInBounds 3 ((none:Option Addr).elim je λf=>rawInt f)
 exact⟨oe,vs,_,_,(nF _ _ h6).trans h1,h2,h3,h4,h5,h6,yx _ h7 (Cj d),d,by simp[sz]⟩
theorem Ent.fin{fs:List Addr}{h h':Heap}{a T L:Addr}{oe:Obj}{vs:Array Value}(e:Ent fs h h' a T oe L)(hd:oe.data=.fields vs)(iS:1<vs.size)(XE:oe.dict=none):DO h' a T oe.cls (rawInt L):=by
 obtain⟨oT,ts,e1,e2,e3⟩:=e.ent
 exact⟨_,_,oT,ts,e.exc,Obj.cls_mapFields _ _,by rw[XB];exact XE,vA hd _,by simp[iS],e.ne,e1,e2,e3⟩
theorem XF(dE:A.frames=some (env::outer))(hl:s.heap.FunFrames base (env::outer))(hf:env.frame=some L)(na:a ∉ (env::outer).filterMap (·.frame))(tr:jv s.heap a T cls)
  (k:∀h' T',M8 ((env::outer).filterMap (·.frame)) [a,T] s.heap h' a T' cls->Q () { s with heap:=h' }):wpAny M A (noteFrame (.ref a) env) (λ_ iP=>wpAny M A (setFlight (.ref a) none) Q E iP) E s:=by
 obtain⟨oe,vs,oT,ts,h1,h2,h3,h4,h5,h6,h7,h8,h9⟩:=tr
 have s1:1<vs.size:=(Ld.mp h5).1
 have s3:3<ts.size:=(Ld.mp h9).1
 unfold noteFrame
 simp only[hf]
 refine wpAny_bind (wpAny_field h1 h4 h5 ?_)
 rw[if_pos (by simp)]
 refine wpAny_bind (wpAny_field h7 h8 h9 ?_)
 rw[if_neg (by simp[rawInt])]
 refine wpAny_bind (wpAny_setField h7 h8 s3 ?_)
 generalize hg:s.heap.update T (Obj.mapFields λz=>z.setIfInBounds 3 je)=g
 have oG:∀b,b≠T->g.get? b=s.heap.get? b:=λb hb=>by rw[<-hg];exact nF _ _ (du hb)
 have bT:∀b o,s.heap.get? b=some o->(∀ws,o.data≠.fields ws)->b≠T:=λb o q hn z=>by subst z;rw[h7]at q;cases q;exact hn ts h8
 have gT:∃XG,g.get? T=some XG:=⟨_,by rw[<-hg];exact yx _ h7 (Cj (vA h8 _))⟩
 refine M6 (s:={ s with heap:=g }) dE (hl.of_keeps λb o q hn=>⟨o,(oG b (bT b o q hn)).trans q,rfl⟩) hf ((oG a (du h6)).trans h1) h4 s1 na λh' T' en=>?_
 have XH:T'≠T:=λz=>by subst z;obtain⟨o,q⟩:=gT;rw[en.new]at q;cases q
 refine M9 (s:={ s with heap:=h' }) (h2 ▸ en.fin h4 s1 h3) λDP kp DQ=>?_
 refine k DP T' ⟨(oG T' XH).symm.trans en.new,λb o hz hb q=>?_,λb o hz q=>?_,DQ⟩
 ·have z1:b≠a:=λz=>hz (by simp[z])
  have z2:b≠T:=λz=>hz (by simp[z])
  have z3:b≠T':=λz=>by have:=en.new;rw[<-z,oG b z2,q]at this;cases this
  exact kp b o z3 (en.keep b o z1 hb ((oG b z2).trans q))
 ·have z1:b≠a:=λz=>hz (by simp[z])
  have z2:b≠T:=λz=>hz (by simp[z])
  have z3:b≠T':=λz=>by have:=en.new;rw[<-z,oG b z2,q]at this;cases this
  obtain⟨sl,r⟩:=en.slot b o z1 ((oG b z2).trans q)
  exact⟨sl,kp b _ z3 r⟩
theorem XI{h1:Heap}{args:List Value}(dE:A.frames=some (env::outer))(hl:s.heap.FunFrames base (env::outer))(hf:env.frame=some L)(hx:Le s.heap h1 a cls args)
  (k:∀h' T',M8 ((env::outer).filterMap (·.frame)) [] s.heap h' a T' cls->Q () { s with heap:=h' }):wpAny M A (noteFrame (.ref a) env) (λ_ iP=>wpAny M A (setFlight (.ref a) none) Q E iP) E { s with heap:=h1 }:=by
 obtain⟨t,e1,_,_⟩:=hx.there
 have na:a ∉ (env::outer).filterMap (·.frame):=λhb=>by obtain⟨_,o,ho,_⟩:=hl.mem hb;rw[hx.new]at ho;cases ho
 unfold noteFrame
 simp only[hf]
 refine wpAny_bind (wpAny_field (s:={ s with heap:=h1 }) e1 rfl (x:=.none) (by rfl) ?_)
 rw[if_neg (by decide)]
 refine M6 (s:={ s with heap:=h1 }) dE (hl.of_keeps λb o q _=>⟨o,hx.keeps b o q,rfl⟩) hf e1 rfl (by simp) na λh' T' en=>?_
 refine M9 (s:={ s with heap:=h' }) (en.fin rfl (by simp) rfl) λDP kp DQ=>?_
 have ba:∀b o,s.heap.get? b=some o->b≠a:=λb o q z=>by rw[z,hx.new]at q;cases q
 have bT:∀b o,s.heap.get? b=some o->b≠T':=λb o q z=>by have:=hx.keeps b o q;rw[z,en.new]at this;cases this
 refine k DP T' ⟨?_,λb o _ hb q=>kp b o (bT b o q) (en.keep b o (ba b o q) hb (hx.keeps b o q)),λb o _ q=>?_,DQ⟩
 ·cases q:s.heap.get? T' with
  | none=>rfl
  | some o=>exact absurd rfl (bT T' o q)
 ·obtain⟨sl,r⟩:=en.slot b o (ba b o q) (hx.keeps b o q)
  exact⟨sl,kp b _ (bT b o q) r⟩
end
end L2
namespace L2
open PySem PySem.Spec PyProof.Rows
theorem cX.there{P:Program}{w:World}{H:Hp}{h:Heap}{a:Addr}{o:HO}(x:cX P w H h a o):∃u,h.get? a=some u:=by
 cases o with
 | lst xs=>obtain⟨_,_,_,_,e⟩:=x;exact⟨_,e⟩
 | tup xs=>obtain⟨_,_,_,o,e,_⟩:=x;exact⟨o,e⟩
 | dK cO=>obtain⟨_,_,_,_,o,_,_,e,_⟩:=x;exact⟨_,e⟩
 | dT cO=>obtain⟨_,_,_,_,o,_,_,e,_⟩:=x;exact⟨_,e⟩
 | set S n=>obtain⟨o,_,_,_,e,_⟩:=x;exact⟨_,e⟩
 | ins C dx fs=>obtain⟨_,_,_,e,_⟩:=x;exact⟨_,e⟩
 | own y=>exact x
 | xd fs=>obtain⟨_,⟨_,_,_,e,_⟩,_⟩:=x;exact⟨_,e⟩
 | vS lo hi=>obtain⟨_,_,_,e⟩:=x;exact⟨_,e⟩
 | bQ ob u=>obtain⟨e,_⟩:=x;exact⟨_,e⟩
 | cK ps=>exact⟨_,show h.get? a=some _ from x.1⟩
 | met f y=>exact⟨_,show h.get? a=some _ from x⟩
 | ext φ=>obtain⟨_,e,_⟩:=x;exact e
theorem bZ.none{P:Program}{w:World}{H:Hp}{h:Heap}{a:Addr}(x:bZ P w H h)(e:h.get? a=.none):H a=.none:=by
 cases q:H a with
 | none=>rfl
 | some u=>obtain⟨o,z⟩:=(x a u q).there;rw[e]at z;cases z
structure Apart(X:Cx)(pins:List (Addr × Obj))(H:Hp)(b:Addr):Prop where
 old:X.bR.heap.get? b=none
 free:H b=none
 loc:b≠X.env.locals
 cell:∀x c,X.env.cells.lookup x=some c->c≠b
 pin:∀p∈X.pn++pins,p.1≠b
 fr:b ∉ cP X.stack
section
variable{X:Cx}{pins:List (Addr × Obj)}{σ:St}{H H':Hp}{s:Shared}{a T b:Addr}{cls:Value}{M:Model}{Q:Unit->Shared->Prop}{E:Value->Shared->Prop}{h':Heap}
theorem XJ(I:Inv X pins σ H s)(hb:b∈cP X.stack):∃o,s.heap.get? b=some o/\∀vs,o.data≠.fields vs:=(I.stack.mem hb).2
theorem Inv.old(I:Inv X pins σ H s)(hex:X.ex=[])(e:s.heap.get? b=none):X.bR.heap.get? b=none:=by
 cases q:X.bR.heap.get? b with
 | none=>rfl
 | some o=>obtain⟨o',z⟩:=I.base.there b o q (by rw[hex];simp);rw[e]at z;cases z
theorem Inv.apart(I:Inv X pins σ H s)(hex:X.ex=[])(e:s.heap.get? b=none)(n:H' b=none):Apart X pins H' b where
 old:=I.old hex e
 free:=n
 loc:=λz=>by obtain⟨m,⟨o,_,_,ho,_⟩,_⟩:=I.loc;rw[z,ho]at e;cases e
 cell:=λx c hc z=>by obtain⟨v,o,ho,_⟩:=I.cell x c hc;rw[z,e]at ho;cases ho
 pin:=λp hp z=>by have:=(I.pin p hp).1;rw[z,e]at this;cases this
 fr:=λhb=>by obtain⟨o,ho,_⟩:=XJ I hb;rw[e]at ho;cases ho
theorem Na(I:Inv X pins σ H s)(cn:X.stack=X.env::X.outer)(hex:X.ex=[])(hf:X.env.frame=some X.env.locals)(Z:List Addr)(hZ:∀b∈Z,X.bR.heap.get? b=none/\H b=none)
  (keep:∀b o,b ∉ Z->b ∉ cP X.stack->s.heap.get? b=some o->h'.get? b=some o) (slots:∀b o,b ∉ Z->s.heap.get? b=some o->∃sl,h'.get? b=some { o with slots:=sl }) :
  Un (cP X.outer) [] X.iK H X.bR.heap h'/\bZ X.prog X.w H h':=by
 have oH:∀b o,X.bR.heap.get? b=some o->b ∉ Z:=λb o e z=>by rw[(hZ b z).1]at e;cases e
 have sub:∀b,b∈cP X.stack->b=X.env.locals\/b∈cP X.outer:=λb hb=>by
  rw[cn]at hb
  unfold cP at hb
  rw[q9,hf]at hb
  exact bM.mp hb
 have sup:∀b,b∈cP X.outer->b∈cP X.stack:=λb hb=>by
  rw[cn]
  unfold cP
  rw[q9,hf]
  exact jT _ hb
 have rG:∀b o,X.bR.heap.get? b=some o->b≠X.env.locals:=λb o e=>eu (cJ (bC e) I.ok.above)
 have nx:∀b:Addr,b ∉ X.ex:=λb=>by rw[hex];simp
 refine⟨⟨λb o e n hb _=>?_,λb o e n hb _=>?_,λb o e n _=>I.base.free b o e n (nx b),λb o e _=>?_,I.base.e8,I.base.eR,I.base.eC⟩,λb ob e=>?_⟩
 ·exact keep b o (oH b o e) (λz=>(sub b z).elim (rG b o e) hb) (I.base.keep b o e n hb (nx b))
 ·obtain⟨sl,e1⟩:=I.base.slot b o e n hb (nx b)
  exact(slots b _ (oH b o e) e1).imp λsl h=>h
 ·obtain⟨o',e1⟩:=I.base.there b o e (nx b)
  exact(slots b o' (oH b o e) e1).elim λsl q=>⟨_,q⟩
 ·refine(I.ay b ob e).cT (λc u hc q=>keep c u (λz=>?_) (λz=>?_) q) (λ_ q=>q) (λ_ _ q=>q) λ_ _ q=>q
  ·have n:=(hZ c z).2
   rcases hc with rfl | hc
   ·rw[n]at e;cases e
   ·rw[n]at hc;cases hc
  ·have n:=I.yN c z
   rcases hc with rfl | hc
   ·rw[n]at e;cases e
   ·rw[n]at hc;cases hc
structure Nb(X:Cx)(H:Hp)(h':Heap)(a T:Addr)(cls:Value):Prop where
 un:Un (cP X.outer) [] X.iK H X.bR.heap h'
 ay:bZ X.prog X.w H h'
 wz:jv h' a T cls
 a0:X.bR.heap.get? a=none
 a1:H a=none
 t0:X.bR.heap.get? T=none
 t1:H T=none
theorem XM(I:Inv X pins σ H s)(cn:X.stack=X.env::X.outer)(hex:X.ex=[])(hf:X.env.frame=some X.env.locals)(tr:jv s.heap a T cls)(pa:Apart X pins H a)(pT:Apart X pins H T)
  (hQ:∀h' T',Nb X H h' a T' cls->Q () { s with heap:=h' }):wpAny M X.A (leaving X.env (.ref a)) Q E s:=by
 have hZ:∀b∈[a,T],X.bR.heap.get? b=none/\H b=none:=λb hb=>by
  rcases bM.mp hb with rfl | hb
  ·exact⟨pa.old,pa.free⟩
  ·rw[nL.mp hb];exact⟨pT.old,pT.free⟩
 have na:a ∉ (X.env::X.outer).filterMap (·.frame):=by have:=pa.fr;rw[cn]at this;exact this
 refine wpAny_bind (XF (base:=X.base) (by rw[I.ok.frames,cn]) (cn ▸ I.stack) hf na tr λh' T' st=>?_)
 have kp:∀b o,b ∉ [a,T]->b ∉ cP X.stack->s.heap.get? b=some o->h'.get? b=some o:=λb o hz hb q=>st.keep b o hz (by rw[cn]at hb;exact hb) q
 obtain⟨un,ay⟩:=Na (h':=h') I cn hex hf [a,T] hZ kp st.slot
 exact hQ h' T' ⟨un,ay,st.wz,pa.old,pa.free,I.old hex st.new,I.ay.none st.new⟩
theorem XN{h1:Heap}{args:List Value}(I:Inv X pins σ H s)(cn:X.stack=X.env::X.outer)(hex:X.ex=[])(hf:X.env.frame=some X.env.locals)(hx:Le s.heap h1 a cls args)
  (hQ:∀h' T',Nb X H h' a T' cls->Q () { s with heap:=h' }):wpAny M X.A (leaving X.env (.ref a)) Q E { s with heap:=h1 }:=by
 refine wpAny_bind (XI (base:=X.base) (by rw[I.ok.frames,cn]) (cn ▸ I.stack) hf hx λh' T' st=>?_)
 have kp:∀b o,b ∉ ([]:List Addr)->b ∉ cP X.stack->s.heap.get? b=some o->h'.get? b=some o:=λb o hz hb q=>st.keep b o hz (by rw[cn]at hb;exact hb) q
 obtain⟨un,ay⟩:=Na (h':=h') I cn hex hf [] (λb hb=>absurd hb (by simp)) kp st.slot
 exact hQ h' T' ⟨un,ay,st.wz,I.old hex hx.new,I.ay.none hx.new,I.old hex st.new,I.ay.none st.new⟩
end
noncomputable def iV(P:Program)(w:World):dH:=λouter H s E e s'=>∃a T cls H',e=.ref a/\s'.os=s.os/\AllBare s'.gens/\Un (cP outer) [] H H' s.heap s'.heap/\bZ P w H' s'.heap/\jv s'.heap a T cls /\
 s.heap.get? a=none/\H' a=none/\s.heap.get? T=none/\H' T=none/\E cls none H'
section
variable{X:Cx}{pins:List (Addr × Obj)}{σ:St}{H H':Hp}{s:Shared}{a T b:Addr}{cls:Value}{M:Model}{Q:Unit->Shared->Prop}{E:Value->Shared->Prop}{h':Heap}
theorem Inv.dH4(I:Inv X pins σ H s)(hex:X.ex=[])(Z:List Addr)(hZ:∀b∈Z,Apart X pins H b)
  (keep:∀b o,b ∉ Z->b ∉ cP X.stack->s.heap.get? b=some o->h'.get? b=some o) (slots:∀b o,b ∉ Z->s.heap.get? b=some o->∃sl,h'.get? b=some { o with slots:=sl }) (g':Array GenState) (t':Nat) (d':Drawn) (hg:AllBare g') :
  Inv X pins σ H { s with heap:=h',gens:=g',toks:=t',drawn:=d' }:=by
 have nx:∀b:Addr,b ∉ X.ex:=λb=>by rw[hex];simp
 have any:=slots
 have oH:∀b o,X.bR.heap.get? b=some o->b ∉ Z:=λb o e z=>by rw[(hZ b z).old]at e;cases e
 have rG:∀b o,X.bR.heap.get? b=some o->b≠X.env.locals:=λb o e=>eu (cJ (bC e) I.ok.above)
 have cz:∀x c,X.env.cells.lookup x=some c->c ∉ Z:=λx c e z=>(hZ c z).cell x c e rfl
 have cellK:∀x c,X.env.cells.lookup x=some c->∀v,s.heap.IsCell c v->h'.IsCell c v:=λx c e v zz=>by
  obtain⟨o,ho,hd⟩:=zz
  obtain⟨sl,q⟩:=any c o (cz x c e) ho
  exact⟨_,q,hd⟩
 have Nc:∀b,b ∉ X.fs->b≠X.env.locals->b ∉ cP X.stack:=λb h1 h2 h3=>(bM.mp (I.vX b h3)).elim h2 h1
 refine⟨I.ok,I.os,hg,⟨λb o e n hb hx=>?_,λb o e n hb hx=>?_,I.base.free,λb o e hx=>?_,I.base.e8,I.base.eR,I.base.eC⟩,?_,λx c e=>?_,I.free,I.gA,λp hp=>?_,λb ob e=>?_,I.len⟩
 ·exact keep b o (oH b o e) (Nc b hb (rG b o e)) (I.base.keep b o e n hb hx)
 ·obtain⟨sl,e1⟩:=I.base.slot b o e n hb hx
  obtain⟨vT,e2⟩:=any b _ (oH b o e) e1
  exact⟨vT,e2⟩
 ·obtain⟨o',e1⟩:=I.base.there b o e hx
  obtain⟨sl,e2⟩:=any b o' (oH b o e) e1
  exact⟨_,e2⟩
 ·obtain⟨m,hn,hl⟩:=I.loc
  obtain⟨o,es,ep,ho,hd,r⟩:=id hn
  obtain⟨sl,q⟩:=slots _ o (λz=>(hZ _ z).loc rfl) ho
  refine⟨m,⟨_,es,ep,q,hd,r⟩,λi x v e1 e2 e3=>?_⟩
  obtain⟨u,r,l⟩:=hl i x v e1 e2 e3
  refine⟨u,r,?_⟩
  rcases l with l | ⟨k,c,e,z⟩
  ·exact .inl l
  ·exact .inr ⟨k,c,e,cellK x c e _ z⟩
 ·obtain⟨v,z⟩:=I.cell x c e
  exact⟨v,cellK x c e v z⟩
 ·obtain⟨e,n,ne,nf,d⟩:=I.pin p hp
  exact⟨keep p.1 p.2 (λz=>(hZ _ z).pin p hp rfl) (Nc _ nf ne) e,n,ne,nf,d⟩
 ·refine(I.ay b ob e).cT (λc u hc q=>keep c u (λz=>?_) (λz=>?_) q) (λ_ q=>q) (λ_ _ q=>q) λ_ _ q=>q
  ·have n:=(hZ c z).free
   rcases hc with rfl | hc
   ·rw[n]at e;cases e
   ·rw[n]at hc;cases hc
  ·have n:=I.yN c z
   rcases hc with rfl | hc
   ·rw[n]at e;cases e
   ·rw[n]at hc;cases hc
end
end L2
namespace L2
open PySem PySem.W PySem.Spec PySem.Calls PyProof.Rows
section
variable{prog:Program}{w:World}{A:Around}{E:Value->Shared->Prop}{s:Shared}{K:Frag}{x D:Addr}{ox:Obj}{XO:Option Obj}
end
end L2
namespace L2
open PySem PySem.W PySem.Spec PySem.Calls PyProof.Rows
section
variable{prog:Program}{w:World}{A:Around}{E:Value->Shared->Prop}{s:Shared}{K:Frag}{x D:Addr}{ox:Obj}{XO:Option Obj}
structure XQ(K:Frag)(C:Addr):Prop where
 cls:(clsIn K C).isSome=true
 ga:findIn K (.ref C) "__getattribute__"=some (some (.builtin "BaseException.__getattribute__"))
 gt:findIn K (.ref C) "__getattr__"=some none
 ca:findIn K (.ref C) "__class__"=some (some (.builtin "object.__class__"))
 hn:specialIn K (.builtin "object.__class__") "__get__"=some (some (.builtin "getset_descriptor.__get__"))
 tk:takesIn K (.builtin "object.__class__")=some true
 mo:mroIn K C (.type "object")=some true
 mb:mroIn K C (.type "BaseException")=some true
noncomputable def XR(a C:Addr)(h:Heap):Prop:=∃o,h.get? a=some o/\o.cls=.ref C/\notCls o=true/\o.dict=none
end
end L2
namespace L2
open PySem PySem.Spec PyProof.Rows
section
variable{X:Cx}{pins:List (Addr × Obj)}{σ:St}{H:Hp}{s:Shared}{h':Heap}{its:List Addr}{T:Addr}{o:HO}{t':Nat}
theorem Inv.rT(I:Inv X pins σ H s)(k:∀b o,b ∉ its->s.heap.get? b=some o->h'.get? b=some o)(hf:∀b∈its,fu X pins H b):Inv X pins σ H { s with heap:=h',toks:=t' }:=by
 have lJ:∀b u,H b=some u->b ∉ its:=λb u e z=>by have:=(hf b z).1;rw[this]at e;cases e
 refine I.step (g':=s.gens) (d':=s.drawn) (ch:=its) (λb hb=>?_) (λb o _ _ hc e _=>k b o hc e) (λb o _ _ hc e _=>⟨o.slots,k b o hc e⟩) (λ_ _ _ _ n=>n)
  (λb o hc e=>⟨o,k b o hc e⟩) (λ_ _ e=>e) (λ_ _ _ e=>e) (λb ps e=>⟨#[],by rw[e];simp⟩) (λm hm=>?_) (λb u e=>?_) I.bare
 ·obtain⟨_,h1,_,h2,h3,h4⟩:=hf b hb
  exact⟨h2,h1,h3,h4⟩
 ·obtain⟨o,es,ep,ho,r⟩:=hm
  exact⟨o,es,ep,k _ o (λz=>(hf _ z).2.1 rfl) ho,r⟩
 ·refine(I.ay b u e).cT (λc v hc q=>k c v ?_ q) (λ_ q=>q) (λ_ _ q=>q) λ_ _ q=>q
  rcases hc with z | z
  ·rw[z];exact lJ b u e
  ·exact lJ c _ z
theorem Inv.DR(I:Inv X pins σ H s)(k:∀b o,b ∉ its->s.heap.get? b=some o->h'.get? b=some o)(hf:∀b∈its,fu X pins H b)(hT:s.heap.objs.size<=T)(new:cX X.prog X.w (upd H T o) h' T o) :
  Inv X pins σ (upd H T o) { s with heap:=h',toks:=t' }:=by
 have lJ:∀b u,H b=some u->b ∉ its:=λb u e z=>by have:=(hf b z).1;rw[this]at e;cases e
 have fT:H T=none:=I.ay.fresh hT
 have neT:∀b u,H b=some u->b≠T:=λb u e z=>by rw[z,fT]at e;cases e
 have XS:∀b u,s.heap.get? b=some u->b≠T:=λb u e z=>absurd (cJ (bC e) hT) (by rw[z];exact fN _)
 refine I.step (g':=s.gens) (d':=s.drawn) (ch:=its) (λb hb=>?_) (λb o _ _ hc e _=>k b o hc e) (λb o _ _ hc e _=>⟨o.slots,k b o hc e⟩) (λb u _ e n=>by rw[aP (XS b u e)];exact n)
  (λb o hc e=>⟨o,k b o hc e⟩) (λb _ e=>by rw[aP (neT b _ e)];exact e) (λb _ _ e=>by rw[aP (neT b _ e)];exact e) (λb ps e=>⟨#[],by rw[aP (neT b _ e),e];simp⟩) (λm hm=>?_) (λb u e=>?_) I.bare
 ·obtain⟨_,h1,_,h2,h3,h4⟩:=hf b hb
  exact⟨h2,h1,h3,h4⟩
 ·obtain⟨o,es,ep,ho,r⟩:=hm
  exact⟨o,es,ep,k _ o (λz=>(hf _ z).2.1 rfl) ho,r⟩
 ·by_cases hb:b=T
  ·subst hb;rw[bN]at e;cases e;exact new
  ·rw[aP hb]at e
   refine(I.ay b u e).cT (λc v hc q=>k c v ?_ q) (λc q=>by rw[aP (neT c _ q)];exact q) (λc _ q=>by rw[aP (neT c _ q)];exact q) λc _ q=>by rw[aP (neT c _ q)];exact q
   rcases hc with z | z
   ·rw[z];exact lJ b u e
   ·exact lJ c _ z
noncomputable def DS(K:PySem.W.Frag)(a b:Addr):It :=
 ⟨λi H=>∃xs ys x y,bf K H a xs/\bf K H b ys/\xs[i]?=some x/\ys[i]?=some y,
  λi H v H'=>∃T x y,v=.ref T/\H T=none/\H'=upd H T (.tup [x,y])/\(∀xs,bf K H a xs->xs[i]?=some x)/\∀ys,bf K H b ys->ys[i]?=some y,
  λi H=>∃xs ys,bf K H a xs/\bf K H b ys/\(xs.length<=i\/ys.length<=i)⟩
theorem lZ{K:PySem.W.Frag}{a c:Addr}{xs:List V}(hk:X.K=K)(I:Inv X pins σ H s)(h:bf K H a xs)(hf:fu X pins H c)(ho:∃o,s.heap.get? c=some o/\o.cls≠.type "list"):a≠c:=by
 subst hk
 obtain⟨its,rv,p,hz⟩:=I.list h
 obtain⟨o,e,d⟩:=ho
 obtain⟨o',e',c',_⟩:=p.isList
 intro z
 subst z
 rw[e]at e';cases e'
 exact d c'
theorem XT{P:Program}{w:World}{K:PySem.W.Frag}{elts:List Expr}{k:Nat}{pos:Pos}(a b z TI TO i1 i2:Addr)(D5:[z,TI,TO,i1,i2].Nodup) :
  Turn P w K (.Tuple elts k pos) (DS K a b) [z,TI,TO,i1,i2] z (λi h=>IsZip h z TI TO .none/\IsPair h TI (.ref i1) (.ref i2)/\(∃u v,IsPair h TO u v)/\h.IsListIter i1 a i/\h.IsListIter i2 b i):=by
 have ap:∀(X:Cx) (pins:List (Addr × Obj)) (s:Shared) (σ:St) (H:Hp) (i:Nat) (xs ys:List V),X.K=K->Inv X pins σ H s->(∀b∈[z,TI,TO,i1,i2],fu X pins H b)->IsZip s.heap z TI TO .none->(∃u v,IsPair s.heap TO u v)->s.heap.IsListIter i1 a i->s.heap.IsListIter i2 b i ->
   bf K H a xs->bf K H b ys->ZipApart z TI TO i1 i2 a b:=by
  intro X pins s σ H i xs ys hK I hf hz dn h1 h2 hx hy
  simp only[jf,bM,not_or,eQ,not_false_eq_true,and_true]at D5
  obtain⟨⟨d1,d2,d3,d4⟩,⟨d5,d6,d7⟩,⟨d8,d9⟩,DT,_⟩:=D5
  have oz:∃o,s.heap.get? z=some o/\o.cls≠.type "list":=⟨_,hz,by intro q;exact absurd (Ck q) (by decide)⟩
  have Nd:∃o,s.heap.get? TO=some o/\o.cls≠.type "list":=by obtain⟨u,v,e⟩:=dn;exact⟨_,e,by intro q;exact absurd (Ck q) (by decide)⟩
  have o1:∃o,s.heap.get? i1=some o/\o.cls≠.type "list":=by obtain⟨o,e,c,d⟩:=h1;exact⟨_,e,by rw[c];intro q;exact absurd (Ck q) (by decide)⟩
  have o2:∃o,s.heap.get? i2=some o/\o.cls≠.type "list":=by obtain⟨o,e,c,d⟩:=h2;exact⟨_,e,by rw[c];intro q;exact absurd (Ck q) (by decide)⟩
  exact⟨du d1,du d2,du d3,du d4,d5,d6,d7,d8,d9,DT,
   lZ hK I hx (hf z (by simp)) oz,lZ hK I hx (hf TO (by simp)) Nd,lZ hK I hx (hf i1 (by simp)) o1,lZ hK I hx (hf i2 (by simp)) o2,
   lZ hK I hy (hf z (by simp)) oz,lZ hK I hy (hf TO (by simp)) Nd,lZ hK I hy (hf i1 (by simp)) o1,lZ hK I hy (hf i2 (by simp)) o2⟩
 refine⟨by simp,λi h st c hc=>?_,λi h h' st kk=>?_,?_,?_,λ_ _ _ _ _ st h=>wpAny_pyIter_zip st.1 h⟩
 ·obtain⟨hz,dN,⟨u,v,dn⟩,⟨o1,e1,c1,d1⟩,⟨o2,e2,c2,d2⟩⟩:=st
  simp only[bM,eQ,or_false]at hc
  rcases hc with rfl | rfl | rfl | rfl | rfl
  ·exact⟨_,hz,λv q=>by cases q⟩
  ·exact⟨_,dN,λv q=>by cases q⟩
  ·exact⟨_,dn,λv q=>by cases q⟩
  ·exact⟨_,e1,λv q=>by rw[d1]at q;cases q⟩
  ·exact⟨_,e2,λv q=>by rw[d2]at q;cases q⟩
 ·obtain⟨hz,dN,⟨u,v,dn⟩,h1,h2⟩:=st
  exact⟨kk _ (by simp) _ hz,kk _ (by simp) _ dN,⟨u,v,kk _ (by simp) _ dn⟩,h1.at λo e=>kk _ (by simp) o e,h2.at λo e=>kk _ (by simp) o e⟩
 ·intro X hP hw hK hc i pins s σ H E I hf st hg
  obtain⟨xs,ys,x,y,hx,hy,ex,ey⟩:=hg
  obtain⟨hz,dN,⟨u,v,dn⟩,h1,h2⟩:=st
  have D:=ap X pins s σ H i xs ys hK I hf hz ⟨u,v,dn⟩ h1 h2 hx hy
  subst hP hw hK
  obtain⟨as,ra,pa,_⟩:=I.list hx
  obtain⟨bs,rb,pb,_⟩:=I.list hy
  obtain⟨ux,wA,rx⟩:=ra.get ex
  obtain⟨uy,DU,ry⟩:=rb.get ey
  refine wpAny_pyNext_zip_item D hz dN dn h1 h2 pa.isList pb.isList (x:=ux) (y:=uy) (by simpa using wA) (by simpa using DU) λh' z' DV gH fW T' sz kk=>?_
  have fT:H s.heap.objs.size=none:=I.ay.fresh (aX _)
  have I1:Inv X pins σ (upd H s.heap.objs.size (.tup [x,y])) { s with heap:=h',toks:=s.toks }:=I.DR (its:=[z,TO,i1,i2]) (λc o hc e=>kk c o (λq=>hc (by simp[q])) (λq=>hc (by simp[q])) (λq=>hc (by simp[q])) (λq=>hc (by simp[q])) e)
   (λc hc=>hf c (by simp only[bM,eQ,or_false]at hc ⊢;rcases hc with rfl | rfl | rfl | rfl<;>simp)) (aX _) ⟨by show 2<=sizeLine;decide,[ux,uy],.cons rx (.cons ry .nil),⟨_,T',rfl,_,rfl⟩⟩
  have nT:∀c∈[z,TI,TO,i1,i2],c≠s.heap.objs.size:=λc hc q=>by
   have:∃o,s.heap.get? c=some o:=by
    simp only[bM,eQ,or_false]at hc
    rcases hc with rfl | rfl | rfl | rfl | rfl
    ·exact⟨_,hz⟩
    ·exact⟨_,dN⟩
    ·exact⟨_,dn⟩
    ·obtain⟨o,e,_⟩:=h1;exact⟨o,e⟩
    ·obtain⟨o,e,_⟩:=h2;exact⟨o,e⟩
   obtain⟨o,e⟩:=this
   exact absurd (bC e) (by rw[q];exact fN _)
  refine⟨_,rfl,wpAny_letOwnedTupleGo_zip z' λwB wC sb=>?_⟩
  have wD:∀c∈[z],fu X pins (upd H s.heap.objs.size (.tup [x,y])) c:=λc hc=>by
   have e:c=z:=by simpa using hc
   subst e
   obtain⟨f0,fr⟩:=hf c (by simp)
   exact⟨by rw[aP (nT c (by simp))];exact f0,fr⟩
  have I2:=Inv.rT (h':=wB) (its:=[z]) (t':=s.toks) I1 (λc o hc e=>sb.extBut _ _ (λq=>hc (by simp[q])) e) wD
  refine⟨.ref s.heap.objs.size,_,I2,rfl,⟨_,x,y,rfl,fT,rfl,λNf dO=>by rw[I.yR dO hx];exact ex,λDW rN=>by rw[I.yR rN hy];exact ey⟩,⟨wC,sb.extBut _ _ D.TIz (kk _ _ D.TIz D.TITO D.TIi1 D.TIi2 dN),⟨ux,uy,sb.extBut _ _ D.TOz DV⟩,gH.extBut sb.extBut D.i1z,fW.extBut sb.extBut D.i2z⟩,λc hc=>?_⟩
  rw[aP (nT c hc)]
  exact(hf c hc).1
 ·intro X hP hw hK hc i pins s σ H E I hf st hg
  obtain⟨xs,ys,hx,hy,hl⟩:=hg
  obtain⟨hz,dN,⟨u,v,dn⟩,h1,h2⟩:=st
  have D:=ap X pins s σ H i xs ys hK I hf hz ⟨u,v,dn⟩ h1 h2 hx hy
  subst hP hw hK
  obtain⟨as,ra,pa,_⟩:=I.list hx
  obtain⟨bs,rb,pb,_⟩:=I.list hy
  have la:=ra.length
  have lb:=rb.length
  refine wpAny_pyNext_zip_end (I.ok.hd hc) D hz dN dn h1 h2 pa.isList pb.isList (hl.imp (λq=>by simp;omega) λq=>by simp;omega) λh' kk=>⟨rfl,?_⟩
  exact I.rT (its:=[z,TO,i1,i2]) (t':=s.toks) (λc o hc e=>kk c o (λq=>hc (by simp[q])) (λq=>hc (by simp[q])) (λq=>hc (by simp[q])) (λq=>hc (by simp[q])) e)
   (λc hc=>hf c (by simp only[bM,eQ,or_false]at hc ⊢;rcases hc with rfl | rfl | rfl | rfl<;>simp))
noncomputable def DX(K:PySem.W.Frag)(a:Addr):It :=
 ⟨λi H=>∃xs x,bf K H a xs/\xs[i]?=some x,
  λi H v H'=>∃T x,v=.ref T/\H T=none/\H'=upd H T (.tup [.int i,x])/\∀xs,bf K H a xs->xs[i]?=some x,
  λi H=>∃xs,bf K H a xs/\xs.length<=i⟩
theorem XU{P:Program}{w:World}{K:PySem.W.Frag}{elts:List Expr}{k:Nat}{pos:Pos}(a z it:Addr)(iW:z≠it) :
  Turn P w K (.Tuple elts k pos) (DX K a) [z,it] z (λi h=>(∃old,IsEnum h z it i old)/\h.IsListIter it a i):=by
 refine⟨by simp,λi h st c hc=>?_,λi h h' st kk=>?_,?_,?_,λ_ _ _ _ _ st h=>by obtain⟨⟨old,e⟩,_⟩:=st;exact wpAny_pyIter_enum e h⟩
 ·obtain⟨⟨old,hz⟩,⟨o1,e1,c1,d1⟩⟩:=st
  simp only[bM,eQ,or_false]at hc
  rcases hc with rfl | rfl
  ·exact⟨_,hz,λv q=>by cases q⟩
  ·exact⟨_,e1,λv q=>by rw[d1]at q;cases q⟩
 ·obtain⟨⟨old,hz⟩,h1⟩:=st
  exact⟨⟨old,kk _ (by simp) _ hz⟩,h1.at λo e=>kk _ (by simp) o e⟩
 ·intro X hP hw hK hc i pins s σ H E I hf st hg
  subst hP hw hK
  obtain⟨xs,x,hx,ex⟩:=hg
  obtain⟨⟨old,hz⟩,h1⟩:=st
  obtain⟨as,ra,pa,_⟩:=I.list hx
  obtain⟨ux,wA,rx⟩:=ra.get ex
  refine wpAny_pyNext_enum_item hz h1 pa.isList (x:=ux) (by simpa using wA) iW λh' z' gH T' sz kk=>?_
  have fT:H s.heap.objs.size=none:=I.ay.fresh (aX _)
  have I1:Inv X pins σ (upd H s.heap.objs.size (.tup [.int i,x])) { s with heap:=h',toks:=s.toks+1 }:=I.DR (its:=[z,it]) (λc o hc e=>kk c o (λq=>hc (by simp[q])) (λq=>hc (by simp[q])) e)
   (λc hc=>hf c hc) (aX _) ⟨by show 2<=sizeLine;decide,[.int i s.toks,ux],.cons ⟨_,rfl⟩ (.cons rx .nil),⟨_,T',rfl,_,rfl⟩⟩
  have nT:∀c∈[z,it],c≠s.heap.objs.size:=λc hc q=>by
   have:∃o,s.heap.get? c=some o:=by
    simp only[bM,eQ,or_false]at hc
    rcases hc with rfl | rfl
    ·exact⟨_,hz⟩
    ·obtain⟨o,e,_⟩:=h1;exact⟨o,e⟩
   obtain⟨o,e⟩:=this
   exact absurd (bC e) (by rw[q];exact fN _)
  refine⟨_,rfl,wpAny_letOwnedTupleGo_enum z' λwB wC sb=>?_⟩
  have wD:∀c∈[z],fu X pins (upd H s.heap.objs.size (.tup [.int i,x])) c:=λc hc=>by
   have e:c=z:=by simpa using hc
   subst e
   obtain⟨f0,fr⟩:=hf c (by simp)
   exact⟨by rw[aP (nT c (by simp))];exact f0,fr⟩
  have I2:=Inv.rT (h':=wB) (its:=[z]) (t':=s.toks+1) I1 (λc o hc e=>sb.extBut _ _ (λq=>hc (by simp[q])) e) wD
  refine⟨.ref s.heap.objs.size,_,I2,rfl,⟨_,x,rfl,fT,rfl,λNf dO=>by rw[I.yR dO hx];exact ex⟩,⟨⟨ux,by simpa using wC⟩,gH.extBut sb.extBut (du iW)⟩,λc hc=>?_⟩
  rw[aP (nT c hc)]
  exact(hf c hc).1
 ·intro X hP hw hK hc i pins s σ H E I hf st hg
  subst hP hw hK
  obtain⟨xs,hx,hl⟩:=hg
  obtain⟨⟨old,hz⟩,h1⟩:=st
  obtain⟨as,ra,pa,_⟩:=I.list hx
  have la:=ra.length
  refine wpAny_pyNext_enum_end (I.ok.hd hc) hz h1 pa.isList (by simp;omega) λh' kk=>⟨rfl,?_⟩
  exact I.rT (its:=[it]) (t':=s.toks) (λc o hc e=>kk c o (λq=>hc (by simp[q])) e) (λc hc=>hf c (by simp at hc ⊢;simp[hc]))
end
section
variable{X:Cx}{a b:Expr}{ta:TA}{p pos iT:Pos}{elts:List Expr}{x1:Nat}
noncomputable def XW(K:PySem.W.Frag)(ta:TA):TI:=λσ H R=>ta σ H λvs H1=>∃a b,vs=[.ref a,.ref b]/\(∃xs,bf K H1 a xs)/\(∃ys,bf K H1 b ys)/\R (DS K a b) H1
theorem Ng:bootBuiltins "zip"=some (.type "zip"):=by decide +kernel
theorem XX(hg:Gl X "zip")(hm:X.mg "zip"=none)(ha:PA X [a,b] ta)(hs:starEach [a,b] X.env=[(false,eval a X.env),(false,eval b X.env)]:=by rfl)(dB:starEach [b] X.env=[(false,eval b X.env)]:=by rfl) :
  PI X (.Tuple elts x1 iT) (.Call (.Name "zip" p) [a,b] [] pos) (XW X.K ta):=by
 intro pins s σ H R I h
 refine Call_ (j4 I hg hm Ng (rj (aB (ha pos pins s σ H _ I h) λus s1 ⟨vs,H1,I1,r1,q1⟩=>?_) (by rw[hs,dB]) (by rw[dB];rfl)))
 obtain⟨a,b,e,⟨xs,hx⟩,⟨ys,hy⟩,q⟩:=q1
 subst e
 cases r1 with
 | cons r rr =>
  cases rr with
  | cons r2 rr =>
   cases rr
   cases r
   cases r2
   obtain⟨as,ra,pa,_⟩:=I1.list hx
   obtain⟨bs,rb,pb,_⟩:=I1.list hy
   refine call_zip_2 pa.isList pb.isList λh' hz dN dn h1 h2 sz kk=>wpAny_pyIter_zip hz ?_
   refine⟨_,[s1.heap.objs.size+4,s1.heap.objs.size+2,s1.heap.objs.size+3,s1.heap.objs.size,s1.heap.objs.size+1],_,_,H1,rfl,I1.kept (t':=s1.toks) kk,XT a b _ _ _ _ _ (by simp),⟨hz,dN,⟨_,_,dn⟩,h1,h2⟩,λc hc=>?_,q⟩
   have hle:s1.heap.objs.size<=c:=by
    simp only[bM,eQ,or_false]at hc
    rcases hc with rfl | rfl | rfl | rfl | rfl<;>omega
   exact I1.oi hle (I1.ay.fresh hle)
noncomputable def XY(K:PySem.W.Frag)(ta:TA):TI:=λσ H R=>ta σ H λvs H1=>∃a,vs=[.ref a]/\(∃xs,bf K H1 a xs)/\R (DX K a) H1
theorem XZ:bootBuiltins "enumerate"=some (.type "enumerate"):=by decide +kernel
theorem X0(hg:Gl X "enumerate")(hm:X.mg "enumerate"=none)(ha:PA X [a] ta)(hs:starEach [a] X.env=[(false,eval a X.env)]:=by rfl) :
  PI X (.Tuple elts x1 iT) (.Call (.Name "enumerate" p) [a] [] pos) (XY X.K ta):=by
 intro pins s σ H R I h
 refine Call_ (j4 I hg hm XZ (rj (aB (ha pos pins s σ H _ I h) λus s1 ⟨vs,H1,I1,r1,q1⟩=>?_) hs rfl))
 obtain⟨a,e,⟨xs,hx⟩,q⟩:=q1
 subst e
 cases r1 with
 | cons r rr =>
  cases rr
  cases r
  obtain⟨as,ra,pa,_⟩:=I1.list hx
  refine call_enumerate_list pa.isList λh' hz h1 sz kk=>wpAny_pyIter_enum hz ?_
  refine⟨_,[s1.heap.objs.size+1,s1.heap.objs.size],_,_,H1,rfl,I1.kept (t':=s1.toks) kk,XU a (s1.heap.objs.size+1) s1.heap.objs.size (Nat.succ_ne_self _),⟨⟨_,hz⟩,h1⟩,λc hc=>?_,q⟩
  have hle:s1.heap.objs.size<=c:=by
   simp only[bM,eQ,or_false]at hc
   rcases hc with rfl | rfl<;>omega
  exact I1.oi hle (I1.ay.fresh hle)
end
end L2
namespace L2
open PySem PySem.Spec PyProof.Rows PySem.W PySem.Calls
section
variable{X:Cx}
noncomputable def rV{α:Type}(xs:List α)(lo hi:Option Int):List α:=(xs.drop (HT.ck xs.length 0 lo)).take (HT.ck xs.length xs.length hi-HT.ck xs.length 0 lo)
theorem X1(x:Str)(lo hi:Option Int):Txt.slice x lo hi=⟨(rV x.cps.toList lo hi).toArray⟩:=by
 have hx:x.length=x.cps.size:=rfl
 have e:(Cm lo hi 1 x.length).filterMap (x.cps[·]?)=rV x.cps.toList lo hi:=by
  obtain⟨h1,h2,h3⟩:=Dj lo hi x.length
  have e0:Cm lo hi 1 x.length=sliceRange (sliceBounds lo hi none x.length).1 (sliceBounds lo hi none x.length).2.1 1:=by
   cases lo<;>cases hi<;>rfl
  rw[e0,h1,h2]
  simp only[sliceRange_one,pick_run]
  unfold rV
  rw[hx,vv]
 unfold Txt.slice
 split
 ·rename_i h
  have hl:(Cm lo hi 1 x.length).length=x.length:=by
   rw[df]at h;exact eq_of_beq h.2
  have hs:(rV x.cps.toList lo hi)=x.cps.toList:=by
   have e2:HT.ck x.cps.toList.length x.cps.toList.length hi-HT.ck x.cps.toList.length 0 lo=x.length:=by
    obtain⟨h1,h2,h3⟩:=Dj lo hi x.length
    have e0:Cm lo hi 1 x.length=sliceRange (sliceBounds lo hi none x.length).1 (sliceBounds lo hi none x.length).2.1 1:=by
     cases lo<;>cases hi<;>rfl
    rw[e0,h1,h2]at hl
    simp only[sliceRange_one,dS,lu]at hl
    rw[vv,<- hx]
    omega
   unfold rV
   have le:HT.ck x.cps.toList.length x.cps.toList.length hi<=x.cps.toList.length:=by
    cases hi with
    | none=>simp[HT.ck]
    | some i=>simp only[HT.ck];split<;>omega
   have Nh:HT.ck x.cps.toList.length 0 lo<=x.cps.toList.length:=by
    cases lo with
    | none=>simp[HT.ck]
    | some i=>simp only[HT.ck];split<;>omega
   rw[vv,<- hx]at e2 le Nh ⊢
   have z:HT.ck x.length 0 lo=0:=by omega
   have z2:HT.ck x.length x.length hi=x.length:=by omega
   rw[z,z2,List.drop_zero,yD,hx,<- vv,rq]
  rw[hs]
 ·rw[e]
theorem X2:oA X (λx lo hi H Q=>∃z,x=.str z/\z.length<=sizeLine/\Q (.str ⟨(rV z.cps.toList lo hi).toArray⟩) H):=by
 intro pins s σ H x v vl vu lo hi sl Q I rx hs pl pu h
 obtain⟨z,rfl,hz,q⟩:=h
 obtain⟨t,rfl⟩:=rx
 refine⟨"str",_,F.slot_str_getitem.lookup,typeIs_str _ _ _,?_⟩
 have fin:∀(l u:Option (Int × Tok)),l.map (·.1)=lo->u.map (·.1)=hi->partValue l=vl->partValue u=vu->wpAny (model X.prog X.w) X.A (getItem (.str z t) (.ref sl)) (EP X pins σ Q) X.xe s:=by
  intro l u h1 h2 h3 h4
  obtain⟨o,e1,e2,e3⟩:=hs
  refine wpAny_getItem_str_slice (l:=l) (u:=u) (st:=none) ⟨o,e1,e2,by rw[e3,h3,h4];rfl⟩ rfl ?_
  have e:Txt.slice z lo hi=(if(((none:Option (Int × Tok)).map (·.1)).getD 1==1&&(slicePicked z l u none).length==z.length)=true then z else⟨((slicePicked z l u none).filterMap (z.cps[·]?)).toArray⟩):=by
   unfold Txt.slice slicePicked;rw[h1,h2];rfl
  refine post_val_or_str ⟨?_,λt' k=>?_⟩
  ·rw[<-e];exact dY (Txt.slice_le z _ _) hz
  ·rw[<-e,X1];exact⟨.str _,H,I.tok _,⟨_,rfl⟩,q⟩
 cases pl with
 | none =>
  cases pu with
  | none=>exact fin none none rfl rfl rfl rfl
  | int j tj=>exact fin none (some (j,tj)) rfl rfl rfl rfl
 | int i ti =>
  cases pu with
  | none=>exact fin (some (i,ti)) none rfl rfl rfl rfl
  | int j tj=>exact fin (some (i,ti)) (some (j,tj)) rfl rfl rfl rfl
end
end L2
namespace L3
open PySem L2
noncomputable def gI:HO->Bool
 | .cK _=>false
 | _=>true
structure ae(H H':Hp):Prop where
 get:∀b o,H b=some o->(h:gI o=true:=by rfl)->H' b=some o
 tb:∀b ps,H b=some (.cK ps)->∃more,H' b=some (.cK (ps++more))
noncomputable instance {H H':Hp}:CoeFun (ae H H') λ_=>∀b o,H b=some o->(h:gI o=true:=by rfl)->H' b=some o:=⟨λs=>@ae.get _ _ s⟩
theorem DY{o:HO}(h:gI o=false):∃ps,o=.cK ps:=by
 cases o with
 | cK ps=>exact⟨ps,rfl⟩
 | _=>cases h
theorem ae.of{H H':Hp}(h:∀b o,H b=some o->H' b=some o):ae H H':=⟨λb o e _=>h b o e,λb ps e=>⟨#[],by rw[h b _ e];simp⟩⟩
theorem ae.refl(H:Hp):ae H H:=.of λ_ _ h=>h
theorem ae.trans{H H1 H2:Hp}(a:ae H H1)(b:ae H1 H2):ae H H2 :=
 ⟨λc o h n=>b.get c o (a.get c o h n) n,λc ps h=>by
  obtain⟨m1,e1⟩:=a.tb c ps h
  obtain⟨m2,e2⟩:=b.tb c _ e1
  exact⟨m1++m2,by rw[e2,vt]⟩⟩
theorem ae.any{H H':Hp}(e:ae H H'){l:Addr}{o:HO}(h:H l=some o):∃o',H' l=some o':=by
 cases n:gI o with
 | true=>exact⟨o,e.get l o h n⟩
 | false =>
  obtain⟨ps,rfl⟩:=DY n
  obtain⟨m,q⟩:=e.tb l ps h
  exact⟨_,q⟩
theorem ae.free{H H':Hp}(e:ae H H'){l:Addr}(h:H' l=Cb):H l=Cb:=by
 cases q:H l with
 | none=>rfl
 | some o =>
  obtain⟨o',z⟩:=e.any q
  rw[z]at h
  cases h
theorem ae.seq{K:PySem.W.Frag}{H H':Hp}{a:Addr}{xs:List V}(e:ae H H')(h:bf K H a xs):bf K H' a xs:=by
 rcases h with (h | ⟨o,h⟩) | h
 ·exact .inl (.inl (e _ _ h))
 ·exact .inl (.inr ⟨o,e _ _ h⟩)
 ·exact .inr h
inductive rW where
 | ext (φ:Addr->Heap->Prop)
 | lam (of oc:Obj) (c k:Addr)
noncomputable instance:Coe (Addr->Heap->Prop) rW:=⟨.ext⟩
noncomputable def DZ(H:Hp)(k:Addr):Prop:=∃ψ,H k=some (.ext ψ)/\∀h,ψ h->∃q,h.CodeRec (.ref k) q
noncomputable def hG(of oc:Obj)(c p:Addr):Heap->Prop:=λh=>h.get? p=some of/\h.get? c=some oc
structure fX(H:Hp)(p:Addr)(of oc:Obj)(c k:Addr):Prop where
 fn:H p=some (.ext (hG of oc c p))
 cell:H c=some (.own p)
 D0:DZ H k
noncomputable def me(H:Hp)(p:Addr):rW->Prop
 | .ext φ=>H p=some (.ext (φ p))
 | .lam of oc c k=>fX H p of oc c k
theorem me.mono{H H':Hp}{p:Addr}:∀{z:rW},me H p z->(∀a o,H a=some o->(∀ws,o≠.lst ws)->gI o=true->H' a=some o)->me H' p z
 | .ext φ,x,k=>k _ _ x (λws q=>by cases q) rfl
 | .lam of oc c k',x,k=>⟨k _ _ x.fn (λws q=>by cases q) rfl,k _ _ x.cell (λws q=>by cases q) rfl,let⟨ψ,e,h⟩:=x.D0;⟨ψ,k _ _ e (λws q=>by cases q) rfl,h⟩⟩
inductive D where
 | aq | bl (b:Bool) | int (i:Int) | str (x:Str)
 | lst (o:Bool) (xs:List D)
 | tup (xs:List D)
 | obj (C:Addr) (ns:List Str) (xs:List D)
 | fz (xs:List D)
 | aV (z:rW)
 deriving Inhabited
noncomputable def D.pl:D->Bool
 | .lst o xs=>!o&&wF xs
 | .tup xs=>wF xs
 | _=>true
where wF:List D->Bool
 | []=>true
 | d::ds=>d.pl&&wF ds
noncomputable def D.fr:D->Bool
 | .lst o xs=>o&&wG xs
 | .tup xs=>wG xs
 | .obj _ _ _=>false
 | .fz _=>false
 | _=>true
where wG:List D->Bool
 | []=>true
 | d::ds=>d.fr&&wG ds
noncomputable def D.sh:D->D
 | .lst _ xs=>.lst false (wH xs)
 | .tup xs=>.tup (wH xs)
 | d=>d
where wH:List D->List D
 | []=>[]
 | d::ds=>d.sh::wH ds
theorem Ni(ds:List D):D.pl.wF ds=ds.all D.pl:=by induction ds with | nil=>rfl | cons d ds ih=>simp[D.pl.wF,ih]
theorem Nj(ds:List D):D.fr.wG ds=ds.all D.fr:=by induction ds with | nil=>rfl | cons d ds ih=>simp[D.fr.wG,ih]
theorem Nk(ds:List D):D.sh.wH ds=ds.map D.sh:=by induction ds with | nil=>rfl | cons d ds ih=>simp[D.sh.wH,ih]
theorem gJ(o:Bool)(xs:List D):(D.lst o xs).pl=(!o&&xs.all D.pl):=by simp[D.pl,Ni]
theorem gK(xs:List D):(D.tup xs).pl=xs.all D.pl:=by simp[D.pl,Ni]
theorem fC(o:Bool)(xs:List D):(D.lst o xs).fr=(o&&xs.all D.fr):=by simp[D.fr,Nj]
theorem jw(xs:List D):(D.tup xs).fr=xs.all D.fr:=by simp[D.fr,Nj]
theorem fE(o:Bool)(xs:List D):(D.lst o xs).sh=.lst false (xs.map D.sh):=by simp[D.sh,Nk]
theorem iX(xs:List D):(D.tup xs).sh=.tup (xs.map D.sh):=by simp[D.sh,Nk]
inductive R(F H:Hp):List D->List V->List Addr->Prop
 | nil:R F H [] [] []
 | aq {ds vs B}:R F H ds vs B->R F H (.aq::ds) (.aq::vs) B
 | bl {b ds vs B}:R F H ds vs B->R F H (.bl b::ds) (.bl b::vs) B
 | int {i ds vs B}:R F H ds vs B->R F H (.int i::ds) (.int i::vs) B
 | str {x ds vs B}:R F H ds vs B->R F H (.str x::ds) (.str x::vs) B
 | shr {p ws xs ds vs B}:F p=some (.lst ws)->R F H xs ws []->R F H ds vs B->R F H (.lst false xs::ds) (.ref p::vs) B
 | own {p ws xs A ds vs B}:H p=some (.lst ws)->F p=none->R F H xs ws A->R F H ds vs B->R F H (.lst true xs::ds) (.ref p::vs) (p::(A++B))
 | tup {p ws xs A ds vs B}:H p=some (.tup ws)->R F H xs ws A->R F H ds vs B->R F H (.tup xs::ds) (.ref p::vs) (A++B)
 | obj {p C dx ns ws xs ds vs B}:H p=some (.ins C dx (ns.zip ws))->ns.length=ws.length->R F H xs ws []->R F H ds vs B->R F H (.obj C ns xs::ds) (.ref p::vs) B
 | fz {p o ws xs ds vs B}:F p=some (.bQ o (.lst ws))->R F H xs ws []->R F H ds vs B->R F H (.fz xs::ds) (.ref p::vs) B
 | aV {p z ds vs B}:me H p z->R F H ds vs B->R F H (.aV z::ds) (.ref p::vs) B
inductive S(F H:Hp):List D->List V->Prop
 | nil:S F H [] []
 | aq {ds vs}:S F H ds vs->S F H (.aq::ds) (.aq::vs)
 | bl {b ds vs}:S F H ds vs->S F H (.bl b::ds) (.bl b::vs)
 | int {i ds vs}:S F H ds vs->S F H (.int i::ds) (.int i::vs)
 | str {x ds vs}:S F H ds vs->S F H (.str x::ds) (.str x::vs)
 | shr {p ws xs ds vs}:F p=some (.lst ws)->R F H xs ws []->S F H ds vs->S F H (.lst false xs::ds) (.ref p::vs)
 | own {p ws xs ds vs}:H p=some (.lst ws)->S F H xs ws->S F H ds vs->S F H (.lst true xs::ds) (.ref p::vs)
 | tup {p ws xs ds vs}:H p=some (.tup ws)->S F H xs ws->S F H ds vs->S F H (.tup xs::ds) (.ref p::vs)
 | obj {p C dx ns ws xs ds vs}:H p=some (.ins C dx (ns.zip ws))->ns.length=ws.length->R F H xs ws []->S F H ds vs->S F H (.obj C ns xs::ds) (.ref p::vs)
 | fz {p o ws xs ds vs}:F p=some (.bQ o (.lst ws))->R F H xs ws []->S F H ds vs->S F H (.fz xs::ds) (.ref p::vs)
 | aV {p z ds vs}:me H p z->S F H ds vs->S F H (.aV z::ds) (.ref p::vs)
section
variable{F F' H H':Hp}{d:D}{ds es:List D}{v:V}{vs ws:List V}{A B:List Addr}
theorem R.length(r:R F H ds vs A):ds.length=vs.length:=by
 induction r<;>simp_all
theorem S.length(r:S F H ds vs):ds.length=vs.length:=by
 induction r<;>simp_all
theorem R.cons(r:R F H [d] [v] A)(q:R F H ds vs B):R F H (d::ds) (v::vs) (A++B):=by
 cases r with
 | aq r=>cases r;exact .aq q
 | bl r=>cases r;exact .bl q
 | int r=>cases r;exact .int q
 | str r=>cases r;exact .str q
 | shr h x r=>cases r;exact .shr h x q
 | own h f x r=>cases r;simpa using R.own h f x q
 | tup h x r=>cases r;simpa using R.tup h x q
 | obj h l x r=>cases r;exact .obj h l x q
 | fz h x r=>cases r;exact .fz h x q
 | aV h r=>cases r;exact .aV h q
theorem R.cw(r:R F H (d::ds) vs A):∃v bV A1 A2,vs=v::bV/\A=A1++A2/\R F H [d] [v] A1/\R F H ds bV A2:=by
 cases r with
 | aq r=>exact⟨_,_,[],_,rfl,rfl,.aq .nil,r⟩
 | bl r=>exact⟨_,_,[],_,rfl,rfl,.bl .nil,r⟩
 | int r=>exact⟨_,_,[],_,rfl,rfl,.int .nil,r⟩
 | str r=>exact⟨_,_,[],_,rfl,rfl,.str .nil,r⟩
 | shr h x r=>exact⟨_,_,[],_,rfl,rfl,.shr h x .nil,r⟩
 | @own p _ _ A1 _ _ B1 h f x r=>exact⟨_,_,p::A1,B1,rfl,rfl,by simpa using R.own h f x .nil,r⟩
 | @tup p _ _ A1 _ _ B1 h x r=>exact⟨_,_,A1,B1,rfl,rfl,by simpa using R.tup h x .nil,r⟩
 | obj h l x r=>exact⟨_,_,[],_,rfl,rfl,.obj h l x .nil,r⟩
 | fz h x r=>exact⟨_,_,[],_,rfl,rfl,.fz h x .nil,r⟩
 | aV h r=>exact⟨_,_,[],_,rfl,rfl,.aV h .nil,r⟩
theorem S.cons(r:S F H [d] [v])(q:S F H ds vs):S F H (d::ds) (v::vs):=by
 cases r with
 | aq r=>exact .aq q
 | bl r=>exact .bl q
 | int r=>exact .int q
 | str r=>exact .str q
 | shr h x r=>exact .shr h x q
 | own h x r=>exact .own h x q
 | tup h x r=>exact .tup h x q
 | obj h l x r=>exact .obj h l x q
 | fz h x r=>exact .fz h x q
 | aV h r=>exact .aV h q
theorem S.cw(r:S F H (d::ds) vs):∃v bV,vs=v::bV/\S F H [d] [v]/\S F H ds bV:=by
 cases r with
 | aq r=>exact⟨_,_,rfl,.aq .nil,r⟩
 | bl r=>exact⟨_,_,rfl,.bl .nil,r⟩
 | int r=>exact⟨_,_,rfl,.int .nil,r⟩
 | str r=>exact⟨_,_,rfl,.str .nil,r⟩
 | shr h x r=>exact⟨_,_,rfl,.shr h x .nil,r⟩
 | own h x r=>exact⟨_,_,rfl,.own h x .nil,r⟩
 | tup h x r=>exact⟨_,_,rfl,.tup h x .nil,r⟩
 | obj h l x r=>exact⟨_,_,rfl,.obj h l x .nil,r⟩
 | fz h x r=>exact⟨_,_,rfl,.fz h x .nil,r⟩
 | aV h r=>exact⟨_,_,rfl,.aV h .nil,r⟩
theorem R.append:∀{ds:List D} {vs:List V} {A:List Addr},R F H ds vs A->R F H es ws B->R F H (ds++es) (vs++ws) (A++B)
 | [],_,_,r,q=>by cases r;exact q
 | d::ds,_,_,r,q=>by
  obtain⟨v,bV,A1,A2,rfl,rfl,h1,h2⟩:=r.cw
  simpa using h1.cons (R.append h2 q)
theorem S.append:∀{ds:List D} {vs:List V},S F H ds vs->S F H es ws->S F H (ds++es) (vs++ws)
 | [],_,r,q=>by cases r;exact q
 | d::ds,_,r,q=>by
  obtain⟨v,bV,rfl,h1,h2⟩:=r.cw
  exact h1.cons (S.append h2 q)
theorem R.split:∀{ds:List D} {vs:List V} {A:List Addr},R F H (ds++es) vs A->∃v1 v2 A1 A2,vs=v1++v2/\A=A1++A2/\R F H ds v1 A1/\R F H es v2 A2
 | [],vs,A,r=>⟨[],vs,[],A,rfl,rfl,.nil,r⟩
 | d::ds,_,_,r=>by
  obtain⟨v,bV,A1,A2,rfl,rfl,h1,h2⟩:=R.cw (ds:=ds++es) r
  obtain⟨v1,v2,B1,B2,rfl,rfl,h3,h4⟩:=R.split (ds:=ds) h2
  exact⟨v::v1,v2,A1++B1,B2,rfl,by simp,h1.cons h3,h4⟩
theorem R.get:∀{ds:List D} {vs:List V} {A:List Addr} {i:Nat},R F H ds vs A->ds[i]?=some d->∃v A1,vs[i]?=some v/\R F H [d] [v] A1/\A1 ⊆ A
 | [],_,_,_,_,e=>by simp at e
 | d'::ds,_,_,i,r,e=>by
  obtain⟨v,bV,A1,A2,rfl,rfl,h1,h2⟩:=r.cw
  cases i with
  | zero=>simp at e;subst e;exact⟨v,A1,rfl,h1,by simp⟩
  | succ i =>
   obtain⟨w,B1,e2,q,sb⟩:=R.get (ds:=ds) (i:=i) h2 (by simpa using e)
   exact⟨w,B1,by simpa using e2,q,λx hx=>eP _ (sb hx)⟩
theorem S.get:∀{ds:List D} {vs:List V} {i:Nat},S F H ds vs->ds[i]?=some d->∃v,vs[i]?=some v/\S F H [d] [v]
 | [],_,_,_,e=>by simp at e
 | d'::ds,_,i,r,e=>by
  obtain⟨v,bV,rfl,h1,h2⟩:=r.cw
  cases i with
  | zero=>simp at e;subst e;exact⟨v,rfl,h1⟩
  | succ i =>
   obtain⟨w,e2,q⟩:=S.get (ds:=ds) (i:=i) h2 (by simpa using e)
   exact⟨w,by simpa using e2,q⟩
theorem S.get':∀{ds:List D} {vs:List V} {i:Nat},S F H ds vs->vs[i]?=some v->∃d,ds[i]?=some d/\S F H [d] [v]
 | [],_,_,r,e=>by cases r;simp at e
 | d'::ds,_,i,r,e=>by
  obtain⟨v,bV,rfl,h1,h2⟩:=r.cw
  cases i with
  | zero=>simp at e;subst e;exact⟨d',rfl,h1⟩
  | succ i =>
   obtain⟨w,e2,q⟩:=S.get' (ds:=ds) (i:=i) h2 (by simpa using e)
   exact⟨w,by simpa using e2,q⟩
theorem S.take:∀{ds:List D} {vs:List V} (n:Nat),S F H ds vs->S F H (ds.take n) (vs.take n)
 | _,_,0,r=>by simpa using S.nil
 | [],_,n+1,r=>by cases r;exact .nil
 | d::ds,_,n+1,r=>by
  obtain⟨v,bV,rfl,h1,h2⟩:=r.cw
  exact h1.cons (S.take n h2)
theorem S.drop:∀{ds:List D} {vs:List V} (n:Nat),S F H ds vs->S F H (ds.drop n) (vs.drop n)
 | _,_,0,r=>by simpa using r
 | [],_,n+1,r=>by cases r;exact .nil
 | d::ds,_,n+1,r=>by
  obtain⟨v,bV,rfl,h1,h2⟩:=r.cw
  exact S.drop n h2
theorem fY{p:Addr}{o:HO}(h:Rd F p o)(s:ae F F')(n:gI o=true:=by rfl):Rd F' p o:=by
 rcases h with h | ⟨u,h⟩
 ·exact .inl (s.get _ _ h n)
 ·exact .inr ⟨u,s _ _ h⟩
theorem R.s(r:R F H ds vs A):S F H ds vs:=by
 induction r with
 | nil=>exact .nil
 | aq _ ih=>exact .aq ih
 | bl _ ih=>exact .bl ih
 | int _ ih=>exact .int ih
 | str _ ih=>exact .str ih
 | shr h x _ _ ih=>exact .shr h x ih
 | own h f _ _ i1 i2=>exact .own h i1 i2
 | tup h _ _ i1 i2=>exact .tup h i1 i2
 | obj h l x _ _ ih=>exact .obj h l x ih
 | fz h x _ _ ih=>exact .fz h x ih
 | aV h _ ih=>exact .aV h ih
structure gL(W:List Addr)(H H':Hp):Prop where
 get:∀a o,H a=some o->a ∉ W->(h:gI o=true:=by rfl)->H' a=some o
noncomputable instance {W:List Addr} {H H':Hp}:CoeFun (gL W H H') λ_=>∀a o,H a=some o->a ∉ W->(h:gI o=true:=by rfl)->H' a=some o:=⟨λs=>@gL.get _ _ _ s⟩
noncomputable def ir(W:List Addr)(H:Hp):Prop:=∀a∈W,∃ws,H a=some (.lst ws)
theorem R.keep{W:List Addr}(hf:ae F F')(hb:gL W H H')(hl:ir W H)(r:R F H ds vs A)(hn:∀a∈A,F' a=none)(hd:∀a∈A,a ∉ W):R F' H' ds vs A:=by
 induction r with
 | nil=>exact .nil
 | aq _ ih=>exact .aq (ih hn hd)
 | bl _ ih=>exact .bl (ih hn hd)
 | int _ ih=>exact .int (ih hn hd)
 | str _ ih=>exact .str (ih hn hd)
 | shr h x _ i1 ih=>exact .shr (hf _ _ h) (i1 (by simp) (by simp)) (ih hn hd)
 | own h f _ _ i1 i2 =>
  refine .own (hb _ _ h (hd _ (by simp))) (hn _ (by simp)) (i1 (λa ha=>hn a ?_) λa ha=>hd a ?_) (i2 (λa ha=>hn a ?_) λa ha=>hd a ?_)<;>simp[ha]
 | @tup p ws _ _ _ _ _ h _ _ i1 i2 =>
  refine .tup (hb _ _ h λz=>?_) (i1 (λa ha=>hn a ?_) λa ha=>hd a ?_) (i2 (λa ha=>hn a ?_) λa ha=>hd a ?_)<;>try simp[ha]
  obtain⟨q,e⟩:=hl _ z
  rw[h]at e;cases e
 | obj h l x _ i1 ih =>
  refine .obj (hb _ _ h λz=>?_) l (i1 (by simp) (by simp)) (ih hn hd)
  obtain⟨q,e⟩:=hl _ z
  rw[h]at e;cases e
 | fz h x _ i1 ih=>exact .fz (hf _ _ h) (i1 (by simp) (by simp)) (ih hn hd)
 | aV h _ ih =>
  exact .aV (h.mono λa o e n t=>hb.get a o e (λz=>by
   obtain⟨q,e'⟩:=hl _ z
   rw[e]at e';cases e';exact n _ rfl) t) (ih hn hd)
theorem gL.same(h:ae H H'):gL [] H H':=⟨λa o e _ n=>h.get a o e n⟩
theorem ir.nil:ir [] H:=λa h=>absurd h (by simp)
theorem R.grow(hf:ae F F')(hb:ae H H')(r:R F H ds vs A)(hn:∀a∈A,F' a=none):R F' H' ds vs A :=
 r.keep hf (gL.same hb) ir.nil hn (by simp)
theorem R.shared(hf:ae F F')(hb:ae H H')(r:R F H ds vs []):R F' H' ds vs []:=r.grow hf hb (by simp)
theorem S.mono(hf:ae F F')(hb:ae H H')(r:S F H ds vs):S F' H' ds vs:=by
 induction r with
 | nil=>exact .nil
 | aq _ ih=>exact .aq ih
 | bl _ ih=>exact .bl ih
 | int _ ih=>exact .int ih
 | str _ ih=>exact .str ih
 | shr h x _ ih=>exact .shr (hf _ _ h) (x.shared hf hb) ih
 | own h _ _ i1 i2=>exact .own (hb _ _ h) i1 i2
 | tup h _ _ i1 i2=>exact .tup (hb _ _ h) i1 i2
 | obj h l x _ ih=>exact .obj (hb _ _ h) l (x.shared hf hb) ih
 | fz h x _ ih=>exact .fz (hf _ _ h) (x.shared hf hb) ih
 | aV h _ ih=>exact .aV (h.mono λa o e _ t=>hb.get a o e t) ih
theorem S.r(s:S F H ds vs)(p:ds.all D.pl=true):R F H ds vs []:=by
 induction s with
 | nil=>exact .nil
 | aq _ ih=>exact .aq (ih (by simpa[D.pl]using p))
 | bl _ ih=>exact .bl (ih (by simpa[D.pl]using p))
 | int _ ih=>exact .int (ih (by simpa[D.pl]using p))
 | str _ ih=>exact .str (ih (by simpa[D.pl]using p))
 | shr h x _ ih=>exact .shr h x (ih (by simp[gJ]at p;simpa using p.2))
 | own h _ _ i1 i2=>simp[gJ]at p
 | tup h _ _ i1 i2 =>
  rw[dg,gK,df]at p
  simpa using R.tup h (i1 p.1) (i2 p.2)
 | obj h l x _ ih=>exact .obj h l x (ih (by simpa[D.pl]using p))
 | fz h x _ ih=>exact .fz h x (ih (by simpa[D.pl]using p))
 | aV h _ ih=>exact .aV h (ih (by simpa[D.pl]using p))
theorem R.pl(r:R F H ds vs []):ds.all D.pl=true:=by
 generalize e:([]:List Addr)=A at r
 induction r with
 | nil=>rfl
 | aq _ ih=>simp[D.pl];simpa using ih e
 | bl _ ih=>simp[D.pl];simpa using ih e
 | int _ ih=>simp[D.pl];simpa using ih e
 | str _ ih=>simp[D.pl];simpa using ih e
 | shr h x _ i1 ih=>simp only[dg,gJ,i1 rfl,ih e];rfl
 | own h f _ _ i1 i2=>cases e
 | tup h _ _ i1 i2 =>
  obtain⟨e1,e2⟩:=Cn.mp e.symm
  simp only[dg,gK,i1 e1.symm,i2 e2.symm];rfl
 | obj h l x _ i1 ih=>simp[D.pl];simpa using ih e
 | fz h x _ i1 ih=>simp[D.pl];simpa using ih e
 | aV h _ ih=>simp[D.pl];simpa using ih e
theorem D.zm:∀{d:D},d.pl=true->d.sh=d
 | .aq,_=>rfl
 | .bl _,_=>rfl
 | .int _,_=>rfl
 | .str _,_=>rfl
 | .obj _ _ _,_=>rfl
 | .fz _,_=>rfl
 | .aV _,_=>rfl
 | .lst o xs,h=>by
  rw[gJ,df]at h
  have:∀(l:List D),(∀x∈l,x∈xs)->l.all D.pl=true->l.map D.sh=l:=by
   intro l hl hp
   induction l with
   | nil=>rfl
   | cons x l ih =>
    simp only[dg,df]at hp
    have hx:x∈xs:=hl x (by simp)
    rw[dj,D.zm hp.1,ih (λy hy=>hl y (by simp[hy])) hp.2]
  rw[fE,this xs (λ_ h=>h) h.2]
  cases o<;>simp_all
 | .tup xs,h=>by
  rw[gK]at h
  have:∀(l:List D),(∀x∈l,x∈xs)->l.all D.pl=true->l.map D.sh=l:=by
   intro l hl hp
   induction l with
   | nil=>rfl
   | cons x l ih =>
    simp only[dg,df]at hp
    have hx:x∈xs:=hl x (by simp)
    rw[dj,D.zm hp.1,ih (λy hy=>hl y (by simp[hy])) hp.2]
  rw[iX,this xs (λ_ h=>h) h]
termination_by d=>sizeOf d
theorem kn{l:List D}(h:l.all D.pl=true):l.map D.sh=l:=by
 induction l with
 | nil=>rfl
 | cons x l ih =>
  simp only[dg,df]at h
  rw[dj,D.zm h.1,ih h.2]
theorem S.frozen(e:ae F H)(s:S F H ds vs):R H H (ds.map D.sh) vs []:=by
 induction s with
 | nil=>exact .nil
 | aq _ ih=>exact .aq ih
 | bl _ ih=>exact .bl ih
 | int _ ih=>exact .int ih
 | str _ ih=>exact .str ih
 | shr h x _ ih =>
  rw[dj,fE,kn x.pl]
  exact .shr (e _ _ h) (x.shared e (ae.refl _)) ih
 | own h _ _ i1 i2=>rw[dj,fE];exact .shr h i1 i2
 | tup h _ _ i1 i2=>rw[dj,iX];simpa using R.tup h i1 i2
 | obj h l x _ ih=>exact .obj h l (x.shared e (ae.refl _)) ih
 | fz h x _ ih=>exact .fz (e _ _ h) (x.shared e (ae.refl _)) ih
 | aV h _ ih=>exact .aV h ih
noncomputable def bQ(F H:Hp)(A:List Addr):Hp:=λa=>if a∈A then H a else F a
theorem rX(e:ae F H):ae F (bQ F H A):=⟨λa o h n=>by unfold bQ;split;exact e.get _ _ h n;exact h,λa ps h=>by unfold bQ;split;exact e.tb _ _ h;exact⟨#[],by rw[h];simp⟩⟩
theorem X3(e:ae F H):ae (bQ F H A) H:=⟨λa o h n=>by unfold bQ at h;split at h;exact h;exact e.get _ _ h n,λa ps h=>by unfold bQ at h;split at h;exact⟨#[],by rw[h];simp⟩;exact e.tb _ _ h⟩
theorem Nl{a:Addr}(h:a ∉ A):bQ F H A a=F a:=by unfold bQ;rw[if_neg h]
theorem X4{a:Addr}(h:a∈A):bQ F H A a=H a:=by unfold bQ;rw[if_pos h]
theorem R.bQ(e:ae F H)(r:R F H ds vs A):∀A',A ⊆ A'->R (L3.bQ F H A') H (ds.map D.sh) vs []:=by
 induction r with
 | nil=>exact λ_ _=>.nil
 | aq _ ih=>exact λA' h=>.aq (ih A' h)
 | bl _ ih=>exact λA' h=>.bl (ih A' h)
 | int _ ih=>exact λA' h=>.int (ih A' h)
 | str _ ih=>exact λA' h=>.str (ih A' h)
 | shr h x _ i1 ih =>
  intro A' hA
  rw[dj,fE,kn x.pl]
  exact .shr (rX e _ _ h) (x.shared (rX e) (ae.refl _)) (ih A' hA)
 | own h f _ _ i1 i2 =>
  intro A' hA
  rw[dj,fE]
  exact .shr ((X4 (hA (by simp))).trans h) (i1 A' λa ha=>hA (by simp[ha])) (i2 A' λa ha=>hA (by simp[ha]))
 | tup h _ _ i1 i2 =>
  intro A' hA
  rw[dj,iX]
  simpa using R.tup h (i1 A' λa ha=>hA (by simp[ha])) (i2 A' λa ha=>hA (by simp[ha]))
 | obj h l x _ i1 ih=>exact λA' hA=>.obj h l (x.shared (rX e) (ae.refl _)) (ih A' hA)
 | fz h x _ i1 ih=>exact λA' hA=>.fz (rX e _ _ h) (x.shared (rX e) (ae.refl _)) (ih A' hA)
 | aV h _ ih=>exact λA' hA=>.aV h (ih A' hA)
theorem R.lists(r:R F H ds vs A):∀a∈A,(∃ws,H a=some (.lst ws))/\F a=none:=by
 induction r with
 | nil=>simp
 | aq _ ih=>exact ih
 | bl _ ih=>exact ih
 | int _ ih=>exact ih
 | str _ ih=>exact ih
 | shr h x _ i1 ih=>exact ih
 | own h f _ _ i1 i2 =>
  intro a ha
  rcases bM.mp ha with rfl | ha
  ·exact⟨⟨_,h⟩,f⟩
  ·exact(eA.mp ha).elim (i1 a) (i2 a)
 | tup h _ _ i1 i2=>exact λa ha=>(eA.mp ha).elim (i1 a) (i2 a)
 | obj h l x _ i1 ih=>exact ih
 | fz h x _ i1 ih=>exact ih
 | aV h _ ih=>exact ih
theorem R.zo(r:R F H ds vs A)(hd:ds.all D.fr=true)(e:ae F' F):R F' H ds vs A:=by
 induction r with
 | nil=>exact .nil
 | aq _ ih=>exact .aq (ih (by simpa[D.fr]using hd))
 | bl _ ih=>exact .bl (ih (by simpa[D.fr]using hd))
 | int _ ih=>exact .int (ih (by simpa[D.fr]using hd))
 | str _ ih=>exact .str (ih (by simpa[D.fr]using hd))
 | shr h x _ i1 ih=>simp[fC]at hd
 | own h f _ _ i1 i2 =>
  rw[dg,fC,df,lj]at hd
  exact .own h (e.free f) (i1 hd.1) (i2 hd.2)
 | tup h _ _ i1 i2 =>
  rw[dg,jw,df]at hd
  exact .tup h (i1 hd.1) (i2 hd.2)
 | obj h l x _ i1 ih=>simp[D.fr]at hd
 | fz h x _ i1 ih=>simp[D.fr]at hd
 | aV h _ ih=>exact .aV h (ih (by simpa[D.fr]using hd))
theorem R.inj(r:R F H ds vs A):∀{B:List Addr},R F H ds vs B->A=B:=by
 induction r with
 | nil=>intro B q;cases q;rfl
 | aq _ ih=>intro B q;cases q with | aq q=>exact ih q
 | bl _ ih=>intro B q;cases q with | bl q=>exact ih q
 | int _ ih=>intro B q;cases q with | int q=>exact ih q
 | str _ ih=>intro B q;cases q with | str q=>exact ih q
 | shr h x _ i1 ih=>intro B q;cases q with | shr _ _ q=>exact ih q
 | own h f _ _ i1 i2 =>
  intro B q
  cases q with
  | own h' f' x' q =>
   rw[h]at h';cases h'
   rw[i1 x',i2 q]
 | tup h _ _ i1 i2 =>
  intro B q
  cases q with
  | tup h' x' q =>
   rw[h]at h';cases h'
   rw[i1 x',i2 q]
 | obj h l x _ i1 ih=>intro B q;cases q with | obj _ _ _ q=>exact ih q
 | fz h x _ i1 ih=>intro B q;cases q with | fz _ _ q=>exact ih q
 | aV h _ ih=>intro B q;cases q with | aV _ q=>exact ih q
theorem R.perm{ps qs:List (D × V)}(hp:ps.Perm qs):∀{A:List Addr},R F H (ps.map (·.1)) (ps.map (·.2)) A->∃A',R F H (qs.map (·.1)) (qs.map (·.2)) A'/\A.Perm A':=by
 induction hp with
 | nil=>exact λr=>⟨_,r,.refl _⟩
 | cons x _ ih =>
  intro A r
  obtain⟨v,bV,A1,A2,e,rfl,h1,h2⟩:=R.cw r
  obtain⟨rfl,rfl⟩:=nN e
  obtain⟨A',r',p⟩:=ih h2
  exact⟨A1++A',h1.cons r',p.append_left _⟩
 | swap x y l =>
  intro A r
  obtain⟨v,bV,A1,A2,e,rfl,h1,h2⟩:=R.cw r
  obtain⟨rfl,rfl⟩:=nN e
  obtain⟨v2,Nm,B1,B2,e,rfl,h3,h4⟩:=R.cw h2
  obtain⟨rfl,rfl⟩:=nN e
  exact⟨B1++(A1++B2),h3.cons (h1.cons h4),by rw[<-eB,<- eB];exact nO.append_right _⟩
 | trans _ _ i1 i2 =>
  intro A r
  obtain⟨A',r',p⟩:=i1 r
  obtain⟨A2,r2,p2⟩:=i2 r'
  exact⟨A2,r2,p.trans p2⟩
noncomputable def Full(F H:Hp):Prop:=∀a o,H a=some o->(∀ws,o≠.lst ws)->F a=some o
theorem Full.refl(H:Hp):Full H H:=λ_ _ h _=>h
theorem R.full(hF:Full F H)(hs:ae F H')(r:R F H ds vs A)(e:A=[]):R F H' ds vs []:=by
 induction r with
 | nil=>exact .nil
 | aq _ ih=>exact .aq (ih e)
 | bl _ ih=>exact .bl (ih e)
 | int _ ih=>exact .int (ih e)
 | str _ ih=>exact .str (ih e)
 | shr h x _ i1 ih=>exact .shr h (i1 rfl) (ih e)
 | own h f _ _ i1 i2=>cases e
 | tup h _ _ i1 i2 =>
  obtain⟨e1,e2⟩:=Cn.mp e
  exact R.tup (A:=[]) (B:=[]) (hs _ _ (hF _ _ h (by intro ws z;cases z))) (i1 e1) (i2 e2)
 | obj h l x _ i1 ih=>exact .obj (hs _ _ (hF _ _ h (by intro ws z;cases z))) l (i1 rfl) (ih e)
 | fz h x _ i1 ih=>exact .fz h (i1 rfl) (ih e)
 | aV h _ ih=>exact .aV (h.mono λa o e n t=>hs.get a o (hF a o e n) t) (ih e)
open Classical in
noncomputable def snap(F H:Hp):Hp:=λa=>if(∃o,H a=some o/\∀ws,o≠.lst ws)then H a else F a
theorem oI:Full (snap F H) H:=λa o h n=>by unfold snap;rw[if_pos ⟨o,h,n⟩];exact h
theorem mf(e:ae F H):ae F (snap F H):=⟨λa o h n=>by
 unfold snap;split
 ·exact e.get a o h n
 ·exact h,λa ps h=>by
 unfold snap;split
 ·exact e.tb a ps h
 ·exact⟨#[],by rw[h];simp⟩⟩
theorem X5(e:ae F H):ae (snap F H) H:=⟨λa o h n=>by
 unfold snap at h;split at h
 ·exact h
 ·exact e.get a o h n,λa ps h=>by
 unfold snap at h;split at h
 ·exact⟨#[],by rw[h];simp⟩
 ·exact e.tb a ps h⟩
theorem X6(e:ae F H){a:Addr}{ws:List V}(h:snap F H a=some (.lst ws)):F a=some (.lst ws):=by
 unfold snap at h;split at h
 ·rename_i z
  obtain⟨o,h1,h2⟩:=z
  rw[h]at h1;exact absurd (dw h1).symm (h2 ws)
 ·exact h
theorem X7{a:Addr}{ws:List V}(h:H a=some (.lst ws))(n:F a=none):snap F H a=none:=by
 unfold snap;split
 ·rename_i z
  obtain⟨o,h1,h2⟩:=z
  rw[h]at h1;exact absurd (dw h1).symm (h2 ws)
 ·exact n
end
end L3
namespace L3
open PySem L2
noncomputable abbrev Dl:=List (Option D)
inductive RS(F H:Hp):Dl->St->List Addr->Prop
 | nil:RS F H [] [] []
 | aq {δ σ o C}:RS F H δ σ C->RS F H (none::δ) (o::σ) C
 | eT {d v A δ σ C}:R F H [d] [v] A->RS F H δ σ C->RS F H (some d::δ) (some v::σ) (A++C)
theorem eK{A B:List Addr}:(A++B).Nodup↔A.Nodup/\B.Nodup/\∀a∈A,a ∉ B:=by
 rw[List.nodup_append]
 constructor
 ·rintro⟨h1,h2,h3⟩;exact⟨h1,h2,λa ha hb=>h3 a ha a hb rfl⟩
 ·rintro⟨h1,h2,h3⟩;exact⟨h1,h2,λa ha b hb e=>h3 a ha (e ▸ hb)⟩
section
variable{F F' H H':Hp}{d:D}{v:V}{δ:Dl}{σ:St}{A C:List Addr}{i:Nat}
theorem RS.length(r:RS F H δ σ C):δ.length=σ.length:=by induction r<;>simp_all
theorem RS.pick:∀{δ:Dl} {σ:St} {C:List Addr} {i:Nat},RS F H δ σ C->δ[i]?=some (some d)->∃v A C',σ[i]?=some (some v)/\R F H [d] [v] A/\RS F H (δ.set i none) σ C'/\C.Perm (A++C')
 | _,_,_,_,.nil,e=>by simp at e
 | _,_,_,i,.aq r,e=>by
  cases i with
  | zero=>simp at e
  | succ i =>
   obtain⟨v,A,C',e1,h1,h2,p⟩:=RS.pick r (by simpa using e)
   exact⟨v,A,C',by simpa using e1,h1,.aq h2,p⟩
 | _,_,_,i,.eT (A:=A0) (C:=C0) h r,e=>by
  cases i with
  | zero =>
   simp at e;subst e
   exact⟨_,A0,C0,rfl,h,.aq r,.refl _⟩
  | succ i =>
   obtain⟨v,A,C',e1,h1,h2,p⟩:=RS.pick r (by simpa using e)
   refine⟨v,A,A0++C',by simpa using e1,h1,.eT h h2,(p.append_left A0).trans ?_⟩
   rw[<-eB,<- eB]
   exact nO.append_right _
theorem RS.fill:∀{δ:Dl} {σ:St} {C:List Addr} {i:Nat},RS F H δ σ C->δ[i]?=some none->σ[i]?=some (some v)->R F H [d] [v] A->∃C',RS F H (δ.set i (some d)) σ C'/\C'.Perm (A++C)
 | _,_,_,_,.nil,e,_,_=>by simp at e
 | _,_,_,i,.aq r,e,e2,h=>by
  cases i with
  | zero=>simp at e2;subst e2;exact⟨_,.eT h r,.refl _⟩
  | succ i =>
   obtain⟨C',h1,p⟩:=RS.fill r (by simpa using e) (by simpa using e2) h
   exact⟨C',.aq h1,p⟩
 | _,_,_,i,.eT (A:=A0) (C:=C0) h0 r,e,e2,h=>by
  cases i with
  | zero=>simp at e
  | succ i =>
   obtain⟨C',h1,p⟩:=RS.fill r (by simpa using e) (by simpa using e2) h
   refine⟨A0++C',.eT h0 h1,(p.append_left A0).trans ?_⟩
   rw[<-eB,<- eB]
   exact nO.append_right _
theorem RS.drop:∀{δ:Dl} {σ:St} {C:List Addr} (i:Nat),RS F H δ σ C->∃C',RS F H (δ.set i none) σ C'/\C'.Sublist C
 | _,_,_,_,.nil=>⟨_,.nil,.refl _⟩
 | _,_,_,i,.aq r=>by
  cases i with
  | zero=>exact⟨_,.aq r,.refl _⟩
  | succ i=>obtain⟨C',h,s⟩:=RS.drop i r;exact⟨C',.aq h,s⟩
 | _,_,_,i,.eT (A:=A0) h0 r=>by
  cases i with
  | zero=>exact⟨_,.aq r,List.sublist_append_right _ _⟩
  | succ i=>obtain⟨C',h,s⟩:=RS.drop i r;exact⟨_,.eT h0 h,(Lf A0).append s⟩
theorem RS.wI:∀{δ:Dl} {σ:St} {C:List Addr} {i:Nat} (o:Option V),RS F H δ σ C->(δ[i]?=some none\/δ[i]?=none)->RS F H δ (σ.set i o) C
 | _,_,_,_,_,.nil,_=>.nil
 | _,_,_,i,_,.aq r,e=>by
  cases i with
  | zero=>exact .aq r
  | succ i=>exact .aq (RS.wI _ r (by simpa using e))
 | _,_,_,i,_,.eT h0 r,e=>by
  cases i with
  | zero=>simp at e
  | succ i=>exact .eT h0 (RS.wI _ r (by simpa using e))
theorem RS.keep{W:List Addr}(hf:ae F F')(hb:gL W H H')(hl:ir W H)(r:RS F H δ σ C)(hn:∀a∈C,F' a=none)(hd:∀a∈C,a ∉ W):RS F' H' δ σ C:=by
 induction r with
 | nil=>exact .nil
 | aq _ ih=>exact .aq (ih hn hd)
 | eT h _ ih=>exact .eT (h.keep hf hb hl (λa ha=>hn a (by simp[ha])) λa ha=>hd a (by simp[ha])) (ih (λa ha=>hn a (by simp[ha])) λa ha=>hd a (by simp[ha]))
theorem RS.lists(r:RS F H δ σ C):∀a∈C,(∃ws,H a=some (.lst ws))/\F a=none:=by
 induction r with
 | nil=>simp
 | aq _ ih=>exact ih
 | eT h _ ih=>exact λa ha=>(eA.mp ha).elim (h.lists a) (ih a)
theorem RS.none_of:∀{δ:Dl} {σ:St} {C:List Addr} {aw:St},RS F H δ σ C->aw.length=σ.length->RS F H (aw.map λ_=>none) aw []
 | _,_,_,[],_,_=>.nil
 | _,_,_,o::aw,.nil,e=>by simp at e
 | _,_,_,o::aw,.aq r,e=>.aq (RS.none_of r (by simpa using e))
 | _,_,_,o::aw,.eT _ r,e=>.aq (RS.none_of r (by simpa using e))
end
structure Bs where
 H0:Hp
 F0:Hp
structure aj(B:Bs)(F H:Hp)(σ:St)(δ:Dl)(ts:List (D × V)):Prop where
 ext:ae F H
 b1:ae B.H0 H
 b2:ae B.F0 F
 b3:∀a ws,F a=some (.lst ws)->B.F0 a=some (.lst ws)\/B.H0 a=none
 own:∃A C,R F H (ts.map (·.1)) (ts.map (·.2)) A/\RS F H δ σ C/\(A++C).Nodup/\∀a∈A++C,B.H0 a=none
section
variable{B:Bs}{F F' H H':Hp}{d:D}{v:V}{δ:Dl}{σ:St}{ts ps:List (D × V)}{A C W:List Addr}{i:Nat}{p:Addr}{xs ys:List D}{vs ws:List V}
theorem aj.look(c:aj B F H σ δ ts)(e:δ[i]?=some (some d)):∃v,σ[i]?=some (some v)/\S F H [d] [v]:=by
 obtain⟨A,C,r,s,nd,fr⟩:=c.own
 obtain⟨v,A',C',e1,h1,h2,p⟩:=s.pick e
 exact⟨v,e1,h1.s⟩
theorem aj.len(c:aj B F H σ δ ts):δ.length=σ.length:=let⟨_,_,_,s,_⟩:=c.own;s.length
theorem aj.grow(c:aj B F H σ δ ts)(h:ae H H'):aj B F H' σ δ ts:=by
 obtain⟨A,C,r,s,nd,fr⟩:=c.own
 exact⟨c.ext.trans h,c.b1.trans h,c.b2,c.b3,A,C,r.grow (ae.refl _) h λa ha=>(r.lists a ha).2,s.keep (ae.refl _) (gL.same h) ir.nil (λa ha=>(s.lists a ha).2) (by simp),nd,fr⟩
theorem aj.pop(c:aj B F H σ δ ((d,v)::ts)):aj B F H σ δ ts:=by
 obtain⟨A,C,r,s,nd,fr⟩:=c.own
 obtain⟨w,bV,A1,A2,e,rfl,h1,h2⟩:=R.cw r
 obtain⟨rfl,rfl⟩:=nN e
 refine⟨c.ext,c.b1,c.b2,c.b3,A2,C,h2,s,?_,λa ha=>fr a (by simp at ha ⊢;exact .inr ha)⟩
 rw[eB]at nd
 exact(eK.mp nd).2.1
theorem aj.top(c:aj B F H σ δ ((d,v)::ts)):S F H [d] [v]:=by
 obtain⟨A,C,r,s,nd,fr⟩:=c.own
 obtain⟨w,bV,A1,A2,e,rfl,h1,h2⟩:=R.cw r
 obtain⟨rfl,rfl⟩:=nN e
 exact h1.s
theorem aj.pushS(c:aj B F H σ δ ts)(s:S F H [d] [v])(pl:d.pl=true):aj B F H σ δ ((d,v)::ts):=by
 obtain⟨A,C,r,q,nd,fr⟩:=c.own
 exact⟨c.ext,c.b1,c.b2,c.b3,A,C,(s.r (by simp[pl])).cons r,q,nd,fr⟩
theorem ae.upd{o:HO}(h:H p=none):ae H (upd H p o):=.of λb u e=>by rw[aP (dW e h)];exact e
theorem aj.pack(c:aj B F H σ δ (ps++ts))(hs:ae H H')(k:∀A1,R F H' (ps.map (·.1)) (ps.map (·.2)) A1->A1.Nodup->∃A',R F H' [d] [v] A'/\A'.Nodup/\∀a∈A',a∈A1\/H a=none):aj B F H' σ δ ((d,v)::ts):=by
 obtain⟨A,C,r,s,nd,fr⟩:=c.own
 rw[nQ,nQ]at r
 obtain⟨v1,v2,A1,A2,e,rfl,h1,h2⟩:=R.split r
 have l1:(ps.map (·.2)).length=v1.length:=by rw[<-h1.length];simp
 obtain⟨rfl,rfl⟩:=Lg e l1
 rw[eB]at nd fr
 obtain⟨n1,n2,n3⟩:=eK.mp nd
 have g1:=h1.grow (ae.refl F) hs λa ha=>(h1.lists a ha).2
 have g2:=h2.grow (ae.refl F) hs λa ha=>(h2.lists a ha).2
 have gs:=s.keep (ae.refl F) (gL.same hs) ir.nil (λa ha=>(s.lists a ha).2) (by simp)
 obtain⟨A',r',kq,sub⟩:=k A1 g1 n1
 refine⟨c.ext.trans hs,c.b1.trans hs,c.b2,c.b3,A'++A2,C,r'.cons g2,gs,?_,?_⟩
 ·rw[eB]
  refine eK.mpr ⟨kq,n2,λa ha hb=>?_⟩
  rcases sub a ha with z | z
  ·exact n3 a z hb
  ·rcases eA.mp hb with y | y
   ·obtain⟨⟨_,q⟩,_⟩:=h2.lists a y;rw[z]at q;cases q
   ·obtain⟨⟨_,q⟩,_⟩:=s.lists a y;rw[z]at q;cases q
 ·intro a ha
  rw[eB]at ha
  rcases eA.mp ha with y | y
  ·rcases sub a y with z | z
   ·exact fr a (by simp[z])
   ·exact c.b1.free z
  ·exact fr a (eP _ y)
theorem aj.zr(c:aj B F H σ δ ts)(hs:ae H H')(r:R F H' [d] [v] A)(nd:A.Nodup)(fr:∀a∈A,H a=none):aj B F H' σ δ ((d,v)::ts) :=
 aj.pack (ps:=[]) c hs λ_ _ _=>⟨A,r,nd,λa ha=>.inr (fr a ha)⟩
theorem aj.mh(c:aj B F H σ δ ts)(hp:H p=none)(s:S F H xs vs)(pl:xs.all D.pl=true):aj B F (upd H p (.lst vs)) σ δ ((.lst true xs,.ref p)::ts) :=
 c.zr (ae.upd hp) (A:=[p]) (by simpa using R.own bN (c.ext.free hp) ((s.r pl).shared (ae.refl _) (ae.upd hp)) .nil) (by simp) (by simp[hp])
theorem aj.X8(c:aj B F H σ δ (ps++ts))(hp:H p=none):aj B F (upd H p (.lst (ps.map (·.2)))) σ δ ((.lst true (ps.map (·.1)),.ref p)::ts):=by
 refine c.pack (ae.upd hp) λA1 r nd=>⟨p::A1,by simpa using R.own bN (c.ext.free hp) r .nil,jf.mpr ⟨λh=>?_,nd⟩,λa ha=>?_⟩
 ·obtain⟨A,C,r0,_,_,_⟩:=c.own
  rw[nQ,nQ]at r0
  obtain⟨v1,v2,B1,B2,e,rfl,h1,h2⟩:=R.split r0
  have l1:(ps.map (·.2)).length=v1.length:=by rw[<-h1.length];simp
  obtain⟨rfl,rfl⟩:=Lg e l1
  have g1:=h1.grow (ae.refl F) (ae.upd (o:=.lst (ps.map (·.2))) hp) λa ha=>(h1.lists a ha).2
  have:A1=B1:=R.inj r g1
  subst this
  obtain⟨⟨_,q⟩,_⟩:=h1.lists p h
  rw[hp]at q;cases q
 ·rcases bM.mp ha with rfl | h
  ·exact .inr hp
  ·exact .inl h
theorem aj.X9(c:aj B F H σ δ (ps++ts))(hp:H p=none):aj B F (upd H p (.tup (ps.map (·.2)))) σ δ ((.tup (ps.map (·.1)),.ref p)::ts) :=
 c.pack (ae.upd hp) λA1 r nd=>⟨A1,by simpa using R.tup (F:=F) bN r .nil,nd,λa ha=>.inl ha⟩
theorem aj.perm(c:aj B F H σ δ ps)(h:ps.Perm ts):aj B F H σ δ ts:=by
 obtain⟨A,C,r,s,nd,fr⟩:=c.own
 obtain⟨A',r',p⟩:=r.perm h
 have pp:=p.append_right C
 exact⟨c.ext,c.b1,c.b2,c.b3,A',C,r',s,pp.nodup_iff.mp nd,λa ha=>fr a (pp.mem_iff.mpr ha)⟩
theorem aj.move(c:aj B F H σ δ ts)(e:δ[i]?=some (some d)):∃v,σ[i]?=some (some v)/\aj B F H σ (δ.set i none) ((d,v)::ts):=by
 obtain⟨A,C,r,s,nd,fr⟩:=c.own
 obtain⟨v,A',C',e1,h1,h2,p⟩:=s.pick e
 have pp:(A++C).Perm ((A'++A)++C'):=by
  refine(p.append_left A).trans ?_
  rw[<-eB]
  exact nO.append_right _
 exact⟨v,e1,c.ext,c.b1,c.b2,c.b3,A'++A,C',h1.cons r,h2,pp.nodup_iff.mp nd,λa ha=>fr a (pp.mem_iff.mpr ha)⟩
theorem aj.forget(c:aj B F H σ δ ts)(i:Nat):aj B F H σ (δ.set i none) ts:=by
 obtain⟨A,C,r,s,nd,fr⟩:=c.own
 obtain⟨C',h,sb⟩:=s.drop i
 exact⟨c.ext,c.b1,c.b2,c.b3,A,C',r,h,nd.sublist ((Lf A).append sb),λa ha=>fr a (((Lf A).append sb).subset ha)⟩
theorem aj.fill(c:aj B F H σ δ ((d,v)::ts))(e:δ[i]?=some none)(e2:σ[i]?=some (some v)):aj B F H σ (δ.set i (some d)) ts:=by
 obtain⟨A,C,r,s,nd,fr⟩:=c.own
 obtain⟨w,bV,A1,A2,e',rfl,h1,h2⟩:=R.cw r
 obtain⟨rfl,rfl⟩:=nN e'
 obtain⟨C',s',p⟩:=s.fill e e2 h1
 have pp:((A1++A2)++C).Perm (A2++C'):=by
  refine((nO (l₁:=A1) (l₂:=A2)).append_right C).trans ?_
  rw[eB]
  exact(p.symm).append_left A2
 exact⟨c.ext,c.b1,c.b2,c.b3,A2,C',h2,s',pp.nodup_iff.mp nd,λa ha=>fr a (pp.mem_iff.mpr ha)⟩
theorem aj.wI(c:aj B F H σ δ ts)(o:Option V)(e:δ[i]?=some none\/δ[i]?=none):aj B F H (σ.set i o) δ ts:=by
 obtain⟨A,C,r,s,nd,fr⟩:=c.own
 exact⟨c.ext,c.b1,c.b2,c.b3,A,C,r,s.wI o e,nd,fr⟩
theorem aj.store(c:aj B F H σ δ ((d,v)::ts))(i:Nat):aj B F H (σ.set i (some v)) (δ.set i (some d)) ts:=by
 by_cases hi:i<δ.length
 ·have c1:=c.forget i
  have hs:i<σ.length:=by rw[<-c.len];exact hi
  have e:(δ.set i none)[i]?=some none:=by simp[hi]
  have c2:=(c1.wI (some v) (.inl e)).fill (i:=i) e (by simp[hs])
  rwa [List.set_set]at c2
 ·have hs:¬ i<σ.length:=by rw[<-c.len];exact hi
  rw[Td (by omega),Td (by omega)]
  exact c.pop
theorem aj.mut(c:aj B F H σ δ (ps++ts))(e:δ[i]?=some (some (.lst true xs)))(e2:σ[i]?=some (some (.ref p)))
  (k:∀ws A1 A2,H p=some (.lst ws)->R F H xs ws A1->R F H (ps.map (·.1)) (ps.map (·.2)) A2->(A1++A2).Nodup->∃A',R F H ys vs A'/\A'.Nodup/\∀a∈A',a∈A1++A2) :
  aj B F (upd H p (.lst vs)) σ (δ.set i (some (.lst true ys))) ts:=by
 have hi:i<δ.length:=(jU.mp e).1
 obtain⟨v,e3,c1⟩:=c.move e
 rw[e2]at e3;cases e3
 obtain⟨A,C,r,s,nd,fr⟩:=c1.own
 have r':R F H (([.lst true xs]++ps.map (·.1))++ts.map (·.1)) ((.ref p::ps.map (·.2))++ts.map (·.2)) A:=by simpa using r
 obtain⟨v1,v2,A1,A2,e4,rfl,h1,h2⟩:=R.split r'
 have l1:(V.ref p::ps.map (·.2)).length=v1.length:=by rw[<-h1.length];simp
 obtain⟨rfl,rfl⟩:=Lg e4 l1
 cases h1 with
 | @own _ mi _ B1 _ _ B2 hH hF hx hr =>
  rw[eB]at nd fr
  obtain⟨n1,n2,n3⟩:=eK.mp nd
  obtain⟨m1,m2⟩:=jf.mp n1
  obtain⟨A',ra,Ya,sub⟩:=k mi B1 B2 hH hx hr m2
  have pA:p ∉ A':=λz=>m1 (sub _ z)
  have pR:p ∉ A2++C:=λz=>n3 p (by simp) z
  have but:gL [p] H (upd H p (.lst vs)):=⟨λa o q z _=>by rw[aP (by simpa using z)];exact q⟩
  have hl:ir [p] H:=λa ha=>by rw[nL.mp ha];exact⟨_,hH⟩
  have g1:=ra.keep (ae.refl F) but hl (λa ha=>(ra.lists a ha).2) λa ha z=>pA (by rw[<-nL.mp z];exact ha)
  have g2:=h2.keep (ae.refl F) but hl (λa ha=>(h2.lists a ha).2) λa ha z=>pR (by rw[<-nL.mp z];exact fO _ ha)
  have gs:=s.keep (ae.refl F) but hl (λa ha=>(s.lists a ha).2) λa ha z=>pR (by rw[<-nL.mp z];exact eP _ ha)
  have fp:B.H0 p=none:=fr p (by simp)
  have b1:ae B.H0 (upd H p (.lst vs)):=⟨λa o q n=>by
   rw[aP (λz=>by rw[z,fp]at q;cases q)]
   exact c1.b1.get a o q n,λa ps q=>by
   rw[aP (λz=>by rw[z,fp]at q;cases q)]
   exact c1.b1.tb a ps q⟩
  have ext:ae F (upd H p (.lst vs)):=⟨λa o q n=>by
   rw[aP (λz=>by rw[z,hF]at q;cases q)]
   exact c1.ext.get a o q n,λa ps q=>by
   rw[aP (λz=>by rw[z,hF]at q;cases q)]
   exact c1.ext.tb a ps q⟩
  have c2:aj B F (upd H p (.lst vs)) σ (δ.set i none) ((.lst true ys,.ref p)::ts):=by
   refine⟨ext,b1,c1.b2,c1.b3,(p::A')++A2,C,R.cons (by simpa using R.own bN hF g1 .nil) g2,gs,?_,?_⟩
   ·rw[eB]
    refine eK.mpr ⟨jf.mpr ⟨pA,Ya⟩,n2,λa ha hb=>?_⟩
    rcases bM.mp ha with rfl | ha
    ·exact pR hb
    ·exact n3 a (jT _ (sub a ha)) hb
   ·intro a ha
    rw[eB]at ha
    rcases eA.mp ha with z | z
    ·rcases bM.mp z with rfl | z
     ·exact fp
     ·exact fr a (fO _ (jT _ (sub a z)))
    ·exact fr a (eP _ z)
  have c3:=c2.fill (i:=i) (by simp[hi]) e2
  rwa [List.set_set]at c3
theorem aj.rebase(c:aj B F H σ δ ts):aj ⟨B.H0,F⟩ F H σ δ ts:=⟨c.ext,c.b1,ae.refl _,λ_ _ q=>.inl q,c.own⟩
theorem aj.Yb{F1:Hp}(c:aj ⟨B.H0,F1⟩ F H σ δ ts)(h:ae B.F0 F1)(h3:∀a ws,F1 a=some (.lst ws)->B.F0 a=some (.lst ws)\/B.H0 a=none):aj B F H σ δ ts :=
 ⟨c.ext,c.b1,h.trans c.b2,λa o q=>(c.b3 a o q).elim (h3 a o) .inr,c.own⟩
theorem aj.only(c:aj B F H σ δ ts){aw:St}{ag:Dl}(h:RS F H ag aw []):aj B F H aw ag ts:=by
 obtain⟨A,C,r,s,nd,fr⟩:=c.own
 exact⟨c.ext,c.b1,c.b2,c.b3,A,[],r,h,by simpa using(eK.mp nd).1,λa ha=>fr a (by simp at ha;simp[ha])⟩
theorem aj.call(c:aj B F H σ δ ts)(hs:ae H H')(hf:ae F F')(he:ae F' H')(h3:∀a ws,F' a=some (.lst ws)->F a=some (.lst ws)\/H a=none)(r:R F' H' [d] [v] A)(nd:A.Nodup)(fr:∀a∈A,H a=none) :
  aj B F' H' σ δ ((d,v)::ts):=by
 obtain⟨A0,C,r0,s,Yc,Yd⟩:=c.own
 have no:∀a,(∃ws,H a=some (.lst ws))/\F a=none->F' a=none:=λa zz=>by
  obtain⟨⟨ws,e⟩,n⟩:=zz
  cases q:F' a with
  | none=>rfl
  | some o =>
   have q2:H' a=some o:=by
    cases n:gI o with
    | true=>exact he.get a o q n
    | false =>
     obtain⟨ps,rfl⟩:=DY n
     obtain⟨m,z⟩:=he.tb a ps q
     rw[hs a _ e]at z
     cases z
   rw[hs a _ e]at q2
   cases q2
   rcases h3 a ws q with z | z
   ·rw[n]at z;cases z
   ·rw[e]at z;cases z
 refine⟨he,c.b1.trans hs,c.b2.trans hf,λa o q=>(h3 a o q).elim (c.b3 a o) λz=>.inr (c.b1.free z),A++A0,C,R.cons r (r0.grow hf hs λa ha=>no a (r0.lists a ha)),
  s.keep hf (gL.same hs) ir.nil (λa ha=>no a (s.lists a ha)) (by simp),?_,?_⟩
 ·rw[eB]
  refine eK.mpr ⟨nd,Yc,λa ha hb=>?_⟩
  have z:=fr a ha
  rcases eA.mp hb with y | y
  ·obtain⟨⟨_,q⟩,_⟩:=r0.lists a y;rw[z]at q;cases q
  ·obtain⟨⟨_,q⟩,_⟩:=s.lists a y;rw[z]at q;cases q
 ·intro a ha
  rw[eB]at ha
  rcases eA.mp ha with y | y
  ·exact c.b1.free (fr a y)
  ·exact Yd a y
theorem aj.Nn(c:aj B F H σ δ ((d,v)::ts)):aj B F H (some v::σ) (some d::δ) ts:=by
 obtain⟨A,C,r,s,nd,fr⟩:=c.own
 obtain⟨w,bV,A1,A2,e',rfl,h1,h2⟩:=R.cw r
 obtain⟨rfl,rfl⟩:=nN e'
 have pp:((A1++A2)++C).Perm (A2++(A1++C)):=by
  rw[<-eB];exact nO.append_right C
 exact⟨c.ext,c.b1,c.b2,c.b3,A2,A1++C,h2,.eT h1 s,pp.nodup_iff.mp nd,λa ha=>fr a (pp.mem_iff.mpr ha)⟩
theorem aj.Ye{w:V}(c:aj B F H (some w::σ) (some d::δ) ts):aj B F H σ δ ((d,w)::ts):=by
 obtain⟨A,C,r,s,nd,fr⟩:=c.own
 cases s with
 | @eT _ _ A1 _ _ C1 h1 s =>
  have pp:(A++(A1++C1)).Perm ((A1++A)++C1):=by
   rw[<-eB];exact nO.append_right C1
  exact⟨c.ext,c.b1,c.b2,c.b3,A1++A,C1,R.cons h1 r,s,pp.nodup_iff.mp nd,λa ha=>fr a (pp.mem_iff.mpr ha)⟩
theorem aj.Yf(c:aj B F H σ δ ((d,v)::(.lst true xs,.ref p)::ts))(hp:H p=some (.lst ws)):aj B F (upd H p (.lst (ws++[v]))) σ δ ((.lst true (xs++[d]),.ref p)::ts):=by
 have c1:=(c.perm (List.Perm.swap _ _ _)).Nn
 refine(aj.mut (ps:=[(d,v)]) (i:=0) (ys:=xs++[d]) (vs:=ws++[v]) c1 rfl rfl λdP A1 A2 h r1 r2 nd=>?_).Ye
 rw[hp]at h;cases h
 exact⟨A1++A2,r1.append r2,nd,λa ha=>ha⟩
theorem aj.app(c:aj B F H σ δ ((d,v)::ts))(e:δ[i]?=some (some (.lst true xs)))(e2:σ[i]?=some (some (.ref p)))(hp:H p=some (.lst ws)) :
  aj B F (upd H p (.lst (ws++[v]))) σ (δ.set i (some (.lst true (xs++[d])))) ts :=
 aj.mut (ps:=[(d,v)]) c e e2 λdP A1 A2 h r1 r2 nd=>by
  rw[hp]at h;cases h
  exact⟨A1++A2,r1.append r2,nd,λa ha=>ha⟩
theorem R.Np:∀{xs:List D} {ws:List V} {A1 A2:List Addr} (j:Nat),R F H xs ws A1->R F H [d] [v] A2->(A1++A2).Nodup->∃A',R F H (xs.set j d) (ws.set j v) A'/\A'.Nodup/\∀a∈A',a∈A1++A2
 | [],_,A1,A2,j,r,q,nd=>by cases r;exact⟨[],.nil,by simp,by simp⟩
 | x::xs,_,A1,A2,j,r,q,nd=>by
  obtain⟨w,dP,B1,B2,rfl,rfl,h1,h2⟩:=r.cw
  rw[eB]at nd
  obtain⟨n1,n2,n3⟩:=eK.mp nd
  cases j with
  | zero =>
   refine⟨A2++B2,q.cons h2,(nO (l₁:=B2) (l₂:=A2)).nodup_iff.mp n2,λa ha=>?_⟩
   simp only[eA]at ha ⊢
   rcases ha with z | z
   ·exact .inr z
   ·exact .inl (.inr z)
  | succ j =>
   obtain⟨A',r',kq,sub⟩:=R.Np j h2 q n2
   refine⟨B1++A',h1.cons r',eK.mpr ⟨n1,kq,λa ha hb=>n3 a ha (sub a hb)⟩,λa ha=>?_⟩
   rcases eA.mp ha with z | z
   ·simp[z]
   ·have:=sub a z
    simp only[eA]at this ⊢
    rcases this with z | z
    ·exact .inl (.inr z)
    ·exact .inr z
theorem aj.Yg(c:aj B F H σ δ ((d,v)::ts))(e:δ[i]?=some (some (.lst true xs)))(e2:σ[i]?=some (some (.ref p)))(hp:H p=some (.lst ws))(j:Nat) :
  aj B F (upd H p (.lst (ws.set j v))) σ (δ.set i (some (.lst true (xs.set j d)))) ts :=
 aj.mut (ps:=[(d,v)]) c e e2 λdP A1 A2 h r1 r2 nd=>by
  rw[hp]at h;cases h
  exact r1.Np j r2 nd
theorem aj.ownAt(c:aj B F H σ δ ts)(e:δ[i]?=some (some (.lst true xs))):∃p ws,σ[i]?=some (some (.ref p))/\H p=some (.lst ws)/\xs.length=ws.length:=by
 obtain⟨v,e1,s⟩:=c.look e
 cases s with
 | own h x _=>exact⟨_,_,e1,h,x.length⟩
theorem RS.start{ds:List D}{vs:List V}(r:R F H ds vs [])(n:Nat):RS F H (ds.map some++aN n none) (vs.map some++aN n none) []:=by
 have z:∀n,RS F H (aN n none) (aN n none) []:=λn=>by
  induction n with
  | zero=>exact .nil
  | succ n ih=>exact .aq ih
 have:∀(ds:List D) (vs:List V),R F H ds vs []->RS F H (ds.map some++aN n none) (vs.map some++aN n none) []:=by
  intro ds
  induction ds with
  | nil=>intro vs r;cases r;exact z n
  | cons d ds ih =>
   intro vs r
   obtain⟨v,bV,A1,A2,rfl,e,h1,h2⟩:=r.cw
   obtain⟨rfl,rfl⟩:=Cn.mp e.symm
   exact .eT (A:=[]) h1 (ih _ h2)
 exact this ds vs r
theorem aj.start{ds:List D}{vs:List V}(e:ae F H)(r:R F H ds vs [])(n:Nat):aj ⟨H,F⟩ F H (vs.map some++aN n none) (ds.map some++aN n none) [] :=
 ⟨e,ae.refl _,ae.refl _,λ_ _ q=>.inl q,[],[],.nil,RS.start r n,by simp,by simp⟩
theorem aj.snap(c:aj B F H σ δ ts):aj B (L3.snap F H) H σ δ ts:=by
 obtain⟨A,C,r,s,nd,fr⟩:=c.own
 have no:∀a,(∃ws,H a=some (.lst ws))/\F a=none->L3.snap F H a=none:=λa ⟨⟨ws,e⟩,n⟩=>X7 e n
 exact⟨X5 c.ext,c.b1,c.b2.trans (mf c.ext),λa ws q=>c.b3 a ws (X6 c.ext q),A,C,r.grow (mf c.ext) (ae.refl _) λa ha=>no a (r.lists a ha),
  s.keep (mf c.ext) (gL.same (ae.refl _)) ir.nil (λa ha=>no a (s.lists a ha)) (by simp),nd,fr⟩
end
end L3
namespace L3
open PySem L2 PySem.Spec PyProof.Rows
noncomputable abbrev aC:=Dl->(D->Dl->Prop)->Prop
noncomputable abbrev eL:=Dl->(Bool->Dl->Prop)->Prop
noncomputable abbrev bW:=Dl->(List D->Dl->Prop)->Prop
structure oJ where
 nx:Dl->Prop
 rt:D->Prop
 bk:Dl->Prop:=λ_=>False
 ct:Dl->Prop:=λ_=>False
 xc:Addr->Dl->Prop:=λ_ _=>False
 xr:Addr->Dl->Prop:=λ_ _=>False
noncomputable abbrev cA:=oJ->Dl->Prop
noncomputable def lE(t:aC):TE:=λσ H Q=>∃B F δ ts Qd,aj B F H σ δ ts/\t δ Qd/\∀d ag v F' H',Qd d ag->ae F F'->ae H H'->aj B F' H' σ ag ((d,v)::ts)->Q v H'
noncomputable def lB(t:aC):TE:=λσ H Q=>∃B F δ ts Qd,aj B F H σ δ ts/\t δ Qd/\∀d ag v F' H',Qd d ag->ae F F'->ae H H'->aj B F' H' σ ag ts->S F' H' [d] [v]->Q v H'
noncomputable def lT(t:eL):TT:=λσ H Q=>∃B F δ ts Qd,aj B F H σ δ ts/\t δ Qd/\∀b ag F' H',Qd b ag->ae F F'->ae H H'->aj B F' H' σ ag ts->Q b H'
noncomputable def lA(t:bW):TA:=λσ H Q=>∃B F δ ts Qd,aj B F H σ δ ts/\t δ Qd/\∀ds ag vs F' H',Qd ds ag->ae F F'->ae H H'->aj B F' H' σ ag ts->S F' H' ds vs->Q vs H'
noncomputable def lO(t:bW):TA:=λσ H Q=>∃B F δ ts Qd,aj B F H σ δ ts/\t δ Qd/\∀(ps:List (D × V)) ag F' H',Qd (ps.map (·.1)) ag->ae F F'->ae H H'->aj B F' H' σ ag (ps++ts)->Q (ps.map (·.2)) H'
noncomputable def XL(X:Cx)(B:Bs)(Dd:oJ):Prop :=
 (∀C ag pins aw F' H' s' a T,Dd.xc C ag->aj B F' H' aw ag []->Inv X pins aw H' s'->jv s'.heap a T (.ref C)->Apart X pins H' a->Apart X pins H' T->X.xe (.ref a) s') /\
 (∀C ag pins aw F' H' s' h' e vs,Dd.xr C ag->aj B F' H' aw ag []->Inv X pins aw H' s'->Le s'.heap h' e (.ref C) vs->X.xe (.ref e) { s' with heap:=h' })
theorem XL.none{X:Cx}{B:Bs}{Dd:oJ}(h1:∀C δ,¬ Dd.xc C δ)(h2:∀C δ,¬ Dd.xr C δ):XL X B Dd:=⟨λC δ _ _ _ _ _ _ _ h=>absurd h (h1 C δ),λC δ _ _ _ _ _ _ _ _ h=>absurd h (h2 C δ)⟩
noncomputable def lS(X:Cx)(t:cA):TS:=λD σ H=>∃B F δ Dd,aj B F H σ δ []/\t Dd δ/\(∀ag aw F' H',Dd.nx ag->aj B F' H' aw ag []->D.nx aw H')/\(∀d v ag aw F' H',Dd.rt d->aj B F' H' aw ag [(d,v)]->D.rt v H') /\
 (∀ag aw F' H',Dd.bk ag->aj B F' H' aw ag []->D.bk aw H')/\(∀ag aw F' H',Dd.ct ag->aj B F' H' aw ag []->D.ct aw H')/\XL X B Dd
section
variable{X:Cx}{e a b c:Expr}{es:List Expr}{pos:Pos}{st:Stmt}{D1:List Stmt}
theorem cQ{t t':TE}(h:PE X e t)(m:∀σ H Q,t' σ H Q->t σ H Q):PE X e t':=λpins s σ H Q I q=>h pins s σ H Q I (m σ H Q q)
theorem D2{t t':TT}(h:PT X e t)(m:∀σ H Q,t' σ H Q->t σ H Q):PT X e t':=λpins s σ H Q I q=>h pins s σ H Q I (m σ H Q q)
theorem Nq{t t':TT}(h:PW X e t)(m:∀σ H Q,t' σ H Q->t σ H Q):PW X e t':=λwh pins s σ H Q I q=>h wh pins s σ H Q I (m σ H Q q)
theorem wJ{t t':TA}(h:PA X es t)(m:∀σ H Q,t' σ H Q->t σ H Q):PA X es t':=λp pins s σ H Q I q=>h p pins s σ H Q I (m σ H Q q)
theorem iY{t t':TS}(h:PS X st t)(m:∀D σ H,t' D σ H->t D σ H):PS X st t':=λpins s σ H D I q=>h pins s σ H D I (m D σ H q)
theorem Nr{t t':TS}(h:PSs X D1 t)(m:∀D σ H,t' D σ H->t D σ H):PSs X D1 t':=λpins s σ H D I q=>h pins s σ H D I (m D σ H q)
variable{t u ta tb tc:aC}
theorem aa(h:PE X e (lE t)):PE X e (lB t):=cQ h λσ H Q ⟨B,F,δ,ts,Qd,c,q,k⟩=>⟨B,F,δ,ts,Qd,c,q,λd ag v F' H' hd sf sh c'=>k d ag v F' H' hd sf sh c'.pop c'.top⟩
noncomputable def mj(t:aC):aC:=λδ Q=>t δ λd ag=>d.pl=true/\Q d ag
theorem fg(h:PE X e (lB t)):PE X e (lE (mj t)):=cQ h λσ H Q ⟨B,F,δ,ts,Qd,c,q,k⟩=>⟨B,F,δ,ts,_,c,q,λd ag v F' H' hd sf sh c' s=>k d ag v F' H' hd.2 sf sh (c'.pushS s hd.1)⟩
noncomputable def kr(i:Nat):aC:=λδ Q=>match δ[i]? with
 | some (some d)=>Q d δ
 | _=>False
noncomputable def ku(i:Nat):aC:=λδ Q=>match δ[i]? with
 | some (some d)=>Q d (δ.set i none)
 | _=>False
theorem Yh{i:Nat}{δ:Dl}{Q:D->Dl->Prop}(h:kr i δ Q):∃d,δ[i]?=some (some d)/\Q d δ:=by
 unfold kr at h
 split at h
 ·rename_i d e;exact⟨d,e,h⟩
 ·exact h.elim
theorem Yi{i:Nat}{δ:Dl}{Q:D->Dl->Prop}(h:ku i δ Q):∃d,δ[i]?=some (some d)/\Q d (δ.set i none):=by
 unfold ku at h
 split at h
 ·rename_i d e;exact⟨d,e,h⟩
 ·exact h.elim
noncomputable def dC(d:D):aC:=λδ Q=>Q d δ
theorem bv(i:Nat){x:Str}(hN:X.N[i]?=some x:=by rfl)(hv:iL X.env.scope x:=by first | exact ar rfl | exact bh (ar rfl) | exact bh (bh rfl))(hd:(x==("__debug__":Str))=false:=by decide)
  (bX:(x==("__classdict__":Str))=false:=by decide):PE X (.Name x pos) (lB (kr i)):=cQ (lK hN hv hd bX) λσ H Q ⟨B,F,δ,ts,Qd,c,q,k⟩=>by
 obtain⟨d,e,q⟩:=Yh q
 obtain⟨v,e1,s⟩:=c.look e
 exact⟨v,e1,k d δ v F H q (ae.refl _) (ae.refl _) c s⟩
theorem em(i:Nat){x:Str}(hN:X.N[i]?=some x:=by rfl)(hv:iL X.env.scope x:=by first | exact ar rfl | exact bh (ar rfl) | exact bh (bh rfl))(hd:(x==("__debug__":Str))=false:=by decide)
  (bX:(x==("__classdict__":Str))=false:=by decide):PE X (.Name x pos) (lE (ku i)):=cQ (lK hN hv hd bX) λσ H Q ⟨B,F,δ,ts,Qd,c,q,k⟩=>by
 obtain⟨d,e,q⟩:=Yi q
 obtain⟨v,e1,c'⟩:=c.move e
 exact⟨v,e1,k d _ v F H q (ae.refl _) (ae.refl _) c'⟩
theorem D3{B:Bs}{F H:Hp}{σ:L2.St}{δ:Dl}{ts:List (D × V)}{Qd:D->Dl->Prop}{Q:VK}{d:D}{v:V}(c:aj B F H σ δ ts)(q:Qd d δ)(s:S F H [d] [v])(p:d.pl=true)
  (k:∀d ag v F' H',Qd d ag->ae F F'->ae H H'->aj B F' H' σ ag ((d,v)::ts)->Q v H'):Q v H:=k d δ v F H q (ae.refl _) (ae.refl _) (c.pushS s p)
theorem ao{i j}:PE X (.Constant (.int i) j pos) (lE (dC (.int i))):=cQ rH λσ H Q ⟨B,F,δ,ts,Qd,c,q,k⟩=>D3 c q (.int .nil) rfl k
theorem jx{i j}:PE X (.Constant (.bool i) j pos) (lE (dC (.bl i))):=cQ TX λσ H Q ⟨B,F,δ,ts,Qd,c,q,k⟩=>D3 c q (.bl .nil) rfl k
theorem D4{x j}:PE X (.Constant (.str x) j pos) (lE (dC (.str x))):=cQ TY λσ H Q ⟨B,F,δ,ts,Qd,c,q,k⟩=>D3 c q (.str .nil) rfl k
noncomputable abbrev cB:=D->D->(D->Prop)->Prop
noncomputable def zt(r:R2)(rd:cB):Prop:=∀{B:Bs} {F H:Hp} {σ:L2.St} {δ:Dl} {ts:List (D × V)} {x y:D} {v w:V} {Q:VK} {Qd:D->Prop},aj B F H σ δ ts->S F H [x] [v]->S F H [y] [w]->rd x y Qd ->
 (∀d z H',Qd d->ae H H'->aj B F H' σ δ ((d,z)::ts)->Q z H')->r v w H Q
noncomputable def bJ(X:Cx)(f:Value->Value->Sem Value)(rd:cB):Prop:=∃r,cu X f r/\zt r rd
theorem bJ.or{f:Value->Value->Sem Value}{r1 r2:cB}(h1:bJ X f r1)(h2:bJ X f r2):bJ X f λx y Q=>r1 x y Q\/r2 x y Q:=by
 obtain⟨q1,a1,b1⟩:=h1
 obtain⟨q2,a2,b2⟩:=h2
 refine⟨_,a1.or a2,λ{B F H σ δ ts x y v w Q Qd} c sx sy h k=>?_⟩
 rcases h with h | h
 ·exact .inl (b1 c sx sy h k)
 ·exact .inr (b2 c sx sy h k)
theorem bJ.imp{f:Value->Value->Sem Value}{r1 r2:cB}(h1:bJ X f r1)(h:∀x y Q,r2 x y Q->r1 x y Q):bJ X f r2:=by
 obtain⟨q1,a1,b1⟩:=h1
 exact⟨q1,a1,λ{B F H σ δ ts x y v w Q Qd} c sx sy h2 k=>b1 c sx sy (h _ _ _ h2) k⟩
noncomputable def jy(rd:cB)(ta tb:aC):aC:=λδ Q=>ta δ λx ai=>tb ai λy aG=>rd x y λd=>Q d aG
theorem D6{r:R2}{rd:cB}(hl:zt r rd):∀σ H Q,lE (jy rd ta tb) σ H Q->wc r (lB ta) (lB tb) σ H Q:=λσ H Q ⟨B,F,δ,ts,Qd,c,q,k⟩ =>
 ⟨B,F,δ,ts,_,c,q,λx ai v F1 H1 q1 f1 h1 c1 s1=>⟨B,F1,ai,ts,_,c1,q1,λy aG w F2 H2 q2 f2 h2 c2 s2 =>
  hl c2 (s1.mono f2 h2) s2 q2 λd z H' hd hs c3=>k d aG z F2 H' hd (f1.trans f2) ((h1.trans h2).trans hs) c3⟩⟩
theorem aA{op:Operator}{rd:cB}(ho:bJ X (binaryOp op) rd)(ha:PE X a (lB ta))(hb:PE X b (lB tb)):PE X (.BinOp a op b pos) (lE (jy rd ta tb)):=by
 obtain⟨r,h1,h2⟩:=ho
 exact cQ (yY h1 ha hb) (D6 h2)
theorem wK{op:CmpOp}{rd:cB}(ho:bJ X (compareOp op) rd)(ha:PE X a (lB ta))(hb:PE X b (lB tb))(hm:behindInMarks op b=false):PE X (.Compare a [op] [b] pos) (lE (jy rd ta tb)):=by
 obtain⟨r,h1,h2⟩:=ho
 exact cQ (Vc h1 ha hb hm) (D6 h2)
noncomputable def dT(t:aC):eL:=λδ Q=>t δ λd ag=>∃k,d=.bl k/\Q k ag
theorem Yj{te:TE}(h:∀σ H Q,lE t σ H Q->te σ H Q):∀σ H Q,lT (dT t) σ H Q->LS te σ H Q:=λσ H Q zz=>by
 obtain⟨B,F,δ,ts,Qd,c,q,k⟩:=zz
 refine h σ H _ ⟨B,F,δ,ts,_,c,q,λd ag v F' H' hd sf sh c'=>?_⟩
 obtain⟨b,rfl,qb⟩:=hd
 have s:=c'.top
 cases s with
 | bl _=>exact⟨b,rfl,k b ag F' H' qb sf sh c'.pop⟩
theorem cG{op:CmpOp}{rd:cB}(ho:bJ X (compareOp op) rd)(ha:PE X a (lB ta))(hb:PE X b (lB tb))(hm:behindInMarks op b=false):PT X (.Compare a [op] [b] pos) (lT (dT (jy rd ta tb))):=by
 obtain⟨r,h1,h2⟩:=ho
 exact D2 (Vd h1 ha hb hm) (Yj (D6 h2))
noncomputable def mm(r r':cB)(ta tb tc:aC):aC:=λδ Q=>ta δ λx ai=>tb ai λy aG=>r x y λd=>∃k,d=.bl k/\if k=true then tc aG λz hJ=>r' y z λd'=>Q d' hJ else Q (.bl false) aG
theorem ky(h:PE X e (lB t))(he:∀whole,isTrue e X.env whole=(do let v<-whole;standAt e.pos;holding [v] (truthy v)):=by intro _;rfl):PT X e (lT (dT t)) :=
 D2 (CM h he) λσ H Q ⟨B,F,δ,ts,Qd,c,q,k⟩=>⟨B,F,δ,ts,_,c,q,λd ag v F' H' hd sf sh c' s=>by
  obtain⟨b,rfl,qb⟩:=hd
  cases s with
  | bl _=>exact⟨b,rfl,k b ag F' H' qb sf sh c'⟩⟩
variable{tA tB:eL}{rest:List Expr}
noncomputable def oK(t u:eL):eL:=λδ Q=>t δ λc ai=>if c=true then u ai Q else Q false ai
noncomputable def oM(t u:eL):eL:=λδ Q=>t δ λc ai=>if c=true then Q true ai else u ai Q
noncomputable def oN(t:eL):eL:=λδ Q=>t δ λc ai=>Q (!c) ai
theorem D7(ha:PT X a (lT tA))(hb:PW X (.BoolOp .And (b::rest) pos) (lT tB)):PW X (.BoolOp .And (a::b::rest) pos) (lT (oK tA tB)) :=
 Nq (T4 ha hb) λσ H Q ⟨B,F,δ,ts,Qd,c,q,k⟩=>⟨B,F,δ,ts,_,c,q,λb ai F1 H1 q1 f1 h1 c1=>by
  cases b with
  | true=>exact j7 ⟨B,F1,ai,ts,Qd,c1,by simpa using q1,λb ag F' H' hd sf sh c'=>k b ag F' H' hd (f1.trans sf) (h1.trans sh) c'⟩
  | false=>exact iU (k false ai F1 H1 (by simpa using q1) f1 h1 c1)⟩
theorem rY(ha:PT X a (lT tA))(hb:PW X (.BoolOp .Or (b::rest) pos) (lT tB)):PW X (.BoolOp .Or (a::b::rest) pos) (lT (oM tA tB)) :=
 Nq (T5 ha hb) λσ H Q ⟨B,F,δ,ts,Qd,c,q,k⟩=>⟨B,F,δ,ts,_,c,q,λb ai F1 H1 q1 f1 h1 c1=>by
  cases b with
  | true=>exact j7 (k true ai F1 H1 (by simpa using q1) f1 h1 c1)
  | false=>exact iU ⟨B,F1,ai,ts,Qd,c1,by simpa using q1,λb ag F' H' hd sf sh c'=>k b ag F' H' hd (f1.trans sf) (h1.trans sh) c'⟩⟩
theorem zu(ha:PT X a (lT tA)):PT X (.UnaryOp .Not a pos) (lT (oN tA)) :=
 D2 (CP ha) λσ H Q ⟨B,F,δ,ts,Qd,c,q,k⟩=>⟨B,F,δ,ts,_,c,q,λb ai F1 H1 q1 f1 h1 c1=>k _ ai F1 H1 q1 f1 h1 c1⟩
noncomputable def oO(ta tb:aC):aC:=λδ Q=>ta δ λx ai=>∃c,x=.bl c/\if c=true then tb ai Q else Q (.bl false) ai
noncomputable def oQ(ta tb:aC):aC:=λδ Q=>ta δ λx ai=>∃c,x=.bl c/\if c=true then Q (.bl true) ai else tb ai Q
noncomputable def oR(ta:aC):aC:=λδ Q=>ta δ λx ai=>∃c,x=.bl c/\Q (.bl (!c)) ai
theorem rZ(ha:PE X a (lB ta))(hb:PE X (.BoolOp .And (b::rest) pos) (lE tb)):PE X (.BoolOp .And (a::b::rest) pos) (lE (oO ta tb)) :=
 cQ (Ua ha hb) λσ H Q ⟨B,F,δ,ts,Qd,c,q,k⟩=>⟨B,F,δ,ts,_,c,q,λd ai v F1 H1 q1 f1 h1 c1 s1=>by
  obtain⟨b,rfl,qb⟩:=q1
  cases s1 with
  | bl _ =>
   refine⟨b,rfl,?_⟩
   cases b with
   | true=>exact j7 ⟨B,F1,ai,ts,Qd,c1,by simpa using qb,λd ag v F' H' hd sf sh c'=>k d ag v F' H' hd (f1.trans sf) (h1.trans sh) c'⟩
   | false=>exact iU (k _ ai _ F1 H1 (by simpa using qb) f1 h1 (c1.pushS (.bl .nil) rfl))⟩
theorem Yk(ha:PE X a (lB ta))(hb:PE X (.BoolOp .Or (b::rest) pos) (lE tb)):PE X (.BoolOp .Or (a::b::rest) pos) (lE (oQ ta tb)) :=
 cQ (Ub ha hb) λσ H Q ⟨B,F,δ,ts,Qd,c,q,k⟩=>⟨B,F,δ,ts,_,c,q,λd ai v F1 H1 q1 f1 h1 c1 s1=>by
  obtain⟨b,rfl,qb⟩:=q1
  cases s1 with
  | bl _ =>
   refine⟨b,rfl,?_⟩
   cases b with
   | true=>exact j7 (k _ ai _ F1 H1 (by simpa using qb) f1 h1 (c1.pushS (.bl .nil) rfl))
   | false=>exact iU ⟨B,F1,ai,ts,Qd,c1,by simpa using qb,λd ag v F' H' hd sf sh c'=>k d ag v F' H' hd (f1.trans sf) (h1.trans sh) c'⟩⟩
theorem Nt(ha:PE X a (lB ta)):PE X (.UnaryOp .Not a pos) (lE (oR ta)) :=
 cQ (Uc ha) λσ H Q ⟨B,F,δ,ts,Qd,c,q,k⟩=>⟨B,F,δ,ts,_,c,q,λd ai v F1 H1 q1 f1 h1 c1 s1=>by
  obtain⟨b,rfl,qb⟩:=q1
  cases s1 with
  | bl _=>exact⟨b,rfl,k _ ai _ F1 H1 qb f1 h1 (c1.pushS (.bl .nil) rfl)⟩⟩
noncomputable def oS(t:eL)(ta tb:aC):aC:=λδ Q=>t δ λc ai=>if c=true then ta ai Q else tb ai Q
theorem Yl(hc:PT X c (lT tA))(ha:PE X a (lE ta))(hb:PE X b (lE tb)):PE X (.IfExp c a b pos) (lE (oS tA ta tb)) :=
 cQ (Ue hc ha hb) λσ H Q ⟨B,F,δ,ts,Qd,c,q,k⟩=>⟨B,F,δ,ts,_,c,q,λb ai F1 H1 q1 f1 h1 c1=>by
  cases b with
  | true=>exact j7 ⟨B,F1,ai,ts,Qd,c1,by simpa using q1,λd ag v F' H' hd sf sh c'=>k d ag v F' H' hd (f1.trans sf) (h1.trans sh) c'⟩
  | false=>exact iU ⟨B,F1,ai,ts,Qd,c1,by simpa using q1,λd ag v F' H' hd sf sh c'=>k d ag v F' H' hd (f1.trans sf) (h1.trans sh) c'⟩⟩
noncomputable def mq:bW:=λδ Q=>Q [] δ
noncomputable def mr(t:aC)(r:bW):bW:=λδ Q=>t δ λd ai=>r ai λds aG=>Q (d::ds) aG
theorem au:PA X [] (lA mq):=wJ gY λσ H Q ⟨B,F,δ,ts,Qd,c,q,k⟩=>k [] δ [] F H q (ae.refl _) (ae.refl _) c .nil
variable{tr:bW}
theorem ah(ha:PE X e (lB t))(hr:PA X es (lA tr))(hs:starEach (e::es) X.env=(false,eval e X.env)::starEach es X.env:=by rfl):PA X (e::es) (lA (mr t tr)) :=
 wJ (eE ha hr hs) λσ H Q ⟨B,F,δ,ts,Qd,c,q,k⟩=>⟨B,F,δ,ts,_,c,q,λd ai v F1 H1 q1 f1 h1 c1 s1=>⟨B,F1,ai,ts,_,c1,q1,λds aG vs F2 H2 q2 f2 h2 c2 s2 =>
  k (d::ds) aG (v::vs) F2 H2 q2 (f1.trans f2) (h1.trans h2) c2 ((s1.mono f2 h2).cons s2)⟩⟩
theorem cU:PA X [] (lO mq):=wJ gY λσ H Q ⟨B,F,δ,ts,Qd,c,q,k⟩=>k [] δ F H q (ae.refl _) (ae.refl _) c
theorem cL(ha:PE X e (lE t))(hr:PA X es (lO tr))(hs:starEach (e::es) X.env=(false,eval e X.env)::starEach es X.env:=by rfl):PA X (e::es) (lO (mr t tr)) :=
 wJ (eE ha hr hs) λσ H Q ⟨B,F,δ,ts,Qd,c,q,k⟩=>⟨B,F,δ,ts,_,c,q,λd ai v F1 H1 q1 f1 h1 c1=>⟨B,F1,ai,(d,v)::ts,_,c1,q1,λps aG F2 H2 q2 f2 h2 c2 =>
  k ((d,v)::ps) aG F2 H2 q2 (f1.trans f2) (h1.trans h2) (c2.perm (List.perm_middle))⟩⟩
noncomputable def oU(t:bW):aC:=λδ Q=>t δ λds ag=>ds.length<=sizeLine/\Q (.lst true ds) ag
noncomputable def oV(t:bW):aC:=λδ Q=>t δ λds ag=>ds.length<=sizeLine/\Q (.tup ds) ag
theorem eF(h:PA X es (lO tr)):PE X (.List es pos) (lE (oU tr)) :=
 cQ (VH h) λσ H Q ⟨B,F,δ,ts,Qd,c,q,k⟩=>⟨B,F,δ,ts,_,c,q,λps ai F1 H1 q1 f1 h1 c1=>⟨by simpa using q1.1,λp hp=>k _ ai _ F1 _ q1.2 f1 (h1.trans (ae.upd hp)) (c1.X8 hp)⟩⟩
theorem mv{x1}(h:PA X es (lO tr)):PE X (.Tuple es x1 pos) (lE (oV tr)) :=
 cQ (VG h) λσ H Q ⟨B,F,δ,ts,Qd,c,q,k⟩=>⟨B,F,δ,ts,_,c,q,λps ai F1 H1 q1 f1 h1 c1=>⟨by simpa using q1.1,λp hp=>k _ ai _ F1 _ q1.2 f1 (h1.trans (ae.upd hp)) (c1.X9 hp)⟩⟩
end
end L3
namespace L3
open PySem L2 PySem.Spec PyProof.Rows
noncomputable abbrev bt:=List D->(D->Prop)->Prop
noncomputable def bw(sp:bt):Sp:=λvs H Q _=>∃F ds Qd,ae F H/\R F H ds vs []/\sp ds Qd/\∀d v F' H' A,Qd d->ae H H'->ae F F'->ae F' H'->(∀a ws,F' a=some (.lst ws)->F a=some (.lst ws)\/H a=none)->R F' H' [d] [v] A->A.Nodup->(∀a∈A,H a=none)->Q v H'
noncomputable def mw(sp:bt)(t:bW):aC:=λδ Q=>t δ λds ag=>sp (ds.map D.sh) λd=>(ds.all D.pl||d.fr)=true/\Q d ag
theorem zw{B:Bs}{F H:Hp}{σ:L2.St}{δ:Dl}{ts:List (D × V)}{Qd:D->Prop}{Q:VK}{E:XK}{ds:List D}{vs:List V}{sp:bt}(c:aj B F H σ δ ts)(s:S F H ds vs)(q:sp (ds.map D.sh) λd=>(ds.all D.pl||d.fr)=true/\Qd d)
  (k:∀d v F' H',Qd d->ae F F'->ae H H'->aj B F' H' σ δ ((d,v)::ts)->Q v H'):bw sp vs H Q E:=by
 by_cases hp:ds.all D.pl=true
 ·rw[kn hp]at q
  exact⟨F,ds,_,c.ext,s.r hp,q,λd v F' H' A hd hs hf he h3 r nd fr=>k d v F' H' hd.2 hf hs (c.call hs hf he h3 r nd fr)⟩
 ·refine⟨H,ds.map D.sh,_,ae.refl _,s.frozen c.ext,q,λd v F' H' A hd hs hf he h3 r nd fr=>?_⟩
  have dE:d.fr=true:=by
   have:=hd.1
   rw[Lc]at this
   exact this.resolve_left hp
  exact k d v F H' hd.2 (ae.refl _) hs (c.zr hs (r.zo (by simp[dE]) (c.ext.trans hf)) nd fr)
section
variable{X:Cx}{CX:dH}{n:Nat}{f:Addr}{fd:FuncData}{ps:List Str}{sp:bt}{E:XK}{x:Str}{p pos:Pos}{e:Expr}{es:List Expr}{t:bW}
theorem bK(F:aO X.prog X.w X.K X.mg X.base CX n f fd ps (bw sp))(hr:bE n X.A)(hg:Gl X x)(hm:X.mg x=some (.ref f))(hk:PySem.W.keepIn X.K (.ref f)=true)(hb:Binds X.K fd ps [])(hx:jr CX X E)
  (ha:PA X (e::es) (lA t)) (dJ:(x==("__debug__":Str))=false:=by decide) (he:starEach (e::es) X.env=(false,eval e X.env)::starEach es X.env:=by rfl) (bu:(backTo pos (starEach es X.env)).any (·.1)=false:=by rfl) :
  PE X (.Call (.Name x p) (e::es) [] pos) (lE (mw sp t)) :=
 cQ (ow F hr hg hm hk hb .nil hx ha dJ he bu) λσ H Q ⟨B,F,δ,ts,Qd,c,q,k⟩=>⟨B,F,δ,ts,_,c,q,λds ai vs F1 H1 q1 f1 h1 c1 s1=>by
  show bw sp (vs++[]) H1 Q E
  rw[iF]
  exact zw c1 s1 q1 λd v F' H' hd hf hs c'=>k d ai v F' H' hd (f1.trans hf) (h1.trans hs) c'⟩
end
noncomputable def iu(N:List Str)(ds:List D):Dl:=ds.map some++aN (N.length-ds.length) none
section
variable{P:Program}{w:World}{K:PySem.W.Frag}{mg:Str->Option Value}{base:Heap}
theorem bY{x qual:Str}{st:Stmt}{f:Addr}{fd:FuncData}{N ps:List Str}{k:Nat}{sp:bt}(F:bg K x qual st f fd)(S:bj N ps (ax st))(len:∀ds Q,sp ds Q->ds.length=ps.length)
  (fS:∀(aF:Value) (A:Around) (outer:List Env) (s:Shared) (H:Hp) (E:XK),bE k (A.deeper (envOfC qual (ax st) s.heap.objs.size f aF)) ->
   ∃t:cA,PSs (gF aS P w K mg base N qual (ax st) f aF A outer s H E).eJ (aY st) (lS (gF aS P w K mg base N qual (ax st) f aF A outer s H E).eJ t)/\∀ds Q,sp ds Q->t { nx:=λ_=>Q .aq,rt:=Q } (iu N ds)):aO P w K mg base aS (k+1) f fd ps (bw sp):=by
 refine F.ok S (λvs H Q E ⟨F,ds,Qd,e,r,h,_⟩=>by rw[<-r.length];exact len ds Qd h) λaF A outer s H vs Q E hr zz=>?_
 obtain⟨F,ds,Qd,e,r,h,k⟩:=zz
 obtain⟨t,ht,hq⟩:=fS aF A outer s H E hr
 have fin:∀d v ag aw F' H',Qd d->aj ⟨H,F⟩ F' H' aw ag [(d,v)]->Q v H':=λd v ag aw F' H' hd c=>by
  obtain⟨A,C,r',s',nd,fr⟩:=c.own
  exact k d v F' H' A hd c.b1 c.b2 c.ext c.b3 r' (eK.mp nd).1 λa ha=>fr a (fO _ ha)
 have e1:L2.start N vs=vs.map some++aN (N.length-ds.length) none:=by unfold L2.start;rw[r.length]
 refine⟨_,ht,⟨H,F⟩,F,iu N ds,_,?_,hq ds Qd h,λag aw F' H' hd c=>fin .aq .aq ag aw F' H' hd (c.pushS (.aq .nil) rfl),fin,λ_ _ _ _ z=>z.elim,λ_ _ _ _ z=>z.elim,XL.none (λ_ _ z=>z) λ_ _ z=>z⟩
 rw[e1]
 exact aj.start e r _
end
section
variable{X:Cx}{e a b c:Expr}{es:List Expr}{pos:Pos}{st:Stmt}{D1 rest:List Stmt}{t u:cA}{te:aC}{tt:eL}
noncomputable def oW:cA:=λD δ=>D.nx δ
noncomputable def Nu(t u:cA):cA:=λD δ=>t { D with nx:=u D } δ
theorem aD{t u:cA}{En:oJ}{δ:Dl}(h:∀U:Dl->Prop,(∀ag,u En ag->U ag)->t { En with nx:=U } δ):Nu t u En δ:=h (u En) λ_ z=>z
theorem dF:PSs X [] (lS X oW):=Nr CQ λD σ H ⟨B,F,δ,Dd,c,q,k1,_⟩=>k1 δ σ F H q c
theorem aE(h1:PS X st (lS X t))(h2:PSs X rest (lS X u)):PSs X (st::rest) (lS X (Nu t u)) :=
 Nr (iO h1 h2) λD σ H ⟨B,F,δ,Dd,c,q,k1,k2,k3,k4⟩=>⟨B,F,δ,{ Dd with nx:=u Dd },c,q,λag aw F' H' hq c'=>⟨B,F',ag,Dd,c',hq,k1,k2,k3,k4⟩,k2,k3,k4⟩
theorem aJ(h1:PS X st (lS X t)):PSs X [st] (lS X t):=rJ h1
noncomputable def mx(i:Nat)(t:aC):cA:=λD δ=>t δ λd ag=>D.nx (ag.set i (some d))
theorem aZ{i:Nat}{x:Str}{pos':Pos}(hN:X.N.Nodup)(hi:X.N[i]?=some x)(hx:Loc X.env.scope x)(he:PE X e (lE te))(hs:swapsWith e (some (.Name x pos')) pos.line X.env=pure false:=by rfl)
  (hf:X.fn x=true\/X.env.scope.names.lookup x=some .local:=by first | exact .inl rfl | exact .inr rfl | assumption):PS X (.Assign [.Name x pos'] e pos) (lS X (mx i te)) :=
 iY (CW hN hi hx he hs hf) λD σ H ⟨B,F,δ,Dd,c,q,k1,k2,k3,k4⟩=>⟨B,F,δ,[],_,c,q,λd ag v F' H' hd sf sh c'=>k1 _ _ F' H' hd (c'.store i)⟩
noncomputable def oX(t:aC):cA:=λD δ=>t δ λd _=>D.rt d
theorem aW(he:PE X e (lE te)):PS X (.Return (some e) pos) (lS X (oX te)) :=
 iY (Um he) λD σ H ⟨B,F,δ,Dd,c,q,k1,k2,k3,k4⟩=>⟨B,F,δ,[],_,c,q,λd ag v F' H' hd sf sh c'=>k2 d v ag σ F' H' hd c'⟩
noncomputable def oY(tc:eL)(t u:cA):cA:=λD δ=>tc δ λb ag=>if b=true then t D ag else u D ag
theorem dG{l r:List Stmt}(hc:PT X c (lT tt))(ha:PSs X l (lS X t))(hb:PSs X r (lS X u)):PS X (.If c l r pos) (lS X (oY tt t u)) :=
 iY (CS hc ha hb) λD σ H ⟨B,F,δ,Dd,c,q,k⟩=>⟨B,F,δ,[],_,c,q,λb ag F' H' hq sf sh c'=>by
  cases b with
  | true=>exact j7 ⟨B,F',ag,Dd,c',by simpa using hq,k⟩
  | false=>exact iU ⟨B,F',ag,Dd,c',by simpa using hq,k⟩⟩
noncomputable def oZ(i:Nat)(rd:cB)(t:aC):cA:=λD δ=>∃x,δ[i]?=some (some x)/\t δ λy ai=>rd x y λz=>D.nx (ai.set i (some z))
theorem wL{i:Nat}{x:Str}{op:Operator}{rd:cB}{pos':Pos}(hN:X.N.Nodup)(hi:X.N[i]?=some x)(hx:Loc X.env.scope x)(he:PE X e (lB te))(ho:bJ X (inplaceOp op) rd)
  (hf:X.fn x=true\/X.env.scope.names.lookup x=some .local:=by first | exact .inl rfl | exact .inr rfl | assumption):PS X (.AugAssign (.Name x pos') op e pos) (lS X (oZ i rd te)):=by
 obtain⟨r,h1,h2⟩:=ho
 refine iY (UA hN hi hx he (ti:=r) h1 hf) λD σ H zz=>?_
 obtain⟨B,F,δ,Dd,c,⟨d0,e0,q⟩,k1,k2,k3,k4⟩:=zz
 obtain⟨v0,e1,s0⟩:=c.look e0
 exact⟨v0,e1,B,F,δ,[],_,c,q,λd ag v F' H' hd sf sh c' s=>h2 c' (s0.mono sf sh) s hd λz w H2 hz h3 c3=>k1 _ _ F' H2 hz (c3.store i)⟩
noncomputable def o8(tc:eL)(tb:cA):cA:=λD δ=>∃W:Nat->Dl->Prop,(∃m,W m δ)/\∀m δ,W m δ->tc δ λb ag=>if b=true then tb { D with nx:=λag=>∃m',m'<m/\W m' ag,ct:=λag=>∃m',m'<m/\W m' ag,bk:=D.nx } ag else D.nx ag
theorem my{body:List Stmt}(hp:PassesOwn (model X.prog X.w) X.A X.env X.xe)(hc:PT X c (lT tt))(hb:PSs X body (lS X t)):PS X (.While c body [] pos) (lS X (o8 tt t)) :=
 iY (UE hp hc hb) λD σ H zz=>by
  obtain⟨B,F,δ,Dd,c,⟨W,⟨m0,w0⟩,hw⟩,k1,k2,k3,k4⟩:=zz
  refine⟨λm σ H=>∃F δ,aj B F H σ δ []/\W m δ,⟨m0,F,δ,c,w0⟩,λm σ H ⟨F,δ,c,w⟩=>⟨B,F,δ,[],_,c,hw m δ w,λb ag F' H' hq sf sh c'=>?_⟩⟩
  cases b with
  | true =>
   refine j7 ⟨λaw H'=>∃m',m'<m/\∃F δ,aj B F H' aw δ []/\W m' δ,λaw H' z=>z,B,F',ag,{ Dd with nx:=λag=>∃m',m'<m/\W m' ag,ct:=λag=>∃m',m'<m/\W m' ag,bk:=Dd.nx },c',by simpa using hq,λaG jq F2 H2 ⟨m',hm,w2⟩ c2=>⟨m',hm,F2,aG,c2,w2⟩,k2,λaG jq F2 H2 z c2=>k1 aG jq F2 H2 z c2,λaG jq F2 H2 ⟨m',hm,w2⟩ c2=>⟨m',hm,F2,aG,c2,w2⟩,k4.2⟩
  | false=>exact iU (k1 ag σ F' H' (by simpa using hq) c')
end
structure JD(J:It)(F:Hp)(xs:List D):Prop where
 go:∀i H,ae F H->i<xs.length->J.go i H
 fQ:∀i H x H',ae F H->i<xs.length->J.fQ i H x H'->∃d,xs[i]?=some d/\ae H H'/\R F H' [d] [x] []
 stop:∀i H,ae F H->xs.length<=i->J.stop i H
noncomputable abbrev fZ:=Dl->(Bool->List D->Dl->Prop)->Prop
noncomputable def lI(t:fZ):TI:=λσ H Rr=>∃B F δ ts Qd,aj B F H σ δ ts/\t δ Qd/\∀g xs ag J F' H',Qd g xs ag->ae F F'->ae H H'->aj B F' H' σ ag ts->JD J H' (xs.map D.sh)->(g=true->xs.all D.pl=true/\JD J F' xs)->Rr J H'
noncomputable abbrev gb:=D->Dl->(Dl->Prop)->Prop
noncomputable def lG(m:Nat)(t:gb):TG:=λv σ H Q=>∃B F δ ts d Qd,aj B F H σ δ ((d,v)::ts)/\t d δ Qd/\∀ag aw,Qd ag->aw.length=σ.length->(∀j,j<m->aw[j]?=σ[j]?)->aj B F H aw ag ts->Q aw H
noncomputable def iw:D->Option (List D)
 | .lst _ xs=>some xs
 | .fz xs=>some xs
 | _=>none
section
variable{B:Bs}{F H F1:Hp}{σ:L2.St}{δ:Dl}{ts:List (D × V)}
end
section
variable{X:Cx}{e a b c tg l iter:Expr}{es:List Expr}{pos:Pos}{t u:cA}{te:aC}{tt:eL}{ta:bW}{m:Nat}
theorem mz{w w':TI}(h:PI X tg iter w)(m:∀σ H Q,w' σ H Q->w σ H Q):PI X tg iter w':=λpins s σ H Q I q=>h pins s σ H Q I (m σ H Q q)
theorem Nv{w w':TG}(h:PG X tg w)(m:∀v σ H Q,w' v σ H Q->w v σ H Q):PG X tg w':=λpins s σ H v u Q I r q=>h pins s σ H v u Q I r (m v σ H Q q)
noncomputable def gN(i:Nat):gb:=λd δ Q=>Q (δ.set i (some d))
theorem eG{i:Nat}{x:Str}(hN:X.N.Nodup)(hi:X.N[i]?=some x)(hx:Loc X.env.scope x)(hm:m<=i:=by decide)(hf:X.fn x=true\/X.env.scope.names.lookup x=some .local:=by first | exact .inl rfl | exact .inr rfl | assumption):PG X (.Name x pos) (lG m (gN i)) :=
 Nv (yV hN hi hx hf) λv σ H Q ⟨B,F,δ,ts,d,Qd,c,q,k⟩=>k _ _ q (by simp) (λj hj=>by rw[nC (by omega)]) (c.store i)
theorem wM{K:PySem.W.Frag}{F H:Hp}{p:Addr}{xs:List D}{ws:List V}(hp:Rd F p (.lst ws))(r:R F H xs ws [])(hF:Full F H):JD (CZ K p) F xs where
 go:=λi H' hs hi=>by
  have l:=r.length
  have dM:i<ws.length:=by omega
  exact⟨ws,ws[i],.inl (fY hp hs),bc dM⟩
 fQ:=λi H' x H2 hs hi zz=>by
  obtain⟨e,y⟩:=zz
  subst e
  have hx:=y ws (.inl (fY hp hs))
  obtain⟨v,A1,e2,r1,sub⟩:=(r.full hF hs rfl).get (bc hi)
  rw[hx]at e2;cases e2
  have:A1=[]:=Te.mpr λa ha=>by simpa using sub ha
  subst this
  exact⟨_,bc hi,ae.refl _,r1⟩
 stop:=λi H' hs hi=>⟨ws,.inl (fY hp hs),by have:=r.length;omega⟩
theorem zx{F:Hp}(lo:Int)(n:Nat):JD (v7 lo n) F ((bL n).map λ(k:Nat)=>D.int (lo+(k:Int))) where
 go:=λi H' hs hi=>by
  have dM:i<n:=by simpa using hi
  exact dM
 fQ:=λi H' x H2 hs hi zz=>by
  obtain⟨e,y⟩:=zz
  subst e y
  have dM:i<n:=by simpa using hi
  exact⟨.int (lo+i),by simp[nR dM],ae.refl _,.int .nil⟩
 stop:=λi H' hs hi=>by
  have dM:n<=i:=by simpa using hi
  exact dM
noncomputable def o9(t:aC):fZ:=λδ Q=>t δ λd ag=>∃xs,iw d=some xs/\Q d.pl xs ag
theorem wN(h:PE X l (lB te)):PI X tg l (lI (o9 te)) :=
 mz (UL h) λσ H Q ⟨B,F,δ,ts,Qd,c,q,k⟩=>⟨B,F,δ,ts,_,c,q,λd ai v F1 H1 hd f1 h1 c1 s=>by
  obtain⟨xs,e,hq⟩:=hd
  have c3:=c1.snap
  have e2:=c1.ext
  have sn:=mf e2
  cases s with
  | @shr p ws ys _ _ hp r _ =>
   obtain rfl:=dw e
   refine⟨p,rfl,⟨ws,bf.of (e2 _ _ hp)⟩,k _ _ ai _ _ H1 hq (f1.trans sn) h1 c3 ?_ λ_=>⟨r.pl,wM (.inl (sn _ _ hp)) (r.shared sn (ae.refl _)) oI⟩⟩
   rw[kn r.pl]
   exact wM (.inl (e2 _ _ hp)) (r.shared e2 (ae.refl _)) (Full.refl _)
  | @own p ws ys _ _ hp r _ =>
   obtain rfl:=dw e
   refine⟨p,rfl,⟨ws,bf.of hp⟩,k _ _ ai _ _ H1 hq (f1.trans sn) h1 c3 (wM (.inl hp) (r.frozen e2) (Full.refl _)) λz=>by simp[gJ]at z⟩
  | @fz p o ws ys _ _ hp r _ =>
   obtain rfl:=dw e
   refine⟨p,rfl,⟨ws,.inl (.inr ⟨o,e2 _ _ hp⟩)⟩,k _ _ ai _ _ H1 hq (f1.trans sn) h1 c3 ?_ λ_=>⟨r.pl,wM (.inr ⟨o,sn _ _ hp⟩) (r.shared sn (ae.refl _)) oI⟩⟩
   rw[kn r.pl]
   exact wM (.inr ⟨o,e2 _ _ hp⟩) (r.shared e2 (ae.refl _)) (Full.refl _)
  | aq _=>cases e
  | bl _=>cases e
  | int _=>cases e
  | str _=>cases e
  | tup _ _ _=>cases e
  | obj _ _ _ _=>cases e
  | aV _ _=>cases e⟩
theorem r6(f:Nat->Int)(l:List Nat):(l.map λk=>D.int (f k)).map D.sh=l.map λk=>D.int (f k):=by simp[D.sh]
theorem D8(f:Nat->Int)(l:List Nat):(l.map λk=>D.int (f k)).all D.pl=true:=by simp[D.pl]
noncomputable def pe(t:bW):fZ:=λδ Q=>t δ λds ag=>∃j:Int,ds=[.int j]/\(-(2 ^ 62)<=j/\j<2 ^ 62)/\Q true ((bL j.toNat).map λ(k:Nat)=>D.int (0+(k:Int))) ag
theorem mB{p:Pos}(hg:Gl X "range")(hm:X.mg "range"=none)(ha:PA X [a] (lA ta))(hs:starEach [a] X.env=[(false,eval a X.env)]:=by rfl):PI X tg (.Call (.Name "range" p) [a] [] pos) (lI (pe ta)) :=
 mz (UP hg hm ha hs) λσ H Q ⟨B,F,δ,ts,Qd,c,q,k⟩=>⟨B,F,δ,ts,_,c,q,λds ai vs F1 H1 hd f1 h1 c1 s=>by
  obtain⟨j,rfl,⟨b1,b2⟩,hq⟩:=hd
  cases s with
  | int s =>
   cases s
   refine⟨j,rfl,b1,b2,k true _ ai _ _ H1 hq f1 h1 c1 ?_ λ_=>⟨D8 _ _,zx 0 _⟩⟩
   rw[r6]
   exact zx 0 _⟩
noncomputable def pf(t:bW):fZ:=λδ Q=>t δ λds ag=>∃i j:Int,ds=[.int i,.int j]/\(-(2 ^ 62)<=i/\i<2 ^ 62/\-(2 ^ 62)<=j/\j<2 ^ 62)/\Q true ((bL (j-i).toNat).map λ(k:Nat)=>D.int (i+(k:Int))) ag
theorem zy{p:Pos}(hg:Gl X "range")(hm:X.mg "range"=none)(ha:PA X [a,b] (lA ta))(hs:starEach [a,b] X.env=[(false,eval a X.env),(false,eval b X.env)]:=by rfl)(dB:starEach [b] X.env=[(false,eval b X.env)]:=by rfl) :
  PI X tg (.Call (.Name "range" p) [a,b] [] pos) (lI (pf ta)) :=
 mz (UQ hg hm ha hs dB) λσ H Q ⟨B,F,δ,ts,Qd,c,q,k⟩=>⟨B,F,δ,ts,_,c,q,λds ai vs F1 H1 hd f1 h1 c1 s=>by
  obtain⟨i,j,rfl,bd,hq⟩:=hd
  cases s with
  | int s =>
   cases s with
   | int s =>
    cases s
    refine⟨i,j,rfl,bd,k true _ ai _ _ H1 hq f1 h1 c1 ?_ λ_=>⟨D8 _ _,zx i _⟩⟩
    rw[r6]
    exact zx i _⟩
noncomputable def hR(xs:List D)(g:gb)(tb:cA):cA:=λEn ai=>∃Iv:Nat->Dl->Prop,Iv 0 ai /\
 (∀i d ag,xs[i]?=some d->Iv i ag->g d ag λaG=>tb { En with nx:=Iv (i+1),ct:=Iv (i+1),bk:=En.nx } aG)/\∀ag,Iv xs.length ag->En.nx ag
theorem hR.mk{xs:List D}{g:gb}{tb:cA}{En:oJ}{δ:Dl}(Iv:Nat->Dl->Prop)(h0:Iv 0 δ)(ht:∀i d ag,xs[i]?=some d->Iv i ag->g d ag λaG=>tb { En with nx:=Iv (i+1),ct:=Iv (i+1),bk:=En.nx } aG)
  (hf:∀ag,Iv xs.length ag->En.nx ag):hR xs g tb En δ:=⟨Iv,h0,ht,hf⟩
noncomputable def ph(ti:fZ)(g:gb)(tb:cA):cA:=λEn δ=>ti δ λsh xs ai=>sh=true/\hR xs g tb En ai
theorem jz{ti:fZ}{g:gb}{body:List Stmt}(hp:PassesOwn (model X.prog X.w) X.A X.env X.xe)(hc:X.calm=true)(hi:PI X tg iter (lI ti))(hg:PG X tg (lG 0 g))(hb:PSs X body (lS X t))
  (hs:∀x,foldedSetIterable iter X.env x=pure x:=by intro _;rfl):PS X (.For tg iter body [] pos) (lS X (ph ti g t)) :=
 iY (UT hp hc hi hg hb hs) λEn σ H ⟨B,F,δ,Dd,c,q,k1,k2,k3,k4⟩=>⟨B,F,δ,[],_,c,q,λsh xs ai J F1 H1 hq f1 h1 c1 _ jd=>by
  obtain⟨lU,Iv,i0,turn,fin⟩:=hq
  obtain⟨bu,jd⟩:=jd lU
  have un:∀{F' H':Hp} {aw:L2.St} {ag:Dl} {ts:List (D × V)},aj ⟨B.H0,F1⟩ F' H' aw ag ts->aj B F' H' aw ag ts:=λc'=>c'.Yb c1.b2 c1.b3
  refine⟨λi m σ H=>m=xs.length-i/\i<=xs.length/\∃F δ,aj ⟨B.H0,F1⟩ F H σ δ []/\Iv i δ,⟨_,rfl,iE _,F1,ai,c1.rebase,i0⟩,?_⟩
  rintro i m jq H2 ⟨rfl,hi,F2,aG,c2,iv⟩
  have s2:ae F1 H2:=c2.b2.trans c2.ext
  by_cases fA:i<xs.length
  ·refine .inr ⟨jd.go i H2 s2 fA,λaw H'=>∃F δ,aj ⟨B.H0,F1⟩ F H' aw δ []/\Iv (i+1) δ,λaw H' z=>⟨xs.length-(i+1),by omega,rfl,fA,z⟩,λx H3 y=>?_⟩
   obtain⟨d,e,s3,r⟩:=jd.fQ i H2 x H3 s2 fA y
   have c3:=(c2.grow s3).pushS (d:=d) (v:=x) ((r.s).mono c2.b2 (ae.refl _)) (by have:=r.pl;simpa using this)
   refine⟨⟨B.H0,F1⟩,F2,aG,[],d,_,c3,turn i d aG e iv,λag aw hq _ _ c4=>?_⟩
   exact⟨⟨B.H0,F1⟩,F2,ag,_,c4,hq,λhV kA F5 H5 h5 c5=>⟨F5,hV,c5,h5⟩,λd5 v5 hV kA F5 H5 h5 c5=>k2 d5 v5 hV kA F5 H5 h5 (un c5),λhV kA F5 H5 h5 c5=>k1 hV kA F5 H5 h5 (un c5),λhV kA F5 H5 h5 c5=>⟨F5,hV,c5,h5⟩,⟨λC hV pins kA F5 H5 s5 a T h5 c5=>k4.2.1 C hV pins kA F5 H5 s5 a T h5 (un c5),λC hV pins kA F5 H5 s5 h' e vs h5 c5=>k4.2.2 C hV pins kA F5 H5 s5 h' e vs h5 (un c5)⟩⟩
  ·have e:i=xs.length:=by omega
   subst e
   exact .inl ⟨jd.stop _ H2 s2 (aX _),k1 aG jq F2 H2 (fin aG iv) (un c2)⟩⟩
end
end L3
namespace L3
open PySem L2 PySem.Spec PyProof.Rows
noncomputable def gM(δ:Dl)(q:Str × Nat):Option D:=(δ[q.2]?).getD none
noncomputable def gO(δ:Dl)(q:Str × Nat):Bool:=match gM δ q with
 | some d=>d.pl
 | none=>true
noncomputable def eM(av:List (Str × Nat))(n:Nat)(δ:Dl):Dl:=(av.map λq=>(gM δ q).map D.sh)++aN n none
noncomputable def r9(sh:Bool)(xs:List D)(av:List (Str × Nat))(n:Nat)(g:gb)(tt:eL)(te:aC)(ai:Dl)(Q:D->Dl->Prop):Prop:=∃(p:D->Bool) (f:D->D),
 (∀x∈xs.map D.sh,g x (eM av n ai) λaG=>tt aG λb hJ=>b=p x/\(p x=true->te hJ λd _=>d=f x)) /\
 ((sh&&av.all (gO ai))=true\/∀x∈xs.map D.sh,p x=true->(f x).fr=true)/\xs.length<=sizeLine/\Q (.lst true (((xs.map D.sh).filter p).map f)) ai
noncomputable def mC(ti:fZ)(av:List (Str × Nat))(n:Nat)(g:gb)(tt:eL)(te:aC):aC:=λδ Q=>ti δ λsh xs ai=>r9 sh xs av n g tt te ai Q
noncomputable def iy:eL:=λδ Q=>Q true δ
theorem Ym{sh:Bool}{xs:List D}{av:List (Str × Nat)}{n m:Nat}{te:aC}{ai:Dl}{Q:D->Dl->Prop}(f:D->D)(hx:∀x∈xs.map D.sh,te ((eM av n ai).set m (some x)) λd _=>d=f x)
  (dE:(sh&&av.all (gO ai))=true\/∀x∈xs.map D.sh,(f x).fr=true) (hl:xs.length<=sizeLine) (hq:Q (.lst true ((xs.map D.sh).map f)) ai):r9 sh xs av n (gN m) iy te ai Q :=
 ⟨λ_=>true,f,λx h=>⟨rfl,λ_=>hx x h⟩,dE.imp id λh x hx _=>h x hx,hl,by rw[Tf.mpr (λ_ _=>rfl)];exact hq⟩
section
variable{B:Bs}{F H:Hp}{σ:L2.St}{δ:Dl}{ts:List (D × V)}
theorem Nw(c:aj B F H σ δ ts)(n:Nat):∀(av:List (Str × Nat)),av.all (gO δ)=true->RS F H (eM av n δ) (fB av n σ) []
 | [],_=>by
  have z:∀n,RS F H (aN n none) (aN n none) []:=λn=>by
   induction n with
   | zero=>exact .nil
   | succ n ih=>exact .aq ih
  exact z n
 | q::r,h=>by
  rw[dg,df]at h
  have ih:=Nw c n r h.2
  show RS F H ((gM δ q).map D.sh::eM r n δ) ((σ[q.2]?).getD none::fB r n σ) []
  cases e:gM δ q with
  | none=>exact .aq ih
  | some d =>
   have e2:δ[q.2]?=some (some d):=by
    unfold gM at e
    cases z:δ[q.2]? with
    | none=>rw[z]at e;cases e
    | some o=>rw[z]at e;exact congrArg some e
   have hp:d.pl=true:=by have:=h.1;unfold gO at this;rw[e]at this;exact this
   obtain⟨v,e3,s⟩:=c.look e2
   rw[e3]
   show RS F H (some d.sh::_) (some v::_) []
   rw[D.zm hp]
   exact .eT (A:=[]) (s.r (by simp[hp])) ih
theorem Nx(c:aj B F H σ δ ts)(n:Nat):∀(av:List (Str × Nat)),RS H H (eM av n δ) (fB av n σ) []
 | []=>by
  have z:∀n,RS H H (aN n none) (aN n none) []:=λn=>by
   induction n with
   | zero=>exact .nil
   | succ n ih=>exact .aq ih
  exact z n
 | q::r=>by
  have ih:=Nx c n r
  show RS H H ((gM δ q).map D.sh::eM r n δ) ((σ[q.2]?).getD none::fB r n σ) []
  cases e:gM δ q with
  | none=>exact .aq ih
  | some d =>
   have e2:δ[q.2]?=some (some d):=by
    unfold gM at e
    cases z:δ[q.2]? with
    | none=>rw[z]at e;cases e
    | some o=>rw[z]at e;exact congrArg some e
   obtain⟨v,e3,s⟩:=c.look e2
   rw[e3]
   exact .eT (A:=[]) (s.frozen c.ext) ih
theorem Ny{α:Type}(xs:List α)(p:α->Bool)(i:Nat)(x:α)(h:xs[i]?=some x):(xs.take (i+1)).filter p=(xs.take i).filter p++(if p x=true then [x]else []):=by
 rw[Co,h,List.filter_append]
 simp only[Option.toList_some]
 by_cases hp:p x=true<;>simp[hp]
end
section
variable{X:Cx}{elt iter tg:Expr}{pos:Pos}{ifs:List Expr}{scope:Scope}{cl:List (Str × Addr)}{ti:fZ}{tt:eL}{te:aC}{g:gb}
theorem Nz{B:Bs}{F1 H1:Hp}{σ:L2.St}{ai:Dl}{ts:List (D × V)}{J:It}{Qd:D->Dl->Prop}{Q:VK}{xs:List D}{sh:Bool}{av:List (Str × Nat)}{n:Nat}(c1:aj B F1 H1 σ ai ts)
  (pj:JD J H1 (xs.map D.sh)) (wO:sh=true->xs.all D.pl=true/\JD J F1 xs) (p:D->Bool) (f:D->D)
  (hx:∀x∈xs.map D.sh,g x (eM av n ai) λaG=>tt aG λb hJ=>b=p x/\(p x=true->te hJ λd _=>d=f x))
  (dE:(sh&&av.all (gO ai))=true\/∀x∈xs.map D.sh,p x=true->(f x).fr=true) (hlen:xs.length<=sizeLine) (hq:Qd (.lst true (((xs.map D.sh).filter p).map f)) ai)
  (k:∀d ag v F' H',Qd d ag->ae F1 F'->ae H1 H'->aj B F' H' σ ag ((d,v)::ts)->Q v H'):MX J av n (lG av.length g) (lT tt) (lE te) σ H1 Q:=by
 intro Dp hD
 have cD:aj B F1 (upd H1 Dp (.lst [])) σ ai ((.lst true [],.ref Dp)::ts):=c1.mh hD .nil rfl
 refine⟨λi m acc H2=>m=xs.length-i/\i<=xs.length/\H2 Dp=some (.lst acc)/\ae H1 H2/\acc.length<=i/\∃F2,ae F1 F2 /\
  aj B F2 H2 σ ai ((.lst true ((((xs.map D.sh).take i).filter p).map f),.ref Dp)::ts),⟨xs.length,rfl,iE _,bN,ae.upd hD,aX _,F1,ae.refl _,by simpa using cD⟩,?_⟩
 rintro i m acc H2 ⟨rfl,hi,DL,wQ,zA,F2,jA,c2⟩
 refine⟨DL,?_⟩
 by_cases fA:i<xs.length
 case neg =>
  have e:i=xs.length:=by omega
  subst e
  refine .inl ⟨pj.stop _ H2 wQ (by simp),k _ ai _ F2 H2 ?_ jA wQ c2⟩
  have:(xs.map D.sh).take xs.length=xs.map D.sh:=by rw[Lh (by simp)]
  rw[this]
  exact hq
 case pos =>
  refine .inr ⟨pj.go i H2 wQ (by simpa using fA),λx H3 y=>?_⟩
  obtain⟨d0,e0,D9,r0⟩:=pj.fQ i H2 x H3 wQ (by simpa using fA) y
  have NA:d0∈xs.map D.sh:=vy e0
  have NB:H3 Dp=some (.lst acc):=D9 _ _ DL
  have c3:=c2.grow D9
  have Ea:=wQ.trans D9
  refine⟨NB,?_⟩
  have Eb:=hx d0 NA
  have turn:∀Fi,ae Fi H3->RS Fi H3 (eM av n ai) (fB av n σ) []->S Fi H3 [d0] [x]->d0.pl=true ->
    (∀d v F' H' A,d=f d0->p d0=true->ae H3 H'->ae Fi F'->ae F' H'->(∀a ws,F' a=some (.lst ws)->Fi a=some (.lst ws)\/H3 a=none)->R F' H' [d] [v] A->A.Nodup->(∀a∈A,H3 a=none) ->
     ∃F4,ae F2 F4/\aj B F4 H' σ ai ((d,v)::(.lst true ((((xs.map D.sh).take i).filter p).map f),.ref Dp)::ts)) ->
    lG av.length g x (fB av n σ) H3 λfb H4 =>
     (fb.length=(fB av n σ).length/\∀j,j<av.length->fb[j]?=(fB av n σ)[j]?)/\lT tt fb H4 λb H5=>H5 Dp=some (.lst acc) /\
     if b=true then lE te fb H5 λy H6=>H6 Dp=some (.lst acc)/\acc.length<sizeLine/\∃m',m'<xs.length-i /\
      (m'=xs.length-(i+1)/\i+1<=xs.length/\upd H6 Dp (.lst (acc++[y])) Dp=some (.lst (acc++[y]))/\ae H1 (upd H6 Dp (.lst (acc++[y])))/\(acc++[y]).length<=i+1/\∃F2,ae F1 F2 /\
       aj B F2 (upd H6 Dp (.lst (acc++[y]))) σ ai ((.lst true ((((xs.map D.sh).take (i+1)).filter p).map f),.ref Dp)::ts))
     else ∃m',m'<xs.length-i/\(m'=xs.length-(i+1)/\i+1<=xs.length/\H5 Dp=some (.lst acc)/\ae H1 H5/\acc.length<=i+1/\∃F2,ae F1 F2 /\
       aj B F2 H5 σ ai ((.lst true ((((xs.map D.sh).take (i+1)).filter p).map f),.ref Dp)::ts)):=by
   intro Fi Yn Yo hS bu back
   have ci:aj ⟨H3,Fi⟩ Fi H3 (fB av n σ) (eM av n ai) []:=⟨Yn,ae.refl _,ae.refl _,λ_ _ q=>.inl q,[],[],.nil,Yo,by simp,by simp⟩
   refine⟨⟨H3,Fi⟩,Fi,eM av n ai,[],d0,_,ci.pushS hS bu,Eb,λag fb Yp l1 k1 c4=>⟨⟨l1,k1⟩,⟨H3,Fi⟩,Fi,ag,[],_,c4,Yp,λb hV F5 H5 hb f5 h5 c5=>?_⟩⟩
   obtain⟨hb,ht⟩:=hb
   have zj:H5 Dp=some (.lst acc):=h5 _ _ NB
   refine⟨zj,?_⟩
   by_cases hp:p d0=true
   ·rw[hb,hp]
    refine j7 ⟨⟨H3,Fi⟩,F5,hV,[],_,c5,ht hp,λd δ6 v F6 H6 hd f6 h6 c6=>?_⟩
    have NC:H6 Dp=some (.lst acc):=h6 _ _ zj
    obtain⟨A,C,r,s,nd,fr⟩:=c6.own
    obtain⟨F4,se,c7⟩:=back d v F6 H6 A hd hp c6.b1 c6.b2 c6.ext c6.b3 r (eK.mp nd).1 λa ha=>fr a (fO _ ha)
    have c8:=c7.Yf NC
    refine⟨NC,by omega,xs.length-(i+1),by omega,rfl,fA,bN,?_,by simpa using zA,F4,jA.trans se,?_⟩
    ·have ND:=Ea.trans c6.b1
     exact⟨λa o q n=>by rw[aP (dW q hD)];exact ND.get a o q n,λa ps q=>by rw[aP (dW q hD)];exact ND.tb a ps q⟩
    ·have e9:(((xs.map D.sh).take (i+1)).filter p).map f=(((xs.map D.sh).take i).filter p).map f++[d]:=by
      rw[Ny _ p i d0 e0,hp,hd];simp
     rw[e9]
     exact c8
   ·have NF:p d0=false:=by simpa using hp
    rw[hb,NF]
    refine iU ⟨xs.length-(i+1),by omega,rfl,fA,zj,Ea.trans h5,by omega,F2,jA,?_⟩
    have e9:(((xs.map D.sh).take (i+1)).filter p).map f=(((xs.map D.sh).take i).filter p).map f:=by
     rw[Ny _ p i d0 e0,NF];simp
    rw[e9]
    exact c3.grow h5
  by_cases hA:(sh&&av.all (gO ai))=true
  ·rw[df]at hA
   obtain⟨bu,jd⟩:=wO hA.1
   have lU:=kn bu
   rw[lU]at e0
   obtain⟨d1,e1,_,r1⟩:=jd.fQ i H2 x H3 (jA.trans c2.ext) fA y
   rw[e0]at e1;cases e1
   have Yq:d0.pl=true:=by have:=r1.pl;simpa using this
   refine turn F2 c3.ext (Nw c3 n av hA.2) ((r1.s).mono jA (ae.refl _)) Yq λd v F' H' A hd hp hs hf he h3 r nd fr=>⟨F',hf,c3.call hs hf he h3 r nd fr⟩
  ·have Yr:=dE.resolve_left hA
   refine turn H3 (ae.refl _) (Nx c3 n av) ((r0.shared Ea (ae.refl _)).s) (by have:=r0.pl;simpa using this) λd v F' H' A hd hp hs hf he h3 r nd fr=>⟨F2,ae.refl _,?_⟩
   exact c3.zr hs (r.zo (by rw[hd];simp[Yr d0 NA hp]) (c3.ext.trans hf)) nd fr
theorem fF(av:List (Str × Nat))(bI:List Str)(hc:X.calm=true)(hi:PI X tg iter (lI ti))
  (hg:∀C s H fp,PG (cY X scope (av.map (·.1)++bI) cl C s H fp) tg (lG av.length g))
  (ht:∀C s H fp,oE (cY X scope (av.map (·.1)++bI) cl C s H fp) ifs (lT tt)) (he:∀C s H fp,PE (cY X scope (av.map (·.1)++bI) cl C s H fp) elt (lE te))
  (kh:closureFor scope X.env=pure cl) (ki:ke X cl) (kj:kg cl (relabel scope X.env).names) (kl:j9 X scope cl av)
  (gC:∀y∈scope.names,y.2≠.cell) (fU:scope.kind=.function) (km:∀y∈scope.names,y.2=.local->scope.names.lookup y.1=some .local)
  (hs:∀x,foldedSetIterable iter X.env x=pure x:=by intro _;rfl):PE X (.ListComp elt [⟨tg,iter,ifs,0⟩] scope pos) (lE (mC ti av bI.length g tt te)) :=
 cQ (Xt av bI hc hi hg ht he kh ki kj kl gC fU km hs) λσ H Q ⟨B,F,δ,ts,Qd,c,q,k⟩=>⟨B,F,δ,ts,_,c,q,λsh xs ai J F1 H1 hq f1 h1 c1 pj wO=>by
  obtain⟨p,f,hx,dE,hlen,hQ⟩:=hq
  exact Nz c1 pj wO p f hx dE hlen hQ λd ag v F' H' hd hf hs c'=>k d ag v F' H' hd (f1.trans hf) (h1.trans hs) c'⟩
theorem zB{i:Nat}{x:Str}{pos' apos:Pos}(hN:X.N.Nodup)(lY:X.N[i]?=some x)(hx:L2.Loc X.env.scope x)(av:List (Str × Nat))(bI:List Str)(hc:X.calm=true)(hi:PI X tg iter (lI ti))
  (hg:∀C s H fp,PG (cY X scope (av.map (·.1)++bI) cl C s H fp) tg (lG av.length g))
  (ht:∀C s H fp,oE (cY X scope (av.map (·.1)++bI) cl C s H fp) ifs (lT tt)) (he:∀C s H fp,PE (cY X scope (av.map (·.1)++bI) cl C s H fp) elt (lE te))
  (kh:closureFor scope X.env=pure cl) (ki:ke X cl) (kj:kg cl (relabel scope X.env).names) (kl:j9 X scope cl av)
  (gC:∀y∈scope.names,y.2≠.cell) (fU:scope.kind=.function) (km:∀y∈scope.names,y.2=.local->scope.names.lookup y.1=some .local)
  (oF:swapsWith (.ListComp elt [⟨tg,iter,ifs,0⟩] scope pos) (some (.Name x pos')) apos.line X.env=pure true:=by rfl) (hf:X.fn x=true\/X.env.scope.names.lookup x=some .local:=by first | exact .inl rfl | exact .inr rfl)
  (hs:∀x,foldedSetIterable iter X.env x=pure x:=by intro _;rfl):PS X (.Assign [.Name x pos'] (.ListComp elt [⟨tg,iter,ifs,0⟩] scope pos) apos) (lS X (mx i (mC ti av bI.length g tt te))) :=
 iY (Xu hN lY hx hf av bI hc hi hg ht he kh ki kj kl gC fU km oF hs) λEn σ H ⟨B,F,δ,Dd,c,q,k1,k2,k3,k4⟩=>⟨B,F,δ,[],_,c,q,λsh xs ai J F1 H1 hq f1 h1 c1 pj wO=>by
  obtain⟨p,f,hx,dE,hlen,hQ⟩:=hq
  exact Nz (Qd:=λd ag=>Dd.nx (ag.set i (some d))) c1 pj wO p f hx dE hlen hQ λd ag v F' H' hd hf hs c'=>k1 _ _ F' H' hd (c'.store i)⟩
theorem eH{Y:Cx}:oE Y [] (lT iy):=λ_ _ _ H _ I ⟨B,F,δ,ts,Qd,c,q,k⟩=>Xd _ _ _ H _ I (k true δ F H q (ae.refl _) (ae.refl _) c)
end
end L3
namespace L3
open PySem L2 PySem.Spec PyProof.Rows
section
variable{X:Cx}{F H:Hp}{v w:V}
noncomputable def l2(rd:cB):R2:=λv w H Q=>∃B F σ δ ts x y Qd,aj B F H σ δ ts/\S F H [x] [v]/\S F H [y] [w]/\rd x y Qd/\∀d z H',Qd d->ae H H'->aj B F H' σ δ ((d,z)::ts)->Q z H'
theorem bJ.of{f:Value->Value->Sem Value}{rd:cB}(h:cu X f (l2 rd)):bJ X f rd:=⟨_,h,λ{B F H σ δ ts x y v w Q Qd} c sx sy q k=>⟨B,F,σ,δ,ts,x,y,Qd,c,sx,sy,q,k⟩⟩
theorem wR{f:Value->Value->Sem Value}{C:Int->Int->Prop}{g:Int->Int->V}{gd:Int->Int->D}(ho:cu X f (rI C g))(hg:∀i j F H,S F H [gd i j] [g i j])(hp:∀i j,(gd i j).pl=true):bJ X f λx y Q=>∃i j,x=.int i/\y=.int j/\C i j/\Q (gd i j) :=
 ⟨_,ho,λ{B F H σ δ ts x y v w Q Qd} c sx sy h k=>by
  obtain⟨i,j,rfl,rfl,hc,q⟩:=h
  cases sx;cases sy
  exact⟨i,j,rfl,rfl,hc,k _ _ _ q (ae.refl _) (c.pushS (hg i j F H) (hp i j))⟩⟩
theorem iZ{f:Value->Value->Sem Value}{g:Int->Int->V}{gd:Int->Int->D}(ho:cu X f (gE g))(hg:∀i j F H,S F H [gd i j] [g i j])(hp:∀i j,(gd i j).pl=true):bJ X f λx y Q=>∃i j,x=.int i/\y=.int j/\Q (gd i j) :=
 ⟨_,ho,λ{B F H σ δ ts x y v w Q Qd} c sx sy h k=>by
  obtain⟨i,j,rfl,rfl,q⟩:=h
  cases sx;cases sy
  exact⟨i,j,rfl,rfl,k _ _ _ q (ae.refl _) (c.pushS (hg i j F H) (hp i j))⟩⟩
theorem gg{o:Bool}{xs:List D}(s:S F H [.lst o xs] [v])(e:ae F H):∃p ws,v=.ref p/\H p=some (.lst ws)/\S F H xs ws:=by
 cases s with
 | shr h r _=>exact⟨_,_,rfl,e _ _ h,r.s⟩
 | own h r _=>exact⟨_,_,rfl,h,r⟩
theorem hW{xs:List D}(s:S F H [.tup xs] [v]):∃p ws,v=.ref p/\H p=some (.tup ws)/\S F H xs ws:=by
 cases s with
 | tup h r _=>exact⟨_,_,rfl,h,r⟩
theorem kB{d:D}{xs:List D}(s:S F H [d] [v])(e:ae F H)(h:iw d=some xs):∃p ws,v=.ref p/\Rd H p (.lst ws)/\S F H xs ws:=by
 cases s with
 | shr h' r _=>cases h;exact⟨_,_,rfl,.inl (e _ _ h'),r.s⟩
 | own h' r _=>cases h;exact⟨_,_,rfl,.inl h',r⟩
 | fz h' r _=>cases h;exact⟨_,_,rfl,.inr ⟨_,e _ _ h'⟩,r.s⟩
 | aq _=>cases h
 | bl _=>cases h
 | int _=>cases h
 | str _=>cases h
 | tup _ _ _=>cases h
 | obj _ _ _ _=>cases h
 | aV _ _=>cases h
theorem S.rep{xs:List D}{ws:List V}(s:S F H xs ws):∀k:Nat,S F H (aN k xs).flatten (aN k ws).flatten
 | 0=>by simpa using S.nil
 | k+1=>by
  rw[nH,nH,rn,rn]
  exact s.append (S.rep s k)
noncomputable def mD:cB:=λx y Q=>match x,y with
 | .int i,.int j=>Q (.int (i+j))
 | .str a,.str b=>a.length+b.length<=sizeLine/\Q (.str (a++b))
 | .lst _ xs,.lst _ ys=>(xs.length+ys.length<=sizeLine/\xs.all D.pl=true/\ys.all D.pl=true)/\Q (.lst true (xs++ys))
 | _,_=>False
theorem Ys:bJ X (binaryOp .Add) λx y Q=>∃o xs o' ys,x=.lst o xs/\y=.lst o' ys/\(xs.length+ys.length<=sizeLine/\xs.all D.pl=true/\ys.all D.pl=true)/\Q (.lst true (xs++ys)) :=
 ⟨_,Wm,λ{B F H σ δ ts x y v w Q Qd} c sx sy h k=>by
  obtain⟨o,xs,o',ys,rfl,rfl,⟨hz,h1,h2⟩,q⟩:=h
  obtain⟨p,ws,rfl,e1,s1⟩:=gg sx c.ext
  obtain⟨p',dP,rfl,e2,s2⟩:=gg sy c.ext
  refine⟨p,p',ws,dP,rfl,rfl,e1,e2,by rw[<-s1.length,<- s2.length];exact hz,λr hr=>?_⟩
  exact k _ _ _ q (ae.upd hr) (c.mh hr (s1.append s2) (by simp[h1,h2]))⟩
theorem Yt:bJ X (binaryOp .Add) λx y Q=>∃i j,x=.str i/\y=.str j/\i.length+j.length<=sizeLine/\Q (.str (i++j)) :=
 ⟨_,Vf,λ{B F H σ δ ts x y v w Q Qd} c sx sy h k=>by
  obtain⟨i,j,rfl,rfl,hz,q⟩:=h
  cases sx;cases sy
  exact⟨i,j,rfl,rfl,hz,k _ _ _ q (ae.refl _) (c.pushS (.str .nil) rfl)⟩⟩
theorem dh:bJ X (binaryOp .Add) mD:=((iZ (gd:=λi j=>.int (i+j)) UY (λ_ _ _ _=>.int .nil) λ_ _=>rfl).or (Yt.or Ys)).imp λx y Q h=>by
 unfold mD at h
 split at h
 ·exact .inl ⟨_,_,rfl,rfl,h⟩
 ·exact .inr (.inl ⟨_,_,rfl,rfl,h.1,h.2⟩)
 ·exact .inr (.inr ⟨_,_,_,_,rfl,rfl,h.1,h.2⟩)
 ·exact h.elim
noncomputable def iI(C:Int->Int->Prop)(g:Int->Int->D):cB:=λx y Q=>match x,y with
 | .int i,.int j=>C i j/\Q (g i j)
 | _,_=>False
noncomputable def eU(g:Int->Int->D):cB:=λx y Q=>match x,y with
 | .int i,.int j=>Q (g i j)
 | _,_=>False
theorem zC{f:Value->Value->Sem Value}{C:Int->Int->Prop}{g:Int->Int->D}(h:bJ X f λx y Q=>∃i j,x=.int i/\y=.int j/\C i j/\Q (g i j)):bJ X f (iI C g):=h.imp λx y Q h=>by
 unfold iI at h
 split at h
 ·exact⟨_,_,rfl,rfl,h.1,h.2⟩
 ·exact h.elim
theorem jB{f:Value->Value->Sem Value}{g:Int->Int->D}(h:bJ X f λx y Q=>∃i j,x=.int i/\y=.int j/\Q (g i j)):bJ X f (eU g):=h.imp λx y Q h=>by
 unfold eU at h
 split at h
 ·exact⟨_,_,rfl,rfl,h⟩
 ·exact h.elim
noncomputable def pk:cB:=eU λi j=>.int (i-j)
theorem eV:bJ X (binaryOp .Sub) pk:=jB (iZ C9 (λ_ _ _ _=>.int .nil) λ_ _=>rfl)
noncomputable def Ec(_ j:Int):Prop:=0<j/\j.natAbs.log2<9000
theorem wU{i j:Int}(h1:0<j)(h2:j<1073741824):Ec i j:=⟨h1,by
 have h:j.natAbs<2 ^ 30:=by omega
 have:=(Nat.log2_lt (show j.natAbs≠0 by omega)).mpr h
 omega⟩
theorem Yu:cu X (binaryOp .FloorDiv) (rI Ec λi j=>.int (i/j)):=wd λi j _ _ _ _ _ hc q =>
 floordiv_int (show j≠0 by have:=hc.1;omega) (by rw[S3 i (by have:=hc.1;omega)];exact q) (.inl (PyProof.noPylong_of_log2 hc.2))
noncomputable def pq:cB:=iI Ec λi j=>.int (i/j)
theorem wV:bJ X (binaryOp .FloorDiv) pq:=zC (wR Yu (λ_ _ _ _=>.int .nil) λ_ _=>rfl)
noncomputable def pz:cB:=iI (λ_ j=>0<j) λi j=>.int (i%j)
theorem dX:bJ X (binaryOp .Mod) pz:=zC (wR UZ (λ_ _ _ _=>.int .nil) λ_ _=>rfl)
noncomputable def pB:cB:=iI MT λi j=>.int (i*2 ^ j.toNat)
theorem si:bJ X (binaryOp .LShift) pB:=zC (wR MU (λ_ _ _ _=>.int .nil) λ_ _=>rfl)
noncomputable def pE:cB:=iI (λ_ j=>0<=j) λi j=>.int (i/2 ^ j.toNat)
theorem NG:bJ X (binaryOp .RShift) pE:=zC (wR U0 (λ_ _ _ _=>.int .nil) λ_ _=>rfl)
noncomputable def pF:cB:=eU λi j=>.int (kX i j)
theorem NH:bJ X (binaryOp .BitAnd) pF:=jB (iZ U1 (λ_ _ _ _=>.int .nil) λ_ _=>rfl)
noncomputable def pG:cB:=eU λi j=>.int (kY i j)
theorem pH:bJ X (binaryOp .BitXor) pG:=jB (iZ U2 (λ_ _ _ _=>.int .nil) λ_ _=>rfl)
theorem Yv:cu X (binaryOp .Mult) (rI IntMulOk λi j=>.int (i*j)):=wd λ_ _ _ _ _ _ _ hc q=>mul_int q hc
noncomputable def mE:cB:=λx y Q=>match x,y with
 | .int i,.int j=>IntMulOk i j/\Q (.int (i*j))
 | .lst _ xs,.int k=>(-(2 ^ 63)<=k/\k<2 ^ 63/\xs.length*k.toNat<=sizeLine/\xs.all D.pl=true)/\Q (.lst true (aN k.toNat xs).flatten)
 | _,_=>False
theorem Yw:bJ X (binaryOp .Mult) λx y Q=>∃o xs k,x=.lst o xs/\y=.int k/\(-(2 ^ 63)<=k/\k<2 ^ 63/\xs.length*k.toNat<=sizeLine/\xs.all D.pl=true)/\Q (.lst true (aN k.toNat xs).flatten) :=
 ⟨_,Wq,λ{B F H σ δ ts x y v w Q Qd} c sx sy h k=>by
  obtain⟨o,xs,n,rfl,rfl,⟨b1,b2,hz,h1⟩,q⟩:=h
  obtain⟨p,ws,rfl,e1,s1⟩:=gg sx c.ext
  cases sy
  refine⟨p,n,ws,rfl,rfl,e1,b1,b2,by rw[<-s1.length];exact hz,λr hr=>?_⟩
  refine k _ _ _ q (ae.upd hr) (c.mh hr (s1.rep _) ?_)
  rw[dU]
  intro x hx
  obtain⟨l,hl,NI⟩:=List.mem_flatten.mp hx
  rw[(Li.mp hl).2]at NI
  exact dU.mp h1 x NI⟩
theorem jC:bJ X (binaryOp .Mult) mE:=((wR (gd:=λi j=>.int (i*j)) Yv (λ_ _ _ _=>.int .nil) λ_ _=>rfl).or Yw).imp λx y Q h=>by
 unfold mE at h
 split at h
 ·exact .inl ⟨_,_,rfl,rfl,h.1,h.2⟩
 ·exact .inr ⟨_,_,_,rfl,rfl,h.1,h.2⟩
 ·exact h.elim
theorem Yx:bJ X (inplaceOp .Add) (eU λi j=>.int (i+j)):=jB (iZ U3 (λ_ _ _ _=>.int .nil) λ_ _=>rfl)
theorem Yy:bJ X (inplaceOp .Sub) (eU λi j=>.int (i-j)):=jB (iZ U4 (λ_ _ _ _=>.int .nil) λ_ _=>rfl)
theorem Ee:bJ X (inplaceOp .BitXor) (eU λi j=>.int (kY i j)):=jB (iZ U5 (λ_ _ _ _=>.int .nil) λ_ _=>rfl)
noncomputable def pI:cB:=eU λi j=>.bl (decide (i<j))
noncomputable def pJ:cB:=eU λi j=>.bl (decide (i<=j))
noncomputable def pK:cB:=eU λi j=>.bl (decide (j<i))
noncomputable def pL:cB:=eU λi j=>.bl (decide (j<=i))
theorem zD:bJ X (compareOp .Lt) pI:=jB (iZ U8 (λ_ _ _ _=>.bl .nil) λ_ _=>rfl)
theorem wW:bJ X (compareOp .LtE) pJ:=jB (iZ U9 (λ_ _ _ _=>.bl .nil) λ_ _=>rfl)
theorem wX:bJ X (compareOp .Gt) pK:=jB (iZ Va (λ_ _ _ _=>.bl .nil) λ_ _=>rfl)
theorem NJ:bJ X (compareOp .GtE) pL:=jB (iZ Vb (λ_ _ _ _=>.bl .nil) λ_ _=>rfl)
noncomputable def sj:D->Bool
 | .aq=>true
 | _=>false
noncomputable def bF:D->D->Bool
 | .aq,.aq=>true
 | .bl a,.bl b=>a==b
 | .bl a,.int b=>(if a then 1 else 0)==b
 | .int a,.bl b=>a==(if b then 1 else 0)
 | .int a,.int b=>a==b
 | .str a,.str b=>a==b
 | .lst _ xs,.lst _ ys=>fG xs ys
 | .tup xs,.tup ys=>fG xs ys
 | _,_=>false
where fG:List D->List D->Bool
 | [],[]=>true
 | x::xs,y::ys=>bF x y&&fG xs ys
 | _,_=>false
noncomputable def aI:Nat->D->Bool
 | _,.aq=>true
 | _,.bl _=>true
 | _,.int _=>true
 | _,.str _=>true
 | n+1,.lst _ xs=>xs.all (aI n)
 | n+1,.tup xs=>xs.all (aI n)
 | _,_=>false
theorem Ef:∀(xs ys:List D),xs.length=ys.length->bF.fG xs ys=(bL xs.length).all λj=>bF (xs.getD j .aq) (ys.getD j .aq)
 | [],[],_=>rfl
 | x::xs,y::ys,h=>by
  rw[fq,Tg,dg,yE]
  show(bF x y&&bF.fG xs ys)=_
  rw[Ef xs ys (by simpa using h)]
  rfl
theorem Eg:∀(xs ys:List D),xs.length≠ys.length->bF.fG xs ys=false
 | [],[],h=>absurd rfl h
 | [],_::_,_=>rfl
 | _::_,[],_=>rfl
 | x::xs,y::ys,h=>by
  show(bF x y&&bF.fG xs ys)=false
  rw[Eg xs ys (by simpa using h),Bool.and_false]
noncomputable def Yz:V->D
 | .bl b=>.bl b
 | .int i=>.int i
 | .str z=>.str z
 | _=>.aq
theorem NK{x:D}{v:V}(h:aI 0 x=true)(s:S F H [x] [v]):x=Yz v:=by
 cases s with
 | aq _=>rfl
 | bl _=>rfl
 | int _=>rfl
 | str _=>rfl
 | _=>cases h
theorem YA{x:D}(h:aI 0 x=true):bF x x=true:=by
 cases x with
 | aq=>rfl
 | bl b=>exact beq_self_eq_true b
 | int i=>exact beq_self_eq_true i
 | str z=>exact beq_self_eq_true z
 | _=>cases h
theorem NL:∀(n:Nat) {xs ys:List D} {vs:List V},xs.all (aI n)=true->ys.all (aI n)=true->S F H xs vs->S F H ys vs->ae F H->bF.fG xs ys=true:=by
 intro n
 induction n with
 | zero =>
  intro xs
  induction xs with
  | nil=>intro ys vs _ _ s1 s2 _;cases s1;cases s2;rfl
  | cons x xs ih =>
   intro ys vs h1 h2 s1 s2 e
   obtain⟨v,bV,rfl,q1,r1⟩:=s1.cw
   cases ys with
   | nil=>cases s2
   | cons y ys =>
    obtain⟨v',Nm,ee,q2,r2⟩:=s2.cw
    cases ee
    rw[dg,df]at h1 h2
    show(bF x y&&bF.fG xs ys)=true
    rw[ih h1.2 h2.2 r1 r2 e,j0]
    have e1:=NK h1.1 q1
    have e2:=NK h2.1 q2
    rw[e2,<- e1]
    exact YA h1.1
 | succ n NM =>
  intro xs
  induction xs with
  | nil=>intro ys vs _ _ s1 s2 _;cases s1;cases s2;rfl
  | cons x xs ih =>
   intro ys vs h1 h2 s1 s2 e
   obtain⟨v,bV,rfl,q1,r1⟩:=s1.cw
   cases ys with
   | nil=>cases s2
   | cons y ys =>
    obtain⟨v',Nm,ee,q2,r2⟩:=s2.cw
    cases ee
    rw[dg,df]at h1 h2
    show(bF x y&&bF.fG xs ys)=true
    rw[ih h1.2 h2.2 r1 r2 e,j0]
    cases x with
    | lst o1 a1 =>
     obtain⟨p,ws,rfl,e1,t1⟩:=gg q1 e
     cases y with
     | lst o2 a2 =>
      obtain⟨p2,Eh,ev,e2,t2⟩:=gg q2 e
      cases ev
      rw[e1]at e2;cases e2
      exact NM h1.1 h2.1 t1 t2 e
     | tup a2=>obtain⟨p2,Eh,ev,e2,t2⟩:=hW q2;cases ev;rw[e1]at e2;cases e2
     | _=>first | (cases q2;done) | (exact absurd h2.1 (by simp[aI]))
    | tup a1 =>
     obtain⟨p,ws,rfl,e1,t1⟩:=hW q1
     cases y with
     | tup a2 =>
      obtain⟨p2,Eh,ev,e2,t2⟩:=hW q2
      cases ev
      rw[e1]at e2;cases e2
      exact NM h1.1 h2.1 t1 t2 e
     | lst o2 a2=>obtain⟨p2,Eh,ev,e2,t2⟩:=gg q2 e;cases ev;rw[e1]at e2;cases e2
     | _=>first | (cases q2;done) | (exact absurd h2.1 (by simp[aI]))
    | aq=>cases q1;cases q2;simp[bF]
    | bl _=>cases q1;cases q2;simp[bF]
    | int _=>cases q1;cases q2;simp[bF]
    | str _=>cases q1;cases q2;simp[bF]
    | obj _ _ _=>exact absurd h1.1 (by simp[aI])
    | fz _=>exact absurd h1.1 (by simp[aI])
    | aV _=>exact absurd h1.1 (by simp[aI])
end
end L3
namespace L3
open PySem L2 PySem.Spec PyProof.Rows
structure YB(A:Around)(s:Shared)(u w:Value)(b:Bool):Prop where
 rc:SeqAt.RcAt A s u w b
 ne:SeqAt.RcNeAt A s u w (!b)
 eq:SeqAt.EqAt A s u w b
section
variable{X:Cx}{F H:Hp}{v w:V}
theorem NN{xs:List V}{us:List Value}(r:Vals xs us){j:Nat}(h:j<us.toArray.size):∃x,xs[j]?=some x/\RelV x us.toArray[j]:=by
 have l:=r.length
 have hj:j<xs.length:=by rw[l];simpa using h
 obtain⟨u,e,q⟩:=r.get (bc hj)
 obtain⟨_,z⟩:=jU.mp e
 refine⟨_,bc hj,?_⟩
 have:us.toArray[j]=u:=by simpa using z
 rw[this];exact q
theorem NO{xs:List D}{j:Nat}{d:D}(h:xs[j]?=some d):xs.getD j .aq=d:=by rw[aU,h];rfl
theorem NP{pins:List (Addr × Obj)}{σ:L2.St}{s:Shared}(I:Inv X pins σ H s)(e:ae F H):∀(n:Nat) (x y:D) (v w:V) (u u':Value) (A:Around),aI n x=true->aI n y=true->S F H [x] [v]->S F H [y] [w]->RelV v u->RelV w u' ->
  A.units+n<cLine->YB A s u u' (bF x y):=by
 intro n
 induction n with
 | zero =>
  intro x y v w u u' A hx hy sx sy rv aR hu
  cases sx with
  | aq _ =>
   cases rv
   cases sy with
   | aq _=>cases aR;exact⟨.none_none,.none_none,.same _⟩
   | bl _=>cases aR;exact⟨.none_bool _,.none_bool _,.none_bool _⟩
   | int _=>obtain⟨t,rfl⟩:=aR;exact⟨.none_int _ _,.none_int _ _,.none_int _ _⟩
   | str _=>obtain⟨t,rfl⟩:=aR;exact⟨.none_str _ _,.none_str _ _,.none_str _ _⟩
   | _=>simp[aI]at hy
  | bl _ =>
   cases rv
   cases sy with
   | aq _=>cases aR;exact⟨.bool_none _,.bool_none _,.bool_none _⟩
   | bl _=>cases aR;exact⟨.bool_bool _ _,.bool_bool _ _,.bool_bool _ _⟩
   | int _=>obtain⟨t,rfl⟩:=aR;exact⟨.bool_int _ _ _,.bool_int _ _ _,.bool_int _ _ _⟩
   | str _=>obtain⟨t,rfl⟩:=aR;exact⟨.bool_str _ _ _,.bool_str _ _ _,.bool_str _ _ _⟩
   | _=>simp[aI]at hy
  | int _ =>
   obtain⟨t0,rfl⟩:=rv
   cases sy with
   | aq _=>cases aR;exact⟨.int_none _ _,.int_none _ _,.int_none _ _⟩
   | bl _=>cases aR;exact⟨.int_bool _ _ _,.int_bool _ _ _,.int_bool _ _ _⟩
   | int _=>obtain⟨t,rfl⟩:=aR;exact⟨.int_int _ _ _ _,.int_int _ _ _ _,.int_int _ _ _ _⟩
   | str _=>obtain⟨t,rfl⟩:=aR;exact⟨.int_str _ _ _ _,.int_str _ _ _ _,.int_str _ _ _ _⟩
   | _=>simp[aI]at hy
  | str _ =>
   obtain⟨t0,rfl⟩:=rv
   cases sy with
   | aq _=>cases aR;exact⟨.str_none _ _,.str_none _ _,.str_none _ _⟩
   | bl _=>cases aR;exact⟨.str_bool _ _ _,.str_bool _ _ _,.str_bool _ _ _⟩
   | int _=>obtain⟨t,rfl⟩:=aR;exact⟨.str_int _ _ _ _,.str_int _ _ _ _,.str_int _ _ _ _⟩
   | str _=>obtain⟨t,rfl⟩:=aR;exact⟨.str_str _ _ _ _,.str_str _ _ _ _,.str_str _ _ _ _⟩
   | _=>simp[aI]at hy
  | _=>simp[aI]at hx
 | succ n ih =>
  intro x y v w u u' A hx hy sx sy rv aR hu
  have aT:A.units<cLine:=by omega
  have YC:A.in1.units+n<cLine:=by show A.units+1+n<cLine;omega
  have items:∀{xs ys:List D} {vs ws:List V} {us sk:List Value},xs.all (aI n)=true->ys.all (aI n)=true->S F H xs vs->S F H ys ws->Vals vs us->Vals ws sk ->
    ∀j (h1:j<us.toArray.size) (h2:j<sk.toArray.size),SeqAt.EqAt A.in1 s us.toArray[j] sk.toArray[j] (bF (xs.getD j .aq) (ys.getD j .aq)):=by
   intro xs ys vs ws us sk hx hy sx sy r1 r2 j h1 h2
   obtain⟨a,e1,q1⟩:=NN r1 h1
   obtain⟨b,e2,q2⟩:=NN r2 h2
   obtain⟨d1,g1,t1⟩:=sx.get' e1
   obtain⟨d2,g2,t2⟩:=sy.get' e2
   rw[NO g1,NO g2]
   exact(ih d1 d2 a b _ _ A.in1 (dU.mp hx d1 (vy g1)) (dU.mp hy d2 (vy g2)) t1 t2 q1 q2 YC).eq
  have low:∀x:D,(aI 0 x=true)\/(∃o xs,x=.lst o xs)\/(∃xs,x=.tup xs)\/aI (n+1) x=false:=by
   intro x;cases x<;>simp[aI]
  cases x with
  | lst o xs =>
   obtain⟨p,ws,rfl,e1,t1⟩:=gg sx e
   cases rv
   obtain⟨its,r1,p1,z1⟩:=I.list (bf.of (K:=X.K) e1)
   have l1:=r1.length
   cases y with
   | lst o' ys =>
    obtain⟨p',dP,rfl,e2,t2⟩:=gg sy e
    cases aR
    obtain⟨fh,r2,p2,z2⟩:=I.list (bf.of (K:=X.K) e2)
    have l2:=r2.length
    have k1:=t1.length
    have k2:=t2.length
    by_cases hl:xs.length=ys.length
    ·have iS:its.toArray.size=fh.toArray.size:=by simp;omega
     have ev:(bL its.toArray.size).all (λj=>bF (xs.getD j .aq) (ys.getD j .aq))=bF (.lst o xs) (.lst o' ys):=by
      show _=bF.fG xs ys
      rw[Ef xs ys hl,cS,<- l1,<- k1]
     have a:=SeqAt.RcAt.lists (e:=λj=>bF (xs.getD j .aq) (ys.getD j .aq)) p1.isList p2.isList iS aT (items hx hy t1 t2 r1 r2)
     have b:=SeqAt.RcNeAt.lists (e:=λj=>bF (xs.getD j .aq) (ys.getD j .aq)) p1.isList p2.isList iS aT (items hx hy t1 t2 r1 r2)
     rw[ev]at a b
     refine⟨a,b,?_⟩
     by_cases pM:p=p'
     ·subst pM
      rw[e1]at e2;cases e2
      have:bF (.lst o xs) (.lst o' ys)=true:=NL n hx hy t1 t2 e
      rw[this]
      exact .same _
     ·exact .of_refs pM a
    ·have iS:(its.toArray.size != fh.toArray.size)=true:=by simp;omega
     have ev:bF (.lst o xs) (.lst o' ys)=false:=Eg xs ys hl
     rw[ev]
     have a:=SeqAt.RcAt.lists_lengths p1.isList p2.isList iS aT
     refine⟨a,SeqAt.RcNeAt.lists_lengths p1.isList p2.isList iS aT,.of_refs (λpM=>?_) a⟩
     subst pM
     rw[e1]at e2;cases e2
     omega
   | tup ys =>
    obtain⟨p',dP,rfl,e2,t2⟩:=hW sy
    cases aR
    obtain⟨fh,r2,p2,z2⟩:=I.tuple (cj.of (K:=X.K) e2)
    exact⟨.list_tuple p1.isList p2 aT,.list_tuple p1.isList p2 aT,.list_tuple p1.isList p2 aT⟩
   | aq=>cases sy;cases aR;exact⟨.list_none p1.isList aT,.list_none p1.isList aT,.list_none p1.isList aT⟩
   | bl _=>cases sy;cases aR;exact⟨.list_bool _ p1.isList aT,.list_bool _ p1.isList aT,.list_bool _ p1.isList aT⟩
   | int _=>cases sy;obtain⟨t,rfl⟩:=aR;exact⟨.list_int _ _ p1.isList aT,.list_int _ _ p1.isList aT,.list_int _ _ p1.isList aT⟩
   | str _=>cases sy;obtain⟨t,rfl⟩:=aR;exact⟨.list_str _ _ p1.isList aT,.list_str _ _ p1.isList aT,.list_str _ _ p1.isList aT⟩
   | obj _ _ _=>simp[aI]at hy
   | fz _=>simp[aI]at hy
   | aV _=>simp[aI]at hy
  | tup xs =>
   obtain⟨p,ws,rfl,e1,t1⟩:=hW sx
   cases rv
   obtain⟨its,r1,p1,z1⟩:=I.tuple (cj.of (K:=X.K) e1)
   have l1:=r1.length
   cases y with
   | tup ys =>
    obtain⟨p',dP,rfl,e2,t2⟩:=hW sy
    cases aR
    obtain⟨fh,r2,p2,z2⟩:=I.tuple (cj.of (K:=X.K) e2)
    have l2:=r2.length
    have k1:=t1.length
    have k2:=t2.length
    have ev:((bL (min its.toArray.size fh.toArray.size)).all (λj=>bF (xs.getD j .aq) (ys.getD j .aq))&&its.toArray.size==fh.toArray.size)=bF (.tup xs) (.tup ys):=by
     show _=bF.fG xs ys
     by_cases hl:xs.length=ys.length
     ·have e3:its.length=fh.length:=by omega
      rw[Ef xs ys hl,cS,cS,<- e3,Nat.min_self,<- l1,<- k1];simp
     ·have e3:(its.length==fh.length)=false:=by simp;omega
      rw[Eg xs ys hl,cS,cS,e3,Bool.and_false]
    have a:=SeqAt.RcAt.tuples (e:=λj=>bF (xs.getD j .aq) (ys.getD j .aq)) p1 p2 aT (items hx hy t1 t2 r1 r2)
    have b:=SeqAt.RcNeAt.tuples (e:=λj=>bF (xs.getD j .aq) (ys.getD j .aq)) p1 p2 aT (items hx hy t1 t2 r1 r2)
    rw[ev]at a b
    refine⟨a,b,?_⟩
    by_cases pM:p=p'
    ·subst pM
     rw[e1]at e2;cases e2
     have:bF (.tup xs) (.tup ys)=true:=NL n hx hy t1 t2 e
     rw[this]
     exact .same _
    ·exact .of_refs pM a
   | lst o' ys =>
    obtain⟨p',dP,rfl,e2,t2⟩:=gg sy e
    cases aR
    obtain⟨fh,r2,p2,z2⟩:=I.list (bf.of (K:=X.K) e2)
    exact⟨.tuple_list p1 p2.isList aT,.tuple_list p1 p2.isList aT,.tuple_list p1 p2.isList aT⟩
   | aq=>cases sy;cases aR;exact⟨.tuple_none p1 aT,.tuple_none p1 aT,.tuple_none p1 aT⟩
   | bl _=>cases sy;cases aR;exact⟨.tuple_bool _ p1 aT,.tuple_bool _ p1 aT,.tuple_bool _ p1 aT⟩
   | int _=>cases sy;obtain⟨t,rfl⟩:=aR;exact⟨.tuple_int _ _ p1 aT,.tuple_int _ _ p1 aT,.tuple_int _ _ p1 aT⟩
   | str _=>cases sy;obtain⟨t,rfl⟩:=aR;exact⟨.tuple_str _ _ p1 aT,.tuple_str _ _ p1 aT,.tuple_str _ _ p1 aT⟩
   | obj _ _ _=>simp[aI]at hy
   | fz _=>simp[aI]at hy
   | aV _=>simp[aI]at hy
  | aq =>
   cases sx;cases rv
   cases y with
   | lst o' ys =>
    obtain⟨p',dP,rfl,e2,t2⟩:=gg sy e;cases aR
    obtain⟨fh,r2,p2,z2⟩:=I.list (bf.of (K:=X.K) e2)
    exact⟨.none_list p2.isList aT,.none_list p2.isList aT,.none_list p2.isList aT⟩
   | tup ys =>
    obtain⟨p',dP,rfl,e2,t2⟩:=hW sy;cases aR
    obtain⟨fh,r2,p2,z2⟩:=I.tuple (cj.of (K:=X.K) e2)
    exact⟨.none_tuple p2 aT,.none_tuple p2 aT,.none_tuple p2 aT⟩
   | aq=>exact ih _ _ _ _ _ _ A (by simp[aI]) (by simp[aI]) (.aq .nil) sy rfl aR (by omega)
   | bl _=>exact ih _ _ _ _ _ _ A (by simp[aI]) (by simp[aI]) (.aq .nil) sy rfl aR (by omega)
   | int _=>exact ih _ _ _ _ _ _ A (by simp[aI]) (by simp[aI]) (.aq .nil) sy rfl aR (by omega)
   | str _=>exact ih _ _ _ _ _ _ A (by simp[aI]) (by simp[aI]) (.aq .nil) sy rfl aR (by omega)
   | obj _ _ _=>simp[aI]at hy
   | fz _=>simp[aI]at hy
   | aV _=>simp[aI]at hy
  | bl b =>
   cases sx;cases rv
   cases y with
   | lst o' ys =>
    obtain⟨p',dP,rfl,e2,t2⟩:=gg sy e;cases aR
    obtain⟨fh,r2,p2,z2⟩:=I.list (bf.of (K:=X.K) e2)
    exact⟨.bool_list _ p2.isList aT,.bool_list _ p2.isList aT,.bool_list _ p2.isList aT⟩
   | tup ys =>
    obtain⟨p',dP,rfl,e2,t2⟩:=hW sy;cases aR
    obtain⟨fh,r2,p2,z2⟩:=I.tuple (cj.of (K:=X.K) e2)
    exact⟨.bool_tuple _ p2 aT,.bool_tuple _ p2 aT,.bool_tuple _ p2 aT⟩
   | aq=>exact ih _ _ _ _ _ _ A (by simp[aI]) (by simp[aI]) (.bl .nil) sy rfl aR (by omega)
   | bl _=>exact ih _ _ _ _ _ _ A (by simp[aI]) (by simp[aI]) (.bl .nil) sy rfl aR (by omega)
   | int _=>exact ih _ _ _ _ _ _ A (by simp[aI]) (by simp[aI]) (.bl .nil) sy rfl aR (by omega)
   | str _=>exact ih _ _ _ _ _ _ A (by simp[aI]) (by simp[aI]) (.bl .nil) sy rfl aR (by omega)
   | obj _ _ _=>simp[aI]at hy
   | fz _=>simp[aI]at hy
   | aV _=>simp[aI]at hy
  | int b =>
   cases sx
   cases y with
   | lst o' ys =>
    obtain⟨t0,rfl⟩:=rv
    obtain⟨p',dP,rfl,e2,t2⟩:=gg sy e;cases aR
    obtain⟨fh,r2,p2,z2⟩:=I.list (bf.of (K:=X.K) e2)
    exact⟨.int_list _ _ p2.isList aT,.int_list _ _ p2.isList aT,.int_list _ _ p2.isList aT⟩
   | tup ys =>
    obtain⟨t0,rfl⟩:=rv
    obtain⟨p',dP,rfl,e2,t2⟩:=hW sy;cases aR
    obtain⟨fh,r2,p2,z2⟩:=I.tuple (cj.of (K:=X.K) e2)
    exact⟨.int_tuple _ _ p2 aT,.int_tuple _ _ p2 aT,.int_tuple _ _ p2 aT⟩
   | aq=>exact ih _ _ _ _ _ _ A (by simp[aI]) (by simp[aI]) (.int .nil) sy rv aR (by omega)
   | bl _=>exact ih _ _ _ _ _ _ A (by simp[aI]) (by simp[aI]) (.int .nil) sy rv aR (by omega)
   | int _=>exact ih _ _ _ _ _ _ A (by simp[aI]) (by simp[aI]) (.int .nil) sy rv aR (by omega)
   | str _=>exact ih _ _ _ _ _ _ A (by simp[aI]) (by simp[aI]) (.int .nil) sy rv aR (by omega)
   | obj _ _ _=>simp[aI]at hy
   | fz _=>simp[aI]at hy
   | aV _=>simp[aI]at hy
  | str b =>
   cases sx
   cases y with
   | lst o' ys =>
    obtain⟨t0,rfl⟩:=rv
    obtain⟨p',dP,rfl,e2,t2⟩:=gg sy e;cases aR
    obtain⟨fh,r2,p2,z2⟩:=I.list (bf.of (K:=X.K) e2)
    exact⟨.str_list _ _ p2.isList aT,.str_list _ _ p2.isList aT,.str_list _ _ p2.isList aT⟩
   | tup ys =>
    obtain⟨t0,rfl⟩:=rv
    obtain⟨p',dP,rfl,e2,t2⟩:=hW sy;cases aR
    obtain⟨fh,r2,p2,z2⟩:=I.tuple (cj.of (K:=X.K) e2)
    exact⟨.str_tuple _ _ p2 aT,.str_tuple _ _ p2 aT,.str_tuple _ _ p2 aT⟩
   | aq=>exact ih _ _ _ _ _ _ A (by simp[aI]) (by simp[aI]) (.str .nil) sy rv aR (by omega)
   | bl _=>exact ih _ _ _ _ _ _ A (by simp[aI]) (by simp[aI]) (.str .nil) sy rv aR (by omega)
   | int _=>exact ih _ _ _ _ _ _ A (by simp[aI]) (by simp[aI]) (.str .nil) sy rv aR (by omega)
   | str _=>exact ih _ _ _ _ _ _ A (by simp[aI]) (by simp[aI]) (.str .nil) sy rv aR (by omega)
   | obj _ _ _=>simp[aI]at hy
   | fz _=>simp[aI]at hy
   | aV _=>simp[aI]at hy
  | obj _ _ _=>simp[aI]at hx
  | fz _=>simp[aI]at hx
  | aV _=>simp[aI]at hx
noncomputable def pO:cB:=λx y Q=>(aI 6 x=true/\aI 6 y=true)/\Q (.bl (bF x y))
noncomputable def pP:cB:=λx y Q=>(aI 6 x=true/\aI 6 y=true)/\Q (.bl (!bF x y))
theorem eW(hu:X.A.units+6<cLine):bJ X (compareOp .Eq) pO:=bJ.of λpins s σ H v w u u' Q I rv aR zz=>by
 obtain⟨B,F,aw,δ,ts,x,y,Qd,c,sx,sy,⟨⟨hx,hy⟩,q⟩,k⟩:=zz
 exact(NP I c.ext 6 x y v w u u' X.A hx hy sx sy rv aR hu).rc _ _ _ _ ⟨.bl _,H,I,rfl,k _ _ _ q (ae.refl _) (c.pushS (.bl .nil) rfl)⟩
theorem jD(hu:X.A.units+6<cLine):bJ X (compareOp .NotEq) pP:=bJ.of λpins s σ H v w u u' Q I rv aR zz=>by
 obtain⟨B,F,aw,δ,ts,x,y,Qd,c,sx,sy,⟨⟨hx,hy⟩,q⟩,k⟩:=zz
 exact(NP I c.ext 6 x y v w u u' X.A hx hy sx sy rv aR hu).ne _ _ _ _ ⟨.bl _,H,I,rfl,k _ _ _ q (ae.refl _) (c.pushS (.bl .nil) rfl)⟩
end
end L3
namespace L3
open PySem L2 PySem.Spec PyProof.Rows
section
variable{X:Cx}{F H:Hp}{v w:V}{e a b c o:Expr}{es:List Expr}{pos p p2 apos bG:Pos}{t ta tb tc te:aC}{tr:bW}{x:Str}
theorem YD{r r':R2}{rd wY:cB}(hl:zt r rd)(oa:zt r' wY):∀σ H Q,lE (mm rd wY ta tb tc) σ H Q->LU r r' (lB ta) (lB tb) (lB tc) σ H Q:=λσ H Q ⟨B,F,δ,ts,Qd,c,q,k⟩ =>
 ⟨B,F,δ,ts,_,c,q,λx ai v F1 H1 q1 f1 h1 c1 s1=>⟨B,F1,ai,ts,_,c1,q1,λy aG w F2 H2 q2 f2 h2 c2 s2=>by
  refine hl c2 (s1.mono f2 h2) s2 q2 λd z H' hd hs c3=>?_
  obtain⟨b,rfl,qb⟩:=hd
  have st:=c3.top
  cases st with
  | bl _ =>
   refine⟨b,rfl,?_⟩
   cases b with
   | true =>
    refine j7 ⟨B,F2,aG,ts,_,c3.pop,by simpa using qb,λz hJ w3 F3 H3 q3 f3 h3 c4 s3=>?_⟩
    exact oa c4 (s2.mono f3 (hs.trans h3)) s3 q3 λd z H' hd YE c5=>k d hJ z F3 H' hd ((f1.trans f2).trans f3) ((((h1.trans h2).trans hs).trans h3).trans YE) c5
   | false=>exact iU (k _ aG _ F2 H' (by simpa using qb) (f1.trans f2) ((h1.trans h2).trans hs) (c3.pop.pushS (.bl .nil) rfl))⟩⟩
theorem Ei{op oq:CmpOp}{rd wY:cB}(ho:bJ X (compareOp op) rd)(iM:bJ X (compareOp oq) wY)(ha:PE X a (lB ta))(hb:PE X b (lB tb))(hc:PE X c (lB tc))
  (hm:lastMarks [op,oq] [b,c]=false:=by with_unfolding_all rfl):PE X (.Compare a [op,oq] [b,c] pos) (lE (mm rd wY ta tb tc)):=by
 obtain⟨r,h1,h2⟩:=ho
 obtain⟨r',gH,fW⟩:=iM
 exact cQ (Ve h1 gH ha hb hc hm) (YD h2 fW)
noncomputable def pQ(t:aC):aC:=λδ Q=>t δ λd ag=>match d with
 | .int i=>Q (.int (-i)) ag
 | _=>False
theorem kC(ha:PE X a (lB ta)):PE X (.UnaryOp .USub a pos) (lE (pQ ta)):=cQ (UW U7 ha) λσ H Q ⟨B,F,δ,ts,Qd,c,q,k⟩=>⟨B,F,δ,ts,_,c,q,λd ai v F1 H1 q1 f1 h1 c1 s1=>by
 cases s1 with
 | int _=>exact⟨_,rfl,k _ ai _ F1 H1 q1 f1 h1 (c1.pushS (.int .nil) rfl)⟩
 | _=>exact q1.elim⟩
noncomputable abbrev iz:=List D->(D->Prop)->Prop
noncomputable def lc(rd:iz):List V->Hp->VK->Prop:=λvs H Q=>∃B F σ δ ts ds Qd,aj B F H σ δ ts/\S F H ds vs/\rd ds Qd/\∀d z H',Qd d->ae H H'->aj B F H' σ δ ((d,z)::ts)->Q z H'
noncomputable def gh(X:Cx)(f:Value)(rd:iz):Prop:=fc X f (lc rd)
theorem gh.of{f:Value}{r:List V->Hp->VK->Prop}{rd:iz}(h:fc X f r)(m:∀vs H Q,lc rd vs H Q->r vs H Q):gh X f rd:=λpins s σ H xs us Q I r q=>h pins s σ H xs us Q I r (m xs H Q q)
noncomputable def kD(rd:iz)(t:bW):aC:=λδ Q=>t δ λds ag=>rd ds λd=>Q d ag
theorem NQ{rd:iz}:∀σ H Q,lE (kD rd tr) σ H Q->Dg (lc rd) (lA tr) σ H Q:=λσ H Q ⟨B,F,δ,ts,Qd,c,q,k⟩=>⟨B,F,δ,ts,_,c,q,λds ai vs F1 H1 q1 f1 h1 c1 s1 =>
 ⟨B,F1,σ,ai,ts,ds,_,c1,s1,q1,λd z H' hd hs c'=>k d ai z F1 H' hd f1 (h1.trans hs) c'⟩⟩
theorem bO{id:String}{rd:iz}(hc:gh X (.builtin id) rd)(hg:Gl X x)(hm:X.mg x=none)(hv:bootBuiltins x=some (.builtin id))(ha:PA X (e::es) (lA tr))(hn:x≠"__name__":=by decide)(dJ:(x==("__debug__":Str))=false:=by decide)
  (he:starEach (e::es) X.env=(false,eval e X.env)::starEach es X.env:=by rfl) (bu:(backTo pos (starEach es X.env)).any (·.1)=false:=by rfl):PE X (.Call (.Name x p) (e::es) [] pos) (lE (kD rd tr)) :=
 cQ (L7 hc hg hm hv ha hn dJ he bu) NQ
theorem zE{T:String}{rd:iz}(hc:gh X (.type T) rd)(hg:Gl X x)(hm:X.mg x=none)(hv:bootBuiltins x=some (.type T))(ha:PA X (e::es) (lA tr))(hn:x≠"__name__":=by decide)(dJ:(x==("__debug__":Str))=false:=by decide)
  (he:starEach (e::es) X.env=(false,eval e X.env)::starEach es X.env:=by rfl) (bu:(backTo pos (starEach es X.env)).any (·.1)=false:=by rfl):PE X (.Call (.Name x p) (e::es) [] pos) (lE (kD rd tr)) :=
 cQ (L8 hc hg hm hv ha hn dJ he bu) NQ
theorem jE{d:D}{vs:List V}(s:S F H [d] vs):∃v,vs=[v]/\S F H [d] [v]:=by
 obtain⟨v,bV,rfl,h1,h2⟩:=s.cw
 cases h2
 exact⟨v,rfl,h1⟩
theorem YF{d d':D}{vs:List V}(s:S F H [d,d'] vs):∃v v',vs=[v,v']/\S F H [d] [v]/\S F H [d'] [v']:=by
 obtain⟨v,bV,rfl,h1,h2⟩:=s.cw
 obtain⟨v',rfl,h3⟩:=jE h2
 exact⟨v,v',rfl,h1,h3⟩
theorem jF{K:PySem.W.Frag}{p:Addr}{ws:List V}(h:Rd H p (.lst ws)):bf K H p ws:=.inl h
noncomputable def mF:iz:=λds Q=>match ds with
 | [.lst _ xs]=>Q (.int xs.length)
 | [.fz xs]=>Q (.int xs.length)
 | [.tup xs]=>Q (.int xs.length)
 | [.str z]=>z.length<=sizeLine/\Q (.int z.length)
 | _=>False
theorem cH:gh X (.builtin "len") mF:=gh.of (Wa.or Wb) λvs H Q zz=>by
 obtain⟨B,F,σ,δ,ts,ds,Qd,c,s,q,k⟩:=zz
 unfold mF at q
 split at q
 ·obtain⟨v,rfl,s1⟩:=jE s
  obtain⟨p,ws,rfl,h,t⟩:=kB s1 c.ext rfl
  refine .inl ⟨p,ws,rfl,.inl (jF h),?_⟩
  rw[<-t.length]
  exact k _ _ _ q (ae.refl _) (c.pushS (.int .nil) rfl)
 ·obtain⟨v,rfl,s1⟩:=jE s
  obtain⟨p,ws,rfl,h,t⟩:=kB s1 c.ext rfl
  refine .inl ⟨p,ws,rfl,.inl (jF h),?_⟩
  rw[<-t.length]
  exact k _ _ _ q (ae.refl _) (c.pushS (.int .nil) rfl)
 ·obtain⟨v,rfl,s1⟩:=jE s
  obtain⟨p,ws,rfl,h,t⟩:=hW s1
  refine .inl ⟨p,ws,rfl,.inr (cj.of h),?_⟩
  rw[<-t.length]
  exact k _ _ _ q (ae.refl _) (c.pushS (.int .nil) rfl)
 ·obtain⟨v,rfl,s1⟩:=jE s
  cases s1
  exact .inr ⟨_,rfl,q.1,k _ _ _ q.2 (ae.refl _) (c.pushS (.int .nil) rfl)⟩
 ·exact q.elim
noncomputable def mG:iz:=λds Q=>match ds with
 | [.lst _ xs]=>xs.all D.pl=true/\Q (.lst true xs)
 | [.fz xs]=>Q (.lst true xs)
 | [.tup xs]=>xs.all D.pl=true/\Q (.lst true xs)
 | _=>False
theorem zF:gh X (.type "list") mG:=gh.of Wc λvs H Q zz=>by
 obtain⟨B,F,σ,δ,ts,ds,Qd,c,s,q,k⟩:=zz
 unfold mG at q
 split at q
 ·obtain⟨v,rfl,s1⟩:=jE s
  obtain⟨p,ws,rfl,h,t⟩:=kB s1 c.ext rfl
  exact⟨p,ws,rfl,.inl (jF h),λl hl=>k _ _ _ q.2 (ae.upd hl) (c.mh hl t q.1)⟩
 ·obtain⟨v,rfl,s1⟩:=jE s
  cases s1 with
  | fz h r _=>exact⟨_,_,rfl,.inl (jF (.inr ⟨_,c.ext _ _ h⟩)),λl hl=>k _ _ _ q (ae.upd hl) (c.mh hl r.s r.pl)⟩
 ·obtain⟨v,rfl,s1⟩:=jE s
  obtain⟨p,ws,rfl,h,t⟩:=hW s1
  exact⟨p,ws,rfl,.inr (cj.of h),λl hl=>k _ _ _ q.2 (ae.upd hl) (c.mh hl t q.1)⟩
 ·exact q.elim
noncomputable def ii(g:Int->Int->Int):iz:=λds Q=>match ds with
 | [.int i,.int j]=>Q (.int (g i j))
 | _=>False
theorem YG{f:Value}{g:Int->Int->Int}(h:fc X f (λxs H Q=>∃i j,xs=[.int i,.int j]/\Q (.int (g i j)) H)):gh X f (ii g):=gh.of h λvs H Q zz=>by
 obtain⟨B,F,σ,δ,ts,ds,Qd,c,s,q,k⟩:=zz
 unfold ii at q
 split at q
 ·obtain⟨v,v',rfl,s1,s2⟩:=YF s
  cases s1;cases s2
  exact⟨_,_,rfl,k _ _ _ q (ae.refl _) (c.pushS (.int .nil) rfl)⟩
 ·exact q.elim
theorem NR(hc:X.calm=true):gh X (.builtin "max") (ii λi j=>if j>i then j else i):=YG (Vh hc)
noncomputable def sq(bs:List Bool):List D:=bs.map D.bl
theorem Ej:∀{bs:List Bool} {ws:List V},S F H (sq bs) ws->ws=bs.map V.bl
 | [],_,s=>by cases s;rfl
 | b::bs,_,s=>by
  cases s with
  | bl s=>rw[Ej s];rfl
noncomputable def mH:iz:=λds Q=>match ds with
 | [.lst _ xs]=>∃bs,xs=sq bs/\Q (.bl (bs.all id))
 | _=>False
noncomputable def mI:iz:=λds Q=>match ds with
 | [.lst _ xs]=>∃bs,xs=sq bs/\Q (.bl (bs.any id))
 | _=>False
theorem Ek(hc:X.calm=true):gh X (.builtin "all") mH:=gh.of (Xi hc) λvs H Q zz=>by
 obtain⟨B,F,σ,δ,ts,ds,Qd,c,s,q,k⟩:=zz
 unfold mH at q
 split at q
 ·obtain⟨v,rfl,s1⟩:=jE s
  obtain⟨bs,rfl,q⟩:=q
  obtain⟨p,ws,rfl,h,t⟩:=kB s1 c.ext rfl
  rw[Ej t]at h
  exact⟨p,bs,rfl,jF h,k _ _ _ q (ae.refl _) (c.pushS (.bl .nil) rfl)⟩
 ·exact q.elim
theorem YH(hc:X.calm=true):gh X (.builtin "any") mI:=gh.of (Xj hc) λvs H Q zz=>by
 obtain⟨B,F,σ,δ,ts,ds,Qd,c,s,q,k⟩:=zz
 unfold mI at q
 split at q
 ·obtain⟨v,rfl,s1⟩:=jE s
  obtain⟨bs,rfl,q⟩:=q
  obtain⟨p,ws,rfl,h,t⟩:=kB s1 c.ext rfl
  rw[Ej t]at h
  exact⟨p,bs,rfl,jF h,k _ _ _ q (ae.refl _) (c.pushS (.bl .nil) rfl)⟩
 ·exact q.elim
noncomputable def El:D->Option String
 | .int _=>some "int"
 | .bl _=>some "bool"
 | .aq=>some "NoneType"
 | .str _=>some "str"
 | .lst _ _=>some "list"
 | .fz _=>some "list"
 | .tup _=>some "tuple"
 | _=>none
noncomputable def Em(k n:String):Option Bool:=([("int","int",true),("int","bool",false),("int","list",false),("int","tuple",false),("int","str",false),("bool","int",true),("bool","bool",true),("bool","list",false),("bool","tuple",false),("bool","str",false),
 ("NoneType","int",false),("NoneType","bool",false),("NoneType","list",false),("NoneType","tuple",false),("NoneType","str",false),("str","int",false),("str","bool",false),("str","list",false),("str","tuple",false),("str","str",true),
 ("list","int",false),("list","bool",false),("list","list",true),("list","tuple",false),("list","str",false),("tuple","int",false),("tuple","bool",false),("tuple","list",false),("tuple","tuple",true),("tuple","str",false)].find? λz=>z.1==k&&z.2.1==n).map (·.2.2)
noncomputable def jG(n:String)(d:D):Option Bool:=(El d).bind λk=>Em k n
theorem YI{K:PySem.W.Frag}{k n:String}{r:Bool}(h:Em k n=some r):PySem.W.kitOne K (.type k) (.type n)=some r:=by
 unfold Em at h
 obtain⟨z,hz,rfl⟩:=Lj.mp h
 have hm:=List.mem_of_find?_eq_some hz
 have hp:=List.find?_some hz
 rw[df,beq_iff_eq,beq_iff_eq]at hp
 obtain⟨rfl,rfl⟩:=hp
 simp only[bM,eQ,or_false]at hm
 repeat' (rcases hm with hm | hm)
 all_goals rfl
theorem YJ{K:PySem.W.Frag}{d:D}(s:S F H [d] [v])(e:ae F H){k:String}(h:El d=some k):fR K H v (.type k):=by
 cases s with
 | int _=>cases h;exact .int _
 | bl _=>cases h;exact .bl _
 | aq _=>cases h;exact .aq
 | str _=>cases h;exact .str _
 | shr h' _ _=>cases h;exact .lst (e _ _ h')
 | own h' _ _=>cases h;exact .lst h'
 | fz h' _ _=>cases h;exact .bQ (e _ _ h')
 | tup h' _ _=>cases h;exact .tup h'
 | obj _ _ _ _=>cases h
 | aV _ _=>cases h
theorem YK{K:PySem.W.Frag}{d:D}(s:S F H [d] [v])(e:ae F H){n:String}{r:Bool}(h:jG n d=some r):∃t,fR K H v t/\PySem.W.kitOne K t (.type n)=some r:=by
 unfold jG at h
 cases hk:El d with
 | none=>rw[hk]at h;cases h
 | some k=>rw[hk]at h;exact⟨_,YJ s e hk,YI h⟩
noncomputable def pS(n:String)(t:aC):aC:=λδ Q=>t δ λd ag=>∃r,jG n d=some r/\Q (.bl r) ag
theorem zG{n:String}{y:Str}{q:Pos}(hg:Gl X "isinstance")(hm:X.mg "isinstance"=none)(YL:Gl X y)(NS:X.mg y=none)(YM:bootBuiltins y=some (.type n))(ha:PE X a (lB ta))
  (hn:y≠"__name__":=by decide) (hd:(y==("__debug__":Str))=false:=by decide)
  (hs:starEach [a,.Name y q] X.env=(false,eval a X.env)::starEach [.Name y q] X.env:=by rfl) (dB:starEach [.Name y q] X.env=(false,eval (.Name y q) X.env)::starEach [] X.env:=by rfl) (bu:(backTo pos (starEach [.Name y q] X.env)).any (·.1)=false:=by rfl) :
  PE X (.Call (.Name "isinstance" p) [a,.Name y q] [] pos) (lE (pS n ta)) :=
 cQ (L7 W8 hg hm W0 (eE ha (eE (W6 YL NS YM hn hd) gY dB) hs) (by decide) (by decide) hs bu) λσ H Q ⟨B,F,δ,ts,Qd,c,q,k⟩=>⟨B,F,δ,ts,_,c,q,λd ai v F1 H1 q1 f1 h1 c1 s1=>by
  obtain⟨r,e,qr⟩:=q1
  obtain⟨t,h2,h3⟩:=YK (K:=X.K) s1 c1.ext e
  exact⟨v,n,t,r,rfl,h2,h3,k _ ai _ F1 H1 qr f1 h1 (c1.pushS (.bl .nil) rfl)⟩⟩
theorem Eo{xs:List D}{ws:List V}{i:Int}{d:D}(s:S F H xs ws)(h:dm xs i=some d):∃v,dm ws i=some v/\S F H [d] [v]:=by
 unfold dm at h ⊢
 rw[<-s.length]
 cases e:gZ xs.length i with
 | none=>rw[e]at h;cases h
 | some j =>
  rw[e]at h
  exact s.get h
noncomputable def mJ(x y:D)(Q:D->Prop):Prop:=match x,y with
 | .lst _ xs,.int i=>∃d,dm xs i=some d/\Q d
 | .fz xs,.int i=>∃d,dm xs i=some d/\Q d
 | .tup xs,.int i=>∃d,dm xs i=some d/\Q d
 | .str z,.int i=>z.length<=sizeLine/\∃ch,dm z.cps.toList i=some ch/\Q (.str ⟨#[ch]⟩)
 | _,_=>False
noncomputable def pU(ta tb:aC):aC:=λδ Q=>ta δ λx ai=>tb ai λy aG=>mJ x y λd=>Q d aG
theorem aQ(ha:PE X a (lB ta))(hb:PE X b (lB tb))(hs:Di b):PE X (.Subscript a b pos) (lB (pU ta tb)) :=
 cQ (Ma V2 ha hb hs) λσ H Q ⟨B,F,δ,ts,Qd,c,q,k⟩=>⟨B,F,δ,ts,_,c,q,λx ai v F1 H1 q1 f1 h1 c1 s1=>⟨B,F1,ai,ts,_,c1,q1,λy aG w F2 H2 q2 f2 h2 c2 s2=>by
  have kE:=s1.mono f2 h2
  have fin:∀d z,Qd d aG->S F2 H2 [d] [z]->Q z H2:=λd z hd s=>k d aG z F2 H2 hd (f1.trans f2) (h1.trans h2) c2 s
  unfold mJ at q2
  split at q2
  ·obtain⟨d,ed,qd⟩:=q2
   cases s2
   obtain⟨p,ws,rfl,h,t⟩:=kB kE c2.ext rfl
   obtain⟨z,ez,sz⟩:=Eo t ed
   exact .inl ⟨p,ws,_,z,rfl,rfl,jF h,ez,fin d z qd sz⟩
  ·obtain⟨d,ed,qd⟩:=q2
   cases s2
   obtain⟨p,ws,rfl,h,t⟩:=kB kE c2.ext rfl
   obtain⟨z,ez,sz⟩:=Eo t ed
   exact .inl ⟨p,ws,_,z,rfl,rfl,jF h,ez,fin d z qd sz⟩
  ·obtain⟨d,ed,qd⟩:=q2
   cases s2
   obtain⟨p,ws,rfl,h,t⟩:=hW kE
   obtain⟨z,ez,sz⟩:=Eo t ed
   exact .inr (.inl ⟨p,ws,_,z,rfl,rfl,cj.of h,ez,fin d z qd sz⟩)
  ·obtain⟨hz,ch,ec,qc⟩:=q2
   cases kE
   cases s2
   exact .inr (.inr ⟨_,_,ch,rfl,rfl,hz,ec,fin _ _ qc (.str .nil)⟩)
  ·exact q2.elim⟩⟩
noncomputable abbrev su:=Dl->(Option Int->Dl->Prop)->Prop
noncomputable def lP(t:su):TO:=λσ H Q=>∃B F δ ts Qd,aj B F H σ δ ts/\t δ Qd/\∀o ag F' H',Qd o ag->ae F F'->ae H H'->aj B F' H' σ ag ts->Q o H'
theorem NT{oe:Option Expr}{u u':TO}(h:PO X oe u)(m:∀σ H Q,u' σ H Q->u σ H Q):PO X oe u':=λpins s σ H Q I q=>h pins s σ H Q I (m σ H Q q)
noncomputable def pV:su:=λδ Q=>Q none δ
noncomputable def pW(t:aC):su:=λδ Q=>t δ λd ag=>match d with
 | .int i=>Q (some i) ag
 | _=>False
theorem kF:PO X none (lP pV):=NT VU λσ H Q ⟨B,F,δ,ts,Qd,c,q,k⟩=>k none δ F H q (ae.refl _) (ae.refl _) c
theorem i3(h:PE X e (lB t)):PO X (some e) (lP (pW t)):=NT (VV h) λσ H Q ⟨B,F,δ,ts,Qd,c,q,k⟩=>⟨B,F,δ,ts,_,c,q,λd ai v F1 H1 q1 f1 h1 c1 s1=>by
 cases s1 with
 | int _=>exact⟨_,rfl,k _ ai F1 H1 q1 f1 h1 c1⟩
 | _=>exact q1.elim⟩
noncomputable def dQ{α:Type}(xs:List α)(lo hi:Option Int):List α:=(xs.drop (HT.ck xs.length 0 lo)).take (HT.ck xs.length xs.length hi-HT.ck xs.length 0 lo)
theorem S.cut{xs:List D}{ws:List V}(s:S F H xs ws)(lo hi:Option Int):S F H (dQ xs lo hi) (rM ws lo hi):=by
 unfold dQ rM
 rw[<-s.length]
 exact(s.drop _).take _
theorem NU{xs:List D}{p:D->Bool}(h:xs.all p=true)(lo hi:Option Int):(dQ xs lo hi).all p=true:=by
 rw[dU]at h ⊢
 intro x hx
 exact h x (Cp (vB hx))
noncomputable def pZ(t:aC):aC:=λδ Q=>t δ λd ag=>match d with
 | .int i=>Q (.int (Mf.bl i.natAbs:Nat)) ag
 | _=>False
theorem kG(ho:PE X o (lB t))(g6:attributeBase o "bit_length" X.env (eval o X.env)=eval o X.env:=by rfl)(g9:(apos.endLine==bG.line)=true:=by rfl):PE X (.Call (.Attribute o "bit_length" apos) [] [] bG) (lE (pZ t)) :=
 cQ (DD ho g6 g9) λσ H Q ⟨B,F,δ,ts,Qd,c,q,k⟩=>⟨B,F,δ,ts,_,c,q,λd ai v F1 H1 q1 f1 h1 c1 s1=>by
  cases s1 with
  | int _=>exact⟨rfl,_,rfl,rfl,k _ ai _ F1 H1 q1 f1 h1 (c1.pushS (.int .nil) rfl)⟩
  | _=>exact q1.elim⟩
end
end L3
namespace L3
open PySem L2 PySem.Spec PyProof.Rows
section
variable{X:Cx}{F H:Hp}{v w:V}{e a b c o tg:Expr}{es:List Expr}{pos p p2 apos bG pos':Pos}{t ta tb tc te ti:aC}{tr:bW}{x:Str}{i:Nat}
theorem NV{F:Hp}(lo st:Int)(n:Nat):JD (DN lo st n) F ((bL n).map λ(k:Nat)=>D.int (lo+(k:Int)*st)) where
 go:=λi H' hs hi=>by
  have dM:i<n:=by simpa using hi
  exact dM
 fQ:=λi H' x H2 hs hi zz=>by
  obtain⟨e,y⟩:=zz
  subst e y
  have dM:i<n:=by simpa using hi
  exact⟨.int (lo+i*st),by simp[nR dM],ae.refl _,.int .nil⟩
 stop:=λi H' hs hi=>by
  have dM:n<=i:=by simpa using hi
  exact dM
noncomputable def p5(t:bW):fZ:=λδ Q=>t δ λds ag=>∃a b c:Int,ds=[.int a,.int b,.int c]/\zk a b c/\Q true ((bL (ik a b c).toNat).map λ(k:Nat)=>D.int (a+(k:Int)*c)) ag
theorem YN(hg:Gl X "range")(hm:X.mg "range"=none)(ha:PA X [a,b,c] (lA tr))(hs:starEach [a,b,c] X.env=[(false,eval a X.env),(false,eval b X.env),(false,eval c X.env)]:=by rfl)
  (dB:starEach [b,c] X.env=[(false,eval b X.env),(false,eval c X.env)]:=by rfl):PI X tg (.Call (.Name "range" p) [a,b,c] [] pos) (lI (p5 tr)) :=
 mz (Xz hg hm ha hs dB) λσ H Q ⟨B,F,δ,ts,Qd,c,q,k⟩=>⟨B,F,δ,ts,_,c,q,λds ai vs F1 H1 hd f1 h1 c1 s=>by
  obtain⟨i,j,l,rfl,bd,hq⟩:=hd
  cases s with
  | int s =>
   cases s with
   | int s =>
    cases s with
    | int s =>
     cases s
     refine⟨i,j,l,rfl,bd,k true _ ai _ _ H1 hq f1 h1 c1 ?_ λ_=>⟨D8 _ _,NV i l _⟩⟩
     rw[r6]
     exact NV i l _⟩
noncomputable def p7(i:Nat)(t:aC):cA:=λD δ=>(∃xs,δ[i]?=some (some (.lst true xs)))/\t δ λd ag=>∃xs,ag[i]?=some (some (.lst true xs))/\xs.length<sizeLine/\D.nx (ag.set i (some (.lst true (xs++[d]))))
theorem NW(hN:X.N[i]?=some x)(hv:iL X.env.scope x)(he:PE X e (lE t))(hd:(x==("__debug__":Str))=false:=by decide)(bX:(x==("__classdict__":Str))=false:=by decide)
  (g6:attributeBase (.Name x p) "append" X.env (eval (.Name x p) X.env)=eval (.Name x p) X.env:=by rfl)
  (Dq:((backTo bG (starEach [e] X.env)).all (λx=>!x.1)&&(backToKw bG (keywordEach [] X.env)).all (λx=>x.1.isSome)
   && decide ([e].length+([]:List Keyword).length+(if([]:List Keyword).isEmpty then 0 else 1)<30))=true:=by rfl)
  (g9:(apos.endLine==bG.line)=true:=by rfl) (hs:starEach [e] X.env=(false,eval e X.env)::starEach [] X.env:=by rfl) (Dr:(backTo bG (starEach [] X.env)).any (·.1)=false:=by rfl)
  (oF:swapsWith (.Call (.Attribute (.Name x p) "append" apos) [e] [] bG) none pos.line X.env=pure false:=by rfl) :
  PS X (.Expr (.Call (.Attribute (.Name x p) "append" apos) [e] [] bG) pos) (lS X (p7 i t)) :=
 iY (yS (Wf PySem.F.plainAttrs_list PySem.F.slot_list_append PySem.F.type_list_append Mn (lK hN hv hd bX) (eE he gY hs) g6 Dq g9 hs Dr) oF) λEn σ H zz=>by
  obtain⟨B,F,δ,Dd,c,⟨⟨ys,ey⟩,q⟩,k1,k2,k3,k4⟩:=zz
  obtain⟨p0,mi,g1,g2,g3⟩:=c.ownAt ey
  refine⟨.ref p0,g1,.inl ⟨rfl,_,bf.of g2⟩,B,F,δ,[],_,c,q,λd ag v F' H' hd sf sh c'=>?_⟩
  obtain⟨xs,ex,hl,hn⟩:=hd
  obtain⟨p1,ws,r1,r2,r3⟩:=c'.ownAt ex
  rw[g1]at r1;cases r1
  exact⟨p0,ws,v,rfl,rfl,r2,by omega,k1 _ _ F' _ hn (c'.app ex g1 r2)⟩
noncomputable def p8(i:Nat)(te ti:aC):cA:=λD δ=>te δ λd ai=>∃ys,ai[i]?=some (some (.lst true ys))/\mj ti ai λk aG=>match k with
 | .int n=>∃xs j,aG[i]?=some (some (.lst true xs))/\gZ xs.length n=some j/\D.nx (aG.set i (some (.lst true (xs.set j d))))
 | _=>False
theorem wZ(hN:X.N[i]?=some x)(hv:iL X.env.scope x)(he:PE X e (lE te))(hi:PE X b (lB ti))(hd:(x==("__debug__":Str))=false:=by decide)(bX:(x==("__classdict__":Str))=false:=by decide)
  (ha:∀v,assign (.Subscript (.Name x p) b pos') X.env v=(do
   let ov<-holding [v] (eval (.Name x p) X.env)
   let iv<-holding [v,ov] (eval b X.env)
   standAt pos'
   holding [v,ov,iv] (setItem ov iv v)
   release [v,ov,iv] []):=by intro _;rfl)
  (hs:swapsWithSole [.Subscript (.Name x p) b pos'] e pos.line X.env=pure false:=by rfl) (hw:swappedStores [.Subscript (.Name x p) b pos'] e X.env=pure none:=by rfl)
  (h1:(assignEach [.Subscript (.Name x p) b pos'] X.env).map (·.2)=[assign (.Subscript (.Name x p) b pos') X.env]:=by rfl) :
  PS X (.Assign [.Subscript (.Name x p) b pos'] e pos) (lS X (p8 i te ti)) :=
 iY (Uy he (Ux (lK hN hv hd bX) (fg hi) V6 ha) hs hw h1) λEn σ H ⟨B,F,δ,Dd,c,q,k1,k2,k3,k4⟩=>⟨B,F,δ,[],_,c,q,λd ai v F1 H1 hq f1 h1 c1=>by
  obtain⟨ys,ey,hq⟩:=hq
  obtain⟨p0,mi,g1,g2,g3⟩:=c1.ownAt ey
  refine⟨.ref p0,g1,B,F1,ai,[(d,v)],_,c1,hq,λkd aG kv F2 H2 hk f2 h2 c2=>?_⟩
  have st:=c2.top
  split at hk
  ·obtain⟨xs,j,ex,ej,hn⟩:=hk
   cases st
   have c3:=c2.pop
   obtain⟨p1,ws,r1,r2,r3⟩:=c3.ownAt ex
   rw[g1]at r1;cases r1
   exact⟨p0,ws,_,j,rfl,rfl,r2,by rw[<-r3];exact ej,k1 _ _ F2 _ hn (c3.Yg ex g1 r2 j)⟩
  ·exact hk.elim⟩
theorem R.Ep:∀{xs:List D} {ws:List V} {A:List Addr},R F H xs ws A->A.Nodup->∃A',R F H xs.dropLast ws.dropLast A'/\A'.Nodup/\∀a∈A',a∈A
 | [],_,A,r,nd=>by cases r;exact⟨[],.nil,by simp,by simp⟩
 | [d],_,A,r,nd=>by
  obtain⟨w,dP,B1,B2,rfl,rfl,h1,h2⟩:=r.cw
  cases h2
  exact⟨[],.nil,by simp,by simp⟩
 | d::d'::ds,_,A,r,nd=>by
  obtain⟨w,dP,B1,B2,rfl,rfl,h1,h2⟩:=r.cw
  obtain⟨n1,n2,n3⟩:=eK.mp nd
  obtain⟨A',r',kq,sub⟩:=R.Ep h2 n2
  have hl:dP≠[]:=by have:=h2.length;intro z;rw[z]at this;simp at this
  refine⟨B1++A',?_,eK.mpr ⟨n1,kq,λa ha hb=>n3 a ha (sub a hb)⟩,λa ha=>?_⟩
  ·rw[Th (by simp),Th hl]
   exact h1.cons r'
  ·rcases eA.mp ha with z | z
   ·simp[z]
   ·simp[sub a z]
noncomputable def p9(i:Nat):cA:=λD δ=>∃xs,δ[i]?=some (some (.lst true xs))/\xs≠[]/\D.nx (δ.set i (some (.lst true xs.dropLast)))
theorem YO(hN:X.N[i]?=some x)(hv:iL X.env.scope x)(hd:(x==("__debug__":Str))=false:=by decide)(bX:(x==("__classdict__":Str))=false:=by decide)
  (g6:attributeBase (.Name x p) "pop" X.env (eval (.Name x p) X.env)=eval (.Name x p) X.env:=by rfl) (g9:(apos.endLine==bG.line)=true:=by rfl)
  (oF:swapsWith (.Call (.Attribute (.Name x p) "pop" apos) [] [] bG) none pos.line X.env=pure false:=by rfl) :
  PS X (.Expr (.Call (.Attribute (.Name x p) "pop" apos) [] [] bG) pos) (lS X (p9 i)) :=
 iY (yS (Dm PySem.F.plainAttrs_list PySem.F.slot_list_pop PySem.F.type_list_pop Mo (lK hN hv hd bX) g6 g9) oF) λEn σ H zz=>by
  obtain⟨B,F,δ,Dd,c,⟨ys,ey,iW,hn⟩,k1,k2,k3,k4⟩:=zz
  obtain⟨p0,mi,g1,g2,g3⟩:=c.ownAt ey
  have hl:0<mi.length:=by rw[<-g3];exact nS.mpr iW
  refine⟨.ref p0,g1,.inl ⟨rfl,_,bf.of g2⟩,p0,mi,_,rfl,rfl,g2,bc (by omega),k1 _ _ F _ hn ?_⟩
  exact aj.mut (ps:=[]) c ey g1 λdP A1 A2 h r1 r2 nd=>by
   rw[g2]at h;cases h
   obtain⟨A',r',kq,sub⟩:=r1.Ep (eK.mp nd).1
   exact⟨A',r',kq,λa ha=>fO _ (sub a ha)⟩
end
end L3
namespace L3
open PySem L2 PySem.Spec PyProof.Rows
theorem cV{A:Around}{k:Nat}(hr:bE k A):A.units+6<cLine:=by have:=hr.un;omega
noncomputable def az(ns:List Int):List D:=ns.map D.int
noncomputable def Er(o:Obj):Bool:=match o.cls with
 | .type n=>n != "list"
 | _=>true
noncomputable def NX:bt:=λds Q=>∃ns:List Int,ds=[.fz (az ns)]/\ns.length<=63/\Q (.bl true)
theorem i4{F H:Hp}:∀ns:List Int,R F H (az ns) (ns.map V.int) []
 | []=>.nil
 | n::ns=>.int (i4 ns)
theorem YQ{K:PySem.W.Frag}{a:Addr}{o:Obj}(h:K.lookup a=some o):(a,o)∈K:=by
 induction K with
 | nil=>cases h
 | cons p K ih =>
  obtain⟨b,u⟩:=p
  rw[gU]at h
  split at h
  ·rename_i z
   have:a=b:=by simpa using z
   cases h;subst this;simp
  ·exact jT _ (ih h)
end L3
namespace L3
open PySem L2 PySem.Spec PyProof.Rows
section
variable{B:Bs}{F H:Hp}{σ:L2.St}{δ:Dl}{ts ps:List (D × V)}{i k:Nat}{p q:Addr}{l1 l2 ys DW:List D}{ws sk:List V}
end
section
variable{X:Cx}{F H:Hp}{e b:Expr}{pos p pr apos bG zH:Pos}{t ti te:aC}{x y:Str}{i j:Nat}
end
end L3
namespace L3
open PySem L2 PySem.Spec PyProof.Rows
theorem sA(i:Int):(D.int i).pl=true:=rfl
theorem sC(i:Bool):(D.bl i).pl=true:=rfl
theorem sD(i:Str):(D.str i).pl=true:=rfl
theorem sE:D.aq.pl=true:=rfl
theorem sF(xs:List D):(D.fz xs).pl=true:=rfl
theorem sG(C:Addr)(ns:List Str)(xs:List D):(D.obj C ns xs).pl=true:=rfl
theorem sH(i:Int):(D.int i).fr=true:=rfl
theorem sI(i:Bool):(D.bl i).fr=true:=rfl
theorem sJ(i:Str):(D.str i).fr=true:=rfl
theorem sM:D.aq.fr=true:=rfl
theorem mK(i:Int):(D.int i).sh=.int i:=rfl
theorem sN(i:Bool):(D.bl i).sh=.bl i:=rfl
theorem sO(i:Str):(D.str i).sh=.str i:=rfl
theorem sP:D.aq.sh=.aq:=rfl
theorem sQ(xs:List D):(D.fz xs).sh=.fz xs:=rfl
theorem sR(C:Addr)(ns:List Str)(xs:List D):(D.obj C ns xs).sh=.obj C ns xs:=rfl
theorem sS{α:Type}(n:Nat)(x:α):(aN n [x]).flatten=aN n x:=by
 induction n with
 | zero=>rfl
 | succ n ih=>rw[nH,rn,ih];rfl
theorem i5(ns:List Int):(az ns).length=ns.length:=by simp[az]
theorem kH(ns:List Int):(az ns).all D.pl=true:=by simp[az,D.pl]
theorem mL(ns:List Int):(az ns).all D.fr=true:=by simp[az,D.fr]
theorem gP(ns:List Int):(az ns).map D.sh=az ns:=by simp[az,D.sh]
theorem mM(a b:List Int):az a++az b=az (a++b):=by simp[az]
theorem sT(n:Nat)(i:Int):aN n (D.int i)=az (aN n i):=by simp[az]
theorem mO(n:Nat)(i:Int):aI n (.int i)=true:=by cases n<;>rfl
theorem sU(n:Nat)(i:Str):aI n (.str i)=true:=by cases n<;>rfl
theorem i6(i j:Int):bF (.int i) (.int j)=decide (i=j):=by
 show(i==j)=_
 rw[Bool.beq_eq_decide_eq]
theorem NY:∀(a b:List Int),bF.fG (az a) (az b)=decide (a=b)
 | [],[]=>rfl
 | [],_::_=>by simp[az,bF.fG]
 | _::_,[]=>by simp[az,bF.fG]
 | x::xs,y::ys=>by
  show(bF (.int x) (.int y)&&bF.fG (az xs) (az ys))=_
  rw[NY xs ys,i6,Cg];simp
theorem qa(o o':Bool)(a b:List Int):bF (.lst o (az a)) (.lst o' (az b))=decide (a=b):=NY a b
theorem NZ{ns:List Int}{k:Nat}(h:k<ns.length):(az ns)[k]?=some (.int ns[k]):=by simp[az,h]
theorem jH{ns:List Int}{k:Int}(h0:0<=k)(h:k<ns.length):dm (az ns) k=some (.int (ns.getD k.toNat 0)):=by
 unfold dm gZ
 rw[if_pos h0,i5,if_pos h]
 show(az ns)[k.toNat]?=_
 have hk:k.toNat<ns.length:=by omega
 rw[NZ hk,aU,bc hk];rfl
theorem qe(ns:List Int)(lo hi:Option Int):dQ (az ns) lo hi=az (dQ ns lo hi):=by simp[dQ,az,List.map_drop,List.map_take]
theorem sV(i:Int):jG "int" (.int i)=some true:=by rfl
theorem sW(i:Int):jG "bool" (.int i)=some false:=by rfl
theorem sX(i:Int):jG "list" (.int i)=some false:=by rfl
theorem sY(o:Bool)(xs:List D):jG "list" (.lst o xs)=some true:=by rfl
theorem sZ:jG "int" .aq=some false:=by rfl
theorem s8(x:Str):jG "str" (.str x)=some true:=by rfl
theorem s9(xs:List D):jG "tuple" (.tup xs)=some true:=by rfl
theorem sL:sizeLine=16777216:=rfl
theorem tf{p:Prop}[Decidable p]:(decide p=true)=p:=by simp
theorem N0{α:Type}(xs:List α)(a b:Nat):dQ xs (some (a:Int)) (some (b:Int))=(xs.drop a).take (b-a):=by
 unfold dQ
 rw[HT.Dh,HT.Dh]
 by_cases h:a<=xs.length
 ·rw[rz h]
  apply List.ext_getElem?
  intro i
  rw[vC,vC,Ti]
  by_cases hi:i<b-a
  ·rw[if_pos hi]
   by_cases hb:a+i<xs.length
   ·rw[if_pos (by omega)]
   ·rw[nU (by omega)];simp
  ·rw[if_neg hi,if_neg (by omega)]
 ·rw[Nat.min_eq_right (show xs.length<=a by omega),Lk (aX _),Lk (show xs.length<=a by omega)];simp
end L3
namespace L2
open PySem PySem.Spec PyProof.Rows
section
variable{X:Cx}{e:Expr}{te:TE}{lo hi:Option Expr}{st:Expr}{tl th ts:TO}{pos p2:Pos}
noncomputable def Es{α:Type}(xs:List α)(lo hi st:Option Int):List α:=(sliceRange (sliceBounds lo hi st xs.length).1 (sliceBounds lo hi st xs.length).2.1 (sliceBounds lo hi st xs.length).2.2).filterMap (xs[·]?)
end
end L2
namespace L3
open PySem L2 PySem.Spec PyProof.Rows
section
variable{X:Cx}{F H:Hp}{e:Expr}{t:aC}{lo hi:Option Expr}{st:Expr}{tl th td:su}{pos p2:Pos}
theorem N1:∀{a:List Int} {ws:List V},S F H (az a) ws->ws=a.map V.int
 | [],_,s=>by cases s;rfl
 | b::bs,_,s=>by
  cases s with
  | int s=>rw[N1 s];rfl
theorem S.Et{xs:List D}{ws:List V}(s:S F H xs ws):∀ix:List Nat,S F H (ix.filterMap (xs[·]?)) (ix.filterMap (ws[·]?))
 | []=>.nil
 | i::ix=>by
  rw[q9,q9]
  cases e:xs[i]? with
  | none =>
   have:ws[i]?=none:=by
    have:=s.length
    rw[K3]at e ⊢
    omega
   rw[this];exact S.Et s ix
  | some x =>
   obtain⟨u,e2,q⟩:=s.get e
   rw[e2]
   exact q.cons (S.Et s ix)
theorem S.pick{xs:List D}{ws:List V}(s:S F H xs ws)(l u d:Option Int):S F H (Es xs l u d) (Es ws l u d):=by
 unfold Es;rw[<-s.length];exact s.Et _
noncomputable def Eu:Expr->Option Int
 | .Constant (.int i) _ _=>some i
 | _=>none
noncomputable def zI:List Expr->Option (List Int)
 | []=>some []
 | e::es=>(Eu e).bind λi=>(zI es).map (i :: ·)
theorem YR{e:Expr}{i:Int}(h:Eu e=some i):∃a b,e=.Constant (.int i) a b:=by
 cases e with
 | Constant c a b =>
  cases c with
  | int j=>cases h;exact⟨_,_,rfl⟩
  | _=>cases h
 | _=>cases h
noncomputable def YS(ns:List Int):bW:=λδ Q=>Q (az ns) δ
theorem N2:∀(es:List Expr) (ns:List Int),zI es=some ns->PA X es (lO (YS ns))
 | [],ns,h=>by cases h;exact cU
 | e::es,ns,h=>by
  obtain⟨i,hi,h2⟩:=Option.bind_eq_some_iff.mp (show(Eu e).bind (λi=>(zI es).map (i :: ·))=some ns from h)
  obtain⟨ms,hm,rfl⟩:=Lj.mp h2
  obtain⟨a,b,rfl⟩:=YR hi
  exact wJ (cL (ao (i:=i)) (N2 es ms hm)) λ_ _ _ q=>q
noncomputable def qf(ns:List Int):aC:=λδ Q=>ns.length<=sizeLine/\Q (.lst true (az ns)) δ
theorem N3{es:List Expr}{ns:List Int}(h:zI es=some ns):PE X (.List es pos) (lE (qf ns)) :=
 cQ (eF (N2 es ns h)) λ_ _ _ ⟨B,F,δ,ts,Qd,c,q,k⟩=>⟨B,F,δ,ts,Qd,c,by
  show(az ns).length<=sizeLine/\_
  rw[i5];exact q,k⟩
theorem YT{ns:List Int}(h:0<ns.length):dm (az ns) (-1)=some (.int (ns.getD (ns.length-1) 0)):=by
 unfold dm gZ
 rw[if_neg (by decide),i5,if_pos (by omega)]
 have hk:((-1:Int)+ns.length).toNat=ns.length-1:=by omega
 show(az ns)[((-1:Int)+ns.length).toNat]?=_
 rw[hk,NZ (by omega),aU,bc (by omega)];rfl
noncomputable def tab(f:Nat->Int)(n:Nat):List Int:=(bL n).map f
theorem N4{n:Nat}{g:gb}{tb:cA}{En:oJ}{δ:Dl}(Iv:Nat->Dl->Prop)(h0:Iv 0 δ)(ht:∀k ag,k<n->Iv k ag->g (.int k) ag λaG=>tb { En with nx:=Iv (k+1),ct:=Iv (k+1),bk:=En.nx } aG)
  (hf:∀ag,Iv n ag->En.nx ag):hR (Cq (λ(k:Nat)=>D.int (0+(k:Int))) (bL (n:Int).toNat)) g tb En δ:=by
 rw[jW]
 refine hR.mk Iv h0 (λi d ag hd iv=>?_) λag iv=>hf ag (by simpa using iv)
 rw[eZ]at hd
 obtain⟨k,hk,rfl⟩:=Lj.mp hd
 have hi:i<n:=by have:=(jU.mp hk).1;simpa using this
 rw[nR hi]at hk
 cases hk
 rw[Ll]
 exact ht i ag hi iv
theorem lN{xs:List D}{k:Int}{d:D}(h0:0<=k)(h:xs[k.toNat]?=some d):dm xs k=some d:=by
 unfold dm gZ
 have hk:k.toNat<xs.length:=(jU.mp h).1
 rw[if_pos h0,if_pos (by omega)]
 exact h
end
end L3
namespace L3
open PySem L2 PySem.Spec PyProof.Rows
noncomputable abbrev jI:=List D->(D->Prop)->(Addr->Prop)->Prop
noncomputable def qg(sp:jI):Sp:=λvs H Q E=>∃F ds Qd Ed,ae F H/\R F H ds vs []/\sp ds Qd Ed/\(∀d v F' H' A,Qd d->ae H H'->ae F F'->ae F' H'->(∀a ws,F' a=some (.lst ws)->F a=some (.lst ws)\/H a=none)->R F' H' [d] [v] A->A.Nodup->(∀a∈A,H a=none)->Q v H') /\
 ∀C H',Ed C->ae H H'->E (.ref C) none H'
section
variable{P:Program}{w:World}{K:PySem.W.Frag}{mg:Str->Option Value}{base:Heap}
theorem Ew{x qual:Str}{st:Stmt}{f:Addr}{fd:FuncData}{N ps:List Str}{k:Nat}{sp:jI}(F:bg K x qual st f fd)(S:bj N ps (ax st))(len:∀ds Q E,sp ds Q E->ds.length=ps.length)
  (fS:∀(aF:Value) (A:Around) (outer:List Env) (s:Shared) (H:Hp) (E:XK),bE k (A.deeper (envOfC qual (ax st) s.heap.objs.size f aF)) ->
   ∃t:cA,PSs (gF (iV P w) P w K mg base N qual (ax st) f aF A outer s H E) (aY st) (lS (gF (iV P w) P w K mg base N qual (ax st) f aF A outer s H E) t) /\
    ∀ds Q Ex,sp ds Q Ex->t { nx:=λ_=>Q .aq,rt:=Q,xc:=λC _=>Ex C,xr:=λC _=>Ex C } (iu N ds)):aO P w K mg base (iV P w) (k+1) f fd ps (qg sp):=by
 obtain⟨oc,od,kV,doc,pm,an,aF,ct,js,rfl,lk,bX⟩:=F.ex
 refine Df lk bX S (λvs H Q E ⟨F,ds,Qd,Ed,e,r,h,_⟩=>by rw[<-r.length];exact len ds Qd Ed h) λA outer s H vs Q E hr zz=>?_
 obtain⟨F,ds,Qd,Ed,e,r,h,k,kx⟩:=zz
 obtain⟨t,ht,hq⟩:=fS aF A outer s H E hr
 have fin:∀d v ag aw F' H',Qd d->aj ⟨H,F⟩ F' H' aw ag [(d,v)]->Q v H':=λd v ag aw F' H' hd c=>by
  obtain⟨A,C,r',s',nd,fr⟩:=c.own
  exact k d v F' H' A hd c.b1 c.b2 c.ext c.b3 r' (eK.mp nd).1 λa ha=>fr a (fO _ ha)
 have e1:L2.start N vs=vs.map some++aN (N.length-ds.length) none:=by unfold L2.start;rw[r.length]
 refine⟨_,ht,⟨H,F⟩,F,iu N ds,_,?_,hq ds Qd Ed h,λag aw F' H' hd c=>fin .aq .aq ag aw F' H' hd (c.pushS (.aq .nil) rfl),fin,λ_ _ _ _ z=>z.elim,λ_ _ _ _ z=>z.elim,λC ag pins aw F' H' s' a T hx c I tr pa pT=>?_,λC ag pins aw F' H' s' h' e vs hx c I hm=>?_⟩
 ·rw[e1]
  exact aj.start e r _
 ·exact XM I rfl rfl rfl tr pa pT λh' T' g=>⟨a,T',.ref C,H',rfl,I.os,I.bare,g.un,g.ay,g.wz,g.a0,g.a1,g.t0,g.t1,kx C H' hx c.b1⟩
 ·exact XN I rfl rfl rfl hm λh' T' g=>⟨e,T',.ref C,H',rfl,I.os,I.bare,g.un,g.ay,g.wz,g.a0,g.a1,g.t0,g.t1,kx C H' hx c.b1⟩
end
noncomputable abbrev N5:=L2.St->Hp->VK->(Value->Hp->Prop)->Prop
noncomputable def PX(X:Cx)(e:Expr)(t:N5):Prop:=∀(pins:List (Addr × Obj)) (s:Shared) (σ:L2.St) (H:Hp) (Q:VK) (Z:Value->Hp->Prop),Inv X pins σ H s ->
 (∀a T cls H' s',Inv X pins σ H' s'->jv s'.heap a T cls->Apart X pins H' a->Apart X pins H' T->Z cls H'->X.xe (.ref a) s')->t σ H Q Z->wpAny (model X.prog X.w) X.A (eval e X.env) (EP X pins σ Q) X.xe s
noncomputable abbrev zJ:=Dl->(D->Dl->Prop)->(Addr->Dl->Prop)->Prop
noncomputable def lX(t:zJ):N5:=λσ H Q Z=>∃B F δ Qd Zd,aj B F H σ δ []/\t δ Qd Zd/\(∀d ag v F' H',Qd d ag->ae F F'->ae H H'->aj B F' H' σ ag [(d,v)]->Q v H')/\∀C ag F' H',Zd C ag->ae F F'->ae H H'->aj B F' H' σ ag []->Z (.ref C) H'
section
variable{X:Cx}{n:Nat}{f:Addr}{fd:FuncData}{ps:List Str}{sp:jI}{x:Str}{p pos:Pos}{e:Expr}{es:List Expr}{t:bW}{tx:zJ}
theorem YU{pins:List (Addr × Obj)}{σ:L2.St}{H:Hp}{s:Shared}{Q:VK}{E:XK}{us:List Value}{vs:List V}{sp:Sp}(F:aO X.prog X.w X.K X.mg X.base (iV X.prog X.w) n f fd ps sp)(hr:bE n X.A)(hb:Binds X.K fd ps [])(hex:X.ex=[])
  (I:Inv X pins σ H s) (r:Vals vs us) (h:sp vs H Q E) (hx:∀a T cls H' s',Inv X pins σ H' s'->jv s'.heap a T cls->Apart X pins H' a->Apart X pins H' T->E cls none H'->X.xe (.ref a) s'):wpAny (model X.prog X.w) X.A (call (.ref f) us) (EP X pins σ Q) X.xe s:=by
 have hl:(us++[]).length=ps.length:=by rw[iF,<- r.length];exact F.len _ _ _ _ h
 have ju:=hb s us I.cE hl
 rw[iF]at ju
 refine wpAny_call (codeAny_mono (F.run X.A X.stack s H ⟨us,[]⟩ us vs Q E hr I.rL ju r h) λr s' hq=>?_)
 cases r with
 | error e =>
  obtain⟨a,T,cls,H',rfl,os,bare,un,ay,tr,a0,a1,t0,t1,hE⟩:=hq
  exact hx a T cls H' s' (I.LJ (ch:=[]) os un ay bare λb z=>absurd z (by simp)) tr (I.apart hex a0 a1) (I.apart hex t0 t1) hE
 | ok fl =>
  cases fl with
  | ret u=>exact I.after hq
  | next=>exact dy hq
  | brk=>exact dy hq
  | cont=>exact dy hq
theorem YV{B:Bs}{F H:Hp}{σ:L2.St}{δ:Dl}{ts:List (D × V)}{Qd:D->Prop}{Ed:Addr->Prop}{Q:VK}{E:XK}{ds:List D}{vs:List V}(c:aj B F H σ δ ts)(s:S F H ds vs)(q:sp (ds.map D.sh) (λd=>(ds.all D.pl||d.fr)=true/\Qd d) Ed)
  (k:∀d v F' H',Qd d->ae F F'->ae H H'->aj B F' H' σ δ ((d,v)::ts)->Q v H') (kx:∀C H',Ed C->ae H H'->E (.ref C) none H'):qg sp vs H Q E:=by
 by_cases hp:ds.all D.pl=true
 ·rw[kn hp]at q
  exact⟨F,ds,_,_,c.ext,s.r hp,q,λd v F' H' A hd hs hf he h3 r nd fr=>k d v F' H' hd.2 hf hs (c.call hs hf he h3 r nd fr),kx⟩
 ·refine⟨H,ds.map D.sh,_,_,ae.refl _,s.frozen c.ext,q,λd v F' H' A hd hs hf he h3 r nd fr=>?_,kx⟩
  have dE:d.fr=true:=by
   have:=hd.1
   rw[Lc]at this
   exact this.resolve_left hp
  exact k d v F H' hd.2 (ae.refl _) hs (c.zr hs (r.zo (by simp[dE]) (c.ext.trans hf)) nd fr)
theorem YW{B:Bs}{F H:Hp}{σ:L2.St}{Dd:oJ}{pins:List (Addr × Obj)}(xl:XL X B Dd):∀a T cls H' s',Inv X pins σ H' s'->jv s'.heap a T cls->Apart X pins H' a->Apart X pins H' T->(∃C ag F',cls=.ref C/\Dd.xc C ag/\aj B F' H' σ ag [])->X.xe (.ref a) s':=by
 rintro a T cls H' s' I tr pa pT ⟨C,ag,F',rfl,hx,c⟩
 exact xl.1 C ag pins σ F' H' s' a T hx c I tr pa pT
noncomputable def qh(i:Nat)(t:zJ):cA:=λD δ=>t δ (λd ag=>D.nx (ag.set i (some d))) D.xc
theorem YX{i:Nat}{y:Str}{pos':Pos}(hN:X.N.Nodup)(hi:X.N[i]?=some y)(hy:Loc X.env.scope y)(he:PX X e (lX tx))(hs:swapsWith e (some (.Name y pos')) pos.line X.env=pure false:=by rfl)
  (hf:X.fn y=true\/X.env.scope.names.lookup y=some .local:=by first | exact .inl rfl | exact .inr rfl | assumption):PS X (.Assign [.Name y pos'] e pos) (lS X (qh i tx)):=by
 intro pins s σ H D I zz
 obtain⟨B,F,δ,Dd,c,q,k1,k2,k3,k4,xl⟩:=zz
 refine wpAny_Assign_Name (aB (he pins s σ H (λv H1=>D.nx (σ.set i (some v)) H1) (λcls H'=>∃C ag F',cls=.ref C/\Dd.xc C ag/\aj B F' H' σ ag []) I (YW (H:=H) (F:=F) xl) ⟨B,F,δ,_,_,c,q,λd ag v F' H' hd _ _ c'=>k1 _ _ F' H' hd (c'.store i),λC ag F' H' hC _ _ c'=>⟨C,ag,F',rfl,hC,c'⟩⟩) λv s1 ⟨x,H1,I1,r1,q1⟩=>?_) hs
 exact yO I1 hN hi hy r1 (λs2 I2=>⟨_,H1,I2,q1⟩) hf
noncomputable def qi(t:cA):cA:=λD δ=>t { D with xc:=λ_ _=>False,xr:=λ_ _=>False } δ
theorem N6{st:Stmt}{u:cA}(h:PS X.eJ st (lS X.eJ u)):PS X st (lS X (qi u)):=by
 intro pins s σ H D I zz
 obtain⟨B,F,δ,Dd,c,q,k1,k2,k3,k4,xl⟩:=zz
 exact wpAny_mono (h pins s σ H D (I.gX _) ⟨B,F,δ,_,c,q,k1,k2,k3,k4,XL.none (λ_ _ z=>z) λ_ _ z=>z⟩) (λ_ _ q=>q.iN) λ_ _ z=>dy z
noncomputable def qj(C:Addr)(t:bW):cA:=λD δ=>t δ λds ag=>ds.length<=9/\D.xr C ag
structure Ey(K:PySem.W.Frag)(mg:Str->Option Value)(x:Str)(C:Addr):Prop where
 own:∀h:Heap,K.In h->h.Ns mainGlobals mg->∃newId Bn Ez N7 B N8 N9 zK,OwnCls x C zK newId mg h/\ExcBaseFacts Bn newId Ez N7/\zK.contains (.type Bn)=true/\ExcBaseFacts B N8 N9 zK
theorem EA{C:Addr}{np bG:Pos}(hm:Ey X.K X.mg x C)(hc:X.calm=true)(hg:Gl X x)(ha:PA X (e::es) (lA t))(dJ:(x==("__debug__":Str))=false:=by decide)
  (he:starEach (e::es) X.env=(false,eval e X.env)::starEach es X.env:=by rfl) (bu:(backTo bG (starEach es X.env)).any (·.1)=false:=by rfl) :
  PS X (.Raise (some (.Call (.Name x np) (e::es) [] bG)) none pos) (lS X (qj C t)):=by
 intro pins s σ H D I zz
 obtain⟨B,F,δ,Dd,c,q,k1,k2,k3,k4,xl⟩:=zz
 obtain⟨newId,Bn,Ez,N7,B',N8,N9,zK,O,Fn,YY,FB⟩:=hm.own X.base I.ok.mod.jn I.ok.mod.glob
 obtain⟨tl,N,nm,qn,bs,hdct,sn,sub,ab,col,dd,k0,YZ,Y0,Y1,k5,mN,hC,hN,lY,T⟩:=O.obj
 refine wpAny_Raise_call_subU (k5:=k5) (k3:=Y1) (k2:=Y0) (k1:=YZ) (k0:=k0) (dd:=dd) (col:=col) (ab:=ab) (sub:=sub) (sn:=sn) (hdct:=hdct) (bs:=bs) (N:=N) (q:=qn) (nm:=nm) (C:=C) Fn YY FB (mN:=mN) (T.hasType FB.hasBase) (I.ok.hd hc) (by rw[he];show(false||(backTo bG (starEach es X.env)).any (·.1))=false;rw[bu];rfl) lY (yP I hg O.bound ⟨rfl,?_⟩ dJ)
 have zL:=ha bG pins s σ H (λvs H1=>vs.length<=9/\∃ag F',Dd.xr C ag/\aj B F' H1 σ ag []) I ⟨B,F,δ,[],_,c,q,λds ai vs F1 H1 q1 f1 h1 c1 s1=>⟨by rw[<-s1.length];exact q1.1,ai,F1,q1.2,c1⟩⟩
 rw[he]at zL ⊢
 refine Calls.evalArgs_plain (wpAny_mono zL (λus s2 h2=>?_) λ_ _ y=>y)
 obtain⟨vs,H1,I1,r,hl,ag,F',hx,c'⟩:=h2
 exact⟨rfl,by rw[<-r.length];exact dY hl (by decide),I1.bk _ _ hC,hN.keeps I1.bk,T.keeps I1.bk,λh' e' Y2=>xl.2 C ag pins σ F' H1 s2 h' e' _ hx c' I1 Y2⟩
end
end L3
namespace L3
open PySem L2 PySem.Spec PyProof.Rows
section
variable{X:Cx}{pins CL:List (Addr × Obj)}{σ:L2.St}{H:Hp}{s:Shared}{a:Addr}
noncomputable abbrev tr(X:Cx)(xe:Value->Shared->Prop)(pn:List (Addr × Obj)):Cx:={ X with xe:=xe,pn:=pn }
end
noncomputable abbrev exc(C:Addr):D:=.aV (.ext λa=>XR a C)
section
variable{X:Cx}{tb th:cA}{body Y3:List Stmt}{Y4:Stmt}{K n:Str}{Kc:Addr}{i:Nat}{kp Y5 pos:Pos}
end
end L3
namespace L3
open PySem L2 PySem.Spec PyProof.Rows
section
variable{X:Cx}{F H:Hp}{v:V}{a:Expr}{ta:aC}{p pos:Pos}
end
section
variable{K:PySem.W.Frag}{mg:Str->Option Value}{x:Str}{C:Addr}
theorem Y6(hm:mg x=some (.ref C))(q:PySem.W.excIn K C [.type "ValueError",.type "Exception",.type "BaseException",.type "object"] "ValueError.__new__"=true):Ey K mg x C:=by
 refine⟨λh X G=>⟨"ValueError.__new__","ValueError",_,_,"ValueError",_,_,[.type "ValueError",.type "Exception",.type "BaseException",.type "object"],?_,PySem.F.excBase_ValueError,rfl,PySem.F.excBase_ValueError⟩⟩
 refine⟨hm,?_⟩
 unfold PySem.W.excIn at q
 split at q
 ·rename_i dd cd sl ho
  split at q
  ·rename_i C' bm k0 k1 k2 k3 n k5 hm hs
   simp only[df,beq_iff_eq,Bool.not_eq_true']at q
   obtain⟨⟨⟨⟨⟨rfl,rfl⟩,Oa⟩,ht⟩,ay⟩,lY⟩:=q
   obtain⟨nm,bs,mro,ns,qn,hd,sn,sub,ab,col,del⟩:=cd
   dsimp only at hm Oa ay lY
   subst hm Oa
   have Y7:sl=#[k0,k1,k2,k3,some (.builtin "ValueError.__new__"),k5]:=by
    obtain⟨l⟩:=sl
    simp only at hs
    rw[hs]
   subst Y7
   exact⟨bm,ns,nm,qn,bs,hd,sn,sub,ab,col,dd,k0,k1,k2,k3,k5,_,X _ _ ho,.of_isNs (PySem.W.isNs_of_in X ay),PySem.W.nsMap_none_of_in X ay lY,PySem.W.tail_of_in X ht⟩
  ·cases q
 ·cases q
end
theorem zM{P:Program}{w:World}{X:Cx}:jr (iV P w) X E0:=by
 rintro _ _ _ _ _ _ _ ⟨_,_,_,_,_,_,_,_,_,_,_,_,_,_,z⟩
 exact z.elim
theorem zN{P:Program}{w:World}{K:PySem.W.Frag}{mg:Str->Option Value}{base:Heap}{k:Nat}{f:Addr}{fd:FuncData}{ps:List Str}{sp:jI}(h:aO P w K mg base (iV P w) k f fd ps (qg sp)) :
  aO P w K mg base (iV P w) k f fd ps (bw λds Q=>sp ds Q λ_=>False) :=
 h.imp λvs H Q E ⟨F,ds,Qd,e,r,q,k⟩=>⟨F,ds,Qd,_,e,r,q,k,λ_ _ z=>z.elim⟩
end L3
namespace L3
open PySem L2 PySem.Spec PyProof.Rows
theorem tw{CX:dH}{P:Program}{w:World}{K:PySem.W.Frag}{mg:Str->Option Value}{base:Heap}{N:List Str}{q:Str}{sc:Scope}{f:Addr}{aF:Value}{A:Around}{outer:List Env}{s:Shared}{H:Hp}{E:XK}:(gF CX P w K mg base N q sc f aF A outer s H E).K=K:=rfl
theorem tE(φ:rW):(D.aV φ).pl=true:=rfl
theorem tF(φ:rW):(D.aV φ).sh=.aV φ:=rfl
end L3
namespace L3
open PySem L2 PySem.Spec PyProof.Rows
theorem tG{X:Cx}:X.eJ.K=X.K:=rfl
end L3
namespace L3
open PySem L2 PySem.Spec PyProof.Rows
noncomputable def eI(xs ys:List D):List D:=jh (λx y=>D.tup [x,y]) xs ys
noncomputable def fH(xs:List D):List D:=xs.mapIdx λi x=>D.tup [.int i,x]
theorem EB(xs ys:List D):(eI xs ys).map D.sh=eI (xs.map D.sh) (ys.map D.sh):=by
 unfold eI
 rw[Cr,List.zipWith_map]
 congr 1
theorem Ob{xs ys:List D}(h1:xs.all D.pl=true)(h2:ys.all D.pl=true):(eI xs ys).all D.pl=true:=by
 unfold eI
 rw[dU]at h1 h2 ⊢
 intro d hd
 obtain⟨i,hi,e⟩:=yC hd
 rw[List.getElem_zipWith]at e
 subst e
 rw[gK]
 simp only[dg,nV,j0,df]
 exact⟨h1 _ (iq _),h2 _ (iq _)⟩
theorem Y8(xs:List D):(fH xs).map D.sh=fH (xs.map D.sh):=by
 unfold fH
 apply List.ext_getElem?
 intro i
 simp only[eZ,Lm,Option.map_map]
 cases xs[i]? with
 | none=>rfl
 | some x =>
  show some (D.sh (.tup [.int i,x]))=some (D.tup [.int i,x.sh])
  rw[iX];rfl
theorem Y9{xs:List D}(h1:xs.all D.pl=true):(fH xs).all D.pl=true:=by
 unfold fH
 rw[dU]at h1 ⊢
 intro d hd
 obtain⟨i,hi,e⟩:=yC hd
 rw[List.getElem_mapIdx]at e
 subst e
 rw[gK]
 simp only[dg,nV,j0,df]
 exact⟨rfl,h1 _ (iq _)⟩
theorem kI(xs:List D):(fH xs).length=xs.length:=by simp[fH]
theorem tH(xs ys:List D):(eI xs ys).length=min xs.length ys.length:=by simp[eI]
section
variable{F H:Hp}{d:D}{v:V}{xs ys:List D}{ws us:List V}{p q:Addr}{K:PySem.W.Frag}
theorem EC(s:S F H [d] [v])(e2:ae F H)(e:iw d=some xs):∃p ws,v=.ref p/\Rd H p (.lst ws)/\R H H (xs.map D.sh) ws []/\(d.pl=true->xs.all D.pl=true/\Rd F p (.lst ws)/\R F H xs ws []):=by
 cases s with
 | @shr p ws ys _ _ hp r _ =>
  obtain rfl:=dw e
  refine⟨p,ws,rfl,.inl (e2 _ _ hp),?_,λ_=>⟨r.pl,.inl hp,r⟩⟩
  rw[kn r.pl]
  exact r.shared e2 (ae.refl _)
 | @own p ws ys _ _ hp r _ =>
  obtain rfl:=dw e
  exact⟨p,ws,rfl,.inl hp,r.frozen e2,λz=>by simp[gJ]at z⟩
 | @fz p o ws ys _ _ hp r _ =>
  obtain rfl:=dw e
  refine⟨p,ws,rfl,.inr ⟨o,e2 _ _ hp⟩,?_,λ_=>⟨r.pl,.inr ⟨o,hp⟩,r⟩⟩
  rw[kn r.pl]
  exact r.shared e2 (ae.refl _)
 | aq _=>cases e
 | bl _=>cases e
 | int _=>cases e
 | str _=>cases e
 | tup _ _ _=>cases e
 | obj _ _ _ _=>cases e
 | aV _ _=>cases e
theorem tI(r:R F H xs ws []){i:Nat}(hi:i<xs.length){x:V}(hx:ws[i]?=some x):R F H [xs[i]] [x] []:=by
 obtain⟨v,A1,e2,r1,sub⟩:=r.get (bc hi)
 rw[hx]at e2;cases e2
 have:A1=[]:=Te.mpr λa ha=>by simpa using sub ha
 subst this
 exact r1
theorem Oc(hp:Rd F p (.lst ws))(r:R F H xs ws [])(hq:Rd F q (.lst us))(t:R F H ys us [])(hF:Full F H):JD (DS K p q) F (eI xs ys) where
 go:=λi H' hs hi=>by
  rw[tH]at hi
  have l1:=r.length
  have l2:=t.length
  exact⟨ws,us,_,_,.inl (fY hp hs),.inl (fY hq hs),bc (show i<ws.length by omega),bc (show i<us.length by omega)⟩
 fQ:=λi H' v H2 hs hi zz=>by
  obtain⟨T,x,y,e1,e2,e3,hx,hy⟩:=zz
  subst e1 e3
  have tJ:=hi
  rw[tH]at tJ
  have h1:=tI (r.full hF hs rfl) (show i<xs.length by omega) (hx ws (.inl (fY hp hs)))
  have h2:=tI (t.full hF hs rfl) (show i<ys.length by omega) (hy us (.inl (fY hq hs)))
  have sm:=ae.upd (o:=.tup [x,y]) e2
  refine⟨_,bc hi,sm,?_⟩
  have eg:(eI xs ys)[i]=.tup [xs[i]'(by omega),ys[i]'(by omega)]:=by simp[eI]
  rw[eg]
  exact R.tup (A:=[]) (B:=[]) bN ((h1.shared (ae.refl _) sm).cons (h2.shared (ae.refl _) sm)) .nil
 stop:=λi H' hs hi=>by
  rw[tH]at hi
  have l1:=r.length
  have l2:=t.length
  exact⟨ws,us,.inl (fY hp hs),.inl (fY hq hs),by omega⟩
theorem Od(hp:Rd F p (.lst ws))(r:R F H xs ws [])(hF:Full F H):JD (DX K p) F (fH xs) where
 go:=λi H' hs hi=>by
  rw[kI]at hi
  have l1:=r.length
  exact⟨ws,_,.inl (fY hp hs),bc (show i<ws.length by omega)⟩
 fQ:=λi H' v H2 hs hi zz=>by
  obtain⟨T,x,e1,e2,e3,hx⟩:=zz
  subst e1 e3
  have tJ:=hi
  rw[kI]at tJ
  have h1:=tI (r.full hF hs rfl) tJ (hx ws (.inl (fY hp hs)))
  have sm:=ae.upd (o:=.tup [.int i,x]) e2
  refine⟨_,bc hi,sm,?_⟩
  have eg:(fH xs)[i]=.tup [.int i,xs[i]]:=by simp[fH]
  rw[eg]
  exact R.tup (A:=[]) (B:=[]) bN (.int (h1.shared (ae.refl _) sm)) .nil
 stop:=λi H' hs hi=>by
  rw[kI]at hi
  have l1:=r.length
  exact⟨ws,.inl (fY hp hs),by omega⟩
end
section
variable{X:Cx}{a b:Expr}{ta:bW}{p pos iT:Pos}{elts:List Expr}{x1:Nat}
noncomputable def qk(t:bW):fZ:=λδ Q=>t δ λds ag=>match ds with
 | [d1,d2]=>∃xs ys,iw d1=some xs/\iw d2=some ys/\Q (d1.pl&&d2.pl) (eI xs ys) ag
 | _=>False
theorem zO(hg:Gl X "zip")(hm:X.mg "zip"=none)(ha:PA X [a,b] (lA ta))(hs:starEach [a,b] X.env=[(false,eval a X.env),(false,eval b X.env)]:=by rfl)(dB:starEach [b] X.env=[(false,eval b X.env)]:=by rfl) :
  PI X (.Tuple elts x1 iT) (.Call (.Name "zip" p) [a,b] [] pos) (lI (qk ta)) :=
 mz (XX hg hm ha hs dB) λσ H Q ⟨B,F,δ,ts,Qd,c,q,k⟩=>⟨B,F,δ,ts,_,c,q,λds ai vs F1 H1 hd f1 h1 c1 s=>by
  match ds,hd,s with
  | [d1,d2],⟨xs,ys,i1,i2,hq⟩,s =>
   obtain⟨v1,bV,rfl,s1,s2⟩:=s.cw
   obtain⟨v2,Za,rfl,s2,s3⟩:=s2.cw
   cases s3
   have e2:=c1.ext
   have sn:=mf e2
   obtain⟨p1,w1,rfl,r1,t1,u1⟩:=EC s1 e2 i1
   obtain⟨p2,w2,rfl,r2,t2,u2⟩:=EC s2 e2 i2
   refine⟨p1,p2,rfl,⟨w1,.inl r1⟩,⟨w2,.inl r2⟩,k _ _ ai _ _ H1 hq (f1.trans sn) h1 c1.snap ?_ λz=>?_⟩
   ·rw[EB]
    exact Oc r1 t1 r2 t2 (Full.refl _)
   ·rw[df]at z
    obtain⟨a1,a2,a3⟩:=u1 z.1
    obtain⟨b1,b2,b3⟩:=u2 z.2
    exact⟨Ob a1 b1,Oc (fY a2 sn) (a3.shared sn (ae.refl _)) (fY b2 sn) (b3.shared sn (ae.refl _)) oI⟩⟩
noncomputable def qm(t:bW):fZ:=λδ Q=>t δ λds ag=>match ds with
 | [d1]=>∃xs,iw d1=some xs/\Q d1.pl (fH xs) ag
 | _=>False
theorem w4(hg:Gl X "enumerate")(hm:X.mg "enumerate"=none)(ha:PA X [a] (lA ta))(hs:starEach [a] X.env=[(false,eval a X.env)]:=by rfl) :
  PI X (.Tuple elts x1 iT) (.Call (.Name "enumerate" p) [a] [] pos) (lI (qm ta)) :=
 mz (X0 hg hm ha hs) λσ H Q ⟨B,F,δ,ts,Qd,c,q,k⟩=>⟨B,F,δ,ts,_,c,q,λds ai vs F1 H1 hd f1 h1 c1 s=>by
  match ds,hd,s with
  | [d1],⟨xs,i1,hq⟩,s =>
   obtain⟨v1,bV,rfl,s1,s2⟩:=s.cw
   cases s2
   have e2:=c1.ext
   have sn:=mf e2
   obtain⟨p1,w1,rfl,r1,t1,u1⟩:=EC s1 e2 i1
   refine⟨p1,rfl,⟨w1,.inl r1⟩,k _ _ ai _ _ H1 hq (f1.trans sn) h1 c1.snap ?_ λz=>?_⟩
   ·rw[Y8]
    exact Od r1 t1 (Full.refl _)
   ·obtain⟨a1,a2,a3⟩:=u1 z
    exact⟨Y9 a1,Od (fY a2 sn) (a3.shared sn (ae.refl _)) oI⟩⟩
end
end L3
namespace L3
open PySem L2 PySem.Spec PyProof.Rows
section
variable{X:Cx}{F H:Hp}{e b:Expr}{pos p p2 p3 pr apos bG zH:Pos}{t ti te:aC}{x y:Str}{i j:Nat}
theorem cA2{B:Bs}{σ:L2.St}{δ:Dl}{ts:List (D × V)}{l1 l2 ys:List D}{p0:Addr}{ws:List V}(c:aj B F H σ δ ts)(e1:δ[i]?=some (some (.lst true (l1++.lst true ys::l2))))(g1:σ[i]?=some (some (.ref p0)))(g2:H p0=some (.lst ws)) :
  ∃q us,ws[l1.length]?=some (.ref q)/\H q=some (.lst us)/\ys.length=us.length/\S F H [.lst true ys] [.ref q]:=by
 obtain⟨v,ev,sv⟩:=c.look e1
 rw[g1]at ev;cases ev
 cases sv with
 | own hh sx _ =>
  rw[g2]at hh;cases hh
  obtain⟨v2,e2,s3⟩:=sx.get (i:=l1.length) (d:=D.lst true ys) (by rw[nE (aX _),yF];rfl)
  have s4:=s3
  cases s3 with
  | own h3 s5 _=>exact⟨_,_,e2,h3,s5.length,s4⟩
end
section
variable{X:Cx}{CX:dH}{k:Nat}{f:Addr}{fd:FuncData}{ps:List Str}{sp:bt}{E:XK}{fn x1 x2 y1 y2:Str}{i1 i2 j1 j2:Nat}{tk:Nat}
 {tp t1 t2 zp dH7 q1 q2 fp dH8 a1 a2 dH9 dI0 dI1 cp zH pr apos bG dI2 pos:Pos}
end
end L3
namespace L3
open PySem L2 PySem.Spec PyProof.Rows
theorem aj.Zb{B:Bs}{F H:Hp}{σ:L2.St}{δ:Dl}{ts:List (D × V)}{a b:D}{v:V}(c:aj B F H σ δ ((.tup [a,b],v)::ts)):∃p u w,v=.ref p/\H p=some (.tup [u,w])/\aj B F H σ δ ((a,u)::(b,w)::ts):=by
 obtain⟨A,C,r,s,nd,fr⟩:=c.own
 cases r with
 | @tup p ws xs A1 _ _ B1 hp r1 r2 =>
  obtain⟨u,dP,A2,A3,rfl,rfl,h1,h2⟩:=r1.cw
  obtain⟨w,dI3,A4,A5,rfl,rfl,h3,h4⟩:=h2.cw
  cases h4
  refine⟨p,u,w,rfl,hp,c.ext,c.b1,c.b2,c.b3,A2++(A4++B1),C,h1.cons (h3.cons r2),s,?_,?_⟩
  ·simpa using nd
  ·intro a ha;exact fr a (by simpa using ha)
section
variable{X:Cx}{y1 y2:Str}{i1 i2 tk m:Nat}{t1 t2 tp:Pos}
noncomputable def ia(i1 i2:Nat):gb:=λd δ Q=>match d with
 | .tup [a,b]=>Q ((δ.set i1 (some a)).set i2 (some b))
 | _=>False
theorem jJ(hc:X.calm=true)(Oe:X.N.Nodup)(m1:X.N[i1]?=some y1)(l1:Loc X.env.scope y1)(m2:X.N[i2]?=some y2)(l2:Loc X.env.scope y2)(hm1:m<=i1:=by decide)(NS:m<=i2:=by decide)
  (f1:X.fn y1=true\/X.env.scope.names.lookup y1=some .local:=by first | exact .inl rfl | exact .inr rfl | assumption) (f2:X.fn y2=true\/X.env.scope.names.lookup y2=some .local:=by first | exact .inl rfl | exact .inr rfl | assumption)
  (Zc:(assignEach [.Name y1 t1,.Name y2 t2] X.env).map (·.2)=assign (.Name y1 t1) X.env::(assignEach [.Name y2 t2] X.env).map (·.2):=by rfl) (Ze:(assignEach [.Name y2 t2] X.env).map (·.2)=assign (.Name y2 t2) X.env::(assignEach [] X.env).map (·.2):=by rfl)
  (hn:(assignEach [.Name y1 t1,.Name y2 t2] X.env).length=2:=by rfl) (cn:(assignEach [.Name y1 t1,.Name y2 t2] X.env).findIdx? (·.1)=none:=by rfl) :
  PG X (.Tuple [.Name y1 t1,.Name y2 t2] tk tp) (lG m (ia i1 i2)) :=
 Nv (Uv hc (LN (yV Oe m1 l1 f1) (LN (yV Oe m2 l2 f2) Ut Ze) Zc) hn cn) λv σ H Q zz=>by
  obtain⟨B,F,δ,ts,d,Qd,c,q,k⟩:=zz
  obtain⟨a,b,rfl,q⟩:∃a b,d=D.tup [a,b]/\Qd ((δ.set i1 (some a)).set i2 (some b)):=by
   unfold ia at q
   split at q
   ·exact⟨_,_,rfl,q⟩
   ·exact q.elim
  obtain⟨p,u,w,rfl,hp,c2⟩:=c.Zb
  refine⟨p,[u,w],rfl,cj.of hp,rfl,u,[w],rfl,w,[],rfl,rfl,k _ _ q (by simp) (λj hj=>?_) ((c2.store i1).store i2)⟩
  rw[nC (by omega),nC (by omega)]
end
open Classical in
theorem i7{α:Type}{sh:Bool}{xs:List D}{av:List (Str × Nat)}{n m:Nat}{te:aC}{ai:Dl}{Q:D->Dl->Prop}(l:List α)(e g:α->D)(kJ:xs.map D.sh=l.map e)(inj:∀a b,e a=e b->a=b)
  (hx:∀a∈l,te ((eM av n ai).set m (some (e a))) λd _=>d=g a) (dE:(sh&&av.all (gO ai))=true\/∀a∈l,(g a).fr=true) (hl:l.length<=sizeLine) (hq:Q (.lst true (l.map g)) ai):r9 sh xs av n (gN m) iy te ai Q:=by
 let f:D->D:=λx=>if h:∃a∈l,e a=x then g h.choose else .aq
 have hf:∀a∈l,f (e a)=g a:=λa ha=>by
  have h:∃b∈l,e b=e a:=⟨a,ha,rfl⟩
  show(if h:∃b∈l,e b=e a then g h.choose else .aq)=g a
  rw[dif_pos h]
  exact congrArg g (inj _ _ h.choose_spec.2)
 refine Ym f (λx h=>?_) (dE.imp id λh x hx=>?_) ?_ ?_
 ·rw[kJ]at h
  obtain⟨a,ha,rfl⟩:=iJ.mp h
  rw[hf a ha];exact hx a ha
 ·rw[kJ]at hx
  obtain⟨a,ha,rfl⟩:=iJ.mp hx
  rw[hf a ha];exact h a ha
 ·have:=congrArg B8 kJ
  simp at this
  omega
 ·rw[kJ,gv,show l.map (f ∘ e)=l.map g from Cs λa ha=>hf a ha]
  exact hq
noncomputable def sg:Option Int->D
 | none=>.aq
 | some i=>.int i
end L3
namespace L3
open PySem L2 PySem.Spec PyProof.Rows
end L3
namespace L2
open PySem PySem.Spec PyProof.Rows
section
variable{X:Cx}
end
end L2
namespace L3
open PySem L2 PySem.Spec PyProof.Rows
noncomputable abbrev tx(l:List Nat):D:=.str ⟨l.toArray⟩
section
variable{X:Cx}{F H:Hp}{e:Expr}{es:List Expr}{t:aC}{pos p p2 apos bG:Pos}
noncomputable def mP(x:D)(lo hi:Option Int)(Q:D->Prop):Prop:=match x with
 | .lst _ xs=>xs.all D.pl=true/\Q (.lst true (dQ xs lo hi))
 | .fz xs=>Q (.lst true (dQ xs lo hi))
 | .str z=>z.length<=sizeLine/\Q (tx (dQ z.cps.toList lo hi))
 | _=>False
noncomputable def qo(t:aC)(tl th:su):aC:=λδ Q=>t δ λx ai=>tl ai λl aG=>th aG λu hJ=>mP x l u λd=>Q d hJ
theorem jK{lo hi:Option Expr}{tl th:su}(he:PE X e (lB t))(hl:PO X lo (lP tl))(hu:PO X hi (lP th)):PE X (.Subscript e (.Slice lo hi none p2) pos) (lE (qo t tl th)) :=
 cQ (VX (V9.or X2) he hl hu) λσ H Q ⟨B,F,δ,ts,Qd,c,q,k⟩=>⟨B,F,δ,ts,_,c,q,λx ai v F1 H1 q1 f1 h1 c1 s1=>⟨B,F1,ai,ts,_,c1,q1,λl aG F2 H2 q2 f2 h2 c2=>⟨B,F2,aG,ts,_,c2,q2,λu hJ F3 H3 q3 f3 h3 c3=>by
  have kE:=s1.mono (f2.trans f3) (h2.trans h3)
  unfold mP at q3
  split at q3
  ·obtain⟨p,ws,rfl,h,t⟩:=kB kE c3.ext rfl
   exact .inl ⟨p,ws,rfl,jF h,λr hr=>k _ hJ _ F3 _ q3.2 ((f1.trans f2).trans f3) (((h1.trans h2).trans h3).trans (ae.upd hr)) (c3.mh hr (t.cut _ _) (NU q3.1 _ _))⟩
  ·obtain⟨p,ws,rfl,h,t⟩:=kB kE c3.ext rfl
   cases kE with
   | fz h' r _=>exact .inl ⟨_,_,rfl,jF (.inr ⟨_,c3.ext _ _ h'⟩),λr' hr=>k _ hJ _ F3 _ q3 ((f1.trans f2).trans f3) (((h1.trans h2).trans h3).trans (ae.upd hr)) (c3.mh hr (r.s.cut _ _) (NU r.pl _ _))⟩
  ·cases kE with
   | str _=>exact .inr ⟨_,rfl,q3.1,k _ hJ _ F3 H3 q3.2 ((f1.trans f2).trans f3) ((h1.trans h2).trans h3) (c3.pushS (.str .nil) rfl)⟩
  ·exact q3.elim⟩⟩⟩
noncomputable def Nn:cB:=λx y Q=>match x,y with
 | .str z,.str w=>∃ch,z=⟨#[ch]⟩/\Q (.bl (decide (ch∈w.cps.toList)))
 | _,_=>False
end
theorem tK(a:List Nat):(⟨a.toArray⟩:Str).length=a.length:=by show a.toArray.size=_;simp
end L3
namespace L3
open PySem L2 PySem.Spec PyProof.Rows
noncomputable def ak(l:List Nat):List D:=az (l.map λ(n:Nat)=>(n:Int))
theorem cM(l:List Nat):(ak l).length=l.length:=by unfold ak;rw[i5,dS]
theorem eX(l:List Nat):ak l=l.map λ(n:Nat)=>D.int (n:Int):=by unfold ak az;rw[gv];rfl
theorem zP(l:List Nat):(ak l).map D.sh=l.map λ(n:Nat)=>D.int (n:Int):=by unfold ak;rw[gP];exact eX l
theorem tL(a b:Nat)(h:D.int (a:Int)=D.int (b:Int)):a=b:=by injection h with h;omega
theorem fI(l:List Nat):(ak l).all D.pl=true:=kH _
theorem qp(l:List Nat):(ak l).map D.sh=ak l:=gP _
theorem i8(a b:List Nat):ak a++ak b=ak (a++b):=by unfold ak;rw[mM,nQ]
theorem qu(l:List Nat)(lo hi:Option Int):dQ (ak l) lo hi=ak (dQ l lo hi):=by
 unfold ak
 rw[qe]
 congr 1
 unfold dQ
 rw[dS,List.map_take,List.map_drop]
theorem w5{α:Type}(xs:List α)(b:Nat):dQ xs none (some (b:Int))=xs.take b:=by
 have:=N0 xs 0 b
 unfold dQ at this ⊢
 simpa[HT.ck]using this
theorem ED{α:Type}(xs:List α)(a:Nat):dQ xs (some (a:Int)) none=xs.drop a:=by
 unfold dQ
 rw[HT.Dh]
 show(xs.drop (min a xs.length)).take (xs.length-min a xs.length)=_
 by_cases h:a<=xs.length
 ·rw[rz h,Lh (by rw[jX];exact aX _)]
 ·rw[Nat.min_eq_right (by omega),List.drop_length,Lk (by omega)];simp
noncomputable def vl(c:List Nat):Nat:=c.foldl (λa c=>2*a+(c-48)) 0
end L3
namespace L2
open PySem PySem.Spec PyProof.Rows
section
variable{X:Cx}{tg l o e:Expr}{tl to te:TE}{apos bG:Pos}
end
end L2
namespace L3
open PySem L2 PySem.Spec PyProof.Rows
section
variable{X:Cx}{F H:Hp}{tg l e:Expr}{te t tb:aC}{apos bG pos:Pos}
variable{o:Expr}
noncomputable def Ez:cB:=λx y Q=>match x,y with
 | .int i,.lst _ xs=>∃ns:List Int,xs=az ns/\Q (.bl (decide (i∈ns)))
 | _,_=>False
end
end L3
namespace L3
open PySem L2 PySem.Spec PyProof.Rows
end L3
namespace L2
open PySem PySem.Spec PyProof.Rows
noncomputable def Tb(ts:List Addr)(H:Hp):Prop:=∀P∈ts,∃ps,H P=some (.cK ps)
structure tM(ts:List Addr)(H:Hp):Prop where
 any:∀b,H b=none\/(∃o xs,H b=some (.bQ o (.lst xs)))\/(b∈ts/\H b=some (.cK #[]))
 tab:∀P∈ts,H P=some (.cK #[])
theorem tM.tb{ts:List Addr}{H:Hp}(h:tM ts H):Tb ts H:=λP hP=>⟨#[],h.tab P hP⟩
noncomputable def Bm(mg:Str->Option Value)(base:Heap):Prop:=∃bm o,mg "__builtins__"=some (.ref bm)/\bm≠builtinsNs/\bm≠mainGlobals/\base.get? bm=some o/\o.cls=.type "module"/\o.dict=some builtinsNs/\o.data=.plain
theorem Zf{P:Program}{w:World}{K:PySem.W.Frag}{mg mb:Str->Option Value}{CX:dH}{k:Nat}{fa a:Addr}{fd:FuncData}{x:Str}{sp:Sp}{bb:Shared}{vs:List Value}{ns:List Int}{ts:List Addr}
  (KX:K.In bb.heap) (zQ:bb.heap.Ns mainGlobals mg) (hb:bb.heap.Ns builtinsNs mb) (Zg:∀x:Str,x≠"__name__"->mb x=bootBuiltins x) (Zh:bb.heap.NoLimit) (hg:bb.gens=#[])
  (ht:∀P∈ts,bb.heap.get? P=some (PySem.W.tabObj #[])) (EE:∀P∈ts,isCodeTable bb.heap P) (Zi:∀P∈ts,K.lookup P=none)
  (ha:bb.heap.get? a=some { cls:=.type "list",data:=.seq vs.toArray }) (hi:IntsAre vs ns) (hl:ns.length<=sizeLine) (hr:bE k callerA)
  (w6:Bm mg bb.heap) (F:∀base:Heap,K.In base->base.Ns mainGlobals mg->Bm mg base->aO P w K mg base CX k fa fd [x] sp) (Zj:∀(s:Shared) (u:Value),BindsTo s fd ⟨[u],[]⟩ [(x,u)])
  (fv:∀H:Hp,tM ts H->bf K H a (ns.map V.int)->sp [.ref a] H (λv _=>v=.bl true) λ_ _ _=>False)
  (EF:∀H e s',CX [] H bb (λ_ _ _=>False) e s'->False) :
  codeAny (model P w) callerA (.call (.ref fa) ⟨[.ref a],[]⟩) (λr s'=>r=.ok (.ret (.bool true))/\OldK bb.heap s'.heap/\s'.os=bb.os/\AllBare s'.gens) bb:=by
 have rv:=Mq hi
 have Zk:=hi.length
 have nat:a ∉ ts:=λz=>by
  have:=ht a z
  rw[ha]at this
  cases this
 have core:∀H:Hp,tM ts H->bf K H a (ns.map V.int)->bZ P w H bb.heap->(∀b,H b≠none->b=a\/b∈ts)->(H a≠none->K.lookup a=none) ->
   codeAny (model P w) callerA (.call (.ref fa) ⟨[.ref a],[]⟩) (λr s'=>r=.ok (.ret (.bool true))/\OldK bb.heap s'.heap/\s'.os=bb.os/\AllBare s'.gens) bb:=by
  intro H hO hS ay hA hK
  have EG:∀{b:Addr} {o:Obj},bb.heap.get? b=some o->H b=none->(jm bb.heap H).get? b=some o:=λe n=>TH e n
  have we:∀{b:Addr} {o:Obj} {es:Array DictEntry} {ep:Nat},bb.heap.get? b=some o->o.data=.dict es ep->H b=none:=λ{b o es ep} e d=>by
   cases q:H b with
   | none=>rfl
   | some u =>
    rcases hA b (by rw[q];simp)with e' | e'
    ·subst e'
     rw[ha]at e;cases e
     have d':Data.seq vs.toArray _=Data.dict es ep:=d
     cases d'
    ·rw[ht b e']at e;cases e
     have d':B6 #[]=Data.dict es ep:=d
     cases d'
  have zR:∀{b:Addr} {m:Str->Option Value},bb.heap.Ns b m->(jm bb.heap H).Ns b m:=λ{b m} ⟨o,es,ep,e,d,r⟩=>⟨o,es,ep,EG e (we e d),d,r⟩
  have Of:K.In (jm bb.heap H):=λb o e=>EG (KX b o e) (by
   cases q:H b with
   | none=>rfl
   | some u =>
    rcases hA b (by rw[q];simp)with e' | e'
    ·subst e'
     rw[hK (by rw[q];simp)]at e;cases e
    ·rw[Zi b e']at e;cases e)
  have Zl:Bm mg (jm bb.heap H):=by
   obtain⟨bm,o,b1,b2,b3,b4,b5,b6,b7⟩:=w6
   refine⟨bm,o,b1,b2,b3,EG b4 ?_,b5,b6,b7⟩
   cases q:H bm with
   | none=>rfl
   | some u =>
    rcases hA bm (by rw[q];simp)with e' | e'
    ·rw[e',ha]at b4;cases b4
     have d':Data.seq vs.toArray _=Data.plain:=b7
     cases d'
    ·rw[ht bm e']at b4;cases b4
     have d':B6 #[]=Data.plain:=b7
     cases d'
  have hM:Mod K mg (jm bb.heap H):=⟨Of,zR zQ,⟨mb,zR hb,Zg⟩,let⟨mc,h1,h2⟩:=Zh;⟨mc,zR h1,h2⟩⟩
  have e0:fe P w K mg (jm bb.heap H) callerA [] bb H:=⟨rfl,hM,λb o e=>TJ e,K7 (TF _ _),trivial,λb hb=>absurd (show b∈([]:List Addr) from hb) (by simp),ay,.of_eq hg⟩
  refine codeAny_mono ((F _ Of (zR zQ) Zl).run callerA [] bb H ⟨[.ref a],[]⟩ [.ref a] [.ref a] _ _ hr e0 (Zj bb (.ref a)) (.cons rfl .nil) (fv H hO hS)) λr s' h=>?_
  cases r with
  | error e=>exact(EF H e s' h).elim
  | ok fl =>
   cases fl with
   | next=>exact dy h
   | brk=>exact dy h
   | cont=>exact dy h
   | ret u =>
    obtain⟨v,H',os,bare,un,Og,r',q⟩:=h
    have q':v=.bl true:=q
    subst q'
    obtain rfl:u=B0 true:=r'
    have each:∀b o,bb.heap.get? b=some o->asItWas bb.heap s'.heap b o/\∃o',s'.heap.get? b=some o':=λb o e=>by
     cases q:H b with
     | none =>
      have z:=un.keep b o e q (by intro z;exact absurd (show b∈([]:List Addr) from z) (by simp)) (by simp)
      exact⟨.inl z,o,z⟩
     | some u =>
      rcases hO.any b with z | ⟨ob,xs,z⟩ | ⟨ib,z⟩
      ·rw[q]at z;cases z
      ·have z2:=un.eR b ob _ z
       obtain⟨e1,_⟩:=ay b _ z
       obtain⟨e2,_⟩:=Og b _ z2
       rw[e]at e1;cases e1
       exact⟨.inl e2,_,e2⟩
      ·obtain⟨more,z2⟩:=un.eC b _ z
       have e2:=(Og b _ z2).1
       rw[ht b ib]at e;cases e
       exact⟨.inr (.inl ⟨EE b ib,rfl,#[],more,rfl,e2⟩),_,e2⟩
    exact⟨rfl,⟨λb o e=>(each b o e).1,λb o e=>(each b o e).2⟩,os,bare⟩
 have tok:∀(H:Hp) (b:Addr),b∈ts->cX P w H bb.heap b (.cK #[]):=λH b hb=>⟨ht b hb,trivial,λpos cv q=>by cases q⟩
 cases hk:K.lookup a with
 | some o =>
  have e:=KX a o hk
  rw[ha]at e
  cases e
  refine core (λb=>if b∈ts then some (.cK #[])else none) ⟨λb=>?_,λb hb=>if_pos hb⟩ (.inr ⟨_,vs.toArray,_,hk,rfl,rfl,rfl,by rw[cS,Zk];exact hl,by simpa using rv⟩) (λb u z=>?_) (λb z=>?_) λz=>absurd (if_neg nat) z
  ·by_cases hb:b∈ts
   ·exact .inr (.inr ⟨hb,if_pos hb⟩)
   ·exact .inl (if_neg hb)
  ·by_cases hb:b∈ts
   ·have z':=(if_pos hb).symm.trans z
    cases z'
    exact tok _ b hb
   ·have z':=(if_neg hb).symm.trans z
    cases z'
  ·by_cases hb:b∈ts
   ·exact .inr hb
   ·exact absurd (if_neg hb) z
 | none =>
  refine core (λb=>if b=a then some (.bQ { cls:=.type "list",data:=.seq vs.toArray } (.lst (ns.map V.int)))else if b∈ts then some (.cK #[])else none) ⟨λb=>?_,λb hb=>?_⟩ (.inl (.inr ⟨{ cls:=.type "list",data:=.seq vs.toArray },if_pos rfl⟩)) (λb u z=>?_) (λb z=>?_) λ_=>hk
  ·by_cases hb:b=a
   ·exact .inr (.inl ⟨_,_,if_pos hb⟩)
   ·by_cases ib:b∈ts
    ·exact .inr (.inr ⟨ib,(if_neg hb).trans (if_pos ib)⟩)
    ·exact .inl ((if_neg hb).trans (if_neg ib))
  ·have iW:b≠a:=λz=>nat (z ▸ hb)
   exact(if_neg iW).trans (if_pos hb)
  ·by_cases hb:b=a
   ·have z':=(if_pos hb).symm.trans z
    cases z'
    subst hb
    exact⟨ha,by rw[dS];exact hl,vs,_,rv,ha⟩
   ·by_cases ib:b∈ts
    ·have z':=((if_neg hb).trans (if_pos ib)).symm.trans z
     cases z'
     exact tok _ b ib
    ·have z':=((if_neg hb).trans (if_neg ib)).symm.trans z
     cases z'
  ·by_cases hb:b=a
   ·exact .inl hb
   ·by_cases ib:b∈ts
    ·exact .inr ib
    ·exact absurd ((if_neg hb).trans (if_neg ib)) z
theorem Zm{l:PySem.W.OpenLaw}{n k:Nat}{q:Program}{loose:List Str}{XP:(Str->Option Value)->Heap->Prop}{YP:World->Heap->Prop}{d:DefRec}{K:Params->PySem.W.Frag}{CX:World->dH}{sp:World->Sp}{x:Str}{ts:List Addr}
  (hn:l.most=some n) (y7:n<=sizeLine) (wj:d.params.defaults=[]) (hr:bE k callerA)
  (hY:∀(w:World) (h:Heap),YP w h->(K w.params).In h/\∀P∈ts,h.get? P=some (PySem.W.tabObj #[]))
  (hC:∀(w:World) (h:Heap),(K w.params).In h->∀P∈ts,(K w.params).lookup P=none/\∃c,PySem.W.CodeHd h c P)
  (F:∀(w:World) (mg:Str->Option Value) (fa:Addr) (h:Heap),(K w.params).In h->h.Ns mainGlobals mg->mg d.name=some (.ref fa) ->
   ∃fd:FuncData,(∀(s:Shared) (u:Value),BindsTo s fd ⟨[u],[]⟩ [(x,u)]) /\
    ∀base:Heap,(K w.params).In base->base.Ns mainGlobals mg->Bm mg base->aO l.prog w (K w.params) mg base (CX w) k fa fd [x] (sp w))
  (fv:∀(w:World) (H:Hp) (a:Addr) (ns:List Int),ns.length<=n->tM ts H->bf (K w.params) H a (ns.map V.int)->sp w [.ref a] H (λv _=>v=.bl true) λ_ _ _=>False)
  (EF:∀(w:World) (H:Hp) (s:Shared) (e:Value) (s':Shared),CX w [] H s (λ_ _ _=>False) e s'->False) :
  PySem.W.WalkO q loose XP YP l.row.toRowW d [] (λf vs=>PySem.call f vs):=by
 refine Att.Wz hn wj λw bR bb mg mb fa o pm cd doc a vs ns G Y ho hd bX wk Dt hints hlen hg=>?_
 obtain⟨KX,hT⟩:=hY w _ Y
 obtain⟨fd,hb,hF⟩:=F w mg fa _ KX G.T.g wk
 have EE:∀P∈ts,isCodeTable bb.heap P:=λP hP=>by
  obtain⟨_,c,C⟩:=hC w _ KX P hP
  exact(C.tab (hT P hP)).isCodeTable
 have w6:Bm mg bb.heap:=by
  obtain⟨bm,ob,b1,b2,b3,b4,b5,b6⟩:=G.T.bmain
  refine⟨bm,ob,b1,b2,λq=>?_,b3,b4,b5,b6⟩
  obtain⟨o,es,ep,e,hd,_⟩:=G.T.g
  rw[q,e]at b3;cases b3;rw[hd]at b6;cases b6
 exact Zf KX G.T.g G.T.b G.T.builtins G.T.nolimit hg hT EE (λP hP=>(hC w _ KX P hP).1) Dt hints (dY hlen y7) hr w6 hF hb (λH hO hS=>fv w H a ns hlen hO hS) λH e s'=>EF w H bb e s'
end L2
namespace L3
open PySem L2 PySem.Spec PyProof.Rows
noncomputable def w9(ts:List Addr)(sp:Sp):Sp:=λvs H Q E=>Tb ts H/\sp vs H Q E
theorem Oh{X:Cx}{pins:List (Addr × Obj)}{σ:L2.St}{H:Hp}{s:Shared}{ts:List Addr}(I:Inv X pins σ H s)(h:Tb ts X.iK):Tb ts H:=λP hP=>by
 obtain⟨ps,e⟩:=h P hP
 obtain⟨m,e2⟩:=I.base.eC P ps e
 exact⟨_,e2⟩
noncomputable def zS(ts:List Addr)(K:PySem.W.Frag):Sp:=λvs H Q _=>∃(a:Addr) (ns:List Int),vs=[.ref a]/\tM ts H/\bf K H a (ns.map V.int)/\ns.length<=63/\∀H',Q (.bl true) H'
theorem Zn{ts:List Addr}{K:PySem.W.Frag}(nl:K.all (λp=>Er p.2)=true){vs:List V}{H:Hp}{Q:VK}{E:XK}(h:zS ts K vs H Q E):w9 ts (bw NX) vs H Q E:=by
 obtain⟨a,ns,rfl,hO,hS,hl,q⟩:=h
 have hz:∃o,H a=some (.bQ o (.lst (ns.map V.int))):=by
  rcases hS with (hS | hS) | ⟨o,its,n,hk,hc,_⟩
  ·rcases hO.any a with z | ⟨o,xs,z⟩ | ⟨_,z⟩
   ·rw[hS]at z;cases z
   ·rw[hS]at z;cases z
   ·rw[hS]at z;cases z
  ·exact hS
  ·have hm:=YQ hk
   have:=dU.mp nl _ hm
   simp[Er,hc]at this
 obtain⟨o,ho⟩:=hz
 refine⟨hO.tb,H,[.fz (az ns)],λd=>d=.bl true,ae.refl _,.fz ho (i4 ns) .nil,⟨ns,rfl,hl,rfl⟩,λd v F' H' A hd hs hf he h3 r nd fr=>?_⟩
 subst hd
 cases r
 exact q H'
end L3
namespace L2
open PySem PySem.Spec PyProof.Rows
noncomputable def rem(H:Hp)(f c:Addr):Hp:=λb=>if b=f\/b=c then none else H b
noncomputable def kK(H H':Hp)(f c:Addr):Hp:=λb=>if b=f\/b=c then H b else H' b
section
variable{P:Program}{w:World}{H H':Hp}{h:Heap}{a b f c:Addr}{o:HO}{of oc:Obj}
theorem Oi:rem H f c f=none:=if_pos (.inl rfl)
theorem zT:rem H f c c=none:=if_pos (.inr rfl)
theorem fJ(h1:b≠f)(h2:b≠c):rem H f c b=H b:=if_neg (by simp[h1,h2])
theorem tN(e:H b=none):rem H f c b=none:=by unfold rem;split;rfl;exact e
theorem Oj(e:rem H f c b=some o):b≠f/\b≠c/\H b=some o:=by
 unfold rem at e
 split at e
 ·cases e
 ·rename_i n
  exact⟨λz=>n (.inl z),λz=>n (.inr z),e⟩
theorem mQ(h1:b≠f)(h2:b≠c):kK H H' f c b=H' b:=if_neg (by simp[h1,h2])
theorem Ol:kK H H' f c f=H f:=if_pos (.inl rfl)
theorem EH:kK H H' f c c=H c:=if_pos (.inr rfl)
theorem cX.rem{φ:Heap->Prop}(x:cX P w H h a o)(ha:a≠f)(hf:H f=some (.ext φ))(hc:H c=some (.own f)\/H c=none)(EI:¬ ∀h',φ h'->∃q,h'.CodeRec (.ref f) q):cX P w (rem H f c) h a o:=by
 have own:∀b,H b=some (.own a)->L2.rem H f c b=some (.own a):=λb e=>by
  rw[fJ (λz=>by subst z;rw[hf]at e;cases e) (λz=>by subst z;rcases hc with hc | hc<;>(rw[hc]at e;cases e);exact ha rfl)];exact e
 have tup:∀b xs,H b=some (.tup xs)->L2.rem H f c b=some (.tup xs):=λb xs e=>by
  rw[fJ (λz=>by subst z;rw[hf]at e;cases e) (λz=>by subst z;rcases hc with hc | hc<;>(rw[hc]at e;cases e))];exact e
 induction o with
 | lst xs=>exact x
 | tup xs=>exact x
 | dK cO=>exact x
 | dT cO =>
  obtain⟨z,y,xs,r,ob⟩:=x
  exact⟨z,y,xs,Paired.CH r λp q z=>⟨z.1,tup _ _ z.2.1,z.2.2⟩,ob⟩
 | set S n=>exact x
 | ins C dx fs =>
  obtain⟨d,r⟩:=x
  exact⟨own _ d,r⟩
 | own y=>exact x
 | xd fs=>exact x
 | vS lo hi=>exact x
 | bQ ob u ih=>obtain⟨e,q⟩:=x;exact⟨e,ih q⟩
 | cK ps =>
  obtain⟨e,t,cc⟩:=x
  refine⟨e,t,λpos cv q=>?_⟩
  obtain⟨d,φ,e1,e2,e3⟩:=cc pos cv q
  refine⟨d,φ,e1,?_,e3⟩
  rw[fJ (λz=>?_) (λz=>by subst z;rcases hc with hc | hc<;>(rw[hc]at e2;cases e2))]
  ·exact e2
  ·subst z
   rw[hf]at e2;cases e2
   exact EI e3
 | met f y=>exact x
 | ext φ=>obtain⟨p,r,st⟩:=x;exact⟨p,r,λh1 h2 p1 kk=>st h1 h2 p1 λb o hb q=>kk b o (hb.imp id (own b)) q⟩
theorem Om{φ:Heap->Prop}{fd:FuncData}(p:φ h)(g:∀h',φ h'->h'.get? f=some of)(hd:of.data=.func fd):¬ ∀h',φ h'->∃q,h'.CodeRec (.ref f) q:=λz=>by
 obtain⟨q,k,ok,vs,t,q1,q2,q3,_⟩:=z h p
 cases q1
 rw[g h p]at q2;cases q2
 rw[hd]at q3;cases q3
theorem bZ.lam(ok:bZ P w H h)(hf:H f=some (.ext (L3.hG of oc c f))):L3.hG of oc c f h:=(ok f _ hf).1
theorem bZ.rem{fd:FuncData}(ok:bZ P w H h)(hf:H f=some (.ext (L3.hG of oc c f)))(hc:H c=some (.own f))(hd:of.data=.func fd):bZ P w (rem H f c) h:=λb o e =>
 let⟨h1,_,h3⟩:=Oj e;(ok b o h3).rem h1 hf (.inl hc) (Om (ok.lam hf) (λ_ p=>p.1) hd)
end
theorem fe.rem{P:Program}{w:World}{K:PySem.W.Frag}{mg:Str->Option Value}{base:Heap}{A:Around}{outer:List Env}{s:Shared}{H:Hp}{f c:Addr}{of oc:Obj}{fd:FuncData}(e:fe P w K mg base A outer s H)
  (hf:H f=some (.ext (L3.hG of oc c f))) (hc:H c=some (.own f)) (hd:of.data=.func fd):fe P w K mg base A outer s (rem H f c) :=
 ⟨e.frames,e.mod,λb o q=>⟨(e.bs b o q).1,tN (e.bs b o q).2⟩,e.gy,e.eS,λb hb=>tN (e.gW b hb),e.ay.rem hf hc hd,e.bare⟩
theorem CE.add{P:Program}{w:World}{K:PySem.W.Frag}{mg:Str->Option Value}{base:Heap}{A:Around}{outer:List Env}{s s':Shared}{H:Hp}{f c:Addr}{of oc:Obj}{Q Q':VK}{u:Value}(e0:fe P w K mg base A outer s H)
  (hf:H f=some (.ext (L3.hG of oc c f))) (hc:H c=some (.own f)) (h:CE outer P w (rem H f c) s Q u s') (hQ:∀v H',Q v H'->H' f=none->H' c=none->Q' v (kK H H' f c)):CE outer P w H s Q' u s':=by
 obtain⟨v,H',os,bare,un,ay,r,q⟩:=h
 obtain⟨gf,gc⟩:=e0.ay.lam hf
 have Oo:∀{b o},H b=some o->b ∉ cP outer:=λ{b o} e z=>by rw[e0.gW b z]at e;cases e
 have nf:H' f=none:=un.free f _ gf Oi (by simp)
 have nc:H' c=none:=un.free c _ gc zT (by simp)
 have kf:=un.keep f _ gf Oi (Oo hf) (by simp)
 have kc:=un.keep c _ gc zT (Oo hc) (by simp)
 refine⟨v,kK H H' f c,os,bare,⟨λb o e n=>un.keep b o e (tN n),λb o e n=>un.slot b o e (tN n),λb o e n x=>?_,un.there,λb xs e=>?_,λb ob xs e=>?_,λb ps e=>?_⟩,λb o e=>?_,r,hQ v H' q nf nc⟩
 ·rw[mQ (λz=>by subst z;rw[hf]at n;cases n) (λz=>by subst z;rw[hc]at n;cases n)]
  exact un.free b o e (tN n) x
 ·have n1:b≠f:=λz=>by subst z;rw[hf]at e;cases e
  have n2:b≠c:=λz=>by subst z;rw[hc]at e;cases e
  rw[mQ n1 n2]
  exact un.e8 b xs (by rw[fJ n1 n2];exact e)
 ·have n1:b≠f:=λz=>by subst z;rw[hf]at e;cases e
  have n2:b≠c:=λz=>by subst z;rw[hc]at e;cases e
  rw[mQ n1 n2]
  exact un.eR b ob xs (by rw[fJ n1 n2];exact e)
 ·have n1:b≠f:=λz=>by subst z;rw[hf]at e;cases e
  have n2:b≠c:=λz=>by subst z;rw[hc]at e;cases e
  rw[mQ n1 n2]
  exact un.eC b ps (by rw[fJ n1 n2];exact e)
 ·by_cases z:b=f
  ·subst z
   rw[Ol,hf]at e;cases e
   refine⟨⟨kf,kc⟩,⟨_,kf⟩,λh1 h2 p kk=>⟨kk b _ (.inl rfl) p.1,kk c _ (.inr ?_) p.2⟩⟩
   rw[EH];exact hc
  ·by_cases z2:b=c
   ·subst z2
    rw[EH,hc]at e;cases e
    exact⟨_,kc⟩
   ·rw[mQ z z2]at e
    have up:∀{b' o'},H' b'=some o'->kK H H' f c b'=some o':=λ{b' o'} q=>by
     rw[mQ (λz=>by subst z;rw[nf]at q;cases q) (λz=>by subst z;rw[nc]at q;cases q)];exact q
    exact(ay b o e).cT (λ_ _ _ q=>q) (λ_ q=>up q) (λ_ _ q=>up q) λ_ _ q=>up q
theorem Zo{prog:Program}{w:World}{A:Around}{R:Result->Shared->Prop}{s:Shared}{a:Addr}{args:Args}{o:Obj}{fd:FuncData}{body:Expr}{q:Str}(Zp:A.depth<recursionLimit)
  (ho:s.heap.get? a=some o)
  (vW:o.data=.func fd) (Zq:fd.scope.isCoroutine=false) (Zr:fd.scope.isGenerator=false) (fS:fd.body=.expr body) (bX:s.heap.CodeRec fd.code q)
  (h:wpAny (model prog w) A.in1 (bindArgs fd args) (λbinds bb =>
   wpAny (model prog w) A.in1 (newFunctionEnv fd.scope fd.globals fd.closure binds (q++".<locals>.") (some a) fd.code none fd.builtins)
    (λenv iP=>iP.heap.NoLimit/\codeAny (model prog w) A (.expr body env) R iP) (λe s'=>R (.error e) s') bb) (λe s'=>R (.error e) s') s) :
  codeAny (model prog w) A (.call (.ref a) args) R s:=by
 refine codeAny_of_tree ?_
 show wpAny _ A.in1 (callAny (.ref a) args) _ _ s
 simp only[callAny]
 refine wpAny_bind (wpAny_load ho ?_)
 obtain⟨c,oc,vs,tq,hc,gB,DJ,hq⟩:=bX
 simp only[vW,callFunction,Zq,Zr,fS,hc]
 rw[hc]at h
 refine wpAny_bind (m:=field (.ref c) 1) (wpAny_field gB DJ hq (wpAny_bind (wpAny_pure ?_)))
 exact wpAny_bind (wpAny_mono h (λbinds bb zU=>wpAny_bind (wpAny_mono zU (λenv iP Oq=>wpAny_bind (wpAny_enterFrame Oq.1 Zp
  (wpAny_pure (And.intro rfl Oq.2)))) λ_ _ h'=>h')) λ_ _ h'=>h')
structure Ot(p1 p2 x:Str)(sc:Scope):Prop where
 kind:sc.kind=.function
 co:sc.isCoroutine=false
 gen:sc.isGenerator=false
 nd:[p1,p2,x].Nodup
 l1:sc.names.lookup p1=some .local
 l2:sc.names.lookup p2=some .local
 Ou:∀y∈sc.names,y.2≠.cell
 only:∀y∈sc.names,y.2=.free->y.1=x
 lx:sc.names.lookup x=some .free
noncomputable def qv(CX:dH)(P:Program)(w:World)(K:PySem.W.Frag)(mg:Str->Option Value)(base:Heap)(N:List Str)(qual:Str)(scope:Scope)(f:Addr)(cd:Value)(cl:List (Str × Addr))(A:Around)(outer:List Env)(s:Shared)(H:Hp)(E:XK):Cx where
 prog:=P
 w:=w
 K:=K
 mg:=mg
 base:=base
 A:=A.deeper (PySem.W.envX qual scope s.heap.objs.size f cd cl)
 N:=N
 bR:=s
 iK:=H
 env:=PySem.W.envX qual scope s.heap.objs.size f cd cl
 outer:=outer
 stack:=PySem.W.envX qual scope s.heap.objs.size f cd cl::outer
 ex:=[]
 calm:=true
 fn:=λ_=>false
 pn:=[]
 xe:=λe s'=>wpAny (model P w) (A.deeper (PySem.W.envX qual scope s.heap.objs.size f cd cl)) (leaving (PySem.W.envX qual scope s.heap.objs.size f cd cl) e) (λ_ oy=>CX outer H s E e oy) (λe' oy=>CX outer H s E e' oy) s'
theorem Zs{CX:dH}{P:Program}{w:World}{K:PySem.W.Frag}{mg:Str->Option Value}{base:Heap}{p1 p2 x qn q:Str}{params:Arguments}{body:Expr}{scope:Scope}{pm gQ:Value}{f c c':Addr}{k:Nat}{A:Around}{outer:List Env}{s:Shared}{H:Hp}{E:XK}
  {u1 u2 uc:Value} {v1 v2 vc:V} {Q:VK} {t:TE} {args:Args} (S:Ot p1 p2 x scope) (e0:fe P w K mg base A outer s H) (hr:bE (k+1) A)
  (hf:s.heap.get? f=some (PySem.W.kla_obj "<lambda>" qn params body scope [(x,c)] pm c' gQ)) (hc:s.heap.IsCell c (some uc)) (rc:RelV vc uc) (hH:H c=none) (bX:s.heap.CodeRec (.ref c') q)
  (hb:bindArgs (PySem.W.kla_fn "<lambda>" qn params body scope [(x,c)] pm (.ref c') gQ) args=pure [(p1,u1),(p2,u2)]) (r1:RelV v1 u1) (r2:RelV v2 u2)
  (ht:PE (qv CX P w K mg base [p1,p2,x] q scope f (.ref c') [(x,c)] A outer s H E) body t) (h:t [some v1,some v2,some vc] H Q) :
  codeAny (model P w) A (.call (.ref f) args) (CR CX outer P w H s Q E) s:=by
 have lim:s.heap.NoLimit:=e0.mod.nolimit.keeps λb o e=>(e0.bs b o e).1
 refine Zo hr.depth hf rfl S.co S.gen rfl bX ?_
 rw[hb]
 have Zt:∀y∈[(p1,u1),(p2,u2)],scope.names.lookup y.1=some .local:=λy hy=>by
  simp at hy
  rcases hy with rfl | rfl
  ·exact S.l1
  ·exact S.l2
 refine wpAny_pure (wpAny_newFunctionEnv S.Ou Zt (λzU zQ Ov=>⟨lim.fresh _ Ov,?_⟩) S.kind)
 show codeAny _ _ (.expr body (PySem.W.envX q scope s.heap.objs.size f (.ref c') [(x,c)])) _ _
 have hk:∀b o,s.heap.get? b=some o->zU.get? b=some o:=λb o e=>Ov.extBut b o (eu (bC e)) (cN _ e)
 have eN:p1≠p2/\p1≠x/\p2≠x:=by have:=S.nd;simp at this;exact⟨this.1.1,this.1.2,this.2⟩
 have look:∀y d,([(x,c)]:List (Str × Addr)).lookup y=some d->y=x/\d=c:=λy d e=>by
  rw[gU]at e
  split at e
  ·rename_i z;exact⟨beq_iff_eq.mp z,(dw e).symm⟩
  ·cases e
 have I:Inv (qv CX P w K mg base [p1,p2,x] q scope f (.ref c') [(x,c)] A outer s H E) [] [some v1,some v2,some vc] H { s with heap:=zU,toks:=s.toks+[(p1,u1),(p2,u2)].length }:=by
  refine⟨⟨e0.mod,S.kind,rfl,rfl,aX _,λy z d h1 h2=>?_,λy hy=>?_,λy d z _=>absurd z (by simp[qv]),λ_=>hr.hd,Around.frames_deeper e0.frames,.inr ⟨rfl,rfl⟩,λb z=>absurd z (by simp[qv]),e0.bs,e0.gy,λb _ _=>by simp[qv],λb z=>absurd z (by simp[qv]),e0.eS,e0.gW⟩,
   rfl,e0.bare,Un.kept hk,⟨_,zQ,λi y v h1 h2 h3=>?_⟩,λy d h=>?_,e0.ay.fresh (aX _),λy d h=>?_,λp hp=>absurd (show p∈([]:List (Addr × Obj)) from hp) (by simp),e0.ay.kept hk,rfl⟩
  ·exact(look y d h1).1.trans (look z d h2).1.symm
  ·have hy:scope.names.lookup y=some .cell\/scope.names.lookup y=some .free:=hy
   rcases hy with hy | hy
   ·exact absurd rfl (S.Ou _ (PySem.mem_of_lookup hy))
   ·obtain rfl:y=x:=S.only _ (PySem.mem_of_lookup hy) rfl
    exact⟨c,by show([(y,c)]:List (Str × Addr)).lookup y=_;rw[gU,beq_self_eq_true]⟩
  ·match i,h1,h2 with
   | 0,h1,h2 =>
    cases h1;cases h2
    exact⟨u1,r1,.inl ⟨S.l1,by
     show([(p1,u1),(p2,u2)]:List (Str × Value)).reverse.lookup p1=_
     simp[gU,beq_eq_false_iff_ne.mpr eN.1]⟩⟩
   | 1,h1,h2 =>
    cases h1;cases h2
    exact⟨u2,r2,.inl ⟨S.l2,by
     show([(p1,u1),(p2,u2)]:List (Str × Value)).reverse.lookup p2=_
     simp[gU]⟩⟩
   | 2,h1,h2 =>
    cases h1;cases h2
    exact⟨uc,rc,.inr ⟨.inr S.lx,c,by show([(x,c)]:List (Str × Addr)).lookup x=_;rw[gU,beq_self_eq_true],hc.keeps hk⟩⟩
   | n+3,h1,h2=>cases h2
  ·obtain⟨rfl,rfl⟩:=look y d h
   exact⟨_,hc.keeps hk⟩
  ·obtain⟨rfl,rfl⟩:=look y d h
   exact hH
 refine PySem.W.kla_codeExpr (wpAny_mono (ht [] _ _ H _ I h) (λu s' hs=>?_) λe s' hs=>hs)
 obtain⟨v,H',J,rv,q⟩:=hs
 exact⟨v,H',J.os,J.bare,J.base,J.ay,rv,q⟩
end L2
namespace L3
open PySem L2 PySem.Spec PyProof.Rows
theorem ae.kK{H H':Hp}{f c:Addr}{o1 o2:HO}(h:ae (rem H f c) H')(h1:H f=some o1)(n1:gI o1=true)(h2:H c=some o2)(n2:gI o2=true):ae H (kK H H' f c) where
 get b o e n:=by
  by_cases z:b=f
  ·rw[z,Ol,<- z];exact e
  ·by_cases z2:b=c
   ·rw[z2,EH,<- z2];exact e
   ·rw[mQ z z2];exact h.get b o (by rw[fJ z z2];exact e) n
 tb b ps e:=by
  have z:b≠f:=λz=>by subst z;rw[h1]at e;cases e;cases n1
  have z2:b≠c:=λz=>by subst z;rw[h2]at e;cases e;cases n2
  rw[mQ z z2]
  exact h.tb b ps (by rw[fJ z z2];exact e)
noncomputable abbrev tO:=Int->Int->(Int->Prop)->Prop
structure xa(P:Program)(w:World)(K:PySem.W.Frag)(mg:Str->Option Value)(base:Heap)(n:Nat)(of oc:Obj)(c k:Addr)(sp:tO):Prop where
 fn:∃o1 od fd sl,of=⟨o1,od,.func fd,sl⟩
 run:∀(A:Around) (outer:List Env) (s:Shared) (H:Hp) (f:Addr) (t u:Tok) (i j:Int) (Qd:Int->Prop),bE n A->fe P w K mg base A outer s H->s.heap.get? f=some of->s.heap.get? c=some oc->H c=none->(∃q,s.heap.CodeRec (.ref k) q)->sp i j Qd ->
  codeAny (model P w) A (.call (.ref f) ⟨[.int i t,.int j u],[]⟩) (CR aS outer P w H s (λv H'=>∃r,v=.int r/\Qd r/\ae H H') (λ_ _ _=>False)) s
noncomputable def qw(L:Obj->Obj->Addr->Addr->tO->Prop)(i:Nat)(ta:bW):aC:=λδ Q=>∃of oc c k sp,δ[i]?=some (some (.aV (.lam of oc c k)))/\L of oc c k sp/\ta δ λds ag=>∃a b,ds=[.int a,.int b]/\sp a b λr=>Q (.int r) ag
theorem Ow{X:Cx}{n i:Nat}{x:Str}{p pos:Pos}{e1 e2:Expr}{ta:bW}(hN:X.N[i]?=some x)(hv:iL X.env.scope x)(hr:bE n X.A)(ha:PA X [e1,e2] (lA ta))
  (hd:(x==("__debug__":Str))=false:=by decide) (bX:(x==("__classdict__":Str))=false:=by decide) (he:starEach [e1,e2] X.env=(false,eval e1 X.env)::starEach [e2] X.env:=by rfl) (bu:(backTo pos (starEach [e2] X.env)).any (·.1)=false:=by rfl) :
  PE X (.Call (.Name x p) [e1,e2] [] pos) (lE (qw (xa X.prog X.w X.K X.mg X.base n) i ta)):=by
 intro pins s σ H Q I zz
 obtain⟨B,F,δ,ts,Qd,c,⟨of,oc,cc,k,sp,ed,L,q⟩,kk⟩:=zz
 obtain⟨v,ev,sv⟩:=c.look ed
 obtain⟨f,rfl,lam⟩:∃f,v=.ref f/\fX H f of oc cc k:=by
  cases sv with
  | aV h _=>exact⟨_,rfl,h⟩
 refine wpAny_Call_Name_kw (aB (lK hN hv hd bX pins s σ H (λv' H'=>v'=.ref f/\H'=H) I ⟨_,ev,rfl,rfl⟩) λu s1 zz=>?_)
 obtain⟨v',H',I1,r1,e1,e2⟩:=zz
 subst e1 e2
 obtain rfl:u=.ref f:=r1
 have fnAt:∀{H1:Hp} {s2:Shared},Inv X pins σ H1 s2->fX H1 f of oc cc k->PySem.W.FnAt f s2.heap:=λ{H1 s2} J l=>by
  obtain⟨o1,od,fd,sl,e⟩:=L.fn
  exact⟨o1,od,fd,sl,by rw[<-e];exact(J.ay.lam l.fn).1⟩
 refine PySem.W.callWith_F (fnAt I1 lam) (aB (ha pos pins s1 σ H' (λvs H2=>∃a b ag F',vs=[.int a,.int b]/\(sp a b λr=>Qd (.int r) ag)/\ae F F'/\ae H' H2/\aj B F' H2 σ ag ts) I1
  ⟨B,F,δ,ts,_,c,q,λds ag vs F' H2 ⟨a,b,Zu,q2⟩ f1 h1 c1 s1=>?_⟩) λus s2 ⟨vs,H2,I2,r2,a,b,ag,F',Zv,q2,f1,h1,c1⟩=>⟨fnAt I2 ((show me H' f (.lam of oc cc k) from lam).mono λa o e _ t=>h1.get a o e t),?_⟩) he bu
 ·subst Zu
  refine⟨a,b,ag,F',?_,q2,f1,h1,c1⟩
  cases s1 with
  | int s1=>cases s1 with
   | int s1=>cases s1;rfl
 ·subst Zv
  have mR:fX H2 f of oc cc k:=(show me H' f (.lam of oc cc k) from lam).mono λa o e _ t=>h1.get a o e t
  obtain⟨o1,od,fd,sl,eof⟩:=L.fn
  have Zw:of.data=.func fd:=by rw[eof]
  obtain⟨gf,gc⟩:=I2.ay.lam mR.fn
  obtain⟨ψ,Zx,xb⟩:=mR.D0
  obtain⟨u1,u2,t1,t2,rfl⟩:∃(u1 u2:Unit) (t1 t2:Tok),us=[.int a t1,.int b t2]:=by
   cases r2 with
   | cons ra r2=>cases r2 with
    | cons rb r2 =>
     cases r2
     obtain⟨t1,rfl⟩:=ra
     obtain⟨t2,rfl⟩:=rb
     exact⟨(),(),t1,t2,rfl⟩
  refine wpAny_call (codeAny_mono (L.run X.A X.stack s2 (rem H2 f cc) f t1 t2 a b _ hr (I2.rL.rem mR.fn mR.cell Zw) gf gc zT (xb _ (I2.ay k _ Zx).1) q2) λr s' hq=>?_)
  cases r with
  | error e=>exact hq.elim
  | ok fl =>
   cases fl with
   | ret u =>
    refine I2.after (CE.add I2.rL mR.fn mR.cell hq (Q':=Q) ?_)
    rintro v H3 ⟨r,rfl,Zy,hs⟩ nf nc
    have sm:=hs.kK mR.fn rfl mR.cell rfl
    exact kk _ ag _ F' _ Zy f1 (h1.trans sm) ((c1.grow sm).pushS (.int .nil) rfl)
   | next=>exact dy hq
   | brk=>exact dy hq
   | cont=>exact dy hq
end L3
namespace L2
open PySem PySem.Spec PyProof.Rows
theorem Zz{p:Pos}{c:Value}(l:List Value)(h:TriplesOk l):TriplesOk (l++[rawInt p.line,rawInt p.col,c]):=by
 fun_induction TriplesOk l with
 | case1=>simp[TriplesOk,rawInt]
 | case2 a b d e f rest ih=>exact ih h
 | case3=>exact h.elim
theorem ZA{p q:Pos}{c cv:Value}(l:List Value)(h:TriplesOk l)(e:codeAmong q (l++[rawInt p.line,rawInt p.col,c])=some cv):codeAmong q l=some cv\/cv=c:=by
 fun_induction TriplesOk l with
 | case1 =>
  simp only[nI,rawInt,codeAmong]at e
  split at e
  ·exact .inr (dw e).symm
  ·cases e
 | case2 a b d e' f rest ih =>
  simp only[rA,codeAmong]at e ⊢
  split at e
  ·rename_i z;rw[if_pos z];exact .inl e
  ·rename_i z;rw[if_neg z];exact ih h e
 | case3=>exact h.elim
noncomputable def kL(f:Addr)(o:Obj):Heap->Prop:=λh=>h.get? f=some o
noncomputable def ZC(P c:Addr)(x:Str)(params:Arguments)(body:Expr)(scope:Scope):TE:=λ_ H Q=>(∃ps,H P=some (.cK ps)) /\
 ∀f k qn pm gQ H',H f=none->H' f=some (.ext (kL f (PySem.W.kla_obj "<lambda>" qn params body scope [(x,c)] pm k gQ)))->L3.DZ H' k->k≠f->L3.ae H H'->(∀a ws,H' a=some (.lst ws)->H a=some (.lst ws))->Q (.ref f) H'
theorem Ox{X:Cx}{P c cc:Addr}{x:Str}{params:Arguments}{body:Expr}{scope:Scope}{pos:Pos}(fy:closureFor scope X.env=pure [(x,c)])(zV:X.env.code=.ref cc)(hK:PySem.W.codeHdIn X.K cc P=true)(w6:Bm X.mg X.base)
  (ZD:defaultsOf params X.env=([],[]):=by rfl):PE X (.Lambda params body scope pos) (ZC P c x params body scope):=by
 intro pins s σ H Q I zz
 obtain⟨⟨ps,hP⟩,q⟩:=zz
 obtain⟨bm,ob,b1,b2,b3,b4,b5,b6,b7⟩:=w6
 have C:=PySem.W.codeHd_of_K I.cE hK
 obtain⟨oP,zW,codes⟩:=I.ay P _ hP
 have hg:=I.mod.glob.keeps I.bk
 have Oy:∀{b o},X.base.get? b=some o->b≠P:=λ{b o} e z=>by
  have:=(I.bs b o e).2
  rw[z,hP]at this;cases this
 have ZE:mainGlobals≠P:=by
  obtain⟨o,es,ep,e,_⟩:=I.mod.glob
  exact Oy e
 have Oz:s.heap.BuiltinsAt X.mg P:=⟨bm,ob,b1,b2,b3,Oy b4,I.bk _ _ b4,b5,b6,b7⟩
 refine PySem.W.kla_eval ZD ?_
 have fresh:∀{b:Addr},s.heap.objs.size<=b->H b=none:=λ{b} h=>I.ay.fresh h
 cases EJ:codeAmong pos ps.toList with
 | none =>
  refine PySem.W.kla_makeFunction (mg:=X.mg) fy I.ok.glob hg zV C oP zW EJ ZE Oz λk gQ h' tk hx xf fA ZF OA=>?_
  have EK:P<s.heap.objs.size:=bC oP
  have ZG:k≠P:=λz=>by rw[z]at xf;exact absurd EK (vD.mpr xf)
  have qy:s.heap.objs.size<=h'.objs.size:=dY xf (B3 fA)
  have ZH:h'.objs.size≠P:=λz=>by rw[<-z]at EK;exact absurd EK (vD.mpr qy)
  have OB:k≠h'.objs.size:=eu fA
  generalize OC:PySem.W.kla_obj "<lambda>" (X.env.qual++"<lambda>") params body scope [(x,c)] ((X.mg "__name__").getD .none) k gQ=obj
  have dE:obj.isFreed=false:=by rw[<-OC];rfl
  have xg:∀b,b≠P->b≠k->b≠h'.objs.size->upd (upd (upd H P (.cK (ps++#[rawInt pos.line,rawInt pos.col,.ref k]))) k (.ext λh=>∃q,h.CodeRec (.ref k) q)) h'.objs.size (.ext (kL h'.objs.size obj)) b=H b:=λb n1 n2 n3=>by
   rw[aP n3,aP n2,aP n1]
  have zX:upd (upd (upd H P (.cK (ps++#[rawInt pos.line,rawInt pos.col,.ref k]))) k (.ext λh=>∃q,h.CodeRec (.ref k) q)) h'.objs.size (.ext (kL h'.objs.size obj)) h'.objs.size=some (.ext (kL h'.objs.size obj)):=bN
  have atK:upd (upd (upd H P (.cK (ps++#[rawInt pos.line,rawInt pos.col,.ref k]))) k (.ext λh=>∃q,h.CodeRec (.ref k) q)) h'.objs.size (.ext (kL h'.objs.size obj)) k=some (.ext λh=>∃q,h.CodeRec (.ref k) q):=by rw[aP OB,bN]
  have zY:upd (upd (upd H P (.cK (ps++#[rawInt pos.line,rawInt pos.col,.ref k]))) k (.ext λh=>∃q,h.CodeRec (.ref k) q)) h'.objs.size (.ext (kL h'.objs.size obj)) P=some (.cK (ps++#[rawInt pos.line,rawInt pos.col,.ref k])):=by rw[aP ZH.symm,aP ZG.symm,bN]
  generalize hHn:upd (upd (upd H P (.cK (ps++#[rawInt pos.line,rawInt pos.col,.ref k]))) k (.ext λh=>∃q,h.CodeRec (.ref k) q)) h'.objs.size (.ext (kL h'.objs.size obj))=Hn at xg zX atK zY
  have old:∀{b o},H b=some o->b≠P->Hn b=some o:=λ{b o} e n=>by
   have hb:b<s.heap.objs.size:=I.ay.lt e
   rw[xg b n (λz=>absurd hb (vD.mpr (z ▸ xf))) (λz=>absurd hb (vD.mpr (z ▸ qy)))];exact e
  have kept:∀b o,b≠P->s.heap.get? b=some o->(h'.push obj).get? b=some o:=λb o n e=>cN _ (hx b o n e)
  have un:Un X.fs [] H Hn s.heap (h'.push obj):=by
   refine⟨λb o e n _ _=>kept b o (λz=>by rw[z,hP]at n;cases n) e,λb o e n _ _=>⟨o.slots,kept b o (λz=>by rw[z,hP]at n;cases n) e⟩,λb o e n _=>?_,λb o e _=>?_,λb xs e=>old e (λz=>by rw[z,hP]at e;cases e),λb ob xs e=>old e (λz=>by rw[z,hP]at e;cases e),λb OD e=>?_⟩
   ·have hb:=bC e
    rw[xg b (λz=>by rw[z,hP]at n;cases n) (λz=>absurd hb (vD.mpr (z ▸ xf))) (λz=>absurd hb (vD.mpr (z ▸ qy)))];exact n
   ·by_cases z:b=P
    ·rw[z];exact⟨_,cN _ OA⟩
    ·exact⟨o,kept b o z e⟩
   ·by_cases z:b=P
    ·subst z
     rw[hP]at e;cases e
     exact⟨_,zY⟩
    ·exact⟨#[],by rw[old e z];simp⟩
  have ay:bZ X.prog X.w Hn (h'.push obj):=λb o e=>by
   by_cases z1:b=h'.objs.size
   ·subst z1
    rw[zX]at e;cases e
    exact⟨dA _ dE,⟨_,dA _ dE⟩,λh1 h2 p kk=>kk _ _ (.inl rfl) p⟩
   ·by_cases z2:b=k
    ·subst z2
     rw[atK]at e;cases e
     have hr:=ZF.push obj
     refine⟨⟨_,hr⟩,?_,λh1 h2 ⟨q,c1,o1,vs,t,e1,e2,r⟩ kk=>?_⟩
     ·obtain⟨c1,o1,vs,t,e1,e2,_⟩:=hr
      cases e1
      exact⟨o1,e2⟩
     ·cases e1
      exact⟨q,_,o1,vs,t,rfl,kk _ _ (.inl rfl) e2,r⟩
    ·by_cases z3:b=P
     ·subst z3
      rw[zY]at e;cases e
      refine⟨cN _ OA,by rw[Tj];exact Zz _ zW,λp' cv e'=>?_⟩
      rw[Tj]at e'
      rcases ZA _ zW e' with e' | e'
      ·obtain⟨d,φ,e1,e2,e3⟩:=codes p' cv e'
       exact⟨d,φ,e1,old e2 (λz=>by rw[z,hP]at e2;cases e2),e3⟩
      ·exact⟨k,_,e',atK,λh' p=>p⟩
     ·rw[xg b z3 z2 z1]at e
      have nP:∀{b' o'},H b'=some o'->(∀ps,o'≠.cK ps)->b'≠P:=λ{b' o'} e n z=>by rw[z,hP]at e;cases e;exact n _ rfl
      refine(I.ay b o e).cT (λb' u ju e'=>kept b' u ?_ e') (λb' e'=>old e' (nP e' (λps z=>by cases z))) (λb' xs e'=>old e' (nP e' (λps z=>by cases z))) λb' φ e'=>old e' (nP e' (λps z=>by cases z))
      rcases ju with rfl | ju
      ·exact z3
      ·exact nP ju (λps z=>by cases z)
  refine⟨.ref h'.objs.size,Hn,I.un un ay,rfl,q _ k _ _ _ _ (fresh qy) (by rw[OC];exact zX) ⟨_,atK,λh p=>p⟩ OB ⟨λb o e n=>old e (λz=>by rw[z,hP]at e;cases e;cases n),λb OD e=>?_⟩ λa ws e=>?_⟩
  ·exact un.eC b OD e
  ·by_cases z1:a=h'.objs.size
   ·subst z1;rw[zX]at e;cases e
   ·by_cases z2:a=k
    ·subst z2;rw[atK]at e;cases e
    ·by_cases z3:a=P
     ·subst z3;rw[zY]at e;cases e
     ·rw[xg a z3 z2 z1]at e;exact e
 | some cv =>
  obtain⟨k,φ,rfl,hk,EI⟩:=codes pos cv EJ
  refine PySem.W.kla_makeFunctionHit (mg:=X.mg) fy I.ok.glob hg zV C oP zW EJ Oz λgQ h' tk hx qy=>?_
  have hf:=fresh qy
  refine⟨.ref h'.objs.size,upd H h'.objs.size (.ext (kL h'.objs.size (PySem.W.kla_obj "<lambda>" (X.env.qual++"<lambda>") params body scope [(x,c)] ((X.mg "__name__").getD .none) k gQ))),I.laid (λb u e=>cN _ (hx b u e)) qy ?_,rfl,q _ k (X.env.qual++"<lambda>") ((X.mg "__name__").getD .none) gQ _ hf bN ⟨φ,?_,EI⟩ (dW hk hf) (L3.ae.of λb o e=>?_) λa ws e=>?_⟩
  ·exact⟨dA _ rfl,⟨_,dA _ rfl⟩,λh1 h2 p kk=>kk _ _ (.inl rfl) p⟩
  ·rw[aP (dW hk hf)];exact hk
  ·rw[aP (dW e hf)];exact e
  ·by_cases z:a=h'.objs.size
   ·subst z;rw[bN]at e;cases e
   ·rw[aP z]at e;exact e
end L2
namespace L2
open PySem PySem.Spec PyProof.Rows
structure zZ(K:PySem.W.Frag)(C:Addr)(m:Str)(f:Addr):Prop where
 ga:PySem.W.specialIn K (.ref C) "__getattribute__"=some (some (.builtin "type.__getattribute__"))
 rd:PySem.W.readsIn K C (.type "type")=true
 at_:PySem.W.findCls K (.ref C) (.type "type") m=some (.val (.ref f))
 kp:PySem.W.keepIn K (.ref f)=true
section
variable{X:Cx}{CX:dH}{k:Nat}{f C:Addr}{fd:FuncData}{ps:List Str}{sp:Sp}{E:XK}{x m:Str}{p pos apos:Pos}{e o:Expr}{es:List Expr}{ta:TE}{t:TA}
theorem ZI{pins:List (Addr × Obj)}{σ:St}{H:Hp}{s:Shared}{pl:Sem Bool}{A:Around}{E':Value->Shared->Prop}{Q:Value × List Value->Shared->Prop}(I:Inv X pins σ H s)(M:zZ X.K C m f)(h:∀s',Inv X pins σ H s'->Q (.ref f,[]) s') :
  wpAny (model X.prog X.w) A (getMethod (.ref C) m pl) Q E' s :=
 PySem.W.method_cls I.cE M.ga (PySem.W.cls_value (mc:=.type "type") I.cE M.rd M.at_ rfl (h _ (I.tok _)))
theorem ZJ{pins:List (Addr × Obj)}{σ:St}{H:Hp}{s:Shared}{pl:Sem Bool}{Q:Value->Shared->Prop}{QA:List V->Hp->Prop}(I:Inv X pins σ H s)(M:zZ X.K C m f)(hg:Gl X x)(hm:X.mg x=some (.ref C))(ha:PA X (e::es) t)(h:t σ H QA)
  (hq:∀us s1 vs H1,Inv X pins σ H1 s1->Vals vs us->QA vs H1->wpAny (model X.prog X.w) X.A (call (.ref f) us) Q X.xe s1)
  (dJ:(x==("__debug__":Str))=false:=by decide) (cn:starEach (e::es) X.env=(false,eval e X.env)::starEach es X.env:=by rfl) (bu:(backTo pos (starEach es X.env)).any (·.1)=false:=by rfl)
  (ht:eval (.Call (.Attribute (.Name x p) m apos) (e::es) [] pos) X.env=(do
   let ov<-eval (.Name x p) X.env
   standAt apos.atName
   let (f,first)<-holding [ov] (getMethod ov m pl)
   callWith pos f first (backTo pos (starEach (e::es) X.env)) (backToKw pos (keywordEach [] X.env))):=by rfl) :
  wpAny (model X.prog X.w) X.A (eval (.Call (.Attribute (.Name x p) m apos) (e::es) [] pos) X.env) Q X.xe s:=by
 refine PySem.W.methodCall_KW (pl:=pl) (yP I hg hm ?_ dJ) ht
 refine ZI I M λs1 I1=>?_
 refine PySem.W.callWith_K (first:=[]) (h₀:=X.base) I.ok.mod.jn M.kp (aB (ha pos pins s1 σ H _ I1 h) λus s2 ⟨vs,H2,I2,r,q2⟩=>⟨I2.cE,?_⟩) cn bu
 exact hq us s2 vs H2 I2 r q2
noncomputable def ZK(sp:Sp)(E:XK)(c:Addr)(i:Nat)(t:TA):TE:=λσ H Q=>t σ H λvs H1=>∃f of fd v,H1 f=some (.ext (kL f of))/\of.data=.func fd/\σ[i]?=some (some v) /\
 ∀oc u,oc.data=.cell (some u)->RelV v u->H1 c=none->c≠f->sp vs (upd (upd H1 f (.ext (L3.hG of oc c f))) c (.own f)) (λr H2=>H2 f=some (.ext (L3.hG of oc c f))/\H2 c=some (.own f)/\Q r (rem H2 f c)) E
theorem OE{pl:Sem Bool}{y:Str}{c:Addr}{i:Nat}(M:zZ X.K C m f)(F:aO X.prog X.w X.K X.mg X.base aS k f fd ps sp)(hr:bE k X.A)(hb:Binds X.K fd ps [])(hg:Gl X x)(hm:X.mg x=some (.ref C))
  (hN:X.N[i]?=some y) (hy:X.env.scope.names.lookup y=some .cell) (fy:X.env.cells.lookup y=some c) (vZ:X.fn y=true) (ha:PA X (e::es) t)
  (dJ:(x==("__debug__":Str))=false:=by decide) (cn:starEach (e::es) X.env=(false,eval e X.env)::starEach es X.env:=by rfl) (bu:(backTo pos (starEach es X.env)).any (·.1)=false:=by rfl)
  (ht:eval (.Call (.Attribute (.Name x p) m apos) (e::es) [] pos) X.env=(do
   let ov<-eval (.Name x p) X.env
   standAt apos.atName
   let (f,first)<-holding [ov] (getMethod ov m pl)
   callWith pos f first (backTo pos (starEach (e::es) X.env)) (backToKw pos (keywordEach [] X.env))):=by rfl) :
  PE X (.Call (.Attribute (.Name x p) m apos) (e::es) [] pos) (ZK sp E c i t):=by
 intro pins s σ H Q I h
 refine ZJ (pl:=pl) I M hg hm ha h (λus s1 vs H1 I1 r ⟨fa,of,fdd,v,hf,hd,hv,hq⟩=>?_) dJ cn bu ht
 obtain⟨ml,_,hl⟩:=I1.loc
 obtain⟨u,rv,lk⟩:=hl i y v hN hv (.inr (.inl hy))
 obtain⟨oc,gc,gB⟩:∃oc,s1.heap.get? c=some oc/\oc.data=.cell (some u):=by
  rcases lk with⟨hk,_⟩ | ⟨_,c',v3,ic⟩
  ·rw[show X.env.kindOf y=some .cell from hy]at hk;cases hk
  ·rw[fy]at v3;cases v3;exact ic
 have nc:H1 c=none:=I1.gA y c fy
 have mS:c≠fa:=λz=>by rw[z,hf]at nc;cases nc
 have gf:s1.heap.get? fa=some of:=(I1.ay fa _ hf).1
 have j5:=hq oc u gB rv nc mS
 have OF:=I1.ok.n6 y c vZ fy
 generalize hH:upd (upd H1 fa (.ext (L3.hG of oc c fa))) c (.own fa)=Hp at j5
 have OG:Hp c=some (.own fa):=by rw[<-hH,bN]
 have ZL:Hp fa=some (.ext (L3.hG of oc c fa)):=by rw[<-hH,aP mS.symm,bN]
 have jL:∀b,b≠fa->b≠c->Hp b=H1 b:=λb n1 n2=>by rw[<-hH,aP n2,aP n1]
 have ZM:c ∉ X.fs:=λhb=>by
  obtain⟨_,o,ho,_⟩:=I1.ok.eS.mem hb
  exact absurd (cJ (bC ho) OF) (fN _)
 have ZN:∀b∈cP X.stack,b≠c:=λb hb z=>by
  rcases bM.mp (I1.vX b hb)with e | hb
  ·exact I1.lH y c fy (z ▸ e)
  ·exact ZM (z ▸ hb)
 have ZO:bZ X.prog X.w Hp s1.heap:=λb ob q=>by
  by_cases z1:b=c
  ·subst z1;rw[OG]at q;cases q;exact⟨_,gc⟩
  ·by_cases z2:b=fa
   ·subst z2;rw[ZL]at q;cases q
    exact⟨⟨gf,gc⟩,⟨_,gf⟩,λh1 h2 p kk=>⟨kk _ _ (.inl rfl) p.1,kk _ _ (.inr OG) p.2⟩⟩
   ·rw[jL b z2 z1]at q
    have x1:=(I1.ay b ob q).rem (f:=fa) (c:=c) z2 hf (.inr nc) (Om gf (λ_ p=>p) hd)
    have up:∀{b' o'},rem H1 fa c b'=some o'->Hp b'=some o':=λ{b' o'} q=>by
     obtain⟨n1,n2,q'⟩:=Oj q
     rw[jL b' n1 n2];exact q'
    exact x1.cT (λ_ _ _ q=>q) (λ_ q=>up q) (λ_ _ q=>up q) λ_ _ q=>up q
 have e0:fe X.prog X.w X.K X.mg X.base X.A X.stack s1 Hp:=by
  have e1:=I1.rL
  refine⟨e1.frames,e1.mod,λb ob q=>⟨(e1.bs b ob q).1,?_⟩,e1.gy,e1.eS,λb hb=>?_,ZO,e1.bare⟩
  ·have z9:=(I1.ok.bs b ob q).1
   rw[jL b (λz=>by have:=(e1.bs b ob q).2;rw[z,hf]at this;cases this) (λz=>absurd (cJ (bC z9) (z ▸ OF)) (fN _))]
   exact(e1.bs b ob q).2
  ·have nb:=e1.gW b hb
   rw[jL b (λz=>by rw[z,hf]at nb;cases nb) (ZN b hb)];exact nb
 have hlen:us.length=ps.length:=by rw[<-r.length];exact F.len _ _ _ _ j5
 refine wpAny_call (codeAny_mono (F.run X.A X.stack s1 Hp ⟨us,[]⟩ us vs _ E hr e0 (by have:=hb s1 us I1.cE (by rw[iF];exact hlen);rwa [iF]at this) r j5) λrr s' hz=>?_)
 cases rr with
 | error e=>exact hz.elim
 | ok fl =>
  cases fl with
  | next=>exact dy hz
  | brk=>exact dy hz
  | cont=>exact dy hz
  | ret u' =>
   obtain⟨v',H2,os,bare,un,OH,ZP,q1,q2,q3⟩:=hz
   obtain⟨_,OI⟩:=OH.lam q1
   refine I1.after ⟨v',rem H2 fa c,os,bare,⟨λb ob g n hb hx=>?_,λb ob g n hb hx=>?_,λb ob g n hx=>?_,un.there,λb xs g=>?_,λb ob xs g=>?_,λb ps g=>?_⟩,OH.rem q1 q2 hd,ZP,q3⟩
   ·by_cases z:b=c
    ·rw[z,gc]at g;cases g;rw[z];exact OI
    ·exact un.keep b ob g (by rw[jL b (λz=>by rw[z,hf]at n;cases n) z];exact n) hb hx
   ·by_cases z:b=c
    ·rw[z,gc]at g;cases g;rw[z];exact⟨_,OI⟩
    ·exact un.slot b ob g (by rw[jL b (λz=>by rw[z,hf]at n;cases n) z];exact n) hb hx
   ·by_cases z:b=c
    ·rw[z];exact zT
    ·exact tN (un.free b ob g (by rw[jL b (λz=>by rw[z,hf]at n;cases n) z];exact n) hx)
   ·have n1:b≠fa:=λz=>by rw[z,hf]at g;cases g
    have n2:b≠c:=λz=>by rw[z,nc]at g;cases g
    rw[fJ n1 n2]
    exact un.e8 b xs (by rw[jL b n1 n2];exact g)
   ·have n1:b≠fa:=λz=>by rw[z,hf]at g;cases g
    have n2:b≠c:=λz=>by rw[z,nc]at g;cases g
    rw[fJ n1 n2]
    exact un.eR b ob xs (by rw[jL b n1 n2];exact g)
   ·have n1:b≠fa:=λz=>by rw[z,hf]at g;cases g
    have n2:b≠c:=λz=>by rw[z,nc]at g;cases g
    rw[fJ n1 n2]
    exact un.eC b ps (by rw[jL b n1 n2];exact g)
end
end L2
namespace L3
open PySem L2 PySem.Spec PyProof.Rows
theorem EL{ts:List Addr}{H H':Hp}(h:Tb ts H)(s:ae H H'):Tb ts H':=λP hP=>by
 obtain⟨ps,e⟩:=h P hP
 obtain⟨m,e2⟩:=s.tb P ps e
 exact⟨_,e2⟩
theorem OJ{P:Program}{w:World}{K:PySem.W.Frag}{mg:Str->Option Value}{base:Heap}{n:Nat}{p1 p2 x qn:Str}{params:Arguments}{body:Expr}{scope:Scope}{pm gQ:Value}{oc:Obj}{c k:Addr}{m:Int}{tm:Tok}{sp:tO}(S:Ot p1 p2 x scope)
  (gB:oc.data=.cell (some (.int m tm))) (hb:∀u1 u2:Value,bindArgs (PySem.W.kla_fn "<lambda>" qn params body scope [(x,c)] pm (.ref k) gQ) ⟨[u1,u2],[]⟩=pure [(p1,u1),(p2,u2)])
  (fS:∀(q:Str) (f:Addr) (A:Around) (outer:List Env) (s:Shared) (H:Hp) (E:XK),bE n (A.deeper (PySem.W.envX q scope s.heap.objs.size f (.ref k) [(x,c)])) ->
   ∃t:aC,PE (qv aS P w K mg base [p1,p2,x] q scope f (.ref k) [(x,c)] A outer s H E).eJ body (lE t)/\∀i j Qd,sp i j Qd->t [some (.int i),some (.int j),some (.int m)] λd _=>∃r,d=.int r/\Qd r) :
  xa P w K mg base (n+1) (PySem.W.kla_obj "<lambda>" qn params body scope [(x,c)] pm k gQ) oc c k sp where
 fn:=⟨_,_,_,_,rfl⟩
 run A outer s H f t u i j Qd hr e0 gf gc hH bX h:=by
  obtain⟨q,bX⟩:=bX
  obtain⟨tt,ht,hq⟩:=fS q f A outer s H (λ_ _ _=>False) (hr.deeper _)
  refine Zs (v1:=.int i) (v2:=.int j) (vc:=.int m) (E:=λ_ _ _=>False) S e0 hr gf ⟨oc,gc,gB⟩ ⟨tm,rfl⟩ hH bX (hb _ _) ⟨t,rfl⟩ ⟨u,rfl⟩ ht.eJ ?_
  refine⟨⟨H,H⟩,H,_,[],_,?_,hq i j Qd h,λd ag v F' H' hd f1 h1 c1=>?_⟩
  ·exact aj.start (ds:=[.int i,.int j,.int m]) (vs:=[.int i,.int j,.int m]) (ae.refl H) (.int (.int (.int .nil))) 0
  ·obtain⟨r,rfl,hd⟩:=hd
   have s1:=c1.top
   cases s1
   exact⟨r,rfl,hd,h1⟩
section
variable{X:Cx}{CX:dH}{n:Nat}{f:Addr}{fd:FuncData}{ps:List Str}{sp:bt}{E:XK}{x:Str}{p pos:Pos}{e:Expr}{es:List Expr}{t:bW}{tl:List Addr}
theorem ZQ(hT:Tb tl X.iK)(F:aO X.prog X.w X.K X.mg X.base CX n f fd ps (w9 tl (bw sp)))(hr:bE n X.A)(hg:Gl X x)(hm:X.mg x=some (.ref f))(hk:PySem.W.keepIn X.K (.ref f)=true)(hb:Binds X.K fd ps [])(hx:jr CX X E)
  (ha:PA X (e::es) (lA t)) (dJ:(x==("__debug__":Str))=false:=by decide) (he:starEach (e::es) X.env=(false,eval e X.env)::starEach es X.env:=by rfl) (bu:(backTo pos (starEach es X.env)).any (·.1)=false:=by rfl) :
  PE X (.Call (.Name x p) (e::es) [] pos) (lE (mw sp t)):=by
 intro pins s σ H Q I zz
 obtain⟨B,F',δ,ts,Qd,c,q,k⟩:=zz
 have tb:=Oh I hT
 refine ow F hr hg hm hk hb .nil hx ha dJ he bu pins s σ H Q I ⟨B,F',δ,ts,_,c,q,λds ai vs F1 H1 q1 f1 h1 c1 s1=>?_⟩
 refine⟨EL tb h1,?_⟩
 rw[iF]
 exact zw c1 s1 q1 λd v F' H' hd hf hs c'=>k d ai v F' H' hd (f1.trans hf) (h1.trans hs) c'
end
section
variable{P:Program}{w:World}{K:PySem.W.Frag}{mg:Str->Option Value}{base:Heap}
theorem OK{x qual:Str}{st:Stmt}{f:Addr}{fd:FuncData}{N ps:List Str}{k:Nat}{sp:bt}{tl:List Addr}(F:bg K x qual st f fd)(S:bj N ps (ax st))(len:∀ds Q,sp ds Q->ds.length=ps.length)
  (fS:∀(aF:Value) (A:Around) (outer:List Env) (s:Shared) (H:Hp) (E:XK),Tb tl H->bE k (A.deeper (envOfC qual (ax st) s.heap.objs.size f aF)) ->
   ∃t:cA,PSs (gF aS P w K mg base N qual (ax st) f aF A outer s H E).eJ (aY st) (lS (gF aS P w K mg base N qual (ax st) f aF A outer s H E).eJ t)/\∀ds Q,sp ds Q->t { nx:=λ_=>Q .aq,rt:=Q } (iu N ds)):aO P w K mg base aS (k+1) f fd ps (w9 tl (bw sp)):=by
 refine F.ok S (λvs H Q E ⟨_,F,ds,Qd,e,r,h,_⟩=>by rw[<-r.length];exact len ds Qd h) λaF A outer s H vs Q E hr zz=>?_
 obtain⟨tb,F,ds,Qd,e,r,h,k⟩:=zz
 obtain⟨t,ht,hq⟩:=fS aF A outer s H E tb hr
 have fin:∀d v ag aw F' H',Qd d->aj ⟨H,F⟩ F' H' aw ag [(d,v)]->Q v H':=λd v ag aw F' H' hd c=>by
  obtain⟨A,C,r',s',nd,fr⟩:=c.own
  exact k d v F' H' A hd c.b1 c.b2 c.ext c.b3 r' (eK.mp nd).1 λa ha=>fr a (fO _ ha)
 have e1:L2.start N vs=vs.map some++aN (N.length-ds.length) none:=by unfold L2.start;rw[r.length]
 refine⟨_,ht,⟨H,F⟩,F,iu N ds,_,?_,hq ds Qd h,λag aw F' H' hd c=>fin .aq .aq ag aw F' H' hd (c.pushS (.aq .nil) rfl),fin,λ_ _ _ _ z=>z.elim,λ_ _ _ _ z=>z.elim,XL.none (λ_ _ z=>z) λ_ _ z=>z⟩
 rw[e1]
 exact aj.start e r _
theorem OL{x qual:Str}{st:Stmt}{f cc:Addr}{fd:FuncData}{N ps:List Str}{k:Nat}{sp:Sp}(F:bg K x qual st f fd)(zV:fd.code=.ref cc)(S:bj N ps (ax st))(len:∀vs H Q E,sp vs H Q E->vs.length=ps.length)
  (fS:∀(A:Around) (outer:List Env) (s:Shared) (H:Hp) (vs:List V) (Q:VK) (E:XK),bE k (A.deeper (envOfC qual (ax st) s.heap.objs.size f (.ref cc)))->sp vs H Q E ->
   ∃t,PSs (gF aS P w K mg base N qual (ax st) f (.ref cc) A outer s H E).eJ (aY st) t/\t { nx:=λ_ H'=>Q .aq H',rt:=Q } (L2.start N vs) H):aO P w K mg base aS (k+1) f fd ps sp:=by
 obtain⟨oc,od,kV,doc,pm,an,aF,ct,js,rfl,lk,bX⟩:=F.ex
 obtain rfl:aF=.ref cc:=zV
 refine Df lk bX S len λA outer s H vs Q E hr fv=>?_
 obtain⟨t,h,q⟩:=fS A outer s H vs Q E hr fv
 exact⟨t,h.eJ,q⟩
end
end L3
namespace L3
open PySem L2 PySem.Spec PyProof.Rows
theorem ZR{ns:List Str}{xs:List D}{ws:List V}{F H:Hp}{f:Str}{d:D}(r:R F H xs ws [])(h:(ns.zip xs).lookup f=some d):∃w,(ns.zip ws).lookup f=some w/\R F H [d] [w] []:=by
 generalize e:([]:List Addr)=A at r
 induction ns generalizing xs ws A with
 | nil=>simp at h
 | cons n ns ih =>
  cases xs with
  | nil=>simp at h
  | cons x xs =>
   obtain⟨v,bV,A1,A2,rfl,rfl,h1,h2⟩:=R.cw r
   obtain⟨rfl,rfl⟩:=Cn.mp e.symm
   rw[Tn]at h ⊢
   by_cases z:f=n
   ·subst z
    rw[gU,beq_self_eq_true]at h
    cases h
    refine⟨v,?_,h1⟩
    rw[gU,beq_self_eq_true]
   ·have z':(f==n)=false:=beq_eq_false_iff_ne.mpr z
    rw[gU,z']at h
    obtain⟨w,e1,e2⟩:=ih h [] rfl h2
    refine⟨w,?_,e2⟩
    rw[gU,z']
    exact e1
theorem EM{ns:List Str}{ws:List V}{f:Str}(h:f ∉ ns):(ns.zip ws).lookup f=none:=by
 induction ns generalizing ws with
 | nil=>simp
 | cons n ns ih =>
  cases ws with
  | nil=>simp
  | cons w ws =>
   rw[Tn,gU]
   have hn:(f==n)=false:=beq_eq_false_iff_ne.mpr λz=>h (by rw[z];simp)
   simp only[hn]
   exact ih λz=>h (by simp[z])
theorem Aa{F H:Hp}{C:Addr}{ns:List Str}{xs:List D}{v:V}(s:S F H [.obj C ns xs] [v]):∃p dx ws,v=.ref p/\H p=some (.ins C dx (ns.zip ws))/\ns.length=ws.length/\R F H xs ws []:=by
 cases s with
 | obj h l r _=>exact⟨_,_,_,rfl,h,l,r⟩
section
variable{X:Cx}{e o:Expr}{es:List Expr}{f m x:Str}{pos p apos:Pos}{t to:aC}{ta:bW}{n:Nat}
noncomputable def mT(K:PySem.W.Frag)(t:aC)(f:Str):aC:=λδ Q=>t δ λd ag=>∃C ns xs v,d=.obj C ns xs/\dk K C/\bU K C f/\(ns.zip xs).lookup f=some v/\Q v ag
theorem ZS(he:PE X e (lB t))(hb:attributeBase e f X.env (eval e X.env)=eval e X.env:=by rfl):PE X (.Attribute e f pos) (lB (mT X.K t f)) :=
 cQ (zc he hb) λσ H Q ⟨B,F,δ,ts,Qd,c,q,k⟩=>⟨B,F,δ,ts,_,c,q,λd ag v F' H' ⟨C,ns,xs,w,ed,hc,hn,hl,hq⟩ f1 h1 c1 s1=>by
  subst ed
  obtain⟨p,dx,ws,rfl,hp,_,r⟩:=Aa s1
  obtain⟨u,hu,ru⟩:=ZR r hl
  exact⟨p,C,dx,_,u,rfl,hp,hc,hn,hu,k w ag u F' H' hq f1 h1 c1 ru.s⟩⟩
structure mU(P:Program)(w:World)(K:PySem.W.Frag)(mg:Str->Option Value)(base:Heap)(n:Nat)(m:Str)(C:Addr)(sp:bt):Prop where
 cls:dk K C
 ex:∃f fd ps,Meth K C m f/\aO P w K mg base aS n f fd ps (bw sp)/\Binds K fd ps []
noncomputable def mV(MO:Addr->bt->Prop)(m:Str)(to:aC)(ta:bW):aC:=λδ Q=>to δ λd ai=>∃C ns xs sp,d=.obj C ns xs/\MO C sp/\m ∉ ns/\ta ai λds aG=>sp ((D.obj C ns xs::ds).map D.sh) λr=>((D.obj C ns xs::ds).all D.pl||r.fr)=true/\Q r aG
theorem ZT{pl:Sem Bool}(ho:PE X o (lB to))(hr:bE n X.A)(ha:PA X (e::es) (lA ta))
  (cn:starEach (e::es) X.env=(false,eval e X.env)::starEach es X.env:=by rfl) (bu:(backTo pos (starEach es X.env)).any (·.1)=false:=by rfl)
  (ht:eval (.Call (.Attribute o m apos) (e::es) [] pos) X.env=(do
   let ov<-eval o X.env
   standAt apos.atName
   let (f,first)<-holding [ov] (getMethod ov m pl)
   callWith pos f first (backTo pos (starEach (e::es) X.env)) (backToKw pos (keywordEach [] X.env))):=by rfl) :
  PE X (.Call (.Attribute o m apos) (e::es) [] pos) (lE (mV (mU X.prog X.w X.K X.mg X.base n m) m to ta)):=by
 intro pins s σ H Q I zz
 obtain⟨B,F,δ,ts,Qd,c,q,k⟩:=zz
 refine PySem.W.methodCall_KW (pl:=pl) (aB (ho pins s σ H (λx H1=>∃d ai F1,S F1 H1 [d] [x]/\aj B F1 H1 σ ai ts/\ae F F1/\ae H H1/\∃C ns xs sp,d=.obj C ns xs/\mU X.prog X.w X.K X.mg X.base n m C sp/\m ∉ ns/\ta ai λds aG=>sp ((D.obj C ns xs::ds).map D.sh) λr=>((D.obj C ns xs::ds).all D.pl||r.fr)=true/\Qd r aG) I
  ⟨B,F,δ,ts,_,c,q,λd ai v F1 H1 hq f1 h1 c1 s1=>⟨d,ai,F1,s1,c1,f1,h1,hq⟩⟩) λu s1 ⟨x,H1,I1,rx,d,ai,F1,sd,c1,f1,h1,C,ns,xs,sp,ed,M,hm,hq⟩=>?_) ht
 subst ed
 obtain⟨a,dx,ws,rfl,ea,hl,r0⟩:=Aa sd
 obtain rfl:u=dr a:=rx
 obtain⟨f,fd,ps,mW,FO,hb⟩:=M.ex
 refine y9 I1 ea M.cls mW (EM hm) ?_
 refine PySem.W.callWith_K (first:=[.ref a]) (h₀:=X.base) I.ok.mod.jn mW.kp (aB (ha pos pins s1 σ H1 (λvs H2=>∃ds aG F2,S F2 H2 ds vs/\aj B F2 H2 σ aG ts/\ae F1 F2/\ae H1 H2/\sp ((D.obj C ns xs::ds).map D.sh) λr=>((D.obj C ns xs::ds).all D.pl||r.fr)=true/\Qd r aG) I1
  ⟨B,F1,ai,ts,_,c1,hq,λds aG vs F2 H2 hq f2 h2 c2 s2=>⟨ds,aG,F2,s2,c2,f2,h2,hq⟩⟩) λus s2 ⟨vs,H2,I2,r,ds,aG,F2,xh,c2,f2,h2,fv⟩=>⟨I2.cE,?_⟩) cn bu
 refine zd (us:=.ref a::us) (vs:=.ref a::vs) (dZ:=[]) FO hr hb .nil br I2 (.cons rfl r) ?_
 rw[iF]
 exact zw c2 (.obj (h2 _ _ ea) hl (r0.shared f2 h2) xh) fv λd v F' H' hd hf hs c'=>k d aG v F' H' hd (f1.trans (f2.trans hf)) (h1.trans (h2.trans hs)) c'
end
structure cZ(x:Addr)(H H':Hp):Prop where
 get:∀b o,b≠x->H b=some o->gI o=true->H' b=some o
 tb:∀b ps,H b=some (.cK ps)->∃more,H' b=some (.cK (ps++more))
theorem cZ.trans{x:Addr}{H H1 H2:Hp}(a:cZ x H H1)(b:cZ x H1 H2):cZ x H H2 :=
 ⟨λc o n h t=>b.get c o n (a.get c o n h t) t,λc ps h=>by
  obtain⟨m1,e1⟩:=a.tb c ps h
  obtain⟨m2,e2⟩:=b.tb c _ e1
  exact⟨m1++m2,by rw[e2,vt]⟩⟩
theorem ae.x{x:Addr}{H H':Hp}(h:ae H H'):cZ x H H':=⟨λb o _ e n=>h.get b o e n,h.tb⟩
theorem cZ.upd{x C dx:Addr}{H:Hp}{o o':HO}(h:H x=some o)(n:gI o=true):cZ x H (upd H x o') :=
 ⟨λb o z e _=>by rw[aP z];exact e,λb ps e=>⟨#[],by rw[aP (λz=>by rw[z,h]at e;cases e;cases n),e];simp⟩⟩
noncomputable def EN(tl:List Addr)(C:Addr)(tP:List D->List Str->List D->Prop):Sp:=λvs H Q _=>∃x dx bV ds ns xs,vs=.ref x::bV/\Tb tl H/\H x=some (.ins C dx [])/\R H H ds bV []/\tP ds ns xs /\
 ∀H' ws A,cZ x H H'->H' x=some (.ins C dx (ns.zip ws))->ns.length=ws.length->R (λ_=>none) H' xs ws A->A.Nodup->(∀a∈A,H a=none)->Q .aq H'
noncomputable def qA(C:Addr)(tP:List D->List Str->List D->Prop)(ta:bW):aC:=λδ Q=>ta δ λds ag=>∃ns xs,tP (ds.map D.sh) ns xs/\Q (.obj C ns (xs.map D.sh)) ag
theorem aj.made{B:Bs}{F H H':Hp}{σ:L2.St}{δ:Dl}{ts:List (D × V)}{C dx x:Addr}{ns:List Str}{xs:List D}{ws:List V}{A:List Addr}(c:aj B F H σ δ ts)(hs:ae H H')(hx:H' x=some (.ins C dx (ns.zip ws)))(hl:ns.length=ws.length)
  (r:R (λ_=>none) H' xs ws A) (fr:∀a∈A,H a=none):ae F (L3.bQ F H' A)/\aj B (L3.bQ F H' A) H' σ δ ((.obj C ns (xs.map D.sh),.ref x)::ts):=by
 have c1:=c.grow hs
 have hF:∀a∈A,F a=none:=λa ha=>c.ext.free (fr a ha)
 have r1:R F H' xs ws A:=r.keep (ae.of λb o e=>by cases e) (gL.same (ae.refl _)) ir.nil hF (by simp)
 have r2:=r1.bQ c1.ext A (λ_ h=>h)
 have fs:ae F (L3.bQ F H' A):=rX c1.ext
 obtain⟨A',C',r',s',nd,zi⟩:=c.own
 have out:∀a,(∃ws,H a=some (.lst ws))/\F a=none->L3.bQ F H' A a=none:=λa zz=>by
  obtain⟨⟨ws,h⟩,hf⟩:=zz
  rw[Nl (λz=>by rw[fr a z]at h;cases h)];exact hf
 have g1:=r'.grow fs hs λa ha=>out a (r'.lists a ha)
 have g2:=s'.keep fs (gL.same hs) ir.nil (λa ha=>out a (s'.lists a ha)) (by simp)
 refine⟨fs,X3 c1.ext,c1.b1,c1.b2.trans fs,λa ws h=>?_,A',C',?_,g2,nd,zi⟩
 ·by_cases z:a∈A
  ·exact .inr (c.b1.free (fr a z))
  ·rw[Nl z]at h;exact c.b3 a ws h
 ·exact R.obj hx hl r2 g1
section
variable{X:Cx}{CX:dH}{n:Nat}{f C:Addr}{fd:FuncData}{ps:List Str}{tP:List D->List Str->List D->Prop}{E:XK}{x:Str}{p pos:Pos}{e:Expr}{es:List Expr}{t:bW}{tl:List Addr}
theorem OM(hT:Tb tl X.iK)(M:Mk X.K C f)(F:aO X.prog X.w X.K X.mg X.base CX n f fd ps (EN tl C tP))(hr:bE (n+1) X.A)(hg:Gl X x)(hm:X.mg x=some (.ref C))(hb:Binds X.K fd ps [])(hx:jr CX X E)
  (ha:PA X (e::es) (lA t)) (dJ:(x==("__debug__":Str))=false:=by decide) (he:starEach (e::es) X.env=(false,eval e X.env)::starEach es X.env:=by rfl) (bu:(backTo pos (starEach es X.env)).any (·.1)=false:=by rfl) :
  PE X (.Call (.Name x p) (e::es) [] pos) (lE (qA C tP t)):=by
 intro pins s σ H Q I zz
 obtain⟨B,F',δ,ts,Qd,c,q,k⟩:=zz
 have tb:=Oh I hT
 refine VP M F hr hg hm hb .nil hx ha dJ he bu pins s σ H Q I ⟨B,F',δ,ts,_,c,q,λds ai vs F1 H1 q1 f1 h1 c1 s1=>?_⟩
 intro x dx eN gi iW
 obtain⟨ns,xs,hI,hq⟩:=q1
 have sm:ae H1 (upd (upd H1 dx (.own x)) x (.ins C dx [])):=.of λb o e=>by rw[aP (dW e eN),aP (dW e gi)];exact e
 refine⟨x,dx,vs,ds.map D.sh,ns,xs,by rw[iF],EL (EL tb h1) sm,bN,(s1.frozen c1.ext).shared sm sm,hI,λH' ws A ON dO hl r nd fr=>⟨rfl,?_⟩⟩
 have s2:ae H1 H':=⟨λb o e n=>ON.get b o (dW e eN) (sm.get b o e n) n,λb ps e=>by
  obtain⟨m1,e1⟩:=sm.tb b ps e
  obtain⟨m2,e2⟩:=ON.tb b _ e1
  exact⟨m1++m2,by rw[e2,vt]⟩⟩
 obtain⟨fs,c2⟩:=c1.made s2 dO hl r λa ha=>sm.free (fr a ha)
 exact k _ ai _ _ H' hq (f1.trans fs) (h1.trans s2) c2
end
end L3
namespace Mf
open PySem L2 L3
noncomputable def gm(m:Bool × Nat)(a b:Nat):Nat:=if m.1 then md (cl a b) m.2 else a*b%m.2
noncomputable def af(m:Bool × Nat):Nat:=if m.1 then 2 ^ (bl m.2-1)else m.2
noncomputable def Ab(g:Nat->Nat->Nat)(a:Nat):Nat->Nat->List Int->Option (List Int)
 | 0,_,_=>none
 | f+1,p,acc=>if p=1 then some acc else if p<64 then Ab g a f (g p a) (acc++[(p:Int)])else none
noncomputable def EO(g:Nat->Nat->Nat)(a:Nat):Option (List Int):=Ab g a 64 (g 1 a) [1]
noncomputable def Ac(g:Nat->Nat->Nat)(many:Nat):Nat->Nat->List Int->Option (List Int)
 | 0,_,_=>none
 | f+1,st,l=>if l.length+1<many then(match EO g (st+1)with | some l'=>Ac g many f (st+1) l' | none=>none)else some l
noncomputable def xi(g:Nat->Nat->Nat)(many:Nat):Option (List Int):=match EO g 1 with | some l=>Ac g many 62 1 l | none=>none
noncomputable def xj(g:Nat->Nat->Nat):tO:=λi j Q=>∃a b:Nat,i=a/\j=b/\a<64/\b<64/\Q (g a b:Nat)
noncomputable def fi:List Nat:=[7,11,13,19,25,31,37,41,47,55,59,61,67,73,87,91,97,103,109,115,117]
noncomputable def kM:List Nat:=[2,3,5,7,11,13,17,19,23,29,31,37,41,43,47,53,59,61]
noncomputable def aK:List (Bool × Nat):=fi.map (λn=>(true,n))++kM.map λn=>(false,n)
noncomputable def kN(l:List Int):Nat->List Int
 | 0=>aN (l.length+1) 0
 | i+1=>(kN l i).set (l.getD i 0).toNat (i:Int)
noncomputable def dq(l:List Int):List Int:=kN l l.length
theorem xk(l:List Int):∀i,(kN l i).length=l.length+1
 | 0=>by simp[kN]
 | i+1=>by simp[kN,xk l i]
noncomputable def mX(l g:List Int)(a:Nat):List Int:=if a=0 then aN (l.length+1) 0 else 0::(bL l.length).map λ(b:Nat)=>l.getD ((g.getD a 0+g.getD (b+1) 0)%(l.length:Int)).toNat 0
noncomputable def tQ(l g:List Int)(n:Nat):List D:=(bL n).map λa=>D.lst true (az (mX l g a))
noncomputable def mY(l g:List Int):List D:=tQ l g (l.length+1)
end Mf
namespace L3
open PySem L2 Mf
noncomputable def LI(H:Hp)(p:Addr)(ns:List Int):Prop:=H p=some (.lst (ns.map V.int))
theorem LI.same{H H':Hp}{p:Addr}{ns:List Int}(h:LI H p ns)(s:ae H H'):LI H' p ns:=s.get _ _ h
theorem LI.upd{H:Hp}{p x:Addr}{ns:List Int}{o o':HO}(h:LI H p ns)(hx:H x=some o)(n:∀ws,o≠.lst ws):LI (upd H x o') p ns:=by
 unfold LI
 rw[aP (λz=>by rw[z]at h;unfold LI at h;rw[hx]at h;cases h;exact n _ rfl)];exact h
theorem OO{F' H' H:Hp}{v:V}{A:List Addr}{ns:List Int}(r:R F' H' [.lst true (az ns)] [v] A)(fr:∀a∈A,H a=none):∃p,v=.ref p/\LI H' p ns/\H p=none:=by
 cases r with
 | @own p ws xs A1 _ _ B1 hp hf r1 r2 =>
  have:=N1 r1.s
  subst this
  exact⟨p,rfl,hp,fr p (by simp)⟩
structure ZU(K:PySem.W.Frag)(C f:Addr):Prop where
 cls:dk K C
 many:bU K C "many"
 wide:bU K C "wide"
 ER:bU K C "powers"
 ZV:bU K C "logs"
 step:bU K C "step"
 sp:Meth K C "step_power" f
structure OP(g:Nat->Nat->Nat)(many:Nat)(l:List Int)(st:Int):Prop where
 lo:2<=many
 hi:many<=64
 step:xi g many=some l
 len:l.length+1=many
 ins:∀x∈l,0<=x/\x.toNat<=l.length
 st:l[((1:Int)%((many:Int)-1)).toNat]?=some st
noncomputable def fK(b:Str):List Str:=[b,"many","wide","powers","logs","step"]
noncomputable def Ad(n0:Int)(many:Nat)(p1 p2:Addr)(st:Int):List V:=[.int n0,.int many,.int ((bl many:Nat)-1),.ref p1,.ref p2,.int st]
theorem tR{f:Str}{v:V}:∀{fs:List (Str × V)},(∀p∈fs,p.1≠f)->eD f v fs=fs++[(f,v)]
 | [],_=>rfl
 | (g,x)::r,h=>by
  unfold eD
  rw[if_neg (h (g,x) (by simp)),tR λp hp=>h p (by simp[hp])];rfl
theorem fX.xm{H:Hp}{x C dx f c k:Addr}{fs:List (Str × V)}{o':HO}{of oc:Obj}(h:fX H f of oc c k)(hx:H x=some (.ins C dx fs)):fX (L2.upd H x o') f of oc c k:=by
 obtain⟨ψ,e,xb⟩:=h.D0
 exact⟨by rw[aP (λz=>by rw[<-z,h.fn]at hx;cases hx)];exact h.fn,by rw[aP (λz=>by rw[<-z,h.cell]at hx;cases hx)];exact h.cell,ψ,by rw[aP (λz=>by rw[<-z,e]at hx;cases hx)];exact e,xb⟩
theorem fX.same{H H':Hp}{f c k:Addr}{of oc:Obj}(h:fX H f of oc c k)(s:ae H H'):fX H' f of oc c k:=me.mono (z:=.lam of oc c k) h λa o e _ t=>s.get a o e t
theorem xn{H:Hp}{x p:Addr}{o o':HO}(hx:H x=some o)(h:L2.upd H x o' p=none):H p=none:=by
 by_cases z:p=x
 ·subst z;rw[bN]at h;cases h
 ·rw[aP z]at h;exact h
theorem Ae{α:Type}{b f:Str}{v:α}{r:List (Str × α)}(h:b≠f):((b,v)::r).lookup f=r.lookup f:=by
 rw[gU,beq_eq_false_iff_ne.mpr (du h)]
section
variable{H2 H3 H':Hp}{x f c p:Addr}{o1 o2:HO}
theorem xo{b:Addr}{o:HO}(e:H3 b=some o)(nb:b≠f)(nc:H3 c=none):L2.upd (L2.upd H3 f o1) c o2 b=some o:=by
 rw[aP (dW e nc),aP nb];exact e
theorem OQ(hs:ae H2 H3)(nf:H2 f=none)(nc:H3 c=none)(s:cZ x (L2.upd (L2.upd H3 f o1) c o2) H'):cZ x H2 (rem H' f c) where
 get b o n e t:=by
  have z1:=dW e nf
  have e3:=hs.get b o e t
  rw[fJ z1 (dW e3 nc)]
  exact s.get b o n (xo e3 z1 nc) t
 tb b ps e:=by
  have z1:=dW e nf
  obtain⟨m,e3⟩:=hs.tb b ps e
  obtain⟨m2,e4⟩:=s.tb b _ (xo e3 z1 nc)
  exact⟨m++m2,by rw[fJ z1 (dW e3 nc),e4,vt]⟩
theorem Af(hs:ae H2 H3)(h:L2.upd (L2.upd H3 f o1) c o2 p=none):H2 p=none:=by
 refine hs.free ?_
 by_cases z:p=c
 ·subst z;rw[bN]at h;cases h
 ·rw[aP z]at h
  by_cases z2:p=f
  ·subst z2;rw[bN]at h;cases h
  ·rw[aP z2]at h;exact h
theorem LI.rem{l:List Int}{φ:Heap->Prop}{y:Addr}(h:LI H' p l)(hf:H' f=some (.ext φ))(hc:H' c=some (.own y)):LI (rem H' f c) p l:=by
 unfold LI at h ⊢
 rw[fJ (λz=>by rw[z,hf]at h;cases h) (λz=>by rw[z,hc]at h;cases h)];exact h
theorem OR{of oc:Obj}{k:Addr}(iW:c≠f)(nc:H3 c=none)(hk:DZ H3 k)(kf:k≠f):fX (L2.upd (L2.upd H3 f (.ext (hG of oc c f))) c (.own f)) f of oc c k:=by
 obtain⟨ψ,e,xb⟩:=hk
 exact⟨by rw[aP iW.symm,bN],bN,ψ,xo e kf nc,xb⟩
end
noncomputable def fl(m:Bool × Nat):List Int:=(xi (gm m) (af m)).getD []
noncomputable def fst(m:Bool × Nat):Int:=(fl m).getD ((1:Int)%((af m:Int)-1)).toNat 0
noncomputable def OS(m:Bool × Nat):Bool:=decide (2<=af m)&&decide (af m<=64)&&(xi (gm m) (af m)).isSome&&decide ((fl m).length+1=af m)&&(fl m).all (λx=>decide (0<=x)&&decide (x.toNat<=(fl m).length))&&decide (((1:Int)%((af m:Int)-1)).toNat<(fl m).length)
theorem ZW:aK.all OS=true:=by decide +kernel
theorem cC{m:Bool × Nat}(h:m∈aK):OP (gm m) (af m) (fl m) (fst m):=by
 have h:=dU.mp ZW m h
 simp only[OS,df,decide_eq_true_eq,dU]at h
 obtain⟨⟨⟨⟨⟨h1,h2⟩,h3⟩,h4⟩,h5⟩,h6⟩:=h
 obtain⟨l,e⟩:=S4.mp h3
 have el:fl m=l:=by unfold fl;rw[e];rfl
 refine⟨h1,h2,by rw[e,el],h4,λx hx=>h5 x hx,?_⟩
 unfold fst
 rw[aU,bc h6];rfl
theorem ZX:∀p∈kM,(decide (2<=(p:Int))&&decide ((p:Int)<=61)&&(bL ((p:Int).toNat-2)).all λi=>(p:Int)%(2+(i:Int)) != 0)=true:=by decide +kernel
theorem ZY:∀p∈fi,(decide (4<=(p:Int))&&decide ((p:Int)<=127)&&al (p:Int).toNat)=true:=by decide +kernel
theorem R.xm{F H:Hp}{x C dx:Addr}{fs:List (Str × V)}{o':HO}{ds:List D}{vs:List V}{A:List Addr}(r:R F H ds vs A)(hx:H x=some (.ins C dx fs))(hd:ds.all D.fr=true):R F (L2.upd H x o') ds vs A:=by
 have up:∀{a o},H a=some o->(∀C dx fs,o≠.ins C dx fs)->L2.upd H x o' a=some o:=λ{a o} e n=>by
  rw[aP (λz=>by rw[z,hx]at e;cases e;exact n _ _ _ rfl)];exact e
 induction r with
 | nil=>exact .nil
 | aq _ ih=>exact .aq (ih (by simpa[D.fr]using hd))
 | bl _ ih=>exact .bl (ih (by simpa[D.fr]using hd))
 | int _ ih=>exact .int (ih (by simpa[D.fr]using hd))
 | str _ ih=>exact .str (ih (by simpa[D.fr]using hd))
 | shr h x _ i1 ih=>simp[fC]at hd
 | own h f _ _ i1 i2 =>
  rw[dg,fC,df,lj]at hd
  exact .own (up h λ_ _ _ z=>by cases z) f (i1 hd.1) (i2 hd.2)
 | tup h _ _ i1 i2 =>
  rw[dg,jw,df]at hd
  exact .tup (up h λ_ _ _ z=>by cases z) (i1 hd.1) (i2 hd.2)
 | obj h l x _ i1 ih=>simp[D.fr]at hd
 | fz h x _ i1 ih=>simp[D.fr]at hd
 | @aV p z _ _ _ h r ih =>
  refine .aV ?_ (ih (by simpa[D.fr]using hd))
  cases z with
  | ext φ=>exact up h λ_ _ _ z=>by cases z
  | lam of oc c k=>exact fX.xm h hx
theorem OT(l g:List Int):(mY l g).all D.fr=true:=by
 unfold mY tQ
 rw[yE,dU]
 intro a _
 show(D.lst true (az _)).fr=true
 rw[fC,mL];rfl
theorem cZ.free{x a:Addr}{H H':Hp}(s:cZ x H H')(hx:H' x≠none)(h:H' a=none):H a=none:=by
 cases q:H a with
 | none=>rfl
 | some o =>
  by_cases z:a=x
  ·subst z;exact absurd h hx
  ·cases n:gI o with
   | true=>rw[s.get a o z q n]at h;cases h
   | false =>
    obtain⟨ps,rfl⟩:=DY n
    obtain⟨m,e⟩:=s.tb a ps q
    rw[e]at h;cases h
theorem OU(l:List Int):∀i,∀x∈kN l i,0<=x
 | 0=>λx hx=>by rw[(Li.mp hx).2];exact Int.le_refl _
 | i+1=>λx hx=>by
  unfold kN at hx
  rcases Ct hx with h | h
  ·exact OU l i x h
  ·rw[h];exact K6 _
theorem OV:∀p∈fi,bl p<=7:=by decide +kernel
theorem OW:∀p∈fi,1<=bl p:=by decide +kernel
theorem ZZ(a b:Nat):bl (cl a b)<=bl a+bl b:=by
 by_cases ha:a=0
 ·subst ha;rw[lW];exact iE _
 ·by_cases hb:b=0
  ·subst hb
   have:cl a 0=0:=rfl
   rw[this];exact iE _
  ·rw[MG ha hb];omega
noncomputable def tS(l g:List Int):List D:=(bL (l.length+1)).map λa=>D.lst false (az (mX l g a))
theorem Z0(l g:List Int):(D.lst true (mY l g)).sh=.lst false (tS l g):=by
 rw[fE]
 unfold mY tQ tS
 rw[gv]
 congr 1
 apply Cs
 intro a _
 show D.sh (.lst true (az _))=_
 rw[fE,gP]
noncomputable abbrev pD(m:Bool × Nat):List D:=[.int m.2,.int (af m),.int ((bl (af m):Nat)-1),.lst false (az (fl m)),.lst false (az (dq (fl m))),.int (fst m)]
noncomputable def qB(C:Addr)(p:Nat):D:=.obj C (fK "prime") (pD (false,p))
noncomputable def xp(C:Addr)(p:Nat):D:=.obj C (fK "bits"++[("products":Str)]) (pD (true,p)++[.lst false (tS (fl (true,p)) (dq (fl (true,p))))])
noncomputable def fD(cb cp:Addr)(m:Bool × Nat):D:=if m.1 then xp cb m.2 else qB cp m.2
end L3
namespace L3
open PySem L2 Mf
theorem xq{u p:Nat}(h:bl u<bl p):md u p=u:=wt (q:=0) (by rw[lW,kZ]) h
theorem Z1{u v n:Nat}(hu:bl u<n)(hv:bl v<n):bl (u ^^^ v)<n:=by
 have h1:u<2 ^ (n-1):=dD.mp (by omega)
 have h2:v<2 ^ (n-1):=dD.mp (by omega)
 have:=dD.mpr (rQ h1 h2)
 omega
theorem Ag{p:Nat}(hp:p≠0)(u v:Nat):md (u ^^^ v) p=md u p ^^^ md v p:=by
 obtain⟨⟨q1,e1⟩,l1⟩:=wq hp u
 obtain⟨⟨q2,e2⟩,l2⟩:=wq hp v
 refine wt (q:=q1 ^^^ q2) ?_ (Z1 l1 l2)
 rw[lV,<- Mv,<- e1,<- e2]
theorem OX{p:Nat}(hp:p≠0)(w:Nat):md (cl p w) p=0:=by rw[wo];exact WT w hp
theorem dR:∀m∈aK,0<m.2:=by decide +kernel
theorem tT(m:Bool × Nat)(a b:Nat):gm m a b=gm m b a:=by
 unfold gm
 split
 ·rw[wo]
 ·rw[jY]
theorem OY{n:Nat}(hn:n≠0)(u c:Nat):md (cl (md u n) c) n=md (cl u c) n:=by
 obtain⟨⟨q,e⟩,_⟩:=wq hn u
 have h:cl u c=cl n (cl q c) ^^^ cl (md u n) c:=by
  conv=>lhs;rw[e]
  rw[lV,wo n q,ML]
 rw[h,Ag hn,OX hn,kZ]
theorem OZ{m:Bool × Nat}(h:0<m.2)(a b c:Nat):gm m (gm m a b) c=gm m a (gm m b c):=by
 unfold gm
 split
 ·rw[OY (by omega),wo (md (cl b c) m.2) a,OY (by omega),ML a b c,wo (cl b c) a]
 ·rw[vE,Ln,<- vE,vE a (b*c%m.2),Ln,<- vE,rp]
theorem O0{m:Bool × Nat}(h:m.1=true){a:Nat}:a<af m↔bl a<=bl m.2-1:=by
 unfold af
 rw[if_pos h];exact dD.symm
theorem O1{m:Bool × Nat}{a:Nat}(ha:a<af m):gm m 1 a=a:=by
 obtain⟨k,n⟩:=m
 cases k with
 | true =>
  show md (cl 1 a) n=a
  rw[Dx]
  have h1:=(O0 (m:=(true,n)) rfl).mp ha
  have h1:bl a<=bl n-1:=h1
  by_cases z:bl n=0
  ·have a0:a=0:=by
    have:=dD (n:=a) (m:=0)
    have:=this.mp (by omega)
    omega
   subst a0
   have n0:n=0:=by
    have:=(dD (n:=n) (m:=0)).mp (by omega)
    omega
   subst n0
   decide
  ·exact xq (by omega)
 | false=>show 1*a%n=a;rw[Nat.one_mul];exact yG ha
theorem Z2{m:Bool × Nat}{a:Nat}(ha:a<af m):gm m a 1=a:=by rw[tT];exact O1 ha
noncomputable def lg(m:Bool × Nat)(a:Nat):Int:=(dq (fl m)).getD a 0
noncomputable def pw(m:Bool × Nat)(k:Nat):Int:=(fl m).getD k 0
noncomputable def ES(m:Bool × Nat):Bool:=((bL (af m-1)).all λk=>decide (1<=pw m k)&&decide (pw m k<af m)&&decide (lg m (pw m k).toNat=k))&&((bL (af m-1)).all λa=>decide (0<=lg m (a+1))&&decide (lg m (a+1)<(af m:Int)-1)&&decide (pw m (lg m (a+1)).toNat=((a+1:Nat):Int)))
theorem O2:aK.all ES=true:=by decide +kernel
theorem ET{m:Bool × Nat}(hm:m∈aK){k:Nat}(hk:k<af m-1):1<=pw m k/\pw m k<af m/\lg m (pw m k).toNat=k:=by
 have h:=dU.mp O2 m hm
 simp only[ES,df,dU,decide_eq_true_eq,iD]at h
 have:=h.1 k hk
 exact⟨this.1.1,this.1.2,this.2⟩
theorem EU{m:Bool × Nat}(hm:m∈aK){a:Nat}(h1:1<=a)(h2:a<af m):0<=lg m a/\lg m a<(af m:Int)-1/\pw m (lg m a).toNat=a:=by
 have h:=dU.mp O2 m hm
 simp only[ES,df,dU,decide_eq_true_eq,iD]at h
 have:=h.2 (a-1) (by omega)
 rw[show a-1+1=a by omega]at this
 exact⟨this.1.1,this.1.2,this.2⟩
theorem mZ(m:Bool × Nat)(b:Nat)(h:0<m.2):gm m 0 b=0:=by
 unfold gm
 split
 ·rw[lW];exact xq (by rw[j8];exact fw (by omega))
 ·rw[Nat.zero_mul,Nat.zero_mod]
theorem xt(m:Bool × Nat)(b:Nat)(h:0<m.2):gm m b 0=0:=by rw[tT];exact mZ m b h
noncomputable def stC(m:Bool × Nat):Bool:=decide (pw m 0=1)&&(bL (af m-1)).all λk=>decide (gm m (pw m k).toNat (pw m (1%(af m-1))).toNat=(pw m ((k+1)%(af m-1))).toNat)
theorem O3:aK.all stC=true:=by decide +kernel
theorem Z3(m:Bool × Nat)(hm:m∈aK):pw m 0=1:=by
 have h:=dU.mp O3 m hm
 simp only[stC,df,decide_eq_true_eq]at h
 exact h.1
noncomputable def pN(m:Bool × Nat)(k:Nat):Nat:=(pw m (k%(af m-1))).toNat
theorem Z4{m:Bool × Nat}(hm:m∈aK)(k:Nat):pN m k<af m:=by
 have ff:=(cC hm).lo
 have:=ET hm (vF k (show 0<af m-1 by omega))
 unfold pN
 omega
theorem O4{m:Bool × Nat}(hm:m∈aK)(k:Nat):gm m (pN m k) (pN m 1)=pN m (k+1):=by
 have ff:=(cC hm).lo
 have h:=dU.mp O3 m hm
 simp only[stC,df,decide_eq_true_eq,dU,iD]at h
 have h2:=h.2 (k%(af m-1)) (vF k (by omega))
 rw[Cu]at h2
 exact h2
theorem O5{m:Bool × Nat}(hm:m∈aK)(i:Nat):∀j,gm m (pN m i) (pN m j)=pN m (i+j)
 | 0=>by
  have e:pN m 0=1:=by unfold pN;rw[Nat.zero_mod,Z3 m hm];rfl
  rw[e,Z2 (Z4 hm i)];rfl
 | j+1=>by rw[<-O4 hm j,<- OZ (dR m hm),O5 hm i j,O4 hm];rfl
theorem O6{m:Bool × Nat}(hm:m∈aK){a b:Nat}(a1:1<=a)(a2:a<af m)(b1:1<=b)(b2:b<af m):((gm m a b:Nat):Int)=pw m ((lg m a+lg m b)%((af m:Int)-1)).toNat:=by
 have ff:=(cC hm).lo
 obtain⟨g0,g1,g2⟩:=EU hm a1 a2
 obtain⟨f0,f1,f2⟩:=EU hm b1 b2
 have ea:pN m (lg m a).toNat=a:=by unfold pN;rw[yG (by omega),g2];rfl
 have eb:pN m (lg m b).toNat=b:=by unfold pN;rw[yG (by omega),f2];rfl
 have e:=O5 hm (lg m a).toNat (lg m b).toNat
 rw[ea,eb]at e
 rw[e]
 have ei:((lg m a+lg m b)%((af m:Int)-1)).toNat=((lg m a).toNat+(lg m b).toNat)%(af m-1):=by
  have:(((lg m a).toNat+(lg m b).toNat)%(af m-1):Nat)=((lg m a+lg m b)%((af m:Int)-1)):=by
   rw[lF,Cv,yH g0,yH f0,Int.natCast_sub (by omega)];rfl
  omega
 rw[ei]
 have:=ET hm (vF ((lg m a).toNat+(lg m b).toNat) (show 0<af m-1 by omega))
 unfold pN
 omega
theorem Z5{p a:Nat}(hp:p∈fi)(ha:a<af (true,p)):mX (fl (true,p)) (dq (fl (true,p))) a=(bL (af (true,p))).map λb=>((gm (true,p) a b:Nat):Int):=by
 have hm:(true,p)∈aK:=fO _ (Cw hp)
 have h0:=dR _ hm
 have hF:=cC hm
 have hlen:=hF.len
 unfold mX
 split
 ·rename_i h
  subst h
  rw[hlen]
  refine List.ext_getElem (by simp) λi h1 h2=>?_
  simp[mZ _ _ h0]
 ·rename_i h
  rw[<-hlen,Tg,dj,gv,xt _ _ h0]
  congr 1
  apply Cs
  intro b hb
  have hb:=iD.mp hb
  show(fl (true,p)).getD (((dq (fl (true,p))).getD a 0+(dq (fl (true,p))).getD (b+1) 0)%((fl (true,p)).length:Int)).toNat 0=((gm (true,p) a (b+1):Nat):Int)
  rw[O6 hm (by omega) ha (by omega) (by omega),show(((fl (true,p)).length:Nat):Int)=(af (true,p):Int)-1 by omega]
  rfl
theorem EV{p a b:Nat}(hp:p∈fi)(ha:a<af (true,p))(hb:b<af (true,p)):dm (az (mX (fl (true,p)) (dq (fl (true,p))) a)) (b:Int)=some (.int (gm (true,p) a b:Nat)):=by
 refine lN (by omega) ?_
 rw[Z5 hp ha]
 unfold az
 rw[jW,eZ,eZ,nR hb];rfl
theorem EW{p a:Nat}(hp:p∈fi)(ha:a<af (true,p)):dm (tS (fl (true,p)) (dq (fl (true,p)))) (a:Int)=some (.lst false (az (mX (fl (true,p)) (dq (fl (true,p))) a))):=by
 have hF:=cC (m:=(true,p)) (fO _ (Cw hp))
 refine lN (by omega) ?_
 unfold tS
 rw[jW,eZ,nR (by rw[hF.len];exact ha)];rfl
end L3
namespace L3
open PySem L2 Mf
theorem Z6(C:Addr)(p:Nat):D.obj C (fK "bits"++[("products":Str)]) (Cq D.sh [.int p,.int (af (true,p)),.int ((bl (af (true,p)):Nat)-1),.lst true (az (fl (true,p))),.lst true (az (dq (fl (true,p)))),.int (fst (true,p)),.lst true (mY (fl (true,p)) (dq (fl (true,p))))])=xp C p:=by
 simp only[dj,il]
 rw[Z0]
 simp only[fE,mK,gP];rfl
theorem Z7(C:Addr)(p:Nat):D.obj C (fK "prime") (Cq D.sh [.int p,.int p,.int ((bl p:Nat)-1),.lst true (az (fl (false,p))),.lst true (az (dq (fl (false,p)))),.int (fst (false,p))])=qB C p:=by
 simp only[dj,il,fE,mK,gP];rfl
theorem xu{n:Nat}(h:(true,n)∈aK):n∈fi:=by
 rcases eA.mp h with h | h
 ·obtain⟨x,hx,e⟩:=iJ.mp h
  cases e;exact hx
 ·obtain⟨x,hx,e⟩:=iJ.mp h
  cases e
theorem Z8{n:Nat}(h:(false,n)∈aK):n∈kM:=by
 rcases eA.mp h with h | h
 ·obtain⟨x,hx,e⟩:=iJ.mp h
  cases e
 ·obtain⟨x,hx,e⟩:=iJ.mp h
  cases e;exact hx
open Classical in
theorem O7{α:Type}{sh:Bool}{xs:List D}{av:List (Str × Nat)}{n:Nat}{g0:gb}{te:aC}{ai:Dl}{Q:D->Dl->Prop}(l:List α)(e g:α->D)(kJ:xs.map D.sh=l.map e)(inj:∀a b,e a=e b->a=b)
  (hx:∀a∈l,g0 (e a) (eM av n ai) λaG=>te aG λd _=>d=g a) (hg:∀d δ (P P':Dl->Prop),(∀ag,P ag->P' ag)->g0 d δ P->g0 d δ P') (dE:(sh&&av.all (gO ai))=true\/∀a∈l,(g a).fr=true) (hl:l.length<=sizeLine) (hq:Q (.lst true (l.map g)) ai):r9 sh xs av n g0 iy te ai Q:=by
 let f:D->D:=λx=>if h:∃a∈l,e a=x then g h.choose else .aq
 have hf:∀a∈l,f (e a)=g a:=λa ha=>by
  have h:∃b∈l,e b=e a:=⟨a,ha,rfl⟩
  show(if h:∃b∈l,e b=e a then g h.choose else .aq)=g a
  rw[dif_pos h]
  exact congrArg g (inj _ _ h.choose_spec.2)
 refine⟨λ_=>true,f,λx h=>?_,dE.imp id λh x hx _=>?_,?_,?_⟩
 ·rw[kJ]at h
  obtain⟨a,ha,rfl⟩:=iJ.mp h
  rw[hf a ha]
  exact hg _ _ _ _ (λag h=>⟨rfl,λ_=>h⟩) (hx a ha)
 ·rw[kJ]at hx
  obtain⟨a,ha,rfl⟩:=iJ.mp hx
  rw[hf a ha];exact h a ha
 ·have:=congrArg B8 kJ
  simp at this
  omega
 ·rw[kJ,Tf.mpr (λ_ _=>rfl),gv,show l.map (f ∘ e)=l.map g from Cs λa ha=>hf a ha]
  exact hq
theorem O8{i1 i2:Nat}(d:D)(δ:Dl)(P P':Dl->Prop)(h:∀ag,P ag->P' ag)(q:ia i1 i2 d δ P):ia i1 i2 d δ P':=by
 unfold ia at q ⊢
 split at q
 ·exact h _ q
 ·exact q
theorem Z9(xs ys:List Int):(eI (az xs) (az ys)).map D.sh=(xs.zip ys).map λz=>D.tup [.int z.1,.int z.2]:=by
 rw[EB,gP,gP]
 unfold eI az
 rw[List.zipWith_map,List.zip,Cr]
theorem γ{p x y:Nat}(hp:p≠0)(hx:bl x<bl p):md (cl x y) p=(if y%2=1 then x else 0) ^^^ md (cl (if bl (2*x)=bl p then 2*x ^^^ p else 2*x) (y/2)) p:=by
 have e0:md (if y%2=1 then x else 0) p=(if y%2=1 then x else 0):=by
  split
  ·exact xq hx
  ·exact xq (by rw[j8];exact fw hp)
 rw[MD,Ag hp,e0]
 congr 1
 split
 ·rw[lV,Ag hp,OX hp,iG]
 ·rfl
theorem ε{p x:Nat}(hp:p≠0)(hx:bl x<bl p):bl (if bl (2*x)=bl p then 2*x ^^^ p else 2*x)<bl p:=by
 have h2:=WV x
 have h0:=fw hp
 split
 ·rename_i h
  have n0:2*x≠0:=λz=>by rw[z,j8]at h;omega
  have a1:=gG (2*x)
  have a2:=gG p
  have b1:=rO n0
  have b2:=rO hp
  rw[h]at a1 b1
  obtain⟨k,hk⟩:∃k,bl p=k+1:=⟨bl p-1,by omega⟩
  rw[hk]at a1 a2 b1 b2 ⊢
  have:=dD.mpr (Mt a1 a2 b1 b2)
  omega
 ·omega
end L3
namespace L3
open PySem L2 PySem.Spec PyProof.Rows
structure qC(P:Program)(w:World)(K:PySem.W.Frag)(mg:Str->Option Value)(base:Heap)(n:Nat)(m:Str)(C:Addr)(sp:jI):Prop where
 cls:dk K C
 ex:∃f fd ps,Meth K C m f/\aO P w K mg base (iV P w) n f fd ps (qg sp)/\Binds K fd ps []
section
variable{X:Cx}{e o:Expr}{es:List Expr}{f m x:Str}{pos p apos:Pos}{to:aC}{ta:bW}{n:Nat}
noncomputable def m8(MO:Addr->jI->Prop)(m:Str)(to:aC)(ta:bW):zJ:=λδ Q Z=>to δ λd ai=>∃C ns xs sp,d=.obj C ns xs/\MO C sp/\m ∉ ns/\ta ai λds aG=>sp ((D.obj C ns xs::ds).map D.sh) (λr=>((D.obj C ns xs::ds).all D.pl||r.fr)=true/\Q r aG) λC=>Z C aG
theorem ζ{pl:Sem Bool}(ho:PE X o (lB to))(hr:bE n X.A)(hex:X.ex=[])(ha:PA X (e::es) (lA ta))
  (cn:starEach (e::es) X.env=(false,eval e X.env)::starEach es X.env:=by rfl) (bu:(backTo pos (starEach es X.env)).any (·.1)=false:=by rfl)
  (ht:eval (.Call (.Attribute o m apos) (e::es) [] pos) X.env=(do
   let ov<-eval o X.env
   standAt apos.atName
   let (f,first)<-holding [ov] (getMethod ov m pl)
   callWith pos f first (backTo pos (starEach (e::es) X.env)) (backToKw pos (keywordEach [] X.env))):=by rfl) :
  PX X (.Call (.Attribute o m apos) (e::es) [] pos) (lX (m8 (qC X.prog X.w X.K X.mg X.base n m) m to ta)):=by
 intro pins s σ H Q Z I hz zz
 obtain⟨B,F,δ,Qd,Zd,c,q,k,kx⟩:=zz
 refine PySem.W.methodCall_KW (pl:=pl) (aB (ho pins s σ H (λx H1=>∃d ai F1,S F1 H1 [d] [x]/\aj B F1 H1 σ ai []/\ae F F1/\ae H H1/\∃C ns xs sp,d=.obj C ns xs/\qC X.prog X.w X.K X.mg X.base n m C sp/\m ∉ ns/\ta ai λds aG=>sp ((D.obj C ns xs::ds).map D.sh) (λr=>((D.obj C ns xs::ds).all D.pl||r.fr)=true/\Qd r aG) λC=>Zd C aG) I
  ⟨B,F,δ,[],_,c,q,λd ai v F1 H1 hq f1 h1 c1 s1=>⟨d,ai,F1,s1,c1,f1,h1,hq⟩⟩) λu s1 ⟨x,H1,I1,rx,d,ai,F1,sd,c1,f1,h1,C,ns,xs,sp,ed,M,hm,hq⟩=>?_) ht
 subst ed
 obtain⟨a,dx,ws,rfl,ea,hl,r0⟩:=Aa sd
 obtain rfl:u=dr a:=rx
 obtain⟨f,fd,ps,mW,FO,hb⟩:=M.ex
 refine y9 I1 ea M.cls mW (EM hm) ?_
 refine PySem.W.callWith_K (first:=[.ref a]) (h₀:=X.base) I.ok.mod.jn mW.kp (aB (ha pos pins s1 σ H1 (λvs H2=>∃ds aG F2,S F2 H2 ds vs/\aj B F2 H2 σ aG []/\ae F1 F2/\ae H1 H2/\sp ((D.obj C ns xs::ds).map D.sh) (λr=>((D.obj C ns xs::ds).all D.pl||r.fr)=true/\Qd r aG) λC=>Zd C aG) I1
  ⟨B,F1,ai,[],_,c1,hq,λds aG vs F2 H2 hq f2 h2 c2 s2=>⟨ds,aG,F2,s2,c2,f2,h2,hq⟩⟩) λus s2 ⟨vs,H2,I2,r,ds,aG,F2,xh,c2,f2,h2,fv⟩=>⟨I2.cE,?_⟩) cn bu
 refine YU (us:=.ref a::us) (vs:=.ref a::vs) (E:=λcls _ H'=>Z cls H') FO hr hb hex I2 (.cons rfl r) ?_ λa T cls H' s' I' tr pa pT hE=>hz a T cls H' s' I' tr pa pT hE
 exact YV c2 (.obj (h2 _ _ ea) hl (r0.shared f2 h2) xh) fv (λd v F' H' hd hf hs c'=>k d aG v F' H' hd (f1.trans (f2.trans hf)) (h1.trans (h2.trans hs)) c') λC H' hC hs=>kx C aG F2 H' hC (f1.trans f2) (h1.trans (h2.trans hs)) (c2.grow hs)
noncomputable def m9(MO:Addr->jI->Prop)(m:Str)(to:aC)(ta:bW):aC:=λδ Q=>to δ λd ai=>∃C ns xs sp,d=.obj C ns xs/\MO C sp/\m ∉ ns/\ta ai λds aG=>sp ((D.obj C ns xs::ds).map D.sh) (λr=>((D.obj C ns xs::ds).all D.pl||r.fr)=true/\Q r aG) λ_=>False
theorem η{pl:Sem Bool}(ho:PE X o (lB to))(hr:bE n X.A)(ha:PA X (e::es) (lA ta))
  (cn:starEach (e::es) X.env=(false,eval e X.env)::starEach es X.env:=by rfl) (bu:(backTo pos (starEach es X.env)).any (·.1)=false:=by rfl)
  (ht:eval (.Call (.Attribute o m apos) (e::es) [] pos) X.env=(do
   let ov<-eval o X.env
   standAt apos.atName
   let (f,first)<-holding [ov] (getMethod ov m pl)
   callWith pos f first (backTo pos (starEach (e::es) X.env)) (backToKw pos (keywordEach [] X.env))):=by rfl) :
  PE X (.Call (.Attribute o m apos) (e::es) [] pos) (lE (m9 (qC X.prog X.w X.K X.mg X.base n m) m to ta)):=by
 intro pins s σ H Q I zz
 obtain⟨B,F,δ,ts,Qd,c,q,k⟩:=zz
 refine PySem.W.methodCall_KW (pl:=pl) (aB (ho pins s σ H (λx H1=>∃d ai F1,S F1 H1 [d] [x]/\aj B F1 H1 σ ai ts/\ae F F1/\ae H H1/\∃C ns xs sp,d=.obj C ns xs/\qC X.prog X.w X.K X.mg X.base n m C sp/\m ∉ ns/\ta ai λds aG=>sp ((D.obj C ns xs::ds).map D.sh) (λr=>((D.obj C ns xs::ds).all D.pl||r.fr)=true/\Qd r aG) λ_=>False) I
  ⟨B,F,δ,ts,_,c,q,λd ai v F1 H1 hq f1 h1 c1 s1=>⟨d,ai,F1,s1,c1,f1,h1,hq⟩⟩) λu s1 ⟨x,H1,I1,rx,d,ai,F1,sd,c1,f1,h1,C,ns,xs,sp,ed,M,hm,hq⟩=>?_) ht
 subst ed
 obtain⟨a,dx,ws,rfl,ea,hl,r0⟩:=Aa sd
 obtain rfl:u=dr a:=rx
 obtain⟨f,fd,ps,mW,FO,hb⟩:=M.ex
 refine y9 I1 ea M.cls mW (EM hm) ?_
 refine PySem.W.callWith_K (first:=[.ref a]) (h₀:=X.base) I.ok.mod.jn mW.kp (aB (ha pos pins s1 σ H1 (λvs H2=>∃ds aG F2,S F2 H2 ds vs/\aj B F2 H2 σ aG ts/\ae F1 F2/\ae H1 H2/\sp ((D.obj C ns xs::ds).map D.sh) (λr=>((D.obj C ns xs::ds).all D.pl||r.fr)=true/\Qd r aG) λ_=>False) I1
  ⟨B,F1,ai,ts,_,c1,hq,λds aG vs F2 H2 hq f2 h2 c2 s2=>⟨ds,aG,F2,s2,c2,f2,h2,hq⟩⟩) λus s2 ⟨vs,H2,I2,r,ds,aG,F2,xh,c2,f2,h2,fv⟩=>⟨I2.cE,?_⟩) cn bu
 refine zd (us:=.ref a::us) (vs:=.ref a::vs) (dZ:=[]) (zN FO) hr hb .nil zM I2 (.cons rfl r) ?_
 rw[iF]
 exact zw (sp:=λds Q=>sp ds Q λ_=>False) c2 (.obj (h2 _ _ ea) hl (r0.shared f2 h2) xh) fv λd v F' H' hd hf hs c'=>k d aG v F' H' hd (f1.trans (f2.trans hf)) (h1.trans (h2.trans hs)) c'
end
section
variable{X:Cx}{tb th:cA}{body Y3:List Stmt}{Y4:Stmt}{K:Str}{Kc:Addr}{kp Y5 pos:Pos}
end
structure O9(K:PySem.W.Frag)(C:Addr):Prop where
 cls:dk K C
 ha:PySem.W.findIn K (.ref C) "__class__"=some (some (.builtin "object.__class__"))
 hn:PySem.W.specialIn K (.builtin "object.__class__") "__get__"=some (some (.builtin "getset_descriptor.__get__"))
 De:PySem.W.takesIn K (.builtin "object.__class__")=some true
 hm:PySem.W.mroIn K C (.type "object")=some true
end L3
namespace L3
open PySem L2 Mf
theorem Pa{m:Bool × Nat}(hm:m∈aK){a b:Nat}(a1:1<=a)(a2:a<af m)(b1:1<=b)(b2:b<af m):∃r:Nat,pw m ((lg m a-lg m b)%((af m:Int)-1)).toNat=r/\r<af m/\gm m r b=a:=by
 have hF:=cC hm
 have ff:=hF.lo
 have n0:=ji (lg m a-lg m b) (show(af m:Int)-1≠0 by omega)
 have n1:=jj (lg m a-lg m b) (show(0:Int)<(af m:Int)-1 by omega)
 obtain⟨p1,p2,p3⟩:=ET hm (k:=((lg m a-lg m b)%((af m:Int)-1)).toNat) (by omega)
 obtain⟨g0,g1,g2⟩:=EU hm a1 a2
 refine⟨(pw m ((lg m a-lg m b)%((af m:Int)-1)).toNat).toNat,by omega,by omega,?_⟩
 have e:=O6 hm (a:=(pw m ((lg m a-lg m b)%((af m:Int)-1)).toNat).toNat) (by omega) (by omega) b1 b2
 rw[p3,yH n0,Int.emod_add_emod,Int.sub_add_cancel,Int.emod_eq_of_lt g0 g1,g2]at e
 omega
end L3
namespace L3
open PySem L2 PySem.Spec PyProof.Rows
section
variable{X:Cx}{e o a:Expr}{es:List Expr}{f m y:Str}{pos p apos q:Pos}{t to ta':aC}{ta:bW}{n:Nat}{P:Program}{w:World}{K:PySem.W.Frag}{mg:Str->Option Value}{base:Heap}
theorem iA(he:PE X e (lB t))(hK:K=X.K:=by rfl)(hb:attributeBase e f X.env (eval e X.env)=eval e X.env:=by rfl):PE X (.Attribute e f pos) (lB (mT K t f)):=by
 subst hK;exact ZS he hb
theorem tU{pl:Sem Bool}(ho:PE X o (lB to))(hr:bE n X.A)(ha:PA X (e::es) (lA ta))(hP:P=X.prog:=by rfl)(hw:w=X.w:=by rfl)(hK:K=X.K:=by rfl)(hm:mg=X.mg:=by rfl)(hb:base=X.base:=by rfl)
  (cn:starEach (e::es) X.env=(false,eval e X.env)::starEach es X.env:=by rfl) (bu:(backTo pos (starEach es X.env)).any (·.1)=false:=by rfl)
  (ht:eval (.Call (.Attribute o m apos) (e::es) [] pos) X.env=(do
   let ov<-eval o X.env
   standAt apos.atName
   let (f,first)<-holding [ov] (getMethod ov m pl)
   callWith pos f first (backTo pos (starEach (e::es) X.env)) (backToKw pos (keywordEach [] X.env))):=by rfl) :
  PE X (.Call (.Attribute o m apos) (e::es) [] pos) (lE (mV (mU P w K mg base n m) m to ta)):=by
 subst hP hw hK hm hb;exact ZT ho hr ha cn bu ht
theorem θ{pl:Sem Bool}(ho:PE X o (lB to))(hr:bE n X.A)(ha:PA X (e::es) (lA ta))(hP:P=X.prog:=by rfl)(hw:w=X.w:=by rfl)(hK:K=X.K:=by rfl)(hm:mg=X.mg:=by rfl)(hb:base=X.base:=by rfl)
  (cn:starEach (e::es) X.env=(false,eval e X.env)::starEach es X.env:=by rfl) (bu:(backTo pos (starEach es X.env)).any (·.1)=false:=by rfl)
  (ht:eval (.Call (.Attribute o m apos) (e::es) [] pos) X.env=(do
   let ov<-eval o X.env
   standAt apos.atName
   let (f,first)<-holding [ov] (getMethod ov m pl)
   callWith pos f first (backTo pos (starEach (e::es) X.env)) (backToKw pos (keywordEach [] X.env))):=by rfl) :
  PE X (.Call (.Attribute o m apos) (e::es) [] pos) (lE (m9 (qC P w K mg base n m) m to ta)):=by
 subst hP hw hK hm hb;exact η ho hr ha cn bu ht
theorem ι{pl:Sem Bool}(ho:PE X o (lB to))(hr:bE n X.A)(hex:X.ex=[])(ha:PA X (e::es) (lA ta))(hP:P=X.prog:=by rfl)(hw:w=X.w:=by rfl)(hK:K=X.K:=by rfl)(hm:mg=X.mg:=by rfl)(hb:base=X.base:=by rfl)
  (cn:starEach (e::es) X.env=(false,eval e X.env)::starEach es X.env:=by rfl) (bu:(backTo pos (starEach es X.env)).any (·.1)=false:=by rfl)
  (ht:eval (.Call (.Attribute o m apos) (e::es) [] pos) X.env=(do
   let ov<-eval o X.env
   standAt apos.atName
   let (f,first)<-holding [ov] (getMethod ov m pl)
   callWith pos f first (backTo pos (starEach (e::es) X.env)) (backToKw pos (keywordEach [] X.env))):=by rfl) :
  PX X (.Call (.Attribute o m apos) (e::es) [] pos) (lX (m8 (qC P w K mg base n m) m to ta)):=by
 subst hP hw hK hm hb;exact ζ ho hr hex ha cn bu ht
end
theorem μ:∀m∈Mf.aK,1<=Mf.bl m.2/\Mf.bl m.2<=7:=by decide +kernel
end L3
namespace L3
open PySem L2 Mf
noncomputable def gp(m:Bool × Nat)(a b:Nat):Nat:=if m.1 then a ^^^ b else(a+b)%m.2
noncomputable def gl(m:Bool × Nat)(a b:Nat):Int:=if m.1 then(a ^^^ b:Nat)else((a:Int)-b)%m.2
noncomputable def gd(m:Bool × Nat)(xs ys:List Nat):Nat:=(jh (gm m) xs ys).foldl (gp m) 0
noncomputable def nh(c:Int):Bool × Nat:=if c%2=0 then(true,fi.getD (c/2%21).toNat 0)else(false,kM.getD (c/2%18).toNat 0)
theorem ν(c:Int):nh c∈aK:=by
 unfold nh
 split
 ·refine fO _ (iJ.mpr ⟨_,?_,rfl⟩)
  have h:(c/2%21).toNat<fi.length:=by
   have:=jj (c/2) (show(0:Int)<21 by decide)
   show _<21
   omega
  rw[aU,bc h]
  exact iq _
 ·refine eP _ (iJ.mpr ⟨_,?_,rfl⟩)
  have h:(c/2%18).toNat<kM.length:=by
   have:=jj (c/2) (show(0:Int)<18 by decide)
   show _<18
   omega
  rw[aU,bc h]
  exact iq _
noncomputable def cW(m:Bool × Nat):D:=.tup [.bl m.1,.int m.2]
theorem tV(cb cp:Addr)(m:Bool × Nat):fD cb cp m=.obj (if m.1 then cb else cp) (if m.1 then fK "bits"++[("products":Str)]else fK "prime") (if m.1 then pD (true,m.2)++[.lst false (tS (fl (true,m.2)) (dq (fl (true,m.2))))]else pD (false,m.2)):=by
 obtain⟨k,n⟩:=m
 cases k<;>rfl
theorem Pb(m:Bool × Nat)(x:Str)(h:x ∉ (["bits","prime","many","wide","powers","logs","step","products"]:List Str)):x ∉ (if m.1 then fK "bits"++[("products":Str)]else fK "prime"):=by
 obtain⟨k,n⟩:=m
 intro z
 apply h
 cases k
 ·have z:x∈fK "prime":=z
  simp[fK]at z
  simp only[bM]
  rcases z with z | z | z | z | z | z<;>simp[z]
 ·have z:x∈fK "bits"++[("products":Str)]:=z
  simp[fK]at z
  simp only[bM]
  rcases z with z | z | z | z | z | z | z<;>simp[z]
theorem ξ(cb cp:Addr)(m:Bool × Nat):(fD cb cp m).sh=fD cb cp m:=by rw[tV];rfl
theorem ο(cb cp:Addr)(m:Bool × Nat):(fD cb cp m).pl=true:=by rw[tV];rfl
theorem π(m:Bool × Nat):(cW m).sh=cW m:=rfl
theorem ρ(m:Bool × Nat):(cW m).pl=true:=rfl
noncomputable def Pc(P:Program)(w:World)(K:PySem.W.Frag)(mg:Str->Option Value)(base:Heap)(n:Nat)(cb cp:Addr)(m:Bool × Nat)(x:Str)(ds:List D)(Q:D->Prop):Prop:=∃C ns xs sp,fD cb cp m=.obj C ns xs/\mU P w K mg base n x C sp/\x ∉ ns/\sp (.obj C ns xs::ds) Q
theorem xv(m:Bool × Nat)(a b:Nat):gp m a b=gp m b a:=by
 unfold gp
 split
 ·rw[La]
 ·rw[Ca]
theorem Ah(m:Bool × Nat)(a b c:Nat):gp m (gp m a b) c=gp m a (gp m b c):=by
 unfold gp
 split
 ·rw[nK]
 ·rw[Cu,Nat.add_mod_mod,Nat.add_assoc]
theorem τ{m:Bool × Nat}(h:0<m.2)(a b c:Nat):gm m (gp m a b) c=gp m (gm m a c) (gm m b c):=by
 unfold gm gp
 split
 ·rw[lV,Ag (by omega)]
 ·rw[vE,Ln,<- vE,Nat.add_mul,Cu,Nat.add_mod_mod]
theorem υ{m:Bool × Nat}(h:0<m.2)(a b c:Nat):gm m c (gp m a b)=gp m (gm m c a) (gm m c b):=by rw[tT,τ h,tT m a,tT m b]
theorem χ:∀m∈aK,m.1=true->2<=bl m.2:=by decide +kernel
theorem xw{m:Bool × Nat}(hm:m∈aK){a b:Nat}(ha:a<af m)(hb:b<af m):gp m a b<af m:=by
 have h0:=dR m hm
 obtain⟨k,n⟩:=m
 cases k with
 | true=>exact rQ ha hb
 | false=>exact vF _ h0
theorem i9{m:Bool × Nat}(hm:m∈aK)(a b:Nat):gm m a b<af m:=by
 have h0:=dR m hm
 obtain⟨k,n⟩:=m
 cases k with
 | true =>
  have h2:=χ (true,n) hm rfl
  have:=(wq (show n≠0 by have:0<n:=h0;omega) (cl a b)).2
  refine(O0 rfl).mpr ?_
  show bl (md (cl a b) n)<=bl n-1
  omega
 | false=>exact vF _ h0
theorem jM{m:Bool × Nat}{a:Nat}(ha:a<af m):gp m 0 a=a:=by
 obtain⟨k,n⟩:=m
 cases k with
 | true=>exact kZ a
 | false=>show(0+a)%n=a;rw[Lo];exact yG ha
theorem xx{m:Bool × Nat}{a:Nat}(ha:a<af m):gp m a 0=a:=by rw[xv];exact jM ha
theorem ω{m:Bool × Nat}(hm:m∈aK){a b:Nat}(ha:a<af m)(hb:b<af m):∃r:Nat,gl m a b=r/\r<af m/\gp m r b=a:=by
 have h0:=dR m hm
 obtain⟨k,n⟩:=m
 cases k with
 | true=>exact⟨a ^^^ b,rfl,rQ ha hb,by show a ^^^ b ^^^ b=a;rw[nK,yB,iG]⟩
 | false =>
  have h0:0<n:=h0
  have ha:a<n:=ha
  have hb:b<n:=hb
  refine⟨(a+(n-b))%n,?_,vF _ h0,?_⟩
  ·show((a:Int)-b)%n=_
   rw[lF,Cv,Int.natCast_sub (by omega),show((a:Int)+((n:Int)-b))=((a:Int)-b)+n by omega,Int.add_emod_right]
  ·show((a+(n-b))%n+b)%n=a
   rw[Cu,show a+(n-b)+b=a+n by omega,Nat.add_mod_right,yG ha]
end L3
namespace L2
open PySem PySem.Spec PyProof.Rows
section
variable{X:Cx}{a:Expr}{ta:TA}{p pos:Pos}{tg:Expr}
end
end L2
namespace L3
open PySem L2 PySem.Spec PyProof.Rows
section
variable{F H:Hp}{K:PySem.W.Frag}{p:Addr}{ws:List V}{xs:List D}
end
section
variable{X:Cx}{a:Expr}{ta:bW}{p pos:Pos}{tg:Expr}
end
end L3
namespace L3
open PySem L2 Mf
noncomputable def aH(l:List Nat):List Nat:=(l.reverse.dropWhile (·==0)).reverse
theorem xy{l:List Nat}{k:Nat}(hk:k<=l.length)(hz:∀x∈l.drop k,x=0)(hn:k=0\/l.getD (k-1) 0≠0):aH l=l.take k:=by
 unfold aH
 conv=>lhs;rw[<-List.take_append_drop k l]
 rw[To,List.dropWhile_append_of_pos (λa ha=>by simp[hz a (List.mem_reverse.mp ha)])]
 rcases hn with rfl | hn
 ·simp
 ·by_cases h0:k=0
  ·subst h0;simp
  ·have e:l.take k=l.take (k-1)++[l.getD (k-1) 0]:=by
    conv=>lhs;rw[show k=k-1+1 by omega]
    rw[Co,aU,bc (by omega)];rfl
   rw[e,To]
   generalize l.getD (k-1) 0=v at hn
   simp[List.dropWhile_cons,hn]
theorem Ai(l:List Nat):∃k,k<=l.length/\(∀x∈l.drop k,x=0)/\(k=0\/l.getD (k-1) 0≠0)/\aH l=l.take k:=by
 have:∀n,n<=l.length->(∀x∈l.drop n,x=0)->∃k,k<=l.length/\(∀x∈l.drop k,x=0)/\(k=0\/l.getD (k-1) 0≠0):=by
  intro n
  induction n with
  | zero=>exact λh1 h2=>⟨0,h1,h2,.inl rfl⟩
  | succ n ih =>
   intro h1 h2
   by_cases h:l.getD n 0=0
   ·refine ih (by omega) λx hx=>?_
    rw[Tp (by omega)]at hx
    rcases bM.mp hx with hx | hx
    ·rw[hx]
     rw[aU,bc (by omega)]at h
     exact h
    ·exact h2 x hx
   ·exact⟨n+1,h1,h2,.inr h⟩
 obtain⟨k,h1,h2,h3⟩:=this l.length (aX _) (by simp)
 exact⟨k,h1,h2,h3,xy h1 h2 h3⟩
theorem qD{l:List Nat}{x:Nat}(h:x∈aH l):x∈l:=by
 obtain⟨k,_,_,_,e⟩:=Ai l
 rw[e]at h
 exact vB h
theorem qE(l:List Nat):(aH l).length<=l.length:=by
 obtain⟨k,_,_,_,e⟩:=Ai l
 rw[e,gu];omega
theorem tW(l:List Nat):(aH l).length=0\/(aH l).getD ((aH l).length-1) 0≠0:=by
 obtain⟨k,h1,_,h3,e⟩:=Ai l
 rw[e,gu,rz h1]
 rcases h3 with h3 | h3
 ·exact .inl h3
 ·by_cases h0:k=0
  ·exact .inl h0
  ·right
   rw[aU]at h3 ⊢
   rw[vC,if_pos (by omega)]
   exact h3
noncomputable def px(m:Bool × Nat)(x:Nat):Nat->Nat
 | 0=>1
 | k+1=>gm m (px m x k) x
noncomputable def jN(m:Bool × Nat)(t:List Nat)(k v:Nat):List Nat:=t.set k (gp m (t.getD k 0) v)
noncomputable def ef(m:Bool × Nat)(x:Nat):List Nat->Nat->List Nat->List Nat
 | t,_,[]=>t
 | t,i,y::b=>ef m x (jN m t i (gm m x y)) (i+1) b
noncomputable def fL(m:Bool × Nat)(b:List Nat):List Nat->Nat->List Nat->List Nat
 | t,_,[]=>t
 | t,i,x::a=>fL m b (ef m x t i b) (i+1) a
noncomputable def qF(m:Bool × Nat)(a b:List Nat):List Nat:=fL m b (aN (a.length+b.length) 0) 0 a
noncomputable def iB(m:Bool × Nat)(a b:List Nat):List Nat:=aH (qF m a b)
theorem Pd(m:Bool × Nat)(x:Nat):∀(b c t:List Nat) (i:Nat),ef m x t i (b++c)=ef m x (ef m x t i b) (i+b.length) c
 | [],c,t,i=>rfl
 | y::b,c,t,i=>by
  show ef m x (jN m t i (gm m x y)) (i+1) (b++c)=_
  rw[Pd m x b c,fq,show i+1+b.length=i+(b.length+1) by omega];rfl
theorem Pe(m:Bool × Nat)(x:Nat)(b t:List Nat)(i:Nat){j:Nat}(hj:j<b.length):ef m x t i (b.take (j+1))=jN m (ef m x t i (b.take j)) (i+j) (gm m x b[j]):=by
 rw[Co,bc hj,Pd,gu,rz (by omega)];rfl
theorem Pf(m:Bool × Nat)(b:List Nat):∀(a c t:List Nat) (i:Nat),fL m b t i (a++c)=fL m b (fL m b t i a) (i+a.length) c
 | [],c,t,i=>rfl
 | y::a,c,t,i=>by
  show fL m b (ef m y t i b) (i+1) (a++c)=_
  rw[Pf m b a c,fq,show i+1+a.length=i+(a.length+1) by omega];rfl
theorem Pg(m:Bool × Nat)(b a t:List Nat)(i:Nat){j:Nat}(hj:j<a.length):fL m b t i (a.take (j+1))=ef m a[j] (fL m b t i (a.take j)) (i+j) b:=by
 rw[Co,bc hj,Pf,gu,rz (by omega)];rfl
theorem Ph(m:Bool × Nat)(t:List Nat)(k v:Nat):(jN m t k v).length=t.length:=by unfold jN;rw[B9]
theorem xA(m:Bool × Nat)(x:Nat):∀(b t:List Nat) (i:Nat),(ef m x t i b).length=t.length
 | [],t,i=>rfl
 | y::b,t,i=>(xA m x b _ _).trans (Ph m t i _)
theorem Aj(m:Bool × Nat)(b:List Nat):∀(a t:List Nat) (i:Nat),(fL m b t i a).length=t.length
 | [],t,i=>rfl
 | y::a,t,i=>(Aj m b a _ _).trans (xA m y b t i)
noncomputable def AllLt(n:Nat)(l:List Nat):Prop:=∀a∈l,a<n
theorem AllLt.getD{n:Nat}{l:List Nat}(h:AllLt n l)(h0:0<n)(k:Nat):l.getD k 0<n:=by
 rw[aU]
 cases e:l[k]? with
 | none=>exact h0
 | some v=>exact h v (vy e)
theorem Pj{m:Bool × Nat}(hm:m∈aK){t:List Nat}(ht:AllLt (af m) t){k v:Nat}(hv:v<af m):AllLt (af m) (jN m t k v):=λa ha=>by
 unfold jN at ha
 have ff:=(cC hm).lo
 rcases Ct ha with h | h
 ·exact ht a h
 ·rw[h];exact xw hm (ht.getD (by omega) k) hv
theorem xB{m:Bool × Nat}(hm:m∈aK)(x:Nat):∀(b t:List Nat) (i:Nat),AllLt (af m) t->AllLt (af m) (ef m x t i b)
 | [],t,i,h=>h
 | y::b,t,i,h=>xB hm x b _ _ (Pj hm h (i9 hm _ _))
theorem Ak{m:Bool × Nat}(hm:m∈aK)(b:List Nat):∀(a t:List Nat) (i:Nat),AllLt (af m) t->AllLt (af m) (fL m b t i a)
 | [],t,i,h=>h
 | y::a,t,i,h=>Ak hm b a _ _ (xB hm y b t i h)
theorem ni{m:Bool × Nat}(hm:m∈aK)(n:Nat):AllLt (af m) (aN n 0):=λa ha=>by
 have ff:=(cC hm).lo
 rw[(Li.mp ha).2];omega
theorem Γ{m:Bool × Nat}(hm:m∈aK)(a b:List Nat):AllLt (af m) (qF m a b):=Ak hm b a _ 0 (ni hm _)
theorem EX(m:Bool × Nat)(a b:List Nat):(qF m a b).length=a.length+b.length:=by unfold qF;rw[Aj,fP]
theorem xC{m:Bool × Nat}(hm:m∈aK)(a b:List Nat):AllLt (af m) (iB m a b):=λx hx=>Γ hm a b x (qD hx)
theorem xD(m:Bool × Nat)(a b:List Nat):(iB m a b).length<=a.length+b.length:=dY (qE _) (K7 (EX m a b))
end L3
namespace L3
open PySem L2 PySem.Spec PyProof.Rows
theorem Δ(n:Nat)(l:List Nat):(ak l).all (aI n)=true:=by
 rw[eX,yE,dU]
 intro a _
 exact mO n _
theorem Al(n:Nat)(o:Bool)(l:List Nat):aI (n+1) (.lst o (ak l))=true:=Δ n l
theorem kO(o o':Bool)(a b:List Nat):bF (.lst o (ak a)) (.lst o' (ak b))=decide (a=b):=by
 unfold ak
 rw[qa]
 congr 1
 apply propext
 constructor
 ·intro h
  have:=congrArg (Cq Int.toNat) h
  have e:(Int.toNat ∘ λ(n:Nat)=>(n:Int))=id:=by funext x;rfl
  rw[gv,gv,e,List.map_id,List.map_id]at this
  exact this
 ·intro h;rw[h]
theorem xE{l:List Nat}{k:Int}(h0:0<=k)(h:k.toNat<l.length):dm (ak l) k=some (.int ((l.getD k.toNat 0:Nat):Int)):=by
 refine lN h0 ?_
 rw[eX,eZ,bc h,aU,bc h];rfl
theorem tX{l:List Nat}(h:0<l.length):dm (ak l) (-1)=some (.int ((l.getD (l.length-1) 0:Nat):Int)):=by
 unfold ak
 rw[YT (by rw[dS];exact h),dS]
 congr 2
 rw[aU,aU,eZ]
 cases l[l.length-1]?<;>rfl
theorem xF{n:Nat}{k:Int}(h0:0<=k)(h:k.toNat<n):gZ n k=some k.toNat:=by
 unfold gZ
 rw[if_pos h0,if_pos (by omega)]
theorem Pk{n:Nat}(k:Int)(h:k=n):(((bL k.toNat).map λ(k:Nat)=>D.int (0+(k:Int))).map D.sh)=(bL n).map λ(i:Nat)=>D.int (i:Int):=by
 subst h
 rw[r6,jW]
 simp
theorem xG{n nn:Nat}{k:Int}(h:k=n)(hn:n<=1000000){δ:Dl}{Q:D->Dl->Prop}(q:Q (.lst true (ak (aN n 0))) δ):r9 true ((bL k.toNat).map λ(k:Nat)=>D.int (0+(k:Int))) [] nn (gN 0) iy (dC (D.int 0)) δ Q:=by
 refine i7 (bL n) (λ(i:Nat)=>D.int (i:Int)) (λ_=>D.int ((0:Nat):Int)) (Pk _ h) tL (λk hk=>?_) (.inr λ_ _=>rfl) (by rw[lu,sL];omega) ?_
 ·exact rfl
 ·rw[show((bL n).map λ_=>D.int ((0:Nat):Int))=ak (aN n 0) by rw[eX,rB,List.map_const',lu]]
  exact q
theorem Pl{l:List Nat}{k:Nat}(h1:0<k)(hk:k<=l.length)(hz:∀x∈l.drop k,x=0)(h0:l.getD (k-1) 0=0):∀x∈l.drop (k-1),x=0:=by
 intro x hx
 rw[Tp (by omega)]at hx
 rcases bM.mp hx with hx | hx
 ·rw[hx]
  rw[aU,bc (by omega)]at h0
  exact h0
 ·rw[show k-1+1=k by omega]at hx
  exact hz x hx
theorem Am(l:List Nat)(k v:Nat):(ak l).set k (.int (v:Nat))=ak (l.set k v):=by
 rw[eX,eX,List.map_set]
theorem EY(l:List Nat):(ak l).all D.fr=true:=mL _
theorem fM(o:Bool)(l:List Nat):(D.lst o (ak l)).sh=.lst false (ak l):=by rw[fE,qp]
theorem eO(l:List Nat):(D.lst true (ak l)).fr=true:=by rw[fC,EY];rfl
theorem Θ{xs:List D}{i:Nat}{d:D}(h:(fH xs)[i]?=some d):∃hi:i<xs.length,d=.tup [.int i,xs[i]]:=by
 have hi:i<(fH xs).length:=(jU.mp h).1
 rw[kI]at hi
 refine⟨hi,?_⟩
 unfold fH at h
 rw[Lm,bc hi]at h
 exact(dw h).symm
theorem An{l:List Nat}{i:Nat}{d:D}(h:(fH (ak l))[i]?=some d):∃hi:i<l.length,d=.tup [.int i,.int (l[i]:Nat)]:=by
 obtain⟨hi,e⟩:=Θ h
 rw[cM]at hi
 refine⟨hi,?_⟩
 rw[e]
 simp only[eX,List.getElem_map]
section
variable{X:Cx}
end
end L3
namespace L3
open PySem L2 Mf
noncomputable def de(m:Bool × Nat)(a b:Nat):Nat:=(gl m a b).toNat
theorem jO{m:Bool × Nat}(hm:m∈aK){a b:Nat}(ha:a<af m)(hb:b<af m):gl m a b=(de m a b:Nat)/\de m a b<af m/\gp m (de m a b) b=a:=by
 obtain⟨r,e,h1,h2⟩:=ω hm ha hb
 have:de m a b=r:=by unfold de;rw[e];rfl
 rw[this]
 exact⟨e,h1,h2⟩
noncomputable def gj(l:List Nat)(n:Nat):List Nat:=l++aN (n-l.length) 0
theorem nj{l:List Nat}{n:Nat}(h:l.length<=n):(gj l n).length=n:=by unfold gj;rw[jg,fP];omega
theorem Ao{m:Bool × Nat}(hm:m∈aK){l:List Nat}(h:AllLt (af m) l)(n:Nat):AllLt (af m) (gj l n):=λa ha=>by
 rcases eA.mp ha with ha | ha
 ·exact h a ha
 ·exact ni hm _ a ha
noncomputable def gR(f:Nat->Nat->Nat)(a b:List Nat):List Nat:=jh f (gj a (max a.length b.length)) (gj b (max a.length b.length))
theorem Ap(f:Nat->Nat->Nat)(a b:List Nat):(gR f a b).length=max a.length b.length:=by
 unfold gR
 rw[Cy,nj (yI _ _),nj (Lp _ _),Nat.min_self]
theorem EZ{n:Nat}{f:Nat->Nat->Nat}:∀{a b:List Nat},(∀x∈a,∀y∈b,f x y<n)->AllLt n (jh f a b)
 | [],_,_=>by intro x hx;simp at hx
 | _::_,[],_=>by intro x hx;simp at hx
 | x::a,y::b,h=>by
  intro z hz
  rw[Tq]at hz
  rcases bM.mp hz with rfl | hz
  ·exact h x (by simp) y (by simp)
  ·exact EZ (λx hx y hy=>h x (by simp[hx]) y (by simp[hy])) z hz
theorem Λ{m:Bool × Nat}(hm:m∈aK){a b:List Nat}(ha:AllLt (af m) a)(hb:AllLt (af m) b):AllLt (af m) (gR (de m) a b):=EZ λx hx y hy=>(jO hm (Ao hm ha _ x hx) (Ao hm hb _ y hy)).2.1
theorem Ξ(xs ys:List Nat):(eI (ak xs) (ak ys)).map D.sh=(xs.zip ys).map λz=>D.tup [.int (z.1:Int),.int (z.2:Int)]:=by
 unfold ak
 rw[Z9,List.zip_map,gv];rfl
theorem Aq{sh:Bool}{av:List (Str × Nat)}{n i1 i2:Nat}{te:aC}{ai:Dl}{Q:D->Dl->Prop}(f:Nat->Nat->Nat){A B:List Nat}(hx:∀x∈A,∀y∈B,ia i1 i2 (.tup [.int (x:Int),.int (y:Int)]) (eM av n ai) λaG=>te aG λd _=>d=.int ((f x y:Nat):Int))
  (hl:A.length<=100000) (hq:Q (.lst true (ak (jh f A B))) ai):r9 sh (eI (ak A) (ak B)) av n (ia i1 i2) iy te ai Q:=by
 refine O7 (A.zip B) (λz=>D.tup [.int (z.1:Int),.int (z.2:Int)]) (λz=>D.int ((f z.1 z.2:Nat):Int)) (Ξ A B) (λa b h=>?_) (λz hz=>hx z.1 (yv hz).1 z.2 (yv hz).2) O8 (.inr λ_ _=>rfl) (by rw[List.length_zip,sL];omega) ?_
 ·injection h with h
  simp at h
  exact Prod.ext (by omega) (by omega)
 ·rw[show((A.zip B).map λz=>D.int ((f z.1 z.2:Nat):Int))=ak (jh f A B) by rw[eX,List.zip,Cr,Cr]]
  exact hq
end L3
namespace L3
open PySem L2 PySem.Spec PyProof.Rows
section
variable{X:Cx}{a b:Expr}{ta tb:aC}{pos:Pos}
end
theorem Φ{a b:List Nat}(h:ak a=ak b):a=b:=by
 have:=kO true true a b
 rw[h,show bF (D.lst true (ak b)) (D.lst true (ak b))=true from(kO _ _ _ _).trans (decide_eq_true rfl)]at this
 exact of_decide_eq_true this.symm
theorem Ar{o:Bool}(a b:List Nat)(h:D.lst o (ak a)=D.lst o (ak b)):a=b:=Φ (by injection h)
end L3
namespace L3
open PySem L2 Mf
end L3
namespace L2
open PySem PySem.Spec PyProof.Rows
end L2
namespace L3
open PySem L2 PySem.Spec PyProof.Rows Mf
end L3
namespace L3
open PySem L2 Mf
noncomputable def cf(l:List Nat)(k:Nat):Nat:=l.getD k 0
theorem cR{l:List Nat}{k:Nat}(h:l.length<=k):cf l k=0:=by
 unfold cf;rw[aU,nU h];rfl
theorem bx{m:Bool × Nat}(hm:m∈aK){l:List Nat}(h:AllLt (af m) l)(k:Nat):cf l k<af m:=h.getD (by have:=(cC hm).lo;omega) k
theorem Pm(a:Nat)(l:List Nat)(k:Nat):cf (a::l) (k+1)=cf l k:=rfl
theorem Ψ(l:List Nat)(n k:Nat):cf (l.take n) k=if k<n then cf l k else 0:=by
 unfold cf
 rw[aU,vC]
 split
 ·rw[aU]
 ·rfl
theorem fj(l:List Nat)(k:Nat):cf (aH l) k=cf l k:=by
 obtain⟨n,h1,h2,_,e⟩:=Ai l
 rw[e,Ψ]
 split
 ·rfl
 ·rename_i h
  symm
  by_cases hk:k<l.length
  ·have Ω:k-n<(l.drop n).length:=by rw[jX];omega
   have:=h2 _ (iq Ω)
   rw[List.getElem_drop]at this
   unfold cf
   rw[aU,bc hk]
   simp only[show n+(k-n)=k by omega]at this
   exact this
  ·exact cR (by omega)
theorem xH{l l':List Nat}(h:∀k,cf l k=cf l' k):aH l=aH l':=by
 have key:∀{l l':List Nat},(∀k,cf l k=cf l' k)->(aH l).length<=(aH l').length:=λ{l l'} h=>by
  rcases tW l with h0 | h0
  ·omega
  ·have e:cf (aH l') ((aH l).length-1)≠0:=by
    rw[fj,<- h,<- fj];exact h0
   apply Ta
   intro z
   by_cases hz:(aH l).length=0
   ·omega
   ·exact e (cR (by omega))
 have len:(aH l).length=(aH l').length:=Nat.le_antisymm (key h) (key λk=>(h k).symm)
 refine List.ext_getElem len λk h1 h2=>?_
 have e:cf (aH l) k=cf (aH l') k:=by rw[fj,fj,h]
 unfold cf at e
 rw[aU,aU,bc h1,bc h2]at e
 exact e
theorem bU2(m:Bool × Nat)(t:List Nat){j:Nat}(hj:j<t.length)(v k:Nat):cf (jN m t j v) k=if k=j then gp m (cf t j) v else cf t k:=by
 unfold cf jN
 rw[aU,List.getElem?_set]
 by_cases h:k=j
 ·subst h
  rw[if_pos rfl,if_pos hj,if_pos rfl];rfl
 ·rw[if_neg (du h),if_neg h,aU]
theorem Pn{m:Bool × Nat}(hm:m∈aK)(x:Nat):∀(b t:List Nat) (i k:Nat),AllLt (af m) t->i+b.length<=t.length->cf (ef m x t i b) k=gp m (cf t k) (if k<i then 0 else gm m x (cf b (k-i)))
 | [],t,i,k,ht,_=>by
  have e:(if k<i then 0 else gm m x (cf [] (k-i)))=0:=by
   split
   ·rfl
   ·rw[cR (iE _),xt _ _ (dR m hm)]
  rw[e,xx (bx hm ht k)];rfl
 | y::b,t,i,k,ht,hl=>by
  rw[fq]at hl
  show cf (ef m x (jN m t i (gm m x y)) (i+1) b) k=_
  rw[Pn hm x b _ (i+1) k (Pj hm ht (i9 hm _ _)) (by rw[Ph];omega),bU2 m t (by omega)]
  by_cases h1:k=i
  ·subst h1
   rw[if_pos rfl,if_pos (by omega),if_neg (by omega),yF,xx (xw hm (bx hm ht _) (i9 hm _ _))];rfl
  ·rw[if_neg h1]
   by_cases h2:k<i
   ·rw[if_pos (by omega),if_pos h2]
   ·rw[if_neg (by omega),if_neg h2,show k-i=(k-(i+1))+1 by omega,Pm]
noncomputable def di(m:Bool × Nat)(b:List Nat):List Nat->Nat->Nat
 | [],_=>0
 | x::q,k=>gp m (gm m x (cf b k)) (match k with | 0=>0 | k+1=>di m b q k)
theorem E1{m:Bool × Nat}(hm:m∈aK)(b:List Nat):∀(q:List Nat) (k:Nat),di m b q k<af m
 | [],_=>by have:=(cC hm).lo;show 0<_;omega
 | x::q,0=>xw hm (i9 hm _ _) (by have:=(cC hm).lo;show 0<_;omega)
 | x::q,k+1=>xw hm (i9 hm _ _) (E1 hm b q k)
theorem Po{m:Bool × Nat}(hm:m∈aK)(b:List Nat):∀(a t:List Nat) (i k:Nat),AllLt (af m) t->i+a.length+b.length<=t.length->cf (fL m b t i a) k=gp m (cf t k) (if k<i then 0 else di m b a (k-i))
 | [],t,i,k,ht,_=>by
  have e:(if k<i then 0 else di m b [] (k-i))=0:=by split<;>rfl
  rw[e,xx (bx hm ht k)];rfl
 | x::a,t,i,k,ht,hl=>by
  rw[fq]at hl
  have ff:=(cC hm).lo
  show cf (fL m b (ef m x t i b) (i+1) a) k=_
  rw[Po hm b a _ (i+1) k (xB hm x b t i ht) (by rw[xA];omega),Pn hm x b t i k ht (by omega),Ah]
  congr 1
  by_cases h1:k<i
  ·rw[if_pos h1,if_pos (by omega),if_pos h1,jM (by omega)]
  ·rw[if_neg h1,if_neg h1]
   by_cases h2:k=i
   ·subst h2
    rw[if_pos (by omega),yF];rfl
   ·rw[if_neg (by omega),show k-i=(k-(i+1))+1 by omega];rfl
theorem Pp(n k:Nat):cf (aN n 0) k=0:=by
 unfold cf
 rw[aU,vw]
 split<;>rfl
theorem E2{m:Bool × Nat}(hm:m∈aK)(a b:List Nat)(k:Nat):cf (iB m a b) k=di m b a k:=by
 unfold iB
 rw[fj]
 unfold qF
 rw[Po hm b a _ 0 k (ni hm _) (by rw[fP];omega),Pp,if_neg (Cz k),yD,jM (E1 hm b a k)]
theorem Pq{m:Bool × Nat}(b:List Nat):∀(q:List Nat) (k:Nat),di m (aH b) q k=di m b q k
 | [],_=>rfl
 | x::q,0=>by show gp m (gm m x (cf (aH b) 0)) 0=gp m (gm m x (cf b 0)) 0;rw[fj]
 | x::q,k+1=>by
  show gp m (gm m x (cf (aH b) (k+1))) (di m (aH b) q k)=gp m (gm m x (cf b (k+1))) (di m b q k)
  rw[fj,Pq b q k]
theorem by4{m:Bool × Nat}(hm:m∈aK)(b:List Nat):∀(n k:Nat),di m b (aN n 0) k=0
 | 0,_=>rfl
 | n+1,0=>by
  have ff:=(cC hm).lo
  show gp m (gm m 0 (cf b 0)) 0=0
  rw[mZ _ _ (dR m hm),jM (by omega)]
 | n+1,k+1=>by
  have ff:=(cC hm).lo
  show gp m (gm m 0 (cf b (k+1))) (di m b (aN n 0) k)=0
  rw[mZ _ _ (dR m hm),by4 hm b n k,jM (by omega)]
theorem Pr{m:Bool × Nat}(hm:m∈aK)(b:List Nat)(f:Nat):∀(q:List Nat) (i k:Nat),i<q.length->cf q i=0->di m b (q.set i f) k=gp m (di m b q k) (if k<i then 0 else gm m f (cf b (k-i)))
 | [],i,k,h,_=>absurd h (Cz i)
 | x::q,0,k,_,hx=>by
  have hx:x=0:=hx
  subst hx
  have ff:=(cC hm).lo
  show gp m (gm m f (cf b k)) (match k with | 0=>0 | k+1=>di m b q k)=gp m (gp m (gm m 0 (cf b k)) (match k with | 0=>0 | k+1=>di m b q k)) (gm m f (cf b (k-0)))
  have l2:(match k with | 0=>0 | k+1=>di m b q k)<af m:=by
   cases k with
   | zero=>show 0<_;omega
   | succ k=>exact E1 hm b q k
  rw[mZ _ _ (dR m hm),jM l2,yD,xv]
 | x::q,i+1,0,h,hx=>by
  have ff:=(cC hm).lo
  show gp m (gm m x (cf b 0)) 0=gp m (gp m (gm m x (cf b 0)) 0) 0
  rw[xx (i9 hm _ _),xx (i9 hm _ _)]
 | x::q,i+1,k+1,h,hx=>by
  show gp m (gm m x (cf b (k+1))) (di m b (q.set i f) k)=gp m (gp m (gm m x (cf b (k+1))) (di m b q k)) (if k+1<i+1 then 0 else gm m f (cf b (k+1-(i+1))))
  rw[Pr hm b f q i k (by simpa using h) hx,Ah,Tr]
  congr 2
  by_cases hk:k<i
  ·rw[if_pos hk,if_pos (by omega)]
  ·rw[if_neg hk,if_neg (by omega)]
theorem cc5{m:Bool × Nat}(hm:m∈aK)(a b:List Nat)(k:Nat):cf (gR (gp m) a b) k=gp m (cf a k) (cf b k):=by
 have ff:=(cC hm).lo
 have pd:∀(l:List Nat) (n:Nat),cf (gj l n) k=cf l k:=λl n=>by
  unfold gj
  by_cases h:k<l.length
  ·unfold cf
   rw[aU,vx h,aU]
  ·rw[cR (show l.length<=k by omega)]
   unfold cf
   rw[aU,nE (by omega)]
   exact(by rw[vw];split<;>rfl)
 by_cases h:k<max a.length b.length
 ·unfold gR
  have e1:=pd a (max a.length b.length)
  have e2:=pd b (max a.length b.length)
  unfold cf at e1 e2 ⊢
  have l1:=nj (yI a.length b.length)
  have l2:=nj (Lp a.length b.length)
  rw[aU,bc (by omega)]at e1 e2
  rw[aU,Lq,bc (by omega),bc (by omega)]
  have e1:(gj a (max a.length b.length))[k]=a.getD k 0:=e1
  have e2:(gj b (max a.length b.length))[k]=b.getD k 0:=e2
  show gp m _ _=_
  rw[e1,e2]
 ·rw[cR (by rw[Ap];omega),cR (by omega),cR (by omega),jM (by omega)]
theorem bW0{m:Bool × Nat}{x:Nat}(hx:x<af m):de m x 0=x:=by
 obtain⟨k,n⟩:=m
 cases k with
 | true=>show(((x ^^^ 0:Nat):Int)).toNat=x;rw[iG];rfl
 | false =>
  have hx:x<n:=hx
  show(((x:Int)-((0:Nat):Int))%(n:Int)).toNat=x
  rw[show(x:Int)-((0:Nat):Int)=x by omega,Int.emod_eq_of_lt (by omega) (by omega)];rfl
theorem E3(m:Bool × Nat)(x:Nat):de m x x=0:=by
 obtain⟨k,n⟩:=m
 cases k with
 | true=>show(((x ^^^ x:Nat):Int)).toNat=0;rw[yB];rfl
 | false=>show(((x:Int)-(x:Int))%(n:Int)).toNat=0;rw[Int.sub_self,Int.zero_emod];rfl
noncomputable def kP(m:Bool × Nat)(D rest:List Nat)(k f:Nat):List Nat:=rest.take k++(jh (λx y=>de m x (gm m f y)) (rest.drop k) D).dropLast
theorem Pt(m:Bool × Nat){D rest:List Nat}{k:Nat}(f:Nat)(hl:rest.length=k+D.length)(h0:0<D.length):(kP m D rest k f).length=k+D.length-1:=by
 unfold kP
 rw[jg,gu,K9,Cy,jX]
 omega
theorem bU1{m:Bool × Nat}(hm:m∈aK){D rest:List Nat}{k f:Nat}(hr:AllLt (af m) rest):AllLt (af m) (kP m D rest k f):=λx hx=>by
 rcases eA.mp hx with hx | hx
 ·exact hr x (vB hx)
 ·exact EZ (λa ha b _=>(jO hm (hr a (Cp ha)) (i9 hm _ _)).2.1) x (by rw[Lr]at hx;exact vB hx)
theorem bQ1{m:Bool × Nat}(hm:m∈aK){D rest:List Nat}{k f:Nat}(hr:AllLt (af m) rest)(hl:rest.length=k+D.length)(h0:0<D.length)(hf:gm m f (cf D (D.length-1))=cf rest (rest.length-1))(j:Nat) :
  cf (kP m D rest k f) j=de m (cf rest j) (if j<k then 0 else gm m f (cf D (j-k))):=by
 have ff:=(cC hm).lo
 have h00:=dR m hm
 by_cases h1:j<k
 ·rw[if_pos h1,bW0 (bx hm hr j)]
  unfold kP cf
  rw[aU,vx (by rw[gu];omega),vC,if_pos h1,aU]
 ·rw[if_neg h1]
  have lz:(jh (λx y=>de m x (gm m f y)) (rest.drop k) D).length=D.length:=by rw[Cy,jX];omega
  by_cases h2:j<k+(D.length-1)
  ·unfold kP cf
   rw[aU,nE (by rw[gu];omega),gu,rz (by omega),List.getElem?_dropLast,if_pos (by rw[lz];omega),Lq,Ti,show k+(j-k)=j by omega,
    bc (show j<rest.length by omega),bc (show j-k<D.length by omega),aU,bc (show j<rest.length by omega),aU,bc (show j-k<D.length by omega)]
   rfl
  ·have lhs:cf (kP m D rest k f) j=0:=cR (by
    have:=Pt m f hl h0
    omega)
   rw[lhs]
   by_cases h3:j=k+(D.length-1)
   ·subst h3
    rw[show k+(D.length-1)-k=D.length-1 by omega,hf,show rest.length-1=k+(D.length-1) by omega,E3]
   ·rw[cR (show rest.length<=j by omega),cR (show D.length<=j-k by omega),xt _ _ h00,E3]
structure kQ(m:Bool × Nat)(A D:List Nat)(n i:Nat)(q rest:List Nat):Prop where
 ql:q.length=n
 qb:AllLt (af m) q
 q0:∀k,k<n-i->cf q k=0
 rl:rest.length+i+1=n+D.length
 rb:AllLt (af m) rest
 id:∀j,gp m (di m D q j) (cf rest j)=cf A j
 fst:i=0->rest=A
 top:0<i->cf q (n-1)≠0
theorem kQ.start{m:Bool × Nat}(hm:m∈aK){A D:List Nat}{n:Nat}(hA:AllLt (af m) A)(hl:A.length+1=n+D.length):kQ m A D n 0 (aN n 0) A :=
 ⟨fP,ni hm n,λk _=>Pp n k,hl,hA,λj=>by rw[by4 hm,jM (bx hm hA j)],λ_=>rfl,λh=>absurd h (fN 0)⟩
theorem kQ.next{m:Bool × Nat}(hm:m∈aK){A D q rest:List Nat}{n i f:Nat}(I:kQ m A D n i q rest)(hD:0<D.length)(hi:i<n)(hf:f<af m)(ht:gm m f (cf D (D.length-1))=cf rest (rest.length-1))(hA:cf A (A.length-1)≠0) :
  kQ m A D n (i+1) (q.set (n-1-i) f) (kP m D rest (n-1-i) f):=by
 have E4:rest.length=n-1-i+D.length:=by have:=I.rl;omega
 refine⟨by rw[B9,I.ql],λa ha=>?_,λk hk=>?_,?_,bU1 hm I.rb,λj=>?_,λh=>absurd h (Nat.succ_ne_zero i),λ_=>?_⟩
 ·rcases Ct ha with h | h
  ·exact I.qb a h
  ·rw[h];exact hf
 ·have:=I.q0 k (by omega)
  unfold cf at this ⊢
  rw[aU,nC (by omega),<- aU];exact this
 ·have:=Pt m f E4 hD
  have:=I.rl
  omega
 ·have c1:(if j<n-1-i then 0 else gm m f (cf D (j-(n-1-i))))<af m:=by
   split
   ·have:=(cC hm).lo;omega
   ·exact i9 hm _ _
  rw[Pr hm D f q _ j (by rw[I.ql];omega) (I.q0 _ (by omega)),bQ1 hm I.rb E4 hD ht,Ah,xv m _ (de m _ _),(jO hm (bx hm I.rb j) c1).2.2]
  exact I.id j
 ·by_cases h0:i=0
  ·subst h0
   have f0:f≠0:=λz=>by
    rw[z,mZ _ _ (dR m hm),I.fst rfl]at ht
    exact hA ht.symm
   unfold cf
   rw[yD,aU,List.getElem?_set,if_pos rfl,if_pos (by rw[I.ql];omega)]
   exact f0
  ·have:=I.top (by omega)
   unfold cf at this ⊢
   rw[aU,nC (by omega),<- aU];exact this
theorem kQ.quot{m:Bool × Nat}{A D q rest:List Nat}{n:Nat}(I:kQ m A D n n q rest):q=aH q:=by
 symm
 have h:=xy (l:=q) (k:=q.length) (aX _) (by simp) (by
  rw[I.ql]
  by_cases h:n=0
  ·exact .inl h
  ·exact .inr (I.top (by omega)))
 rw[h,rq]
theorem ch6{α:Type}(xs:List α):dQ xs none (some (-1))=xs.dropLast:=by
 have e1:HT.ck xs.length 0 none=0:=rfl
 have e2:HT.ck xs.length xs.length (some (-1))=xs.length-1:=by
  unfold HT.ck
  simp
  omega
 unfold dQ
 rw[e1,e2,List.drop_zero,yD,Lr]
end L3
namespace L3
open PySem L2 PySem.Spec PyProof.Rows
section
variable{B:Bs}{F H:Hp}{σ:L2.St}{δ:Dl}{ts ps:List (D × V)}{i k:Nat}{p q:Addr}{l1 l2 ys DW:List D}{ws sk:List V}
end
section
variable{X:Cx}{F H:Hp}{e b:Expr}{pos p p2 p3 pr apos bG zH:Pos}{t ti te:aC}{x y:Str}{i j:Nat}
end
end L3
namespace L3
structure Rg(N:Nat)(p q:Nat->Nat->Nat):Prop where
 pc:∀a b,p a b=p b a
 pa:∀a b c,p (p a b) c=p a (p b c)
 mc:∀a b,q a b=q b a
 ma:∀{a b c},a<N->b<N->c<N->q (q a b) c=q a (q b c)
 dl:∀a b c,q a (p b c)=p (q a b) (q a c)
 z:∀{a},a<N->p 0 a=a
 qz:∀a,q a 0=0
 one:∀{a},a<N->q 1 a=a
 lp:∀{a b},a<N->b<N->p a b<N
 lq:∀a b,q a b<N
 ng:∀{a},a<N->∃b,b<N/\p a b=0
section
variable{N:Nat}{p q:Nat->Nat->Nat}
noncomputable def sm(p:Nat->Nat->Nat):Nat->(Nat->Nat)->Nat
 | 0,_=>0
 | n+1,f=>p (sm p n f) (f n)
theorem Rg.pos(r:Rg N p q):0<N:=lh (iE _) (r.lq 0 0)
theorem Rg.z'(r:Rg N p q){a:Nat}(h:a<N):p a 0=a:=by rw[r.pc];exact r.z h
theorem Rg.E5(r:Rg N p q){a b c:Nat}(ha:a<N)(hb:b<N)(hc:c<N)(h:p a c=p b c):a=b:=by
 obtain⟨d,_,e⟩:=r.ng hc
 have:=congrArg (λx=>p x d) h
 simp only[r.pa,e]at this
 rw[r.z' ha,r.z' hb]at this
 exact this
theorem gk{f g:Nat->Nat}:∀{n:Nat},(∀j,j<n->f j=g j)->sm p n f=sm p n g
 | 0,_=>rfl
 | n+1,h=>by rw[sm,sm,gk λj hj=>h j (by omega),h n (by omega)]
theorem nk(r:Rg N p q){f:Nat->Nat}:∀{n:Nat},(∀j,j<n->f j<N)->sm p n f<N
 | 0,_=>r.pos
 | n+1,h=>r.lp (nk r λj hj=>h j (by omega)) (h n (by omega))
theorem gS(r:Rg N p q){f:Nat->Nat}:∀{n:Nat},(∀j,j<n->f j=0)->sm p n f=0
 | 0,_=>rfl
 | n+1,h=>by rw[sm,gS r λj hj=>h j (by omega),h n (by omega)];exact r.z r.pos
theorem Rg.four(r:Rg N p q)(a b c d:Nat):p (p a b) (p c d)=p (p a c) (p b d):=by
 rw[r.pa,r.pa,<- r.pa b,<- r.pa c,r.pc b c]
theorem As(r:Rg N p q)(f g:Nat->Nat):∀n,sm p n (λj=>p (f j) (g j))=p (sm p n f) (sm p n g)
 | 0=>(r.z r.pos).symm
 | n+1=>by rw[sm,As r f g n,sm,sm,r.four]
theorem xI(r:Rg N p q)(c:Nat)(f:Nat->Nat):∀n,sm p n (λj=>q c (f j))=q c (sm p n f)
 | 0=>(r.qz c).symm
 | n+1=>by rw[sm,xI r c f n,sm,r.dl]
theorem Pu(r:Rg N p q)(F:Nat->Nat->Nat)(k:Nat):∀n,sm p n (λi=>sm p k λj=>F i j)=sm p k λj=>sm p n λi=>F i j
 | 0=>(gS r λ_ _=>rfl).symm
 | n+1=>by
  rw[sm,Pu r F k n,<- As r];rfl
theorem qG(r:Rg N p q){f:Nat->Nat}(n:Nat):∀k,(∀j,j<n+k->f j<N)->sm p (n+k) f=p (sm p n f) (sm p k λj=>f (n+j))
 | 0,h=>(r.z' (nk r λj hj=>h j (by omega))).symm
 | k+1,h=>by
  rw[<-Nat.add_assoc,sm,qG r n k λj hj=>h j (by omega),sm,r.pa]
theorem co3(r:Rg N p q){f:Nat->Nat}{n n':Nat}(hn:n<=n')(h:∀j,j<n'->f j<N)(hz:∀j,n<=j->j<n'->f j=0):sm p n' f=sm p n f:=by
 obtain⟨k,rfl⟩:=Ls hn
 rw[qG r n k h,gS r (f:=λj=>f (n+j)) λj hj=>hz _ (by omega) (by omega),r.z' (nk r λj hj=>h j (by omega))]
theorem E6(r:Rg N p q){f:Nat->Nat}(n:Nat)(h:∀j,j<n+1->f j<N):sm p (n+1) f=p (f 0) (sm p n λj=>f (j+1)):=by
 rw[Ca n 1,qG r 1 n λj hj=>h j (by omega)]
 show p (p 0 (f 0)) _=_
 rw[r.z (h 0 (by omega))]
 congr 1
 exact gk λj _=>by rw[Ca]
noncomputable def ds(p q:Nat->Nat->Nat)(s c:Nat->Nat)(n:Nat):Nat:=sm p (n+1) λj=>q (c j) (s (n-j))
theorem qH(r:Rg N p q)(s c:Nat->Nat)(n:Nat):ds p q s c n<N:=nk r λj _=>r.lq _ _
noncomputable def eo(k:Nat)(b:Nat->Nat)(j:Nat):Nat:=if j<k then 0 else b (j-k)
theorem Pw(r:Rg N p q)(s b:Nat->Nat){k n:Nat}(h:k<=n):ds p q s (eo k b) n=ds p q s b (n-k):=by
 unfold ds
 obtain⟨d,rfl⟩:=Ls h
 rw[show k+d+1=k+(d+1) by omega,qG r k (d+1) λj _=>r.lq _ _,gS r (n:=k),r.z (nk r λj _=>r.lq _ _)]
 ·rw[vG]
  refine gk λj _=>?_
  unfold eo
  rw[if_neg (by omega),vG,show k+d-(k+j)=d-j by omega]
 ·intro j hj
  unfold eo
  rw[if_pos hj,r.mc,r.qz]
structure BI(N:Nat)(p q:Nat->Nat->Nat)(s:Nat->Nat)(n L:Nat)(c b:Nat->Nat)(o:Nat):Prop where
 c0:c 0=1
 cz:∀j,L<j->c j=0
 cl:∀j,c j<N
 ln:L<=n
 kp:∀i,L<=i->i<n->ds p q s c i=0
 mn:∀L1 c1,c1 0=1->(∀j,L1<j->c1 j=0)->(∀j,c1 j<N)->(∀i,L1<=i->i<n->ds p q s c1 i=0)->L<=L1
 b0:b 0=0
 bz:∀j,n+1-L<j->b j=0
 bl:∀j,b j<N
 bk:∀i,n+1-L<=i->i<n->ds p q s b i=0
 bo:n+1-L<=n->ds p q s b n=o
theorem Px(r:Rg N p q){b:Nat->Nat}(h:∀j,b j<N)(j:Nat):eo 1 b j<N:=by
 unfold eo
 split
 ·exact r.pos
 ·exact h _
theorem Py{b:Nat->Nat}{n:Nat}(h:∀j,n<j->b j=0)(j:Nat)(hj:n+1<j):eo 1 b j=0:=by
 unfold eo
 rw[if_neg (by omega)]
 exact h _ (by omega)
theorem BI.same(r:Rg N p q){s c b:Nat->Nat}{n L o:Nat}(I:BI N p q s n L c b o)(h:ds p q s c n=0):BI N p q s (n+1) L c (eo 1 b) o where
 c0:=I.c0
 cz:=I.cz
 cl:=I.cl
 ln:=by have:=I.ln;omega
 kp:=λi h1 h2=>by
  by_cases e:i=n
  ·rw[e];exact h
  ·exact I.kp i h1 (by omega)
 mn:=λL1 c1 h1 h2 h3 h4=>I.mn L1 c1 h1 h2 h3 λi a b=>h4 i a (by omega)
 b0:=rfl
 bz:=λj hj=>Py I.bz j (by have:=I.ln;omega)
 bl:=Px r I.bl
 bk:=λi h1 h2=>by
  have:=I.ln
  rw[Pw r s b (show 1<=i by omega)]
  exact I.bk _ (by omega) (by omega)
 bo:=λh1=>by
  rw[Pw r s b (by omega)]
  exact I.bo (by have:=I.ln;omega)
end
end L3
namespace L3
section
variable{N:Nat}{p q:Nat->Nat->Nat}
theorem Au{s:Nat->Nat}{j n:Nat}(h:n<j):eo j s n=0:=if_pos h
theorem jP(s:Nat->Nat){j n:Nat}(h:j<=n):eo j s n=s (n-j):=if_neg (by omega)
theorem Rg.zq(r:Rg N p q)(a:Nat):q 0 a=0:=by rw[r.mc];exact r.qz a
theorem Av(r:Rg N p q)(s c:Nat->Nat){n M:Nat}(h:n<M):ds p q s c n=sm p M λj=>q (c j) (eo j s n):=by
 unfold ds
 rw[co3 r (show n+1<=M by omega) (λj _=>r.lq _ _) λj h1 _=>by rw[Au (by omega),r.qz]]
 exact gk λj hj=>by rw[jP s (by omega)]
theorem Aw(r:Rg N p q)(s a b:Nat->Nat)(n:Nat):ds p q s (λj=>p (a j) (b j)) n=p (ds p q s a n) (ds p q s b n):=by
 unfold ds
 rw[<-As r]
 exact gk λj _=>by rw[r.mc (p _ _),r.dl,r.mc (a j),r.mc (b j)]
theorem Pz(r:Rg N p q)(s t c:Nat->Nat)(n:Nat):ds p q (λj=>p (s j) (t j)) c n=p (ds p q s c n) (ds p q t c n):=by
 unfold ds
 rw[<-As r]
 exact gk λj _=>r.dl _ _ _
theorem E7(r:Rg N p q){s c:Nat->Nat}{f:Nat}(hf:f<N)(hc:∀j,c j<N)(hs:∀j,s j<N)(n:Nat):ds p q s (λj=>q f (c j)) n=q f (ds p q s c n):=by
 unfold ds
 rw[<-xI r]
 exact gk λj _=>r.ma hf (hc _) (hs _)
theorem cf8(r:Rg N p q){s c:Nat->Nat}{f:Nat}(hf:f<N)(hc:∀j,c j<N)(hs:∀j,s j<N)(n:Nat):ds p q (λj=>q f (s j)) c n=q f (ds p q s c n):=by
 unfold ds
 rw[<-xI r]
 exact gk λj _=>by rw[<-r.ma (hc _) hf (hs _),r.mc (c j) f,r.ma hf (hc _) (hs _)]
theorem tY(r:Rg N p q){s c:Nat->Nat}(h:∀j,c j=0)(n:Nat):ds p q s c n=0:=gS r λj _=>by rw[h,r.zq]
theorem tZ(r:Rg N p q){s c:Nat->Nat}(h:∀j,s j=0)(n:Nat):ds p q s c n=0:=gS r λj _=>by rw[h,r.qz]
theorem E8(r:Rg N p q){a b s:Nat->Nat}(ha:∀j,a j<N)(hb:∀j,b j<N)(hs:∀j,s j<N)(n:Nat):ds p q s (ds p q b a) n=ds p q (ds p q s b) a n:=by
 have lU:∀(s:Nat->Nat) (k j:Nat),(∀j,s j<N)->eo k s j<N:=λs k j h=>by
  unfold eo
  split
  ·exact r.pos
  ·exact h _
 rw[Av r (ds p q s b) a (B7 n),Av r s (ds p q b a) (B7 n)]
 have e1:sm p (n+1) (λk=>q (ds p q b a k) (eo k s n))=sm p (n+1) λk=>sm p (n+1) λi=>q (a i) (q (eo i b k) (eo k s n)):=gk λk hk=>by
  rw[Av r b a hk,r.mc,<- xI r]
  exact gk λi _=>by rw[r.mc,r.ma (ha i) (lU b i k hb) (lU s k n hs)]
 rw[e1,Pu r]
 refine gk λi hi=>?_
 rw[xI r (a i)]
 congr 1
 rw[jP _ (by omega),Av r s b (show n-i<n+1-i by omega),show n+1=i+(n+1-i) by omega,qG r i _ λj _=>r.lq _ _,gS r (n:=i) λj hj=>by rw[Au hj,r.zq]]
 rw[r.z (nk r λj _=>r.lq _ _),vG]
 refine gk λj hj=>?_
 rw[jP b (by omega),vG,jP s (by omega),jP s (by omega),show n-(i+j)=n-i-j by omega]
theorem PB(r:Rg N p q){u l:Nat->Nat}{d e:Nat}(hu:∀j,d<j->u j=0)(hl:∀j,e<j->l j=0):ds p q l u (d+e)=q (u d) (l e):=by
 unfold ds
 rw[show d+e+1=d+(e+1) by omega,qG r d _ λj _=>r.lq _ _,gS r (n:=d) λj hj=>by rw[hl _ (by omega),r.qz],r.z (nk r λj _=>r.lq _ _),E6 r e λj _=>r.lq _ _,gS r λj hj=>by rw[hu _ (by omega),r.zq],r.z' (r.lq _ _)]
 rw[Cf,vG]
theorem PC(r:Rg N p q){u l:Nat->Nat}{e:Nat}(hu:∀j,u j<N)(hl:∀j,e<j->l j=0)(h1:l e=1)(hz:∀k,e<=k->ds p q l u k=0):∀d,(∀j,d<=j->u j=0)->∀j,u j=0
 | 0,h=>λj=>h j (iE _)
 | d+1,h=>PC r hu hl h1 hz d λj hj=>by
  by_cases e1:j=d
  ·have:=hz (d+e) (by omega)
   rw[PB r (λj hj=>h j (by omega)) hl,h1,r.mc,r.one (hu d)]at this
   rw[e1];exact this
  ·exact h j (by omega)
theorem cn4(r:Rg N p q){u s:Nat->Nat}{d e:Nat}(hu:∀j,d<=j->u j=0)(hs:∀j,e<=j->s j=0)(n:Nat)(h:d+e<=n):ds p q s u n=0:=gS r λj _=>by
 by_cases h1:d<=j
 ·rw[hu j h1,r.zq]
 ·rw[hs _ (by omega),r.qz]
noncomputable def Mk(N:Nat)(p q:Nat->Nat->Nat)(a r0 r1:Nat->Nat):Prop:=∃(u0 u1:Nat->Nat) (d:Nat),(∀j,u0 j<N)/\(∀j,u1 j<N)/\(∀j,d<=j->u0 j=0)/\(∀j,d<=j->u1 j=0)/\∀k,a k=p (ds p q r0 u0 k) (ds p q r1 u1 k)
theorem Mk.next(r:Rg N p q){a r0 r1 r2 t:Nat->Nat}{e:Nat}(h:Mk N p q a r0 r1)(l1:∀j,r1 j<N)(lt:∀j,t j<N)(ft:∀j,e<=j->t j=0)(h2:∀k,r0 k=p (ds p q r1 t k) (r2 k)):Mk N p q a r1 r2:=by
 obtain⟨u0,u1,d,a1,a2,a3,a4,a5⟩:=h
 refine⟨λj=>p (ds p q t u0 j) (u1 j),u0,d+e,λj=>r.lp (qH r _ _ _) (a2 j),a1,λj hj=>?_,λj hj=>a3 j (by omega),λk=>?_⟩
 ·show p (ds p q t u0 j) (u1 j)=0
  rw[cn4 r a3 ft j hj,a4 j (by omega)];exact r.z r.pos
 ·rw[a5 k,Aw r,E8 r a1 lt l1,show r0=λk=>p (ds p q r1 t k) (r2 k) from funext h2,Pz r,r.pa,r.pa,r.pc (ds p q r2 u0 k)]
noncomputable def Bz(p q:Nat->Nat->Nat)(a b r s t:Nat->Nat):Prop:=∀k,r k=p (ds p q a s k) (ds p q b t k)
theorem Bz.next(r:Rg N p q){a b r0 s0 t0 r1 s1 t1 r2 s2 t2 x:Nat->Nat}(la:∀j,a j<N)(lb:∀j,b j<N)(lx:∀j,x j<N)(ls:∀j,s1 j<N)(lt:∀j,t1 j<N)(l2:∀j,r2 j<N)
  (h0:Bz p q a b r0 s0 t0) (h1:Bz p q a b r1 s1 t1) (hr:∀k,p (r2 k) (ds p q r1 x k)=r0 k) (hs:∀k,p (s2 k) (ds p q s1 x k)=s0 k) (ht:∀k,p (t2 k) (ds p q t1 x k)=t0 k):Bz p q a b r2 s2 t2:=by
 intro k
 refine r.E5 (l2 k) (r.lp (qH r _ _ _) (qH r _ _ _)) (qH r r1 x k) ?_
 rw[hr k,h0 k,show s0=λk=>p (s2 k) (ds p q s1 x k) from(funext hs).symm,show t0=λk=>p (t2 k) (ds p q t1 x k) from(funext ht).symm,Aw r,Aw r,E8 r lx ls la,E8 r lx lt lb,show r1=λk=>p (ds p q a s1 k) (ds p q b t1 k) from funext h1,Pz r,r.four]
theorem Bz.mul(r:Rg N p q){a b r0 s t:Nat->Nat}{f:Nat}(hf:f<N)(la:∀j,a j<N)(lb:∀j,b j<N)(ls:∀j,s j<N)(lt:∀j,t j<N)(h:Bz p q a b r0 s t):Bz p q a b (λj=>q f (r0 j)) (λj=>q f (s j)) (λj=>q f (t j)):=λk=>by
 rw[E7 r hf ls la,E7 r hf lt lb,<- r.dl,<- h k]
theorem PD(r:Rg N p q)(s:Nat->Nat)(f i k:Nat):ds p q s (λj=>if j=i then f else 0) k=q f (eo i s k):=by
 by_cases h:k<i
 ·rw[Au h,r.qz]
  exact gS r λj hj=>by
   show q (if j=i then f else 0) _=0
   rw[if_neg (by omega),r.zq]
 ·unfold ds
  obtain⟨d,rfl⟩:=Ls (show i<=k by omega)
  rw[show i+d+1=i+(d+1) by omega,qG r i _ λj _=>r.lq _ _,gS r (n:=i) λj hj=>by rw[if_neg (by omega),r.zq],r.z (nk r λj _=>r.lq _ _),E6 r d λj _=>r.lq _ _,gS r λj hj=>by rw[if_neg (by omega),r.zq],r.z' (r.lq _ _),if_pos (Cf i),jP s (by omega),Cf]
theorem bL7(r:Rg N p q){rest E9 l u u':Nat->Nat}{f i:Nat}(lr:∀k,E9 k<N)(hf:f<N)(h:∀k,rest k=ds p q l u k)(hu:∀j,p (u' j) (if j=i then f else 0)=u j)(hr:∀k,p (E9 k) (q f (eo i l k))=rest k)(k:Nat):E9 k=ds p q l u' k:=by
 refine r.E5 (lr k) (qH r _ _ _) (r.lq f (eo i l k)) ?_
 rw[hr k,h k,show u=λj=>p (u' j) (if j=i then f else 0) from(funext hu).symm,Aw r,PD r]
end
end L3
namespace L3
open PySem L2 Mf
theorem rg{m:Bool × Nat}(hm:m∈aK):Rg (af m) (gp m) (gm m) where
 pc:=xv m
 pa:=Ah m
 mc:=tT m
 ma:=λ_ _ _=>OZ (dR m hm) _ _ _
 dl:=λa b c=>υ (dR m hm) b c a
 z:=jM
 qz:=λa=>xt m a (dR m hm)
 one:=O1
 lp:=xw hm
 lq:=i9 hm
 ng:=λ{a} ha=>by
  have g:=jO hm (a:=0) (b:=a) (by omega) ha
  exact⟨_,g.2.1,(xv m _ _).trans g.2.2⟩
theorem PF(l:List Nat)(n:Nat):cf (gj l n)=cf l:=by
 funext k
 unfold gj cf
 rw[aU,aU,List.getElem?_append]
 by_cases h:k<l.length
 ·rw[if_pos h]
 ·rw[if_neg h,nU (show l.length<=k by omega),vw]
  split<;>rfl
theorem cb9{m:Bool × Nat}(hm:m∈aK){a b:List Nat}(ha:AllLt (af m) a)(hb:AllLt (af m) b)(k:Nat):gp m (cf (gR (de m) a b) k) (cf b k)=cf a k:=by
 have g:=jO hm (bx hm ha k) (bx hm hb k)
 have e:cf (gR (de m) a b) k=de m (cf a k) (cf b k):=by
  by_cases h:k<max a.length b.length
  ·rw[<-PF a (max a.length b.length),<- PF b (max a.length b.length)]
   have la:=nj (yI a.length b.length)
   have lb:=nj (Lp a.length b.length)
   unfold gR cf
   rw[aU,Lq,bc (by omega),bc (by omega),aU,bc (by omega),aU,bc (by omega)]
   rfl
  ·rw[cR (by rw[Ap];omega),cR (l:=a) (by omega),cR (l:=b) (by omega)]
   exact(E3 m 0).symm
 rw[e]
 exact g.2.2
theorem xJ{m:Bool × Nat}(hm:m∈aK)(f:Nat)(b:List Nat)(j:Nat):cf (b.map (gm m f)) j=gm m f (cf b j):=by
 unfold cf
 rw[aU,eZ,aU]
 cases b[j]? with
 | none=>exact(xt m f (dR m hm)).symm
 | some x=>rfl
theorem quot{m:Bool × Nat}(hm:m∈aK){a b:Nat}(ha:a<af m)(hb:b<af m)(h0:b≠0):∃r,r<af m/\gm m r b=a:=by
 by_cases a0:a=0
 ·exact⟨0,by have:=(cC hm).lo;omega,by rw[a0];exact mZ m b (dR m hm)⟩
 ·obtain⟨r,_,h1,h2⟩:=Pa hm (show 1<=a by omega) ha (show 1<=b by omega) hb
  exact⟨r,h1,h2⟩
theorem Fb{p q:Nat->Nat->Nat}{s s' c:Nat->Nat}{n:Nat}(h:∀j,j<n+1->s j=s' j):ds p q s c n=ds p q s' c n:=gk λj hj=>by rw[h (n-j) (by omega)]
theorem BI.other{N:Nat}{p q:Nat->Nat->Nat}(r:Rg N p q){s s' c b:Nat->Nat}{n L o:Nat}(I:BI N p q s n L c b o)(h:∀j,j<n->s j=s' j):BI N p q s' n L c b o where
 c0:=I.c0
 cz:=I.cz
 cl:=I.cl
 ln:=I.ln
 kp:=λi h1 h2=>by rw[<-Fb λj hj=>h j (by omega)];exact I.kp i h1 h2
 mn:=λL1 c1 h1 h2 h3 h4=>I.mn L1 c1 h1 h2 h3 λi a b=>by rw[Fb λj hj=>h j (by omega)];exact h4 i a b
 b0:=I.b0
 bz:=I.bz
 bl:=I.bl
 bk:=λi h1 h2=>by rw[<-Fb λj hj=>h j (by omega)];exact I.bk i h1 h2
 bo:=λh1=>by
  rw[<-I.bo h1]
  refine gk λj hj=>?_
  by_cases e:j=0
  ·rw[e,I.b0,r.mc,r.qz,r.mc,r.qz]
  ·rw[h (n-j) (by omega)]
theorem BI.start{m:Bool × Nat}(hm:m∈aK)(s:Nat->Nat):BI (af m) (gp m) (gm m) s 0 0 (cf [1]) (eo 1 (cf [1])) 1:=by
 have lo:=(cC hm).lo
 have cl:∀j,cf [1] j<af m:=λj=>by
  cases j with
  | zero=>exact lo
  | succ j=>exact cJ (show 0<2 by decide) lo
 have cz:∀j,0<j->cf [1] j=0:=λj hj=>cR (show([1]:List Nat).length<=j from hj)
 exact⟨rfl,cz,cl,aX _,λi _ h=>absurd h (Cz i),λ_ _ _ _ _ _=>iE _,rfl,λj hj=>Py cz j hj,Px (rg hm) cl,λi _ h=>absurd h (Cz i),λh=>absurd h (by omega)⟩
theorem t7{m:Bool × Nat}(hm:m∈aK)(b:List Nat):∀(a:List Nat) (k:Nat),di m b a k=ds (gp m) (gm m) (cf b) (cf a) k
 | [],k=>(tY (rg hm) (λ_=>rfl) k).symm
 | x::a,k=>by
  unfold ds
  rw[E6 (rg hm) k λj _=>i9 hm _ _]
  cases k with
  | zero=>rfl
  | succ k =>
   show gp m (gm m x (cf b (k+1))) (di m b a k)=gp m (gm m x (cf b (k+1))) _
   congr 1
   rw[t7 hm b a k]
   exact gk λj _=>by rw[Pm,Tr]
end L3
namespace L3
open PySem L2 PySem.Spec PyProof.Rows
section
variable{X:Cx}{i j:Nat}{x y:Str}{p pos pos' apos bG:Pos}
noncomputable def qI(j i:Nat):cA:=λD δ=>∃xs n,δ[i]?=some (some (.lst true (xs++[.int n])))/\D.nx ((δ.set i (some (.lst true xs))).set j (some (.int n)))
theorem bS9(nd:X.N.Nodup)(hj:X.N[j]?=some y)(hy:Loc X.env.scope y)(hN:X.N[i]?=some x)(hv:iL X.env.scope x)(hd:(x==("__debug__":Str))=false:=by decide)(bX:(x==("__classdict__":Str))=false:=by decide)
  (g6:attributeBase (.Name x p) "pop" X.env (eval (.Name x p) X.env)=eval (.Name x p) X.env:=by rfl) (g9:(apos.endLine==bG.line)=true:=by rfl)
  (hs:swapsWith (.Call (.Attribute (.Name x p) "pop" apos) [] [] bG) (some (.Name y pos')) pos.line X.env=pure false:=by rfl)
  (hf:X.fn y=true\/X.env.scope.names.lookup y=some .local:=by first | exact .inl rfl | exact .inr rfl | assumption) :
  PS X (.Assign [.Name y pos'] (.Call (.Attribute (.Name x p) "pop" apos) [] [] bG) pos) (lS X (qI j i)) :=
 iY (CW nd hj hy (Dm PySem.F.plainAttrs_list PySem.F.slot_list_pop PySem.F.type_list_pop Mo (lK hN hv hd bX) g6 g9) hs hf) λEn σ H zz=>by
  obtain⟨B,F,δ,Dd,c,⟨ys,n,ey,hn⟩,k1,k2,k3,k4⟩:=zz
  obtain⟨p0,mi,g1,g2,g3⟩:=c.ownAt ey
  obtain⟨v0,e0,s0⟩:=c.look ey
  rw[g1]at e0
  cases e0
  obtain⟨p1,xK,e1,h1,t1⟩:=gg s0 c.ext
  cases e1
  have e2:xK=mi:=by have:=c.ext;rw[g2]at h1;cases h1;rfl
  subst e2
  have hl:xK.length=ys.length+1:=by rw[<-t1.length,jg];rfl
  obtain⟨v,e3,s3⟩:=t1.get (i:=ys.length) (d:=.int n) (by rw[nE (aX _),yF];rfl)
  cases s3
  refine⟨.ref p0,g1,.inl ⟨rfl,_,bf.of g2⟩,p0,xK,_,rfl,rfl,g2,by rw[hl,Nat.add_sub_cancel];exact e3,k1 _ _ F _ hn ?_⟩
  have c':aj B F (upd H p0 (.lst xK.dropLast)) σ (δ.set i (some (.lst true ys))) []:=by
   have:aj B F (upd H p0 (.lst xK.dropLast)) σ (δ.set i (some (.lst true (ys++[D.int n]).dropLast))) []:=aj.mut (ps:=[]) c ey g1 λdP A1 A2 h r1 r2 nd=>by
    rw[g2]at h;cases h
    obtain⟨A',r',kq,sub⟩:=r1.Ep (eK.mp nd).1
    exact⟨A',r',kq,λa ha=>fO _ (sub a ha)⟩
   rw[List.dropLast_concat]at this
   exact this
  exact(c'.pushS (.int .nil) rfl).store j
end
theorem aj.cC0{B:Bs}{F H:Hp}{σ:L2.St}{δ:Dl}{ts:List (D × V)}{p r:Addr}{xs:List D}{ws:List V}(c:aj B F H σ δ ((.lst true xs,.ref p)::ts))(e1:H p=some (.lst ws))(hr:H r=none) :
  aj B F (upd H r (.tup ws)) σ δ ((.tup xs,.ref r)::ts):=by
 refine aj.pack (ps:=[(.lst true xs,.ref p)]) c (ae.upd hr) λA1 r1 nd=>?_
 have n1:p≠r:=λz=>by rw[z,hr]at e1;cases e1
 have r1:R F (upd H r (.tup ws)) [.lst true xs] [.ref p] A1:=r1
 cases r1 with
 | @own _ wx _ Ax _ _ Bx hx fx rx rc =>
  cases rc
  rw[aP n1,e1]at hx;cases hx
  refine⟨Ax,by simpa using R.tup (F:=F) bN rx .nil,?_,λa ha=>.inl (by simp[ha])⟩
  exact nd.sublist (by rw[iF];exact List.sublist_cons_self p Ax)
section
variable{X:Cx}{e:Expr}{t:aC}{p pos:Pos}
noncomputable def qJ(t:aC):aC:=λδ Q=>t δ λx ai=>∃xs,x=.lst true xs/\Q (.tup xs) ai
theorem PH(hg:Gl X "tuple")(hm:X.mg "tuple"=none)(he:PE X e (lE t))(hs:starEach [e] X.env=(false,eval e X.env)::starEach [] X.env:=by rfl)(bu:(backTo pos (starEach [] X.env)).any (·.1)=false:=by rfl) :
  PE X (.Call (.Name "tuple" p) [e] [] pos) (lE (qJ t)) :=
 cQ (L8 Wd hg hm MQ (eE he gY hs) (by decide) (by decide) hs bu) λσ H Q ⟨B,F,δ,ts,Qd,c,q,k⟩=>⟨B,F,δ,ts,_,c,q,λx ai v F1 H1 q1 f1 h1 c1=>by
  obtain⟨xs,rfl,hq⟩:=q1
  obtain⟨p,ws,rfl,e1,s1⟩:=gg c1.top c1.ext
  exact⟨p,ws,rfl,.inl ⟨bf.of e1,λl hl=>k _ ai _ F1 _ hq f1 (h1.trans (ae.upd hl)) (c1.cC0 e1 hl)⟩⟩⟩
end
section
variable{X:Cx}
end
end L3
namespace L3
open PySem L2 Mf
end L3
namespace L2
open PySem PySem.Spec PyProof.Rows
section
variable{X:Cx}{scope:Scope}{cl:List (Str × Addr)}
end
end L2
namespace L2
open PySem PySem.Spec PyProof.Rows
section
variable{X:Cx}{elt iter tg:Expr}{pos:Pos}{ifs:List Expr}{scope:Scope}{cl:List (Str × Addr)}{wi:TI}{tt:TT}{te:TE}{g:TG}
end
end L2
namespace L3
open PySem L2 PySem.Spec PyProof.Rows
section
variable{X:Cx}{elt iter tg:Expr}{pos:Pos}{ifs:List Expr}{scope:Scope}{cl:List (Str × Addr)}{ti:fZ}{tt:eL}{te:aC}{g:gb}
end
end L3
namespace L3
open PySem L2 Mf
inductive Sp(N:Nat)(p q:Nat->Nat->Nat)(S:(Nat->Nat)->Prop):(Nat->Nat)->Prop
 | mem {f:Nat->Nat}:S f->Sp N p q S f
 | zero:Sp N p q S λ_=>0
 | add {f g:Nat->Nat}:Sp N p q S f->Sp N p q S g->Sp N p q S λk=>p (f k) (g k)
 | mul {f:Nat->Nat} (c:Nat):c<N->Sp N p q S f->Sp N p q S λk=>q c (f k)
theorem Sp.trans{N:Nat}{p q:Nat->Nat->Nat}{S S':(Nat->Nat)->Prop}(h:∀f,S f->Sp N p q S' f){f:Nat->Nat}(s:Sp N p q S f):Sp N p q S' f:=by
 induction s with
 | mem a=>exact h _ a
 | zero=>exact .zero
 | add _ _ a b=>exact .add a b
 | mul c hc _ a=>exact .mul c hc a
theorem Sp.lt{N:Nat}{p q:Nat->Nat->Nat}(r:Rg N p q){S:(Nat->Nat)->Prop}(h:∀f,S f->∀k,f k<N){f:Nat->Nat}(s:Sp N p q S f):∀k,f k<N:=by
 induction s with
 | mem a=>exact h _ a
 | zero=>exact λ_=>r.pos
 | add _ _ a b=>exact λk=>r.lp (a k) (b k)
 | mul c hc _ a=>exact λk=>r.lq _ _
end L3
namespace L3
open PySem L2 Mf
noncomputable def dt(m:Bool × Nat)(w:Nat)(x y:Nat->Nat):Nat:=sm (gp m) w λj=>gm m (x j) (y j)
theorem Sp.sm{N:Nat}{p q:Nat->Nat->Nat}{S:(Nat->Nat)->Prop}{c:Nat->Nat}{F:Nat->Nat->Nat}:∀{n:Nat},(∀i,i<n->c i<N)->(∀i,i<n->Sp N p q S (F i))->Sp N p q S λk=>L3.sm p n λi=>q (c i) (F i k)
 | 0,_,_=>.zero
 | n+1,hc,h=>.add (Sp.sm (λi hi=>hc i (by omega)) λi hi=>h i (by omega)) (.mul _ (hc n (by omega)) (h n (by omega)))
end L3
namespace L3
open PySem L2 PySem.Spec PyProof.Rows
section
variable{X:Cx}{F H:Hp}{e b:Expr}{pos pos' p p2 p3 apos bG:Pos}{ti te:aC}{x y:Str}{i j:Nat}
end
section
variable{X:Cx}
end
section
variable{X:Cx}{es:List Expr}{tr:bW}{pos:Pos}
end
end L3
namespace L3
open PySem L2 Mf
end L3
namespace L3
open PySem L2 Mf
end L3
namespace L3
open PySem L2 Mf
end L3
namespace L2
open PySem PySem.Spec PyProof.Rows
section
variable{X:Cx}
end
end L2
namespace L3
open PySem L2 PySem.Spec PyProof.Rows
section
variable{X:Cx}
end
end L3
namespace L2
open PySem PySem.Spec PyProof.Rows
section
variable{X:Cx}{a:Expr}{ta:TE}{p p2 pos PJ:Pos}
end
end L2
namespace L3
open PySem L2 PySem.Spec PyProof.Rows
section
variable{X:Cx}{a:Expr}{t:aC}{p p2 pos PJ:Pos}
end
end L3
namespace L3
open PySem L2 PySem.Spec PyProof.Rows
section
variable{F H:Hp}
end
section
variable{X:Cx}{e:Expr}{t:aC}{p2 pos:Pos}
end
end L3
namespace L3
open PySem L2 PySem.Spec PyProof.Rows
noncomputable def DA(A:List Addr)(H:Hp):Hp:=λa=>if a∈A then none else H a
section
variable{F H:Hp}
end
section
variable{P:Program}{w:World}{K:PySem.W.Frag}{mg:Str->Option Value}{base:Heap}
end
section
variable{X:Cx}{CX:dH}{n i:Nat}{f:Addr}{fd:FuncData}{ps:List Str}{sp:bt}{E:XK}{fn x:Str}{e:Expr}{te:aC}{p p2 pos pos' PJ:Pos}
end
end L3
namespace L2
section
variable{α:Type}{P:List α->Prop}
theorem cj4(h:P []):∀us:List α,us.length=0->P us:=by
 intro us hl;rcases us with _ | ⟨a,t⟩
 ·exact h
 ·cases hl
theorem iC(h:∀a,P [a]):∀us:List α,us.length=1->P us:=by
 intro us hl;rcases us with _ | ⟨a,t⟩
 ·cases hl
 ·exact cj4 (P:=λt=>P (a::t)) (h a) t (CA hl)
theorem ie(h:∀a b,P [a,b]):∀us:List α,us.length=2->P us:=by
 intro us hl;rcases us with _ | ⟨a,t⟩
 ·cases hl
 ·exact iC (P:=λt=>P (a::t)) (h a) t (CA hl)
theorem et(h:∀a b c,P [a,b,c]):∀us:List α,us.length=3->P us:=by
 intro us hl;rcases us with _ | ⟨a,t⟩
 ·cases hl
 ·exact ie (P:=λt=>P (a::t)) (h a) t (CA hl)
theorem PK(h:∀a b c d,P [a,b,c,d]):∀us:List α,us.length=4->P us:=by
 intro us hl;rcases us with _ | ⟨a,t⟩
 ·cases hl
 ·exact et (P:=λt=>P (a::t)) (h a) t (CA hl)
end
end L2
namespace L3
open PySem L2 PySem.Spec PyProof.Rows
section
variable{B:Bs}{F H:Hp}{σ:L2.St}{δ:Dl}{ts:List (D × V)}
theorem aj.apart{j:Nat}{p q:Addr}{xs ys:List D}(c:aj B F H σ δ ((.lst true xs,.ref q)::ts))(e:δ[j]?=some (some (.lst true ys)))(e2:σ[j]?=some (some (.ref p))):p≠q:=by
 obtain⟨A,C,r,s,nd,fr⟩:=c.own
 obtain⟨v,A',C',e1,h1,h2,pm⟩:=s.pick e
 rw[e2]at e1;cases e1
 intro z
 subst z
 have i1:p∈A:=by
  cases r with
  | own h f x r=>simp
 have i2:p∈C:=by
  refine pm.mem_iff.mpr ?_
  cases h1 with
  | own h f x r=>simp
 exact(eK.mp nd).2.2 p i1 i2
end
section
variable{X:Cx}{elt iter tg:Expr}{pos:Pos}{scope:Scope}{cl:List (Str × Addr)}{ti:fZ}{te:aC}{g:gb}
end
end L3
namespace L2
open PySem PySem.Spec PyProof.Rows
section
variable{X:Cx}
end
end L2
namespace L3
open PySem L2 PySem.Spec PyProof.Rows
section
variable{X:Cx}
end
end L3
namespace L3
open PySem L2 Mf
noncomputable def Ay(l:List Nat)(z:Nat->Nat):Nat->List Nat
 | 0=>l
 | t+1=>(Ay l z t).eraseIdx (z t%(Ay l z t).length)
noncomputable def drawn(l:List Nat)(z:Nat->Nat)(t:Nat):Nat:=(Ay l z t).getD (z t%(Ay l z t).length) 0
end L3
namespace L3
open PySem L2 Mf
section
variable{m:Bool × Nat}{C:Nat->Nat->Nat}{w:Nat}
end
end L3
namespace L3
open PySem L2 Mf
section
variable{m:Bool × Nat}{C:Nat->Nat->Nat}{w:Nat}
end
end L3
namespace L3
open PySem L2 Mf
section
variable{m:Bool × Nat}{C:Nat->Nat->Nat}
end
end L3
namespace L3
open PySem L2 PySem.Spec PyProof.Rows
section
variable{B:Bs}{F H:Hp}{σ:L2.St}{δ:Dl}{ts:List (D × V)}
end
section
variable{X:Cx}{a:Expr}{ta:aC}{pos p2:Pos}{tk:Nat}
end
end L3
namespace L3
open PySem L2 PySem.Spec PyProof.Rows
section
variable{X:Cx}{a b:Expr}{ta tb:aC}{elts:List Expr}{x1:Nat}{iT p pos:Pos}
end
end L3
namespace L3
open PySem L2 Mf
section
variable{m:Bool × Nat}
end
end L3
namespace L3
open PySem L2 PySem.Spec PyProof.Rows
section
variable{B:Bs}{F H:Hp}{σ:L2.St}{δ:Dl}{ts ps:List (D × V)}{p:Addr}
end
section
variable{X:Cx}{iter tg:Expr}{te:aC}{g:gb}{t:cA}{pos:Pos}
end
section
variable{X:Cx}{e:Expr}{pos p pr apos bG zH tp:Pos}{t:aC}{x y:Str}{i j:Nat}{n0:Int}
end
end L3
namespace L2
open PySem PySem.Spec PyProof.Rows
section
variable{prog:Program}{w:World}{A:Around}{E:Value->Shared->Prop}{s:Shared}
structure TupAt(h:Heap)(i t:Addr)(k:Nat)(vs:Array Value):Prop where
 it:h.IsTupleIter i t k
 tu:h.IsTuple t vs
theorem TupAt.cT{h h':Heap}{i t b:Addr}{k:Nat}{vs:Array Value}(x:TupAt h i t k vs)(e:Heap.ExtBut b h h')(n1:i≠b)(n2:t≠b):TupAt h' i t k vs:=⟨x.it.extBut e n1,x.tu.extBut e n2⟩
theorem Fc{i t:Addr}{k:Nat}{vs:Array Value}{x:Value}{Q:Value->Shared->Prop}(a:TupAt s.heap i t k vs)(ne:t≠i)(e:vs[k]?=some x)
  (q:∀h',TupAt h' i t (k+1) vs->B4 i s.heap h'->Q x { s with heap:=h' }):wpAny (model prog w) A (nW (.ref i)) Q E s:=by
 obtain⟨o,g,c,d⟩:=id a.it
 obtain⟨ot,gt,_,nt,dt⟩:=id a.tu
 unfold nW
 refine wpAny_bind (wpAny_callSpecial?_slot (name:=CB "__next__") a.it.typeIs CC (wpAny_call_entry CC a.it.typeIs Ts ?_ (Tt _)))
 show wpAny _ _ (field (.ref i) 0 >>= _) _ _ s
 refine wpAny_bind (wpAny_field g d (x:=.ref t) rfl ?_)
 show wpAny _ _ (if(dr t==je)=true then _ else _) _ _ s
 rw[if_neg (by exact rf)]
 show wpAny _ _ (field (.ref i) 1 >>= _) _ _ s
 refine wpAny_bind (wpAny_field g d (x:=.int k 0) rfl ?_)
 show wpAny _ _ (seqItems? (.ref t) >>= _) _ _ s
 refine wpAny_bind (wpAny_seqItems gt dt ?_)
 simp only[jW,e]
 refine wpAny_bind (wpAny_setField g d (by simp) (wpAny_pure ⟨x,rfl,wpAny_pure (q _ ⟨⟨_,yx _ g (Cj (vA d _)),(Obj.cls_mapFields ..).trans c,?_⟩,a.tu.extBut (Lu ..).extBut ne⟩ (Lu ..))⟩))
 rw[vA d];simp[rawInt]
theorem PL{i t:Addr}{k:Nat}{vs:Array Value}{Q:Value->Shared->Prop}(hh:A.handled=none)(a:TupAt s.heap i t k vs)(e:vs[k]?=none)
  (q:∀h' x,Heap.ExtBut i s.heap h'->(∃o,h'.get? x=some o/\o.cls=.type "StopIteration")->E (.ref x) { s with heap:=h' }):wpAny (model prog w) A (nW (.ref i)) Q E s:=by
 obtain⟨o,g,c,d⟩:=id a.it
 obtain⟨ot,gt,_,nt,dt⟩:=id a.tu
 unfold nW
 refine wpAny_bind (wpAny_callSpecial?_slot (name:=CB "__next__") a.it.typeIs CC (wpAny_call_entry CC a.it.typeIs Ts ?_ (Tt _)))
 show wpAny _ _ (field (.ref i) 0 >>= _) _ _ s
 refine wpAny_bind (wpAny_field g d (x:=.ref t) rfl ?_)
 show wpAny _ _ (if(dr t==je)=true then _ else _) _ _ s
 rw[if_neg (by exact rf)]
 show wpAny _ _ (field (.ref i) 1 >>= _) _ _ s
 refine wpAny_bind (wpAny_field g d (x:=.int k 0) rfl ?_)
 show wpAny _ _ (seqItems? (.ref t) >>= _) _ _ s
 refine wpAny_bind (wpAny_seqItems gt dt ?_)
 simp only[jW,e]
 refine wpAny_bind (wpAny_rule (wpAny_bind (wpAny_setField g d (by simp) ?_)))
 show wpAny _ _ (newExc (.type "StopIteration") [] >>= _) _ _ _
 refine wpAny_bind ?_
 simp only[newExc,newTuple]
 refine wpAny_bind (wpAny_newObj_type ?_ (by size_fits))
 refine wpAny_bind (m:=firstArgMember _ _) (wpAny_of_eq (a:=je) (by first | rfl | (simp only[firstArgMember];rfl)) ?_)
 refine wpAny_newObj_type ?_ (by size_fits)
 simp only[raiseNew]
 refine wpAny_bind (wpAny_handled ?_)
 first | rw[show A.in1.handled=none from hh] | rw[hh]
 refine wpAny_bind (wpAny_pure (wpAny_throw ?_))
 exact q _ _ (((Lu ..).extBut.push _).push _) ⟨_,dA _ rfl,rfl⟩
theorem cf4{z TI TO i1 i2 t1 t2:Addr}{k1 k2:Nat}{xs ys:Array Value}{x y u v:Value}{Q:Value->Shared->Prop}(D:ZipApart z TI TO i1 i2 t1 t2)
  (hz:IsZip s.heap z TI TO .none) (hI:IsPair s.heap TI (.ref i1) (.ref i2)) (hO:IsPair s.heap TO u v) (a1:TupAt s.heap i1 t1 k1 xs) (a2:TupAt s.heap i2 t2 k2 ys) (ex:xs[k1]?=some x) (ey:ys[k2]?=some y)
  (q:∀h',IsZip h' z TI TO (rawInt s.heap.objs.size)->IsPair h' TO x y->TupAt h' i1 t1 (k1+1) xs->TupAt h' i2 t2 (k2+1) ys->IsPair h' s.heap.objs.size x y->h'.objs.size=s.heap.objs.size+1 ->
   (∀c o,c≠z->c≠TO->c≠i1->c≠i2->s.heap.get? c=some o->h'.get? c=some o)->Q (.ref s.heap.objs.size) { s with heap:=h' }) :
  wpAny (model prog w) A (Builtin.«zip.__next__» ⟨[.ref z],[]⟩) (λfin s'=>∃v,fin=.done (.ret v)/\Q v s') E s:=by
 show wpAny _ _ (field (.ref z) 2 >>= _) _ _ _
 refine wpAny_bind (wpAny_field hz rfl (x:=.bool false) rfl ?_)
 show wpAny _ _ (field (.ref z) 3 >>= _) _ _ _
 refine wpAny_bind (wpAny_field hz rfl (x:=.ref TI) rfl ?_)
 refine wpAny_bind (wpAny_seqItems hI rfl ?_)
 show wpAny _ _ (CD (.ref z) >>= _) _ _ _
 refine wpAny_bind ?_
 unfold CD
 refine wpAny_bind (wpAny_field hz rfl (x:=.none) rfl (wpAny_pure ?_))
 simp only[if_true]
 refine wpAny_bind (wpAny_rule ?_)
 refine wpAny_bind (wpAny_field hz rfl (x:=.ref TO) rfl ?_)
 refine wpAny_bind (wpAny_setField_rec hz (by simp) λg1 z1 b1=>?_)
 replace z1:IsZip g1 z TI TO .ellipsis:=z1
 refine wpAny_bind ?_
 simp only[List.zipIdx_cons,List.zipIdx_nil,List.forIn_cons,List.forIn_nil]
 refine wpAny_bind (wpAny_bind (wpAny_onRaise ?_))
 show wpAny _ _ (nW (.ref i1) >>= _) _ _ _
 refine wpAny_bind (Fc (a1.cT b1.extBut D.i1z D.l1z) D.l1i1 ex λg2 c1 b2=>wpAny_pure ?_)
 have o2:IsPair g2 TO u v:=b2.extBut _ _ D.TOi1 (b1.extBut _ _ D.TOz hO)
 refine wpAny_bind (wpAny_seqItems o2 rfl ?_)
 refine wpAny_bind (wpAny_updateSeq_pair o2 λg3 o3 b3=>?_)
 replace o3:IsPair g3 TO x v:=o3
 refine wpAny_bind (wpAny_letGo (wpAny_pure ?_))
 refine wpAny_bind (wpAny_bind (wpAny_onRaise ?_))
 show wpAny _ _ (nW (.ref i2) >>= _) _ _ _
 refine wpAny_bind (Fc (((a2.cT b1.extBut D.i2z D.l2z).cT b2.extBut D.i12.symm D.l2i1).cT b3.extBut D.TOi2.symm D.l2TO) D.l2i2 ey λg4 c2 b4=>wpAny_pure ?_)
 have o4:IsPair g4 TO x v:=b4.extBut _ _ D.TOi2 o3
 refine wpAny_bind (wpAny_seqItems o4 rfl ?_)
 refine wpAny_bind (wpAny_updateSeq_pair o4 λg5 o5 b5=>?_)
 replace o5:IsPair g5 TO x y:=o5
 refine wpAny_bind (wpAny_letGo (wpAny_pure (wpAny_pure ?_)))
 refine wpAny_bind (wpAny_seqItems o5 rfl ?_)
 refine wpAny_bind (wpAny_newTuple ?_)
 have sz:g5.objs.size=s.heap.objs.size:=by rw[b5.1,b4.1,b3.1,b2.1,b1.1]
 have z5:IsZip g5 z TI TO .ellipsis:=b5.extBut _ _ D.TOz.symm (b4.extBut _ _ D.i2z.symm (b3.extBut _ _ D.TOz.symm (b2.extBut _ _ D.i1z.symm z1)))
 have e5:TupAt g5 i1 t1 (k1+1) xs:=((c1.cT b3.extBut D.TOi1.symm D.l1TO).cT b4.extBut D.i12 D.l1i2).cT b5.extBut D.TOi1.symm D.l1TO
 have f5:TupAt g5 i2 t2 (k2+1) ys:=c2.cT b5.extBut D.TOi2.symm D.l2TO
 have zl:z<g5.objs.size:=bC z5
 show wpAny _ _ (Tu (.ref z) (.ref g5.objs.size) >>= _) _ _ _
 refine wpAny_bind ?_
 unfold Tu
 have z6:IsZip (g5.push { cls:=.type "tuple",data:=.seq #[x,y] }) z TI TO .ellipsis:=cN _ z5
 refine wpAny_bind (wpAny_setField_rec z6 (by simp) λg7 z7 b7=>?_)
 replace z7:IsZip g7 z TI TO (rawInt g5.objs.size):=z7
 refine wpAny_setField_rec z7 (by simp) λg8 z8 b8=>?_
 replace z8:IsZip g8 z TI TO (rawInt g5.objs.size):=z8
 have up:∀c o,c≠z->g5.get? c=some o->g8.get? c=some o:=λc o n e=>b8.extBut _ _ n (b7.extBut _ _ n (cN _ e))
 have PM:Heap.ExtBut z g5 g8:=λc o n e=>up c o n e
 have T8:IsPair g8 g5.objs.size x y:=b8.extBut _ _ (B5 zl) (b7.extBut _ _ (B5 zl) (dA _ rfl))
 have n8:g8.objs.size=g5.objs.size+1:=by rw[b8.1,b7.1,nD]
 rw[sz]at z8 T8 n8
 refine wpAny_pure ⟨_,rfl,?_⟩
 show Q (.ref g5.objs.size) _
 rw[sz]
 exact q g8 z8 (up _ _ D.TOz o5) (e5.cT PM D.i1z D.l1z) (f5.cT PM D.i2z D.l2z) T8 n8 λc o m1 m2 m3 m4 e=>up c o m1 (b5.extBut _ _ m2 (b4.extBut _ _ m4 (b3.extBut _ _ m2 (b2.extBut _ _ m3 (b1.extBut _ _ m1 e)))))
theorem co1{z TI TO i1 i2 t1 t2:Addr}{k1 k2:Nat}{xs ys:Array Value}{u v:Value}{Q:Fin->Shared->Prop}(hh:A.handled=none)(D:ZipApart z TI TO i1 i2 t1 t2)
  (hz:IsZip s.heap z TI TO .none) (hI:IsPair s.heap TI (.ref i1) (.ref i2)) (hO:IsPair s.heap TO u v) (a1:TupAt s.heap i1 t1 k1 xs) (a2:TupAt s.heap i2 t2 k2 ys) (ee:xs[k1]?=none\/ys[k2]?=none)
  (q:∀h' e,(∀c o,c≠z->c≠TO->c≠i1->c≠i2->s.heap.get? c=some o->h'.get? c=some o)->(∃o,h'.get? e=some o/\o.cls=.type "StopIteration")->E (.ref e) { s with heap:=h' }) :
  wpAny (model prog w) A (Builtin.«zip.__next__» ⟨[.ref z],[]⟩) Q E s:=by
 show wpAny _ _ (field (.ref z) 2 >>= _) _ _ _
 refine wpAny_bind (wpAny_field hz rfl (x:=.bool false) rfl ?_)
 show wpAny _ _ (field (.ref z) 3 >>= _) _ _ _
 refine wpAny_bind (wpAny_field hz rfl (x:=.ref TI) rfl ?_)
 refine wpAny_bind (wpAny_seqItems hI rfl ?_)
 show wpAny _ _ (CD (.ref z) >>= _) _ _ _
 refine wpAny_bind ?_
 unfold CD
 refine wpAny_bind (wpAny_field hz rfl (x:=.none) rfl (wpAny_pure ?_))
 simp only[if_true]
 refine wpAny_bind (wpAny_rule ?_)
 refine wpAny_bind (wpAny_field hz rfl (x:=.ref TO) rfl ?_)
 refine wpAny_bind (wpAny_setField_rec hz (by simp) λg1 z1 b1=>?_)
 replace z1:IsZip g1 z TI TO .ellipsis:=z1
 refine wpAny_bind ?_
 simp only[List.zipIdx_cons,List.zipIdx_nil,List.forIn_cons,List.forIn_nil]
 refine wpAny_bind (wpAny_bind (wpAny_onRaise ?_))
 show wpAny _ _ (nW (.ref i1) >>= _) _ _ _
 cases ex:xs[k1]? with
 | none =>
  refine wpAny_bind (PL hh (a1.cT b1.extBut D.i1z D.l1z) ex λg2 e b2 ⟨oe,ge,ce⟩=>?_)
  have z2:IsZip g2 z TI TO .ellipsis:=b2 _ _ D.i1z.symm z1
  have ez:e≠z:=λm=>by subst m;rw[z2]at ge;cases ge;simp at ce
  exact wpAny_setField_rec z2 (by simp) λg3 _ b3=>q g3 e (λc o m1 _ m3 _ m=>b3.extBut _ _ m1 (b2 _ _ m3 (b1.extBut _ _ m1 m))) ⟨oe,b3.extBut _ _ ez ge,ce⟩
 | some x =>
  have ey:ys[k2]?=none:=ee.resolve_left λm=>by rw[ex]at m;cases m
  refine wpAny_bind (Fc (a1.cT b1.extBut D.i1z D.l1z) D.l1i1 ex λg2 c1 b2=>wpAny_pure ?_)
  have o2:IsPair g2 TO u v:=b2.extBut _ _ D.TOi1 (b1.extBut _ _ D.TOz hO)
  refine wpAny_bind (wpAny_seqItems o2 rfl ?_)
  refine wpAny_bind (wpAny_updateSeq_pair o2 λg3 o3 b3=>?_)
  refine wpAny_bind (wpAny_letGo (wpAny_pure ?_))
  refine wpAny_bind (wpAny_bind (wpAny_onRaise ?_))
  show wpAny _ _ (nW (.ref i2) >>= _) _ _ _
  refine wpAny_bind (PL hh (((a2.cT b1.extBut D.i2z D.l2z).cT b2.extBut D.i12.symm D.l2i1).cT b3.extBut D.TOi2.symm D.l2TO) ey λg4 e b4 ⟨oe,ge,ce⟩=>?_)
  have z4:IsZip g4 z TI TO .ellipsis:=b4 _ _ D.i2z.symm (b3.extBut _ _ D.TOz.symm (b2.extBut _ _ D.i1z.symm z1))
  have ez:e≠z:=λm=>by subst m;rw[z4]at ge;cases ge;simp at ce
  exact wpAny_setField_rec z4 (by simp) λg5 _ b5=>q g5 e (λc o m1 m2 m3 m4 m=>b5.extBut _ _ m1 (b4 _ _ m4 (b3.extBut _ _ m2 (b2.extBut _ _ m3 (b1.extBut _ _ m1 m))))) ⟨oe,b5.extBut _ _ ez ge,ce⟩
theorem b57{z TI TO i1 i2 t1 t2:Addr}{k1 k2:Nat}{xs ys:Array Value}{x y u v:Value}{Q:Option Value->Shared->Prop}(D:ZipApart z TI TO i1 i2 t1 t2)
  (hz:IsZip s.heap z TI TO .none) (hI:IsPair s.heap TI (.ref i1) (.ref i2)) (hO:IsPair s.heap TO u v) (a1:TupAt s.heap i1 t1 k1 xs) (a2:TupAt s.heap i2 t2 k2 ys) (ex:xs[k1]?=some x) (ey:ys[k2]?=some y)
  (q:∀h',IsZip h' z TI TO (rawInt s.heap.objs.size)->IsPair h' TO x y->TupAt h' i1 t1 (k1+1) xs->TupAt h' i2 t2 (k2+1) ys->IsPair h' s.heap.objs.size x y->h'.objs.size=s.heap.objs.size+1 ->
   (∀c o,c≠z->c≠TO->c≠i1->c≠i2->s.heap.get? c=some o->h'.get? c=some o)->Q (some (.ref s.heap.objs.size)) { s with heap:=h' }) :
  wpAny (model prog w) A (pyNext (.ref z)) Q E s:=by
 have hT:s.TypeIs (.ref z) "zip":=⟨_,hz,rfl⟩
 unfold pyNext
 exact wpAny_bind (wpAny_attempt (wpAny_callSpecial?_slot (name:=CB "__next__") hT CF (wpAny_call_entry CF hT F.entry_zip_next (cf4 D hz hI hO a1 a2 ex ey λh' m1 m2 m3 m4 m5 m6 m7=>wpAny_pure (q h' m1 m2 m3 m4 m5 m6 m7)) (F.args_zip_next_1 _))))
theorem b86{z TI TO i1 i2 t1 t2:Addr}{k1 k2:Nat}{xs ys:Array Value}{u v:Value}{Q:Option Value->Shared->Prop}(hh:A.handled=none)(D:ZipApart z TI TO i1 i2 t1 t2)
  (hz:IsZip s.heap z TI TO .none) (hI:IsPair s.heap TI (.ref i1) (.ref i2)) (hO:IsPair s.heap TO u v) (a1:TupAt s.heap i1 t1 k1 xs) (a2:TupAt s.heap i2 t2 k2 ys) (ee:xs[k1]?=none\/ys[k2]?=none)
  (q:∀h',(∀c o,c≠z->c≠TO->c≠i1->c≠i2->s.heap.get? c=some o->h'.get? c=some o)->Q none { s with heap:=h' }):wpAny (model prog w) A (pyNext (.ref z)) Q E s:=by
 have hT:s.TypeIs (.ref z) "zip":=⟨_,hz,rfl⟩
 unfold pyNext
 refine wpAny_bind (wpAny_attempt (wpAny_callSpecial?_slot (name:=CB "__next__") hT CF (wpAny_call_entry CF hT F.entry_zip_next (co1 hh D hz hI hO a1 a2 ee λh' e kk he=>?_) (F.args_zip_next_1 _))))
 obtain⟨o,ho,hc⟩:=he
 exact wpAny_bind (wpAny_isInstance (T:="StopIteration") (b:=true) ⟨o,ho,hc⟩ isSubtype_stop (wpAny_pure (q _ kk)))
end
noncomputable abbrev kR(t:Addr):Obj:={ cls:=.type "tuple_iterator",data:=.fields #[.ref t,.int 0 0] }
noncomputable abbrev qK(h:Heap)(t1 t2:Addr):Heap:=(h.push (kR t1)).push (kR t2)
noncomputable abbrev Az(h:Heap)(t1 t2:Addr):Heap:=((qK h t1 t2).push { cls:=.type "tuple",data:=.seq #[.ref h.objs.size,.ref (h.push (kR t1)).objs.size] }).push { cls:=.type "tuple",data:=.seq #[.none,.none] }
noncomputable abbrev t8(h:Heap)(t1 t2:Addr):Heap:=(Az h t1 t2).push { cls:=.type "zip",data:=.fields #[.none,.bool false,.bool false,.ref (qK h t1 t2).objs.size,.ref ((qK h t1 t2).push { cls:=.type "tuple",data:=.seq #[.ref h.objs.size,.ref (h.push (kR t1)).objs.size] }).objs.size] }
theorem bQ0(t1 t2:Addr)(xs ys:Array Value):Meets (Builtin.«zip.__new__» ⟨[.type "zip",.ref t1,.ref t2],[]⟩) (λ_ R s=>s.heap.IsTuple t1 xs/\s.heap.IsTuple t2 ys/\R (.ok (.ret (.ref (Az s.heap t1 t2).objs.size))) { s with heap:=t8 s.heap t1 t2 }) :=
 .of_wp λprog w A R s h=>by
  obtain⟨hp,g,d,tk,os⟩:=s
  obtain⟨l1,l2,h⟩:=h
  have dI8:=sub_zip
  have m1:Heap.IsTuple (Shared.heap ⟨hp,g,d,tk,os⟩) t1 xs:=l1
  have m2:Heap.IsTuple (Shared.heap ⟨hp.push (kR t1),g,d,tk,os⟩) t2 ys:=Heap.IsTuple.push l2 _
  wp_walk using wpAny_pyIter_tuple m1,wpAny_pyIter_tuple m2
  exact⟨_,rfl,h⟩
section
variable{prog:Program}{w:World}{A:Around}{E:Value->Shared->Prop}{s:Shared}
theorem cg4{t1 t2:Addr}{xs ys:Array Value}{Q:Value->Shared->Prop}(l1:s.heap.IsTuple t1 xs)(l2:s.heap.IsTuple t2 ys)
  (q:∀h',IsZip h' (s.heap.objs.size+4) (s.heap.objs.size+2) (s.heap.objs.size+3) .none->IsPair h' (s.heap.objs.size+2) (.ref s.heap.objs.size) (.ref (s.heap.objs.size+1))->IsPair h' (s.heap.objs.size+3) .none .none ->
   h'.IsTupleIter s.heap.objs.size t1 0->h'.IsTupleIter (s.heap.objs.size+1) t2 0->(∀c o,s.heap.get? c=some o->h'.get? c=some o)->Q (.ref (s.heap.objs.size+4)) { s with heap:=h' }) :
  wpAny (model prog w) A (call (.type "zip") [.ref t1,.ref t2]) Q E s:=by
 refine callType_new F.called_zip (by decide) (F.typeCall_zip_2 _ _) (F.newCall_zip_2 _ _) (λobj=>F.args_object_init_3 obj _ _) F.entry_zip_new (bQ0 t1 t2 xs ys) ⟨l1,l2,?_⟩
 have p1:(s.heap.push (kR t1)).objs.size=s.heap.objs.size+1:=nD ..
 have p2:(qK s.heap t1 t2).objs.size=s.heap.objs.size+2:=by rw[nD,p1]
 have p3:((qK s.heap t1 t2).push { cls:=.type "tuple",data:=.seq #[.ref s.heap.objs.size,.ref (s.heap.push (kR t1)).objs.size] }).objs.size=s.heap.objs.size+3:=by rw[nD,p2]
 have p4:(Az s.heap t1 t2).objs.size=s.heap.objs.size+4:=by rw[nD,p3]
 have up:∀{h:Heap} {c:Addr} {o o':Obj},h.get? c=some o->(h.push o').get? c=some o:=λe=>cN _ e
 have g5:(t8 s.heap t1 t2).get? (Az s.heap t1 t2).objs.size=some _:=dA _ rfl
 have g4:(t8 s.heap t1 t2).get? ((qK s.heap t1 t2).push { cls:=.type "tuple",data:=.seq #[.ref s.heap.objs.size,.ref (s.heap.push (kR t1)).objs.size] }).objs.size=some _:=up (dA _ rfl)
 have g3:(t8 s.heap t1 t2).get? (qK s.heap t1 t2).objs.size=some _:=up (up (dA _ rfl))
 have g2:(t8 s.heap t1 t2).get? (s.heap.push (kR t1)).objs.size=some _:=up (up (up (dA _ rfl)))
 have g1:(t8 s.heap t1 t2).get? s.heap.objs.size=some _:=up (up (up (up (dA _ rfl))))
 show _/\_
 rw[p2,p3,p4]at g5
 rw[p1,p2]at g3
 rw[p3]at g4
 rw[p1]at g2
 rw[p4]
 exact⟨⟨_,g5,rfl⟩,q _ g5 g3 g4 ⟨_,g1,rfl,rfl⟩ ⟨_,g2,rfl,rfl⟩ λc o m=>up (up (up (up (up m))))⟩
end
section
variable{X:Cx}{pins:List (Addr × Obj)}{σ:St}{H:Hp}{s:Shared}
noncomputable def Fd(a b:Addr):It :=
 ⟨λi H=>∃xs ys x y,H a=some (.tup xs)/\H b=some (.tup ys)/\xs[i]?=some x/\ys[i]?=some y,
  λi H v H'=>∃T x y,v=.ref T/\H T=none/\H'=upd H T (.tup [x,y])/\(∀xs,H a=some (.tup xs)->xs[i]?=some x)/\∀ys,H b=some (.tup ys)->ys[i]?=some y,
  λi H=>∃xs ys,H a=some (.tup xs)/\H b=some (.tup ys)/\(xs.length<=i\/ys.length<=i)⟩
theorem bK6{P:Program}{w:World}{K:PySem.W.Frag}{elts:List Expr}{k:Nat}{pos:Pos}(a b z TI TO i1 i2:Addr)(D5:[z,TI,TO,i1,i2].Nodup) :
  Turn P w K (.Tuple elts k pos) (Fd a b) [z,TI,TO,i1,i2] z (λi h=>IsZip h z TI TO .none/\IsPair h TI (.ref i1) (.ref i2)/\(∃u v,IsPair h TO u v)/\h.IsTupleIter i1 a i/\h.IsTupleIter i2 b i):=by
 have ap:∀(X:Cx) (pins:List (Addr × Obj)) (H:Hp) (xs ys:List V),(∀b∈[z,TI,TO,i1,i2],fu X pins H b)->H a=some (.tup xs)->H b=some (.tup ys)->ZipApart z TI TO i1 i2 a b:=by
  intro X pins H xs ys hf hx hy
  simp only[jf,bM,not_or,eQ,not_false_eq_true,and_true]at D5
  obtain⟨⟨d1,d2,d3,d4⟩,⟨d5,d6,d7⟩,⟨d8,d9⟩,DT,_⟩:=D5
  have ne:∀{c d:Addr} {zs:List V},H c=some (.tup zs)->d∈[z,TI,TO,i1,i2]->c≠d:=λe m q=>by
   have:=(hf _ m).1
   rw[<-q,e]at this;cases this
  exact⟨du d1,du d2,du d3,du d4,d5,d6,d7,d8,d9,DT,ne hx (by simp),ne hx (by simp),ne hx (by simp),ne hx (by simp),ne hy (by simp),ne hy (by simp),ne hy (by simp),ne hy (by simp)⟩
 refine⟨by simp,λi h st c hc=>?_,λi h h' st kk=>?_,?_,?_,λ_ _ _ _ _ st h=>wpAny_pyIter_zip st.1 h⟩
 ·obtain⟨hz,dN,⟨u,v,dn⟩,⟨o1,e1,c1,d1⟩,⟨o2,e2,c2,d2⟩⟩:=st
  simp only[bM,eQ,or_false]at hc
  rcases hc with rfl | rfl | rfl | rfl | rfl
  ·exact⟨_,hz,λv q=>by cases q⟩
  ·exact⟨_,dN,λv q=>by cases q⟩
  ·exact⟨_,dn,λv q=>by cases q⟩
  ·exact⟨_,e1,λv q=>by rw[d1]at q;cases q⟩
  ·exact⟨_,e2,λv q=>by rw[d2]at q;cases q⟩
 ·obtain⟨hz,dN,⟨u,v,dn⟩,h1,h2⟩:=st
  exact⟨kk _ (by simp) _ hz,kk _ (by simp) _ dN,⟨u,v,kk _ (by simp) _ dn⟩,h1.at λo e=>kk _ (by simp) o e,h2.at λo e=>kk _ (by simp) o e⟩
 ·intro X hP hw hK hc i pins s σ H E I hf st hg
  obtain⟨xs,ys,x,y,hx,hy,ex,ey⟩:=hg
  obtain⟨hz,dN,⟨u,v,dn⟩,h1,h2⟩:=st
  have D:=ap X pins H xs ys hf hx hy
  subst hP hw hK
  obtain⟨as,ra,pa,_⟩:=I.tuple (cj.of (K:=X.K) hx)
  obtain⟨bs,rb,pb,_⟩:=I.tuple (cj.of (K:=X.K) hy)
  obtain⟨ux,wA,rx⟩:=ra.get ex
  obtain⟨uy,DU,ry⟩:=rb.get ey
  refine b57 D hz dN dn ⟨h1,pa⟩ ⟨h2,pb⟩ (x:=ux) (y:=uy) (by simpa using wA) (by simpa using DU) λh' z' DV ⟨gH,q1⟩ ⟨fW,q2⟩ T' sz kk=>?_
  have fT:H s.heap.objs.size=none:=I.ay.fresh (aX _)
  have I1:Inv X pins σ (upd H s.heap.objs.size (.tup [x,y])) { s with heap:=h',toks:=s.toks }:=I.DR (its:=[z,TO,i1,i2]) (λc o hc e=>kk c o (λq=>hc (by simp[q])) (λq=>hc (by simp[q])) (λq=>hc (by simp[q])) (λq=>hc (by simp[q])) e)
   (λc hc=>hf c (by simp only[bM,eQ,or_false]at hc ⊢;rcases hc with rfl | rfl | rfl | rfl<;>simp)) (aX _) ⟨by show 2<=sizeLine;decide,[ux,uy],.cons rx (.cons ry .nil),⟨_,T',rfl,_,rfl⟩⟩
  have nT:∀c∈[z,TI,TO,i1,i2],c≠s.heap.objs.size:=λc hc q=>by
   have:∃o,s.heap.get? c=some o:=by
    simp only[bM,eQ,or_false]at hc
    rcases hc with rfl | rfl | rfl | rfl | rfl
    ·exact⟨_,hz⟩
    ·exact⟨_,dN⟩
    ·exact⟨_,dn⟩
    ·obtain⟨o,e,_⟩:=h1;exact⟨o,e⟩
    ·obtain⟨o,e,_⟩:=h2;exact⟨o,e⟩
   obtain⟨o,e⟩:=this
   exact absurd (bC e) (by rw[q];exact fN _)
  refine⟨_,rfl,wpAny_letOwnedTupleGo_zip z' λwB wC sb=>?_⟩
  have wD:∀c∈[z],fu X pins (upd H s.heap.objs.size (.tup [x,y])) c:=λc hc=>by
   have e:c=z:=by simpa using hc
   subst e
   obtain⟨f0,fr⟩:=hf c (by simp)
   exact⟨by rw[aP (nT c (by simp))];exact f0,fr⟩
  have I2:=Inv.rT (h':=wB) (its:=[z]) (t':=s.toks) I1 (λc o hc e=>sb.extBut _ _ (λq=>hc (by simp[q])) e) wD
  refine⟨.ref s.heap.objs.size,_,I2,rfl,⟨_,x,y,rfl,fT,rfl,λNf dO=>by rw[hx]at dO;cases dO;exact ex,λDW rN=>by rw[hy]at rN;cases rN;exact ey⟩,⟨wC,sb.extBut _ _ D.TIz (kk _ _ D.TIz D.TITO D.TIi1 D.TIi2 dN),⟨ux,uy,sb.extBut _ _ D.TOz DV⟩,gH.extBut sb.extBut D.i1z,fW.extBut sb.extBut D.i2z⟩,λc hc=>?_⟩
  rw[aP (nT c hc)]
  exact(hf c hc).1
 ·intro X hP hw hK hc i pins s σ H E I hf st hg
  obtain⟨xs,ys,hx,hy,hl⟩:=hg
  obtain⟨hz,dN,⟨u,v,dn⟩,h1,h2⟩:=st
  have D:=ap X pins H xs ys hf hx hy
  subst hP hw hK
  obtain⟨as,ra,pa,_⟩:=I.tuple (cj.of (K:=X.K) hx)
  obtain⟨bs,rb,pb,_⟩:=I.tuple (cj.of (K:=X.K) hy)
  have la:=ra.length
  have lb:=rb.length
  refine b86 (I.ok.hd hc) D hz dN dn ⟨h1,pa⟩ ⟨h2,pb⟩ (hl.imp (λq=>by simp;omega) λq=>by simp;omega) λh' kk=>⟨rfl,?_⟩
  exact I.rT (its:=[z,TO,i1,i2]) (t':=s.toks) (λc o hc e=>kk c o (λq=>hc (by simp[q])) (λq=>hc (by simp[q])) (λq=>hc (by simp[q])) (λq=>hc (by simp[q])) e)
   (λc hc=>hf c (by simp only[bM,eQ,or_false]at hc ⊢;rcases hc with rfl | rfl | rfl | rfl<;>simp))
end
section
variable{X:Cx}{a b:Expr}{ta:TA}{p pos iT:Pos}{elts:List Expr}{x1:Nat}
noncomputable def cr3(ta:TA):TI:=λσ H R=>ta σ H λvs H1=>∃a b,vs=[.ref a,.ref b]/\(∃xs,H1 a=some (.tup xs))/\(∃ys,H1 b=some (.tup ys))/\R (Fd a b) H1
theorem cf7(hg:Gl X "zip")(hm:X.mg "zip"=none)(ha:PA X [a,b] ta)(hs:starEach [a,b] X.env=[(false,eval a X.env),(false,eval b X.env)]:=by rfl)(dB:starEach [b] X.env=[(false,eval b X.env)]:=by rfl) :
  PI X (.Tuple elts x1 iT) (.Call (.Name "zip" p) [a,b] [] pos) (cr3 ta):=by
 intro pins s σ H R I h
 refine Call_ (j4 I hg hm Ng (rj (aB (ha pos pins s σ H _ I h) λus s1 ⟨vs,H1,I1,r1,q1⟩=>?_) (by rw[hs,dB]) (by rw[dB];rfl)))
 obtain⟨a,b,e,⟨xs,hx⟩,⟨ys,hy⟩,q⟩:=q1
 subst e
 cases r1 with
 | cons r rr =>
  cases rr with
  | cons r2 rr =>
   cases rr
   cases r
   cases r2
   obtain⟨as,ra,pa,_⟩:=I1.tuple (cj.of (K:=X.K) hx)
   obtain⟨bs,rb,pb,_⟩:=I1.tuple (cj.of (K:=X.K) hy)
   refine cg4 pa pb λh' hz dN dn h1 h2 kk=>wpAny_pyIter_zip hz ?_
   refine⟨_,[s1.heap.objs.size+4,s1.heap.objs.size+2,s1.heap.objs.size+3,s1.heap.objs.size,s1.heap.objs.size+1],_,_,H1,rfl,I1.kept (t':=s1.toks) kk,bK6 a b _ _ _ _ _ (by simp),⟨hz,dN,⟨_,_,dn⟩,h1,h2⟩,λc hc=>?_,q⟩
   have hle:s1.heap.objs.size<=c:=by
    simp only[bM,eQ,or_false]at hc
    rcases hc with rfl | rfl | rfl | rfl | rfl<;>omega
   exact I1.oi hle (I1.ay.fresh hle)
end
end L2
namespace L3
open PySem L2 PySem.Spec PyProof.Rows
section
variable{F H:Hp}{p q:Addr}{xs ys:List D}{ws us:List V}
theorem AA{v:V}(s:S F H [.tup xs] [v])(e:ae F H):∃p ws,v=.ref p/\H p=some (.tup ws)/\R H H (xs.map D.sh) ws []/\((D.tup xs).pl=true->xs.all D.pl=true/\R F H xs ws []):=by
 cases s with
 | @tup p ws _ _ _ h sx sr=>exact⟨p,ws,rfl,h,sx.frozen e,λz=>by rw[gK]at z;exact⟨z,sx.r z⟩⟩
theorem PN{K:PySem.W.Frag}(hp:F p=some (.tup ws))(r:R F H xs ws [])(hF:Full F H):JD (C2 K p) F xs where
 go:=λi H' hs hi=>by
  have l:=r.length
  have dM:i<ws.length:=by omega
  exact⟨ws,ws[i],cj.of (hs _ _ hp),bc dM⟩
 fQ:=λi H' x H2 hs hi zz=>by
  obtain⟨e,y⟩:=zz
  subst e
  exact⟨_,bc hi,ae.refl _,tI (r.full hF hs rfl) hi (y ws (cj.of (hs _ _ hp)))⟩
 stop:=λi H' hs hi=>⟨ws,cj.of (hs _ _ hp),by have:=r.length;omega⟩
theorem PQ(hp:F p=some (.tup ws))(r:R F H xs ws [])(hq:F q=some (.tup us))(t:R F H ys us [])(hF:Full F H):JD (Fd p q) F (eI xs ys) where
 go:=λi H' hs hi=>by
  rw[tH]at hi
  have l1:=r.length
  have l2:=t.length
  exact⟨ws,us,_,_,hs _ _ hp,hs _ _ hq,bc (show i<ws.length by omega),bc (show i<us.length by omega)⟩
 fQ:=λi H' v H2 hs hi zz=>by
  obtain⟨T,x,y,e1,e2,e3,hx,hy⟩:=zz
  subst e1 e3
  have tJ:=hi
  rw[tH]at tJ
  have h1:=tI (r.full hF hs rfl) (show i<xs.length by omega) (hx ws (hs _ _ hp))
  have h2:=tI (t.full hF hs rfl) (show i<ys.length by omega) (hy us (hs _ _ hq))
  have sm:=ae.upd (o:=.tup [x,y]) e2
  refine⟨_,bc hi,sm,?_⟩
  have eg:(eI xs ys)[i]=.tup [xs[i]'(by omega),ys[i]'(by omega)]:=by simp[eI]
  rw[eg]
  exact R.tup (A:=[]) (B:=[]) bN ((h1.shared (ae.refl _) sm).cons (h2.shared (ae.refl _) sm)) .nil
 stop:=λi H' hs hi=>by
  rw[tH]at hi
  have l1:=r.length
  have l2:=t.length
  exact⟨ws,us,hs _ _ hp,hs _ _ hq,by omega⟩
theorem Fe(h:H p=some (.tup ws)):snap F H p=some (.tup ws):=oI p _ h λ_ z=>by cases z
end
section
variable{X:Cx}{a b l tg:Expr}{ta:bW}{te:aC}{p pos iT:Pos}{elts:List Expr}{x1:Nat}
noncomputable def qL(t:aC):fZ:=λδ Q=>t δ λd ag=>∃xs,d=.tup xs/\Q d.pl xs ag
theorem PR(h:PE X l (lB te)):PI X tg l (lI (qL te)) :=
 mz (UM h) λσ H Q ⟨B,F,δ,ts,Qd,c,q,k⟩=>⟨B,F,δ,ts,_,c,q,λd ai v F1 H1 hd f1 h1 c1 s=>by
  obtain⟨xs,rfl,hq⟩:=hd
  have e2:=c1.ext
  have sn:=mf e2
  obtain⟨p1,w1,rfl,g1,t1,u1⟩:=AA s e2
  refine⟨p1,rfl,⟨w1,cj.of g1⟩,k _ _ ai _ _ H1 hq (f1.trans sn) h1 c1.snap (PN g1 t1 (Full.refl _)) λz=>?_⟩
  obtain⟨a1,a2⟩:=u1 z
  exact⟨a1,PN (Fe g1) (a2.shared sn (ae.refl _)) oI⟩⟩
noncomputable def qM(t:bW):fZ:=λδ Q=>t δ λds ag=>match ds with
 | [.tup xs,.tup ys]=>Q (xs.all D.pl&&ys.all D.pl) (eI xs ys) ag
 | _=>False
theorem cl1(hg:Gl X "zip")(hm:X.mg "zip"=none)(ha:PA X [a,b] (lA ta))(hs:starEach [a,b] X.env=[(false,eval a X.env),(false,eval b X.env)]:=by rfl)(dB:starEach [b] X.env=[(false,eval b X.env)]:=by rfl) :
  PI X (.Tuple elts x1 iT) (.Call (.Name "zip" p) [a,b] [] pos) (lI (qM ta)) :=
 mz (cf7 hg hm ha hs dB) λσ H Q ⟨B,F,δ,ts,Qd,c,q,k⟩=>⟨B,F,δ,ts,_,c,q,λds ai vs F1 H1 hd f1 h1 c1 s=>by
  split at hd
  ·rename_i xs ys
   obtain⟨v1,bV,rfl,s1,s2⟩:=s.cw
   obtain⟨v2,Za,rfl,s2,s3⟩:=s2.cw
   cases s3
   have e2:=c1.ext
   have sn:=mf e2
   obtain⟨p1,w1,rfl,g1,t1,u1⟩:=AA s1 e2
   obtain⟨p2,w2,rfl,g2,t2,u2⟩:=AA s2 e2
   refine⟨p1,p2,rfl,⟨w1,g1⟩,⟨w2,g2⟩,k _ _ ai _ _ H1 hd (f1.trans sn) h1 c1.snap ?_ λz=>?_⟩
   ·rw[EB]
    exact PQ g1 t1 g2 t2 (Full.refl _)
   ·rw[df]at z
    obtain⟨a1,a2⟩:=u1 (by rw[gK];exact z.1)
    obtain⟨b1,b2⟩:=u2 (by rw[gK];exact z.2)
    exact⟨Ob a1 b1,PQ (Fe g1) (a2.shared sn (ae.refl _)) (Fe g2) (b2.shared sn (ae.refl _)) oI⟩
  ·exact hd.elim⟩
end
end L3
namespace L3
open PySem L2 Mf
section
variable{m:Bool × Nat}
noncomputable def fk(m:Bool × Nat)(q x y:List Nat):List Nat:=aH (gR (de m) x (iB m q y))
theorem t9(hm:m∈aK){q x y:List Nat}(hx:AllLt (af m) x):AllLt (af m) (fk m q x y):=λa ha=>Λ hm hx (xC hm q y) a (qD ha)
theorem ua(hm:m∈aK){q x y:List Nat}(hx:AllLt (af m) x)(k:Nat):gp m (cf (fk m q x y) k) (ds (gp m) (gm m) (cf y) (cf q) k)=cf x k:=by
 unfold fk
 rw[fj,<- t7 hm,<- E2 hm]
 exact cb9 hm hx (xC hm q y) k
theorem Ff(l:List Nat):aH (aH l)=aH l:=xH λk=>fj l k
theorem xM(q x y:List Nat):fk m q x y=aH (fk m q x y):=(Ff _).symm
theorem cn1{l:List Nat}{L:Nat}(h:∀j,L<=j->cf l j=0):(aH l).length<=L:=by
 rcases tW l with z | z
 ·omega
 ·rcases Lv ((aH l).length-1) L with y | y
  ·omega
  ·exact absurd ((fj l _).trans (h _ y)) z
theorem bS8(hm:m∈aK){q y:List Nat}{k:Nat}(h:q.length+y.length<=k+1):ds (gp m) (gm m) (cf y) (cf q) k=0:=by
 refine gS (rg hm) λj hj=>?_
 by_cases h1:q.length<=j
 ·rw[cR h1,(rg hm).zq]
 ·rw[cR (l:=y) (by omega),(rg hm).qz]
theorem Fg(hm:m∈aK){q x y:List Nat}{L:Nat}(hx:AllLt (af m) x)(h1:x.length<=L)(h2:q=[]\/y=[]\/q.length+y.length<=L+1):(fk m q x y).length<=L:=by
 have r:=rg hm
 rw[xM]
 refine cn1 λj hj=>?_
 have e:=ua hm (q:=q) (y:=y) hx j
 have dz:ds (gp m) (gm m) (cf y) (cf q) j=0:=by
  rcases h2 with rfl | rfl | h2
  ·exact tY r (λ_=>rfl) j
  ·exact tZ r (λ_=>rfl) j
  ·exact bS8 hm (by omega)
 rw[dz,cR (l:=x) (by omega),r.z' (bx hm (t9 hm hx) j)]at e
 exact e
theorem PU(hm:m∈aK){a b:Nat}(ha:a<af m)(hb:b<af m)(h:gm m a b=0):a=0\/b=0:=by
 have r:=rg hm
 by_cases z9:b=0
 ·exact .inr z9
 ·obtain⟨c,hc,e⟩:=quot hm (a:=1) (by have:=(cC hm).lo;omega) hb z9
  left
  have:gm m (gm m a b) c=gm m a (gm m b c):=r.ma ha hb hc
  rw[h,r.zq,r.mc b c,e,r.mc a 1,r.one ha]at this
  exact this.symm
theorem AB{l:List Nat}(h:l=aH l)(h0:l≠[]):cf l (l.length-1)≠0:=by
 rcases tW l with z | z
 ·rw[<-h]at z;exact absurd (Lw.mp z) h0
 ·rw[<-h]at z;exact z
theorem cr2(hm:m∈aK){a b q r:List Nat}(hb:AllLt (af m) b)(hq:AllLt (af m) q)(cb:b=aH b)(b0:b≠[])(cq:q=aH q)(hr:(aH r).length<b.length)(hi:∀k,gp m (di m b q k) (cf r k)=cf a k):q=[]\/b.length+q.length<=a.length+1:=by
 by_cases q0:q=[]
 ·exact .inl q0
 right
 have R:=rg hm
 have lb:0<b.length:=nS.mpr b0
 have lq:0<q.length:=nS.mpr q0
 rcases Lv a.length (b.length+q.length-1)with z | z
 case inr=>omega
 have e:=hi ((q.length-1)+(b.length-1))
 rw[t7 hm,PB R (d:=q.length-1) (e:=b.length-1) (λj hj=>cR (by omega)) (λj hj=>cR (by omega)),cR (l:=a) (by omega),<- fj r,cR (l:=aH r) (by omega),R.z' (R.lq _ _)]at e
 rcases PU hm (bx hm hq _) (bx hm hb _) e with y | y
 ·exact absurd y (AB cq q0)
 ·exact absurd y (AB cb b0)
structure GW(m:Bool × Nat)(a b:List Nat)(L:Nat)(r0 s0 t0 r1 s1 t1:List Nat):Prop where
 gq:AllLt (af m) r0
 qN:AllLt (af m) s0
 qO:AllLt (af m) t0
 ub:AllLt (af m) r1
 Fh:AllLt (af m) s1
 Fj:AllLt (af m) t1
 c0:r0=aH r0
 c1:r1=aH r1
 cs0:s0=aH s0
 Fl:t0=aH t0
 cs1:s1=aH s1
 Fm:t1=aH t1
 z0:Bz (gp m) (gm m) (cf a) (cf b) (cf r0) (cf s0) (cf t0)
 z1:Bz (gp m) (gm m) (cf a) (cf b) (cf r1) (cf s1) (cf t1)
 ka:Mk (af m) (gp m) (gm m) (cf a) (cf r0) (cf r1)
 kb:Mk (af m) (gp m) (gm m) (cf b) (cf r0) (cf r1)
 n1:s0.length+r1.length<=L
 n2:s1.length+r0.length<=L
 n3:t0.length+r1.length<=L
 n4:t1.length+r0.length<=L
theorem co7(k:Nat):cf [1] k=if k=0 then 1 else 0:=by
 cases k with
 | zero=>rfl
 | succ k=>rfl
theorem Fo(hm:m∈aK)(l:List Nat)(hl:AllLt (af m) l)(k:Nat):ds (gp m) (gm m) (cf l) (cf [1]) k=cf l k:=by
 have R:=rg hm
 rw[show cf [1]=λj=>if j=0 then 1 else 0 from funext co7,PD R,R.one]
 ·exact jP _ (iE _)
 ·rw[jP _ (iE _)];exact bx hm hl _
theorem AD(hm:m∈aK)(s:Nat->Nat)(k:Nat):ds (gp m) (gm m) s (cf []) k=0:=tY (rg hm) (λ_=>rfl) k
theorem GW.start(hm:m∈aK){a b:List Nat}(ha:AllLt (af m) a)(hb:AllLt (af m) b):GW m a b (1+a.length+b.length) (aH a) [1] [] (aH b) [] [1]:=by
 have R:=rg hm
 have lo:=(cC hm).lo
 have l1:AllLt (af m) [1]:=λx hx=>by have:=nL.mp hx;omega
 have l0:AllLt (af m) ([]:List Nat):=λx hx=>nomatch hx
 have ca:=qE a
 have cb:=qE b
 have e1:∀(l:List Nat),AllLt (af m) l->∀k,ds (gp m) (gm m) (cf (aH l)) (cf [1]) k=cf l k:=λl hl k=>by
  rw[show cf (aH l)=cf l from funext (fj l)];exact Fo hm l hl k
 refine⟨λx hx=>ha x (qD hx),l1,l0,λx hx=>hb x (qD hx),l0,l1,(Ff a).symm,(Ff b).symm,rfl,rfl,rfl,rfl,λk=>?_,λk=>?_,⟨cf [1],cf [],1,bx hm l1,bx hm l0,λj hj=>cR hj,λj _=>rfl,λk=>?_⟩,⟨cf [],cf [1],1,bx hm l0,bx hm l1,λj _=>rfl,λj hj=>cR hj,λk=>?_⟩,?_,?_,?_,?_⟩
 ·rw[Fo hm a ha,AD hm,R.z' (bx hm ha k),fj]
 ·rw[Fo hm b hb,AD hm,R.z (bx hm hb k),fj]
 ·rw[e1 a ha,AD hm,R.z' (bx hm ha k)]
 ·rw[e1 b hb,AD hm,R.z (bx hm hb k)]
 all_goals simp only[fq,rC];omega
theorem GW.next(hm:m∈aK){a b:List Nat}{L:Nat}{r0 s0 t0 r1 s1 t1:List Nat}(ha:AllLt (af m) a)(hb:AllLt (af m) b)(g:GW m a b L r0 s0 t0 r1 s1 t1)(h1:r1≠[]){q r:List Nat}(cq:q=aH q)(lq:AllLt (af m) q)(lr:AllLt (af m) r)
  (hr:(aH r).length<(aH r1).length) (hi:∀k,gp m (di m r1 q k) (cf r k)=cf r0 k) :
  GW m a b L r1 s1 t1 (fk m q r0 r1) (fk m q s0 s1) (fk m q t0 t1)/\(fk m q r0 r1).length<r1.length:=by
 have R:=rg hm
 rw[<-g.c1]at hr
 have er:∀k,cf (fk m q r0 r1) k=cf r k:=λk=>by
  refine R.E5 (bx hm (t9 hm g.gq) k) (bx hm lr k) (qH R (cf r1) (cf q) k) ?_
  rw[ua hm g.gq,<- hi k,R.pc,t7 hm]
 have e2:fk m q r0 r1=aH r:=by rw[xM];exact xH er
 have ql:=cr2 hm g.ub lq g.c1 h1 cq hr hi
 have lt2:(fk m q r0 r1).length<r1.length:=by rw[e2];exact hr
 have Nh:(fk m q r0 r1).length<=r0.length:=by
  rcases Lv r0.length r1.length with z | z
  ·rcases ql with y | y
   ·exact Fg hm g.gq (aX _) (.inl y)
   ·by_cases q0:q=[]
    ·exact Fg hm g.gq (aX _) (.inl q0)
    ·have:=nS.mpr q0;omega
  ·omega
 have len:∀{x y:List Nat},AllLt (af m) x->x.length+r1.length<=L->y.length+r0.length<=L->(fk m q x y).length+r1.length<=L:=λ{x y} hx b1 b2=>by
  have:=Fg hm (L:=L-r1.length) (q:=q) (y:=y) hx (by omega) (by
   rcases ql with z | z
   ·exact .inl z
   ·by_cases y0:y=[]
    ·exact .inr (.inl y0)
    ·exact .inr (.inr (by omega)))
  omega
 have n1:=g.n1
 have n2:=g.n2
 have n3:=g.n3
 have n4:=g.n4
 have hx:∀j,cf q j<af m:=bx hm lq
 have h2:∀k,cf r0 k=gp m (ds (gp m) (gm m) (cf r1) (cf q) k) (cf (fk m q r0 r1) k):=λk=>by rw[R.pc];exact(ua hm g.gq k).symm
 refine⟨⟨g.ub,g.Fh,g.Fj,t9 hm g.gq,t9 hm g.qN,t9 hm g.qO,g.c1,xM _ _ _,g.cs1,g.Fm,xM _ _ _,xM _ _ _,g.z1,?_,?_,?_,?_,len g.qN n1 n2,?_,len g.qO n3 n4⟩,lt2⟩
 ·exact Bz.next R (bx hm ha) (bx hm hb) hx (bx hm g.Fh) (bx hm g.Fj) (bx hm (t9 hm g.gq)) g.z0 g.z1 (ua hm g.gq) (ua hm g.qN) (ua hm g.qO)
 ·exact g.ka.next R (bx hm g.ub) hx (λj hj=>cR hj) h2
 ·exact g.kb.next R (bx hm g.ub) hx (λj hj=>cR hj) h2
 ·omega
 ·omega
noncomputable def Dv(m:Bool × Nat)(a g:List Nat):Prop:=∃(u:Nat->Nat) (d:Nat),(∀j,u j<af m)/\(∀j,d<=j->u j=0)/\∀k,cf a k=ds (gp m) (gm m) (cf g) u k
theorem Fp(hm:m∈aK){l:List Nat}{v:Nat}(hl:AllLt (af m) l)(c:l=aH l)(hv:v<af m)(v0:v≠0):l.map (gm m v)=aH (l.map (gm m v)):=by
 by_cases l0:l=[]
 ·subst l0;rfl
 ·have hp:=nS.mpr l0
  have:=xy (l:=l.map (gm m v)) (k:=l.length) (by rw[dS];exact aX _) (λx hx=>by rw[List.drop_of_length_le (by rw[dS];exact aX _)]at hx;cases hx) (.inr λz=>?_)
  ·rw[this,Lh (by rw[dS];exact aX _)]
  ·have z':cf (l.map (gm m v)) (l.length-1)=0:=z
   rw[xJ hm]at z'
   rcases PU hm hv (bx hm hl _) z' with y | y
   ·exact v0 y
   ·exact AB c l0 y
theorem GW.dv(hm:m∈aK){c r0:List Nat}(l0:AllLt (af m) r0)(k:Mk (af m) (gp m) (gm m) (cf c) (cf r0) (cf [])){v:Nat}(hv:v<af m)(hl:gm m v (cf r0 (r0.length-1))=1):Dv m c (r0.map (gm m v)):=by
 have R:=rg hm
 obtain⟨u0,u1,d,a1,a2,a3,a4,a5⟩:=k
 have lc:=bx hm l0 (r0.length-1)
 have lg:∀j,cf (r0.map (gm m v)) j<af m:=λj=>by rw[xJ hm];exact R.lq _ _
 refine⟨λj=>gm m (cf r0 (r0.length-1)) (u0 j),d,λj=>R.lq _ _,λj hj=>by show gm m _ (u0 j)=0;rw[a3 j hj,R.qz],λn=>?_⟩
 rw[a5 n,show ds (gp m) (gm m) (cf []) u1 n=0 from tZ R (λ_=>rfl) n,R.z' (qH R _ _ _),E7 R lc a1 lg,<- cf8 R lc a1 lg]
 congr 1
 funext j
 rw[xJ hm,<- R.ma lc hv (bx hm l0 j),R.mc (cf r0 _) v,hl,R.one (bx hm l0 j)]
noncomputable def ig(m:Bool × Nat)(f:Nat)(g:List Nat)(s:Nat)(l:List Nat):Nat->List Nat
 | 0=>l
 | i+1=>(ig m f g s l i).set (s+i) (de m (cf (ig m f g s l i) (s+i)) (gm m f (cf g i)))
theorem xN(f:Nat)(g:List Nat)(s:Nat)(l:List Nat):∀i,(ig m f g s l i).length=l.length
 | 0=>rfl
 | i+1=>by unfold ig;rw[B9,xN f g s l i]
theorem cl0{N:Nat}{l:List Nat}(h:AllLt N l){i v:Nat}(hv:v<N):AllLt N (l.set i v):=λx hx=>by
 rcases Ct hx with z | z
 ·exact h x z
 ·rw[z];exact hv
theorem xO(hm:m∈aK)(f:Nat)(g:List Nat)(s:Nat){l:List Nat}(h:AllLt (af m) l):∀i,AllLt (af m) (ig m f g s l i)
 | 0=>h
 | i+1=>by
  unfold ig
  exact cl0 (xO hm f g s h i) (jO hm (bx hm (xO hm f g s h i) _) ((rg hm).lq _ _)).2.1
theorem b92{l:List Nat}{i v:Nat}(h:i<l.length)(k:Nat):cf (l.set i v) k=if k=i then v else cf l k:=by
 unfold cf
 rw[aU,aU]
 by_cases e:k=i
 ·subst e;rw[if_pos rfl,K5 h];rfl
 ·rw[if_neg e,nC (λz=>e z.symm)]
theorem Fq(f:Nat)(g:List Nat)(s:Nat)(l:List Nat):∀i,s+i<=l.length->∀k,cf (ig m f g s l i) k=if s<=k/\k<s+i then de m (cf l k) (gm m f (cf g (k-s)))else cf l k
 | 0,_,k=>by rw[if_neg (by omega)];rfl
 | i+1,h,k=>by
  unfold ig
  rw[b92 (by rw[xN];omega),Fq f g s l i (by omega) k,Fq f g s l i (by omega) (s+i),if_neg (show ¬ (s<=s+i/\s+i<s+i) by omega)]
  by_cases e:k=s+i
  ·subst e
   rw[if_pos rfl,if_pos (by omega),vG]
  ·rw[if_neg e]
   by_cases e2:s<=k/\k<s+i
   ·rw[if_pos e2,if_pos (by omega)]
   ·rw[if_neg e2,if_neg (by omega)]
theorem ce4(l:List Nat)(f k:Nat):cf (l++[f]) k=if k<l.length then cf l k else if k=l.length then f else 0:=by
 unfold cf
 rw[aU,aU]
 by_cases h:k<l.length
 ·rw[if_pos h,vx h]
 ·rw[if_neg h,nE (by omega)]
  by_cases e:k=l.length
  ·rw[if_pos e,e,yF];rfl
  ·rw[if_neg e,nU (by simp;omega)];rfl
theorem bT6(hm:m∈aK){l g:List Nat}{f:Nat}(hl:AllLt (af m) l)(hf:f<af m)(g1:cf g (g.length-1)=1)(g0:0<g.length)(h:g.length<=l.length+1)(k:Nat) :
  gp m (cf (ig m f g (l.length+1-g.length) l (g.length-1)) k) (gm m f (eo (l.length+1-g.length) (cf g) k))=cf (l++[f]) k:=by
 have R:=rg hm
 rw[Fq f g _ l _ (by omega),ce4]
 by_cases h1:k<l.length
 ·rw[if_pos h1]
  by_cases h2:l.length+1-g.length<=k
  ·rw[if_pos (by omega),jP _ h2]
   exact(jO hm (bx hm hl k) (R.lq _ _)).2.2
  ·rw[if_neg (by omega),Au (by omega),R.qz,R.z' (bx hm hl k)]
 ·rw[if_neg h1,if_neg (by omega),cR (l:=l) (by omega),jP _ (by omega)]
  by_cases e:k=l.length
  ·rw[if_pos e,show k-(l.length+1-g.length)=g.length-1 by omega,g1,R.mc,R.one hf,R.z hf]
  ·rw[if_neg e,cR (l:=g) (by omega),R.qz,R.z R.pos]
theorem Dv.step(hm:m∈aK){l g:List Nat}{f:Nat}(hl:AllLt (af m) l)(hf:f<af m)(g1:cf g (g.length-1)=1)(g0:0<g.length)(h:g.length<=l.length+1)(d:Dv m (l++[f]) g):Dv m (ig m f g (l.length+1-g.length) l (g.length-1)) g:=by
 obtain⟨u,n,a1,a2,a3⟩:=d
 have R:=rg hm
 have gn:=λj=>jO hm (a1 j) hf
 refine⟨λj=>if j=l.length+1-g.length then de m (u j) f else u j,n+(l.length+1),λj=>?_,λj hj=>?_,λk=>?_⟩
 ·by_cases e:j=l.length+1-g.length
  ·simp only[if_pos e];exact(gn j).2.1
  ·simp only[if_neg e];exact a1 j
 ·simp only[if_neg (show ¬ j=l.length+1-g.length by omega)];exact a2 j (by omega)
 ·refine bL7 R (f:=f) (i:=l.length+1-g.length) (λk=>bx hm (xO hm f g _ hl _) k) hf a3 (λj=>?_) (λk=>bT6 hm hl hf g1 g0 h k) k
  by_cases e:j=l.length+1-g.length
  ·simp only[if_pos e];exact(gn j).2.2
  ·simp only[if_neg e];exact R.z' (a1 j)
theorem Dv.none(hm:m∈aK){l g:List Nat}(g1:cf g (g.length-1)=1)(g0:0<g.length)(h:l.length<g.length)(d:Dv m l g):∀x∈l,x=0:=by
 obtain⟨u,n,a1,a2,a3⟩:=d
 have R:=rg hm
 have uz:=PC R (u:=u) (l:=cf g) (e:=g.length-1) a1 (λj hj=>cR (by omega)) g1 (λk hk=>by rw[<-a3 k];exact cR (by omega)) n a2
 intro x hx
 obtain⟨i,hi,rfl⟩:=yC hx
 have:=a3 i
 rw[tY R uz]at this
 rw[<-this]
 unfold cf
 rw[aU,bc hi];rfl
end
end L3
namespace L3
open PySem L2 PySem.Spec PyProof.Rows
section
variable{B:Bs}{F H:Hp}{σ:L2.St}{δ:Dl}{ts:List (D × V)}
theorem aj.cE3{p:Addr}{d:D}{xs:List D}{ws:List V}{z:V}(c:aj B F H σ δ ((.tup (d::xs),.ref p)::ts))(e1:H p=some (.tup (z::ws))):aj B F H σ δ ((d,z)::ts):=by
 refine aj.pack (ps:=[(.tup (d::xs),.ref p)]) c (ae.refl _) λA1 r1 nd=>?_
 have r1:R F H [.tup (d::xs)] [.ref p] A1:=r1
 cases r1 with
 | @tup _ wx _ Ax _ _ Bx hx rx rc =>
  cases rc
  rw[e1]at hx;cases hx
  obtain⟨v,bV,B1,B2,e,rfl,h1,h2⟩:=R.cw rx
  obtain⟨rfl,rfl⟩:=nN e
  rw[iF]at nd
  exact⟨B1,h1,(eK.mp nd).1,λa ha=>.inl (by simp[ha])⟩
end
section
variable{X:Cx}{a:Expr}{ta:aC}{pos p2:Pos}{tk:Nat}
noncomputable def qP(ta:aC):aC:=λδ Q=>ta δ λx ai=>∃d xs,x=.tup (d::xs)/\Q d ai
theorem cu5(ha:PE X a (lE ta))(hs:Di (.Constant (.int 0) tk p2)):PE X (.Subscript a (.Constant (.int 0) tk p2) pos) (lE (qP ta)) :=
 cQ (Ma Me ha rH hs) λσ H Q ⟨B,F,δ,ts,Qd,c,q,k⟩=>⟨B,F,δ,ts,_,c,q,λx ai v F1 H1 q1 f1 h1 c1=>by
  obtain⟨d,xs,rfl,hq⟩:=q1
  obtain⟨p,ws,rfl,e1,s1,_⟩:=AA c1.top c1.ext
  have hl:=s1.length
  cases ws with
  | nil=>simp at hl
  | cons z vs=>exact⟨p,_,0,z,rfl,rfl,cj.of e1,(by unfold dm;rw[xF (Int.le_refl 0) (by show 0<(z::vs).length;simp)];rfl),k _ ai z F1 H1 hq f1 h1 (c1.cE3 e1)⟩⟩
end
end L3
namespace HK11
open PySem.W (Frag codeHdIn nsIn fnOf codeIn keepIn findIn isFn specialIn takesIn mroIn mg_of mg_none_of CodeHd)
open PySem L2 L3 Mf
seal L2.PSs L2.PS L2.PE L2.PT L2.PA L2.PI L2.PG L2.PO L2.PW
local macro_rules | `(tactic| walk_at "l3") => do
  let l ← (("oW mx oX oY dT jy kr ku dC mj mw mr mq oU oV kD pU mJ pV pW oK oM oN oO oQ oR oS mm pQ mF mG ii mD pk mE pq pz pB pE pF pG iI eU pI pJ pK pL sj pO pP gN pZ pS oZ o9 pe pf p5 ph p7 p8 p9 mC iy eM gM gO nM nG vH vI iu iw mH mI qf qh qi qj tw qo mP qk ia tG tE tF dj il rA nI fq rC aN vJ vK nX nY vL exists_eq_left' exists_eq_left D.bl.injEq D.int.injEq D.lst.injEq D.fz.injEq D.str.injEq D.tup.injEq vM and_true true_and dg nV j0 lj sA sC sD sE sF sG gJ gK mK sN sO sP sQ sR fE iX sH sI sJ sM fC jw vN vO rh jk vP vQ rm sV sW sX sY sZ s8 s9 i5 kH mL gP mM sT qe sS mO sU i6 qa if_true vR if_false reduceIte tf decide_eq_true_eq cM fI qp qu i8 tK o8 qw m8 m9 qm mT mV qA qI qJ qP qL qM sL ξ ο π ρ Al kO".splitOn " ").toArray.map fun (s : String) => Lean.mkIdent s.toName).mapM fun i => `(Lean.Parser.Tactic.simpLemma| $i:term)
  `(tactic| simp only [$l,*])
noncomputable def top (i:Nat):Stmt:=PySem.Challenge.pw_mendfield_k11_greatest_walked.main.body.getD i (.Pass ⟨0,0,0,0⟩)
noncomputable abbrev ud:Stmt:=top 29
theorem Fs:bj ["_law_cell_here","_law_some","_law_primes"] ["_law_cell_here"] (ax ud):=⟨rfl,rfl,rfl,by decide +kernel,rfl,by decide +kernel,by decide +kernel⟩
noncomputable abbrev ue:Stmt:=top 17
theorem AE:bj ["a","product","found","power"] ["a","product"] (ax ue):=⟨rfl,rfl,rfl,by decide +kernel,rfl,by decide +kernel,by decide +kernel⟩
noncomputable abbrev uf:Stmt:=top 18
theorem xP:bj ["many","product","step","found"] ["many","product"] (ax uf):=⟨rfl,rfl,rfl,by decide +kernel,rfl,by decide +kernel,by decide +kernel⟩
noncomputable abbrev ug:Stmt:=top 19
theorem Ft:bj ["powers","logs","n","a"] ["powers"] (ax ug):=⟨rfl,rfl,rfl,by decide +kernel,rfl,by decide +kernel,by decide +kernel⟩
noncomputable abbrev uh:Stmt:=fV (top 23) 8
theorem aA7:bj ["self","n"] ["self","n"] (ax uh):=⟨rfl,rfl,rfl,by decide +kernel,rfl,by decide +kernel,by decide +kernel⟩
noncomputable abbrev ui:Stmt:=fV (top 23) 0
theorem aJ7:bj ["self","many","product"] ["self","many","product"] (ax ui):=⟨rfl,rfl,rfl,by decide +kernel,rfl,by decide +kernel,by decide +kernel⟩
noncomputable abbrev uj:Stmt:=top 22
theorem az2:bj ["prime"] ["prime"] (ax uj):=⟨rfl,rfl,rfl,by decide +kernel,rfl,by decide +kernel,by decide +kernel⟩
noncomputable abbrev kS:Stmt:=fV (top 25) 0
theorem aB6:bj ["self","prime"] ["self","prime"] (ax kS):=⟨rfl,rfl,rfl,by decide +kernel,rfl,by decide +kernel,by decide +kernel⟩
noncomputable abbrev uk:Stmt:=top 20
theorem AF:bj ["powers","logs","many","rows","a"] ["powers","logs"] (ax uk):=⟨rfl,rfl,rfl,by decide +kernel,rfl,by decide +kernel,by decide +kernel⟩
noncomputable abbrev um:Stmt:=top 14
theorem uo:bj ["a","b","quotient","rest","shift"] ["a","b"] (ax um):=⟨rfl,rfl,rfl,by decide +kernel,rfl,by decide +kernel,by decide +kernel⟩
noncomputable abbrev uq:Stmt:=top 15
theorem Fu:bj ["a","half","b"] ["a"] (ax uq):=⟨rfl,rfl,rfl,by decide +kernel,rfl,by decide +kernel,by decide +kernel⟩
noncomputable abbrev ur:Stmt:=top 21
theorem aB7:bj ["bits"] ["bits"] (ax ur):=⟨rfl,rfl,rfl,by decide +kernel,rfl,by decide +kernel,by decide +kernel⟩
noncomputable abbrev uu:Stmt:=top 13
theorem AG:bj ["a","b","product","k"] ["a","b"] (ax uu):=⟨rfl,rfl,rfl,by decide +kernel,rfl,by decide +kernel,by decide +kernel⟩
noncomputable abbrev kT:Stmt:=fV (top 24) 0
theorem PV:bj ["self","bits","many"] ["self","bits"] (ax kT):=⟨rfl,rfl,rfl,by decide +kernel,rfl,by decide +kernel,by decide +kernel⟩
noncomputable abbrev uv:Stmt:=top 31
theorem aJ8:bj ["_law_told_here"] ["_law_told_here"] (ax uv):=⟨rfl,rfl,rfl,by decide +kernel,rfl,by decide +kernel,by decide +kernel⟩
noncomputable abbrev uw:Stmt:=top 30
theorem aL6:bj ["_law_told_here"] ["_law_told_here"] (ax uw):=⟨rfl,rfl,rfl,by decide +kernel,rfl,by decide +kernel,by decide +kernel⟩
noncomputable abbrev uA:Stmt:=fV (top 23) 5
theorem aJ9:bj ["self","a","b"] ["self","a","b"] (ax uA):=⟨rfl,rfl,rfl,by decide +kernel,rfl,by decide +kernel,by decide +kernel⟩
noncomputable abbrev uB:Stmt:=top 6
theorem Fv:bj ["a","length"] ["a"] (ax uB):=⟨rfl,rfl,rfl,by decide +kernel,rfl,by decide +kernel,by decide +kernel⟩
noncomputable abbrev uC:Stmt:=fV (top 24) 7
theorem PY:bj ["self","row","a","other","by_a"] ["self","row","a","other"] (ax uC):=⟨rfl,rfl,rfl,by decide +kernel,rfl,by decide +kernel,by decide +kernel⟩
noncomputable abbrev uD:Stmt:=fV (top 25) 7
theorem PZ:bj ["self","row","a","other","prime"] ["self","row","a","other"] (ax uD):=⟨rfl,rfl,rfl,by decide +kernel,rfl,by decide +kernel,by decide +kernel⟩
noncomputable abbrev uE:Stmt:=top 10
theorem qQ:bj ["field","a","b","divisor","rest","quotient","k","factor"] ["field","a","b"] (ax uE):=⟨rfl,rfl,rfl,by decide +kernel,rfl,by decide +kernel,by decide +kernel⟩
noncomputable abbrev uF:Stmt:=fV (top 24) 2
theorem aE5:bj ["self","a","b"] ["self","a","b"] (ax uF):=⟨rfl,rfl,rfl,by decide +kernel,rfl,by decide +kernel,by decide +kernel⟩
noncomputable abbrev uG:Stmt:=fV (top 25) 2
theorem aA8:bj ["self","a","b"] ["self","a","b"] (ax uG):=⟨rfl,rfl,rfl,by decide +kernel,rfl,by decide +kernel,by decide +kernel⟩
noncomputable abbrev uH:Stmt:=top 7
theorem aP8:bj ["a","length"] ["a","length"] (ax uH):=⟨rfl,rfl,rfl,by decide +kernel,rfl,by decide +kernel,by decide +kernel⟩
noncomputable abbrev uI:Stmt:=top 8
theorem P0:bj ["field","a","b","length"] ["field","a","b"] (ax uI):=⟨rfl,rfl,rfl,by decide +kernel,rfl,by decide +kernel,by decide +kernel⟩
noncomputable abbrev uJ:Stmt:=fV (top 24) 6
theorem P1:bj ["self","a","row","by_a"] ["self","a","row"] (ax uJ):=⟨rfl,rfl,rfl,by decide +kernel,rfl,by decide +kernel,by decide +kernel⟩
noncomputable abbrev uK:Stmt:=fV (top 25) 6
theorem P2:bj ["self","a","row","prime"] ["self","a","row"] (ax uK):=⟨rfl,rfl,rfl,by decide +kernel,rfl,by decide +kernel,by decide +kernel⟩
noncomputable abbrev uL:Stmt:=fV (top 24) 1
theorem aG5:bj ["self","a","b"] ["self","a","b"] (ax uL):=⟨rfl,rfl,rfl,by decide +kernel,rfl,by decide +kernel,by decide +kernel⟩
noncomputable abbrev uM:Stmt:=fV (top 25) 1
theorem aB8:bj ["self","a","b"] ["self","a","b"] (ax uM):=⟨rfl,rfl,rfl,by decide +kernel,rfl,by decide +kernel,by decide +kernel⟩
noncomputable abbrev uN:Stmt:=fV (top 24) 3
theorem aE6:bj ["self","a","b"] ["self","a","b"] (ax uN):=⟨rfl,rfl,rfl,by decide +kernel,rfl,by decide +kernel,by decide +kernel⟩
noncomputable abbrev uO:Stmt:=fV (top 25) 3
theorem aA9:bj ["self","a","b"] ["self","a","b"] (ax uO):=⟨rfl,rfl,rfl,by decide +kernel,rfl,by decide +kernel,by decide +kernel⟩
noncomputable abbrev uP:Stmt:=top 9
theorem AH:bj ["field","a","b","total","i","x","j","y"] ["field","a","b"] (ax uP):=⟨rfl,rfl,rfl,by decide +kernel,rfl,by decide +kernel,by decide +kernel⟩
noncomputable abbrev uQ:Stmt:=top 11
theorem nq:bj ["field","a","b","one","other","quotient","left","inverse"] ["field","a","b"] (ax uQ):=⟨rfl,rfl,rfl,by decide +kernel,rfl,by decide +kernel,by decide +kernel⟩
noncomputable abbrev uR:Stmt:=top 27
theorem aL7:bj ["_law_script","_law_k"] ["_law_script","_law_k"] (ax uR):=⟨rfl,rfl,rfl,by decide +kernel,rfl,by decide +kernel,by decide +kernel⟩
noncomputable abbrev uS:Stmt:=top 37
theorem P4:bj ["_law_row"] ["_law_row"] (ax uS):=⟨rfl,rfl,rfl,by decide +kernel,rfl,by decide +kernel,by decide +kernel⟩
noncomputable abbrev uT:Stmt:=top 32
theorem aL8:bj ["_law_told_here","_law_a","_law_b"] ["_law_told_here","_law_a","_law_b"] (ax uT):=⟨rfl,rfl,rfl,by decide +kernel,rfl,by decide +kernel,by decide +kernel⟩
noncomputable abbrev uU:Stmt:=top 34
theorem uV:bj ["_law_told_here","_law_a","_law_b","_law_total"] ["_law_told_here","_law_a","_law_b"] (ax uU):=⟨rfl,rfl,rfl,by decide +kernel,rfl,by decide +kernel,by decide +kernel⟩
noncomputable abbrev uW:Stmt:=top 38
theorem AI:bj ["_law_told_here","_law_a","_law_b","_law_total","_law_i","_law_x","_law_j","_law_y"] ["_law_told_here","_law_a","_law_b"] (ax uW):=⟨rfl,rfl,rfl,by decide +kernel,rfl,by decide +kernel,by decide +kernel⟩
noncomputable abbrev uX:Stmt:=top 39
theorem AJ:bj ["_law_told_here","_law_a","_law_b","_law_size"] ["_law_told_here","_law_a","_law_b"] (ax uX):=⟨rfl,rfl,rfl,by decide +kernel,rfl,by decide +kernel,by decide +kernel⟩
noncomputable abbrev uY:Stmt:=top 33
theorem aL9:bj ["_law_told_here","_law_a","_law_b"] ["_law_told_here","_law_a","_law_b"] (ax uY):=⟨rfl,rfl,rfl,by decide +kernel,rfl,by decide +kernel,by decide +kernel⟩
noncomputable abbrev uZ:Stmt:=top 40
theorem xQ:bj ["_law_told_here","_law_a","_law_low","_law_rest","_law_top","_law_shift","_law_k"] ["_law_told_here","_law_a","_law_low"] (ax uZ):=⟨rfl,rfl,rfl,by decide +kernel,rfl,by decide +kernel,by decide +kernel⟩
noncomputable abbrev u3:Stmt:=top 28
theorem aK0:bj ["_law_x"] ["_law_x"] (ax u3):=⟨rfl,rfl,rfl,by decide +kernel,rfl,by decide +kernel,by decide +kernel⟩
noncomputable abbrev u4:Stmt:=top 35
theorem aK1:bj ["_law_found","_law_many_here"] ["_law_found","_law_many_here"] (ax u4):=⟨rfl,rfl,rfl,by decide +kernel,rfl,by decide +kernel,by decide +kernel⟩
noncomputable abbrev u5:Stmt:=top 36
theorem aM0:bj ["_law_found","_law_many_here"] ["_law_found","_law_many_here"] (ax u5):=⟨rfl,rfl,rfl,by decide +kernel,rfl,by decide +kernel,by decide +kernel⟩
noncomputable abbrev kU:Stmt:=top 41
theorem gr:bj ["_law_script","_law_told_here","_law_field_here","_law_many_here","_law_room","_law_cells","_law_size","_law_parts","_law_cut_here","_law_way","_law_a","_law_b","_law_handed","_law_found"] ["_law_script"] (ax kU):=⟨rfl,rfl,rfl,by decide +kernel,rfl,by decide +kernel,by decide +kernel⟩
set_option genInjectivity false in
set_option genSizeOf false in
structure oB where
 Fw:Addr
 Fx:FuncData
 Fy:Addr
 Fz:FuncData
 FA:Addr
 FC:FuncData
 FD:Addr
 FE:FuncData
 xR:Addr
 FF:FuncData
 FG:Addr
 FH:FuncData
 FI:Addr
 FJ:FuncData
 FK:Addr
 AK:FuncData
 FL:Addr
 FN:FuncData
 FP:Addr
 FQ:FuncData
 FR:Addr
 FT:FuncData
 FU:Addr
 FV:FuncData
 FW:Addr
 FX:FuncData
 FY:Addr
 AL:FuncData
 FZ:Addr
 Ga:FuncData
 Gb:Addr
 Gd:FuncData
 AM:Addr
 Ge:FuncData
 Gf:Addr
 Gg:FuncData
 Gh:Addr
 Gi:FuncData
 Gj:Addr
 Gk:FuncData
 Gm:Addr
 Gn:FuncData
 Gp:Addr
 Gq:FuncData
 Gr:Addr
 Gs:FuncData
 Gu:Addr
 Gv:FuncData
 Gw:Addr
 Gx:FuncData
 Gy:Addr
 Gz:FuncData
 GA:Addr
 GB:FuncData
 GC:Addr
 GD:FuncData
 GF:Addr
 GG:FuncData
 GH:Addr
 GI:FuncData
 GJ:Addr
 GK:FuncData
 GL:Addr
 GN:FuncData
 GO:Addr
 GP:FuncData
 GQ:Addr
 GR:FuncData
 GS:Addr
 GU:FuncData
 GV:Addr
 GX:FuncData
 GY:Addr
 GZ:FuncData
 G0:Addr
 G1:FuncData
 G2:Addr
 G3:FuncData
 G4:Addr
 G5:FuncData
 G6:Addr
 G7:FuncData
 G8:Addr
 G9:FuncData
 Ha:Addr
 Hb:FuncData
 Hc:Addr
 Hd:FuncData
 He:Addr
 Hf:FuncData
 P5:Addr
 ja:Addr
 P6:Addr
 jb:Addr
 aL:Addr
 fm:Addr
 jc:Addr
 aM:Addr
structure Txt(K:Frag)(mg:Str->Option Value)(t:oB):Prop where
 P7:bg K "_law_told" "_law_told" ud t.Fw t.Fx
 aO2:mg "_law_told"=some (.ref t.Fw)
 aO3:Binds K t.Fx ["_law_cell_here"] []
 Hg:bg K "powers_of" "powers_of" ue t.Fy t.Fz
 P8:mg "powers_of"=some (.ref t.Fy)
 P9:Binds K t.Fz ["a","product"] []
 Qa:bg K "step_powers" "step_powers" uf t.FA t.FC
 cG8:mg "step_powers"=some (.ref t.FA)
 cG9:Binds K t.FC ["many","product"] []
 Qb:bg K "logs_of" "logs_of" ug t.FD t.FE
 cH0:mg "logs_of"=some (.ref t.FD)
 cH1:Binds K t.FE ["powers"] []
 aB9:bg K "step_power" "Field.step_power" uh t.xR t.FF
 Hh:Binds K t.FF ["self","n"] []
 aM1:bg K "__init__" "Field.__init__" ui t.FG t.FH
 Qc:Binds K t.FH ["self","many","product"] []
 Qe:bg K "makes_prime_field" "makes_prime_field" uj t.FI t.FJ
 cH4:mg "makes_prime_field"=some (.ref t.FI)
 cH5:Binds K t.FJ ["prime"] []
 aE7:bg K "__init__" "PrimeField.__init__" kS t.FK t.AK
 aE8:Binds K t.AK ["self","prime"] []
 Qf:bg K "product_rows" "product_rows" uk t.FL t.FN
 cH8:mg "product_rows"=some (.ref t.FL)
 cH9:Binds K t.FN ["powers","logs"] []
 Hi:bg K "bits_divided" "bits_divided" um t.FP t.FQ
 Qg:mg "bits_divided"=some (.ref t.FP)
 Qh:Binds K t.FQ ["a","b"] []
 Qi:bg K "stands_alone" "stands_alone" uq t.FR t.FT
 cI0:mg "stands_alone"=some (.ref t.FR)
 cI1:Binds K t.FT ["a"] []
 Qj:bg K "makes_bit_field" "makes_bit_field" ur t.FU t.FV
 cI2:mg "makes_bit_field"=some (.ref t.FU)
 cI3:Binds K t.FV ["bits"] []
 Qk:bg K "bits_times" "bits_times" uu t.FW t.FX
 cI4:mg "bits_times"=some (.ref t.FW)
 cI5:Binds K t.FX ["a","b"] []
 aI0:bg K "__init__" "BitField.__init__" kT t.FY t.AL
 aI1:Binds K t.AL ["self","bits"] []
 Ql:bg K "_law_field" "_law_field" uv t.FZ t.Ga
 aM2:mg "_law_field"=some (.ref t.FZ)
 aM3:Binds K t.Ga ["_law_told_here"] []
 Qm:bg K "_law_many" "_law_many" uw t.Gb t.Gd
 aO4:mg "_law_many"=some (.ref t.Gb)
 aO5:Binds K t.Gd ["_law_told_here"] []
 aM4:bg K "over" "Field.over" uA t.AM t.Ge
 Qn:Binds K t.Ge ["self","a","b"] []
 nr:bg K "trimmed" "trimmed" uB t.Gf t.Gg
 qR:mg "trimmed"=some (.ref t.Gf)
 qS:Binds K t.Gg ["a"] []
 aB0:bg K "lessened" "BitField.lessened" uC t.Gh t.Gi
 aB1:Binds K t.Gi ["self","row","a","other"] []
 ay9:bg K "lessened" "PrimeField.lessened" uD t.Gj t.Gk
 az0:Binds K t.Gk ["self","row","a","other"] []
 Qo:bg K "poly_divided" "poly_divided" uE t.Gm t.Gn
 cJ7:mg "poly_divided"=some (.ref t.Gm)
 cJ8:Binds K t.Gn ["field","a","b"] []
 aG6:bg K "minus" "BitField.minus" uF t.Gp t.Gq
 aG7:Binds K t.Gq ["self","a","b"] []
 aC3:bg K "minus" "PrimeField.minus" uG t.Gr t.Gs
 aC4:Binds K t.Gs ["self","a","b"] []
 Hj:bg K "filled" "filled" uH t.Gu t.Gv
 Qp:mg "filled"=some (.ref t.Gu)
 Qq:Binds K t.Gv ["a","length"] []
 Qr:bg K "poly_minus" "poly_minus" uI t.Gw t.Gx
 cK3:mg "poly_minus"=some (.ref t.Gw)
 cK4:Binds K t.Gx ["field","a","b"] []
 aE9:bg K "scaled" "BitField.scaled" uJ t.Gy t.Gz
 aF0:Binds K t.Gz ["self","a","row"] []
 aB2:bg K "scaled" "PrimeField.scaled" uK t.GA t.GB
 aB3:Binds K t.GB ["self","a","row"] []
 aI2:bg K "plus" "BitField.plus" uL t.GC t.GD
 aI3:Binds K t.GD ["self","a","b"] []
 aF1:bg K "plus" "PrimeField.plus" uM t.GF t.GG
 aF2:Binds K t.GG ["self","a","b"] []
 aG8:bg K "times" "BitField.times" uN t.GH t.GI
 aG9:Binds K t.GI ["self","a","b"] []
 aC5:bg K "times" "PrimeField.times" uO t.GJ t.GK
 aC6:Binds K t.GK ["self","a","b"] []
 Qs:bg K "poly_times" "poly_times" uP t.GL t.GN
 cL7:mg "poly_times"=some (.ref t.GL)
 cL8:Binds K t.GN ["field","a","b"] []
 Qt:bg K "poly_greatest" "poly_greatest" uQ t.GO t.GP
 cL9:mg "poly_greatest"=some (.ref t.GO)
 cM0:Binds K t.GP ["field","a","b"] []
 xS:bg K "_law_cell" "_law_cell" uR t.GQ t.GR
 AN:mg "_law_cell"=some (.ref t.GQ)
 AO:Binds K t.GR ["_law_script","_law_k"] []
 xT:bg K "_law_cut" "_law_cut" uS t.GS t.GU
 AQ:mg "_law_cut"=some (.ref t.GS)
 AR:Binds K t.GU ["_law_row"] []
 Hk:bg K "_law_plus" "_law_plus" uT t.GV t.GX
 Qu:mg "_law_plus"=some (.ref t.GV)
 Qv:Binds K t.GX ["_law_told_here","_law_a","_law_b"] []
 Hl:bg K "_law_times" "_law_times" uU t.GY t.GZ
 Qw:mg "_law_times"=some (.ref t.GY)
 Qx:Binds K t.GZ ["_law_told_here","_law_a","_law_b"] []
 xU:bg K "_law_product" "_law_product" uW t.G0 t.G1
 AS:mg "_law_product"=some (.ref t.G0)
 AU:Binds K t.G1 ["_law_told_here","_law_a","_law_b"] []
 Qy:bg K "_law_sum" "_law_sum" uX t.G2 t.G3
 aP3:mg "_law_sum"=some (.ref t.G2)
 aP4:Binds K t.G3 ["_law_told_here","_law_a","_law_b"] []
 Qz:bg K "_law_less" "_law_less" uY t.G4 t.G5
 aO6:mg "_law_less"=some (.ref t.G4)
 aO7:Binds K t.G5 ["_law_told_here","_law_a","_law_b"] []
 Hm:bg K "_law_goes" "_law_goes" uZ t.G6 t.G7
 QB:mg "_law_goes"=some (.ref t.G6)
 QC:Binds K t.G7 ["_law_told_here","_law_a","_law_low"] []
 QD:bg K "_law_whole" "_law_whole" u3 t.G8 t.G9
 aM5:mg "_law_whole"=some (.ref t.G8)
 aM6:Binds K t.G9 ["_law_x"] []
 QE:bg K "_law_signs" "_law_signs" u4 t.Ha t.Hb
 aM7:mg "_law_signs"=some (.ref t.Ha)
 aM8:Binds K t.Hb ["_law_found","_law_many_here"] []
 QF:bg K "_law_poly" "_law_poly" u5 t.Hc t.Hd
 aO8:mg "_law_poly"=some (.ref t.Hc)
 aO9:Binds K t.Hd ["_law_found","_law_many_here"] []
 cN1:bg K "law" "law" kU t.He t.Hf
 dI9:mg "law"=some (.ref t.He)
 dJ0:Binds K t.Hf ["_law_script"] []
 aD1:t.AK.code=.ref t.P5
 aD2:codeHdIn K t.P5 t.ja=true
 aH0:t.AL.code=.ref t.P6
 aH1:codeHdIn K t.P6 t.jb=true
 eY:dk K t.aL
 xV:Mk K t.aL t.FY
 aQ1:O9 K t.aL
 xW:bU K t.aL "bits"
 nu:bU K t.aL "logs"
 u6:bU K t.aL "many"
 qT:bU K t.aL "powers"
 AV:bU K t.aL "prime"
 nv:bU K t.aL "products"
 xX:bU K t.aL "step"
 xY:bU K t.aL "wide"
 xZ:Meth K t.aL "lessened" t.Gh
 x3:Meth K t.aL "minus" t.Gp
 x4:Meth K t.aL "over" t.AM
 x6:Meth K t.aL "plus" t.GC
 x8:Meth K t.aL "scaled" t.Gy
 u7:Meth K t.aL "step_power" t.xR
 x9:Meth K t.aL "times" t.GH
 fo:dk K t.aM
 ya:Mk K t.aM t.FK
 aQ0:O9 K t.aM
 AW:bU K t.aM "bits"
 qU:bU K t.aM "logs"
 u9:bU K t.aM "many"
 va:bU K t.aM "powers"
 jQ:bU K t.aM "prime"
 AX:bU K t.aM "products"
 yb:bU K t.aM "step"
 yc:bU K t.aM "wide"
 yd:Meth K t.aM "lessened" t.Gj
 ye:Meth K t.aM "minus" t.Gr
 yf:Meth K t.aM "over" t.AM
 yg:Meth K t.aM "plus" t.GF
 yh:Meth K t.aM "scaled" t.GA
 vb:Meth K t.aM "step_power" t.xR
 yi:Meth K t.aM "times" t.GJ
 QG:zZ K t.jc "__init__" t.FG
 Ho:mg "all"=none
 cN6:mg "any"=none
 cN7:mg "bool"=none
 yj:mg "enumerate"=none
 cN8:mg "int"=none
 AY:mg "isinstance"=none
 cI:mg "len"=none
 yk:mg "list"=none
 QH:mg "max"=none
 ij:mg "range"=none
 Hq:mg "tuple"=none
 ym:mg "zip"=none
 yn:mg "BitField"=some (.ref t.aL)
 yo:mg "ByNought"=some (.ref t.fm)
 vd:mg "Field"=some (.ref t.jc)
 yp:mg "PrimeField"=some (.ref t.aM)
 Hr:Ey K mg "ByNought" t.fm
 aQ2:XQ K t.fm
section
variable{P:Program}{w:World}{K:Frag}{mg:Str->Option Value}{base:Heap}{t:oB}
noncomputable abbrev aM9:bt:=λds Q=>∃c:Int,ds=[.int c]/\Q (cW (nh c))
theorem aN0(T:Txt K mg t):aO P w K mg base aS 1 t.Fw t.Fx ["_law_cell_here"] (bw (aM9 )):=by
 refine bY T.P7 Fs ?_ ?_
 ·intro ds Q h
  obtain⟨c,rfl,q⟩:=h<;>rfl
 ·intro aF A outer s H E hr
  refine⟨_,(aE (aZ (i:=1) Fs.nd rfl (ar rfl) (N3 (ns:=[7,11,13,19,25,31,37,41,47,55,59,61,67,73,87,91,97,103,109,115,117]) (by decide +kernel)))
   (aE (aZ (i:=2) Fs.nd rfl (ar rfl) (N3 (ns:=[2,3,5,7,11,13,17,19,23,29,31,37,41,43,47,53,59,61]) (by decide +kernel)))
   (aE (dG (cG (eW (cV hr)) (aa (aA dX (bv 0) (aa ao))) (aa ao) (bS _)) (aJ (aW (mv (cL jx (cL (fg (aQ (bv 1) (aa (aA dX (aa (aA wV (bv 0) (aa ao))) (aa ao))) (λ_ _=>rfl))) cU))))) dF)
   (aJ (aW (mv (cL jx (cL (fg (aQ (bv 2) (aa (aA dX (aa (aA wV (bv 0) (aa ao))) (aa ao))) (λ_ _=>rfl))) cU)))))))),λds Q h=>?_⟩
  obtain⟨c,rfl,q⟩:=h
  refine aD λU hU=>?_
  walk_at"l3"
  refine⟨by decide,hU _ ?_⟩
  clear hU U
  refine aD λU hU=>?_
  walk_at"l3"
  refine⟨by decide,hU _ ?_⟩
  clear hU U
  refine aD λU hU=>?_
  walk_at"l3"
  refine⟨by decide,?_⟩
  have n1:=ji (c/2) (show(21:Int)≠0 by decide)
  have n2:=jj (c/2) (show(0:Int)<21 by decide)
  have n3:=ji (c/2) (show(18:Int)≠0 by decide)
  have n4:=jj (c/2) (show(0:Int)<18 by decide)
  split
  ·rename_i hc
   refine⟨wU (by decide) (by decide),by decide,_,jH n1 (by simpa using n2),rfl,by decide,?_⟩
   have e:cW (nh c)=.tup [.bl true,.int (([7,11,13,19,25,31,37,41,47,55,59,61,67,73,87,91,97,103,109,115,117]:List Int).getD (c/2%21).toNat 0)]:=by
    unfold nh cW
    rw[if_pos hc]
    have:∀k:Nat,((fi.getD k 0:Nat):Int)=([7,11,13,19,25,31,37,41,47,55,59,61,67,73,87,91,97,103,109,115,117]:List Int).getD k 0:=λk=>by
     show _=(fi.map (λ(n:Nat)=>(n:Int))).getD k ((0:Nat):Int)
     rw[aU,aU,eZ]
     cases fi[k]?<;>rfl
    rw[<-this]
   rw[<-e];exact q
  ·rename_i hc
   refine hU _ ?_
   walk_at"l3"
   refine⟨wU (by decide) (by decide),by decide,_,jH n3 (by simpa using n4),rfl,by decide,?_⟩
   have e:cW (nh c)=.tup [.bl false,.int (([2,3,5,7,11,13,17,19,23,29,31,37,41,43,47,53,59,61]:List Int).getD (c/2%18).toNat 0)]:=by
    unfold nh cW
    rw[if_neg hc]
    have:∀k:Nat,((kM.getD k 0:Nat):Int)=([2,3,5,7,11,13,17,19,23,29,31,37,41,43,47,53,59,61]:List Int).getD k 0:=λk=>by
     show _=(kM.map (λ(n:Nat)=>(n:Int))).getD k ((0:Nat):Int)
     rw[aU,aU,eZ]
     cases kM[k]?<;>rfl
    rw[<-this]
   rw[<-e];exact q
noncomputable abbrev aN1(L:Obj->Obj->Addr->Addr->tO->Prop):bt:=λds Q=>∃(a:Nat) (of oc:Obj) (c k:Addr) (g:Nat->Nat->Nat) (l:List Int),ds=[.int a,.aV (.lam of oc c k)]/\L of oc c k (xj g)/\a<64/\EO g a=some l/\Q (.lst true (az l))
theorem QI(T:Txt K mg t):aO P w K mg base aS 5 t.Fy t.Fz ["a","product"] (bw (aN1 (xa P w K mg base 4))):=by
 refine bY T.Hg AE ?_ ?_
 ·intro ds Q h
  obtain⟨a,of,oc,c,k,g,l,rfl,hL,ha,hp,q⟩:=h<;>rfl
 ·intro aF A outer s H E hr
  refine⟨_,(aE (aZ (i:=2) AE.nd rfl (ar rfl) (eF (cL ao cU)))
   (aE (aZ (i:=3) AE.nd rfl (ar rfl) (Ow (n:=4) (i:=1) rfl (by first | exact ar rfl | exact bh (ar rfl)) (hr.mono (by decide)) (ah (aa ao) (ah (bv 0) au))))
   (aE (my e7 (cG (jD (cV hr)) (bv 3) (aa ao) (bS _))
    (aE (NW (i:=2) rfl (by first | exact ar rfl | exact bh (ar rfl)) (fg (bv 3)))
    (aJ (aZ (i:=3) AE.nd rfl (ar rfl) (Ow (n:=4) (i:=1) rfl (by first | exact ar rfl | exact bh (ar rfl)) (hr.mono (by decide)) (ah (bv 3) (ah (bv 0) au)))))))
   (aJ (aW (em 2)))))),λds Q h=>?_⟩
  obtain⟨a,of,oc,c,k,g,l,rfl,hL,ha,hp,q⟩:=h
  refine aD λU hU=>?_
  walk_at"l3"
  refine⟨by decide,hU _ ?_⟩
  clear hU U
  refine aD λU hU=>?_
  walk_at"l3"
  refine⟨of,oc,c,k,xj g,rfl,hL,1,a,⟨rfl,rfl⟩,1,a,rfl,rfl,by decide,ha,hU _ ?_⟩
  clear hU U
  refine aD λU hU=>?_
  walk_at"l3"
  refine⟨λm δ=>∃(p:Nat) (acc:List Int),δ=[some (.int a),some (.aV (.lam of oc c k)),some (.lst true (az acc)),some (.int p)]/\acc.length+m<=70/\Ab g a m p acc=some l,⟨64,_,[1],rfl,by decide,hp⟩,?_⟩
  rintro m δ ⟨p,acc,rfl,hn,hg⟩
  walk_at"l3"
  cases m with
  | zero=>cases hg
  | succ m =>
   unfold Ab at hg
   split at hg
   ·rename_i h1
    subst h1
    cases hg
    rw[if_neg (by simp)]
    refine hU _ ?_
    walk_at"l3"
    exact q
   ·rename_i h1
    rw[if_pos (by simp;omega)]
    split at hg
    ·rename_i h2
     clear hU
     refine aD λU hU=>?_
     walk_at"l3"
     refine⟨⟨_,rfl⟩,by omega,hU _ ?_⟩
     clear hU
     walk_at"l3"
     exact⟨of,oc,c,k,xj g,rfl,hL,p,a,⟨rfl,rfl⟩,p,a,rfl,rfl,h2,ha,m,by omega,g p a,acc++[(p:Int)],⟨by rw[<-mM];rfl,rfl⟩,by simp;omega,hg⟩
    ·cases hg
noncomputable abbrev aJ3(L:Obj->Obj->Addr->Addr->tO->Prop):bt:=λds Q=>∃(n:Nat) (of oc:Obj) (c k:Addr) (g:Nat->Nat->Nat) (l:List Int),ds=[.int n,.aV (.lam of oc c k)]/\L of oc c k (xj g)/\xi g n=some l/\Q (.lst true (az l))
theorem aJ4(T:Txt K mg t):aO P w K mg base aS 6 t.FA t.FC ["many","product"] (bw (aJ3 (xa P w K mg base 4))):=by
 refine bY T.Qa xP ?_ ?_
 ·intro ds Q h
  obtain⟨n,of,oc,c,k,g,l,rfl,hL,hp,q⟩:=h<;>rfl
 ·intro aF A outer s H E hr
  refine⟨_,(aE (aZ (i:=2) xP.nd rfl (ar rfl) ao)
   (aE (aZ (i:=3) xP.nd rfl (ar rfl) (bK ((QI T).mono (by decide)) hr rfl T.P8 T.Hg.kp T.P9 br (ah (bv 2) (ah (bv 1) au))))
   (aE (my e7 (cG zD (aa (bO (cH) (by rfl) T.cI cF (ah (bv 3) au))) (aa (aA eV (bv 0) (aa ao))) (bS _))
    (aE (wL (i:=2) xP.nd rfl (ar rfl) (aa ao) Yx)
    (aJ (aZ (i:=3) xP.nd rfl (ar rfl) (bK ((QI T).mono (by decide)) hr rfl T.P8 T.Hg.kp T.P9 br (ah (bv 2) (ah (bv 1) au)))))))
   (aJ (aW (em 3)))))),λds Q h=>?_⟩
  obtain⟨n,of,oc,c,k,g,l,rfl,hL,hp,q⟩:=h
  unfold xi at hp
  split at hp
  ·rename_i l0 h0
   refine aD λU hU=>?_
   walk_at"l3"
   refine hU _ ?_
   clear hU U
   refine aD λU hU=>?_
   walk_at"l3"
   refine⟨1,of,oc,c,k,g,l0,rfl,hL,by decide,h0,hU _ ?_⟩
   clear hU U
   refine aD λU hU=>?_
   walk_at"l3"
   refine⟨λm δ=>∃(st:Nat) (l1:List Int),δ=[some (.int n),some (.aV (.lam of oc c k)),some (.int st),some (.lst true (az l1))]/\st+m<=63/\Ac g n m st l1=some l,⟨62,1,l0,rfl,by decide,hp⟩,?_⟩
   rintro m δ ⟨st,l1,rfl,hn,hg⟩
   walk_at"l3"
   cases m with
   | zero=>cases hg
   | succ m =>
    unfold Ac at hg
    split at hg
    ·rename_i h1
     rw[if_pos (by omega)]
     split at hg
     ·rename_i l2 h2
      clear hU
      refine aD λU hU=>?_
      walk_at"l3"
      refine hU _ ?_
      clear hU
      walk_at"l3"
      exact⟨st+1,of,oc,c,k,g,l2,rfl,hL,by omega,h2,m,by omega,st+1,l2,⟨rfl,rfl⟩,by omega,hg⟩
     ·cases hg
    ·rename_i h1
     rw[if_neg (by omega)]
     cases hg
     refine hU _ ?_
     walk_at"l3"
     exact q
  ·cases hp
noncomputable abbrev aP5:bt:=λds Q=>∃(l:List Int),ds=[.lst false (az l)]/\l.length<=64/\(∀x∈l,0<=x/\x.toNat<=l.length)/\Q (.lst true (az (dq l)))
theorem aP6(T:Txt K mg t):aO P w K mg base aS 1 t.FD t.FE ["powers"] (bw (aP5 )):=by
 refine bY T.Qb Ft ?_ ?_
 ·intro ds Q h
  obtain⟨l,rfl,hl,hx,q⟩:=h<;>rfl
 ·intro aF A outer s H E hr
  refine⟨_,(aE (aZ (i:=1) Ft.nd rfl (ar rfl) (aA jC (aa (eF (cL ao cU))) (aa (aA dh (aa (bO (cH) (by rfl) T.cI cF (ah (bv 0) au))) (aa ao)))))
   (aE (jz e7 rfl (w4 rfl T.yj (ah (bv 0) au)) (jJ (i1:=2) (i2:=3) rfl Ft.nd rfl (ar rfl) rfl (ar rfl))
    (aJ (wZ (i:=1) rfl (by first | exact ar rfl | exact bh (ar rfl)) (fg (bv 2)) (bv 3))))
   (aJ (aW (em 1))))),λds Q h=>?_⟩
  obtain⟨l,rfl,hl,hx,q⟩:=h
  refine aD λU hU=>?_
  walk_at"l3"
  refine⟨by decide,⟨by omega,by omega,by omega⟩,hU _ ?_⟩
  clear hU U
  refine aD λU hU=>?_
  walk_at"l3"
  refine hR.mk (λi δ=>∃o1 o2,δ=[some (.lst false (az l)),some (.lst true (az (kN l i))),o1,o2]) ⟨none,none,?_⟩ ?_ ?_
  ·rw[show((l.length:Int)+1).toNat=l.length+1 by omega];rfl
  ·rintro i d δ hd ⟨o1,o2,rfl⟩
   obtain⟨hi,rfl⟩:∃h:i<l.length,d=.tup [.int i,.int l[i]]:=by
    unfold fH az at hd
    rw[Lm,eZ]at hd
    by_cases hi:i<l.length
    ·rw[bc hi]at hd
     simp at hd
     exact⟨hi,hd.symm⟩
    ·rw[nU (by omega)]at hd;simp at hd
   have eN:=hx l[i] (iq _)
   walk_at"l3"
   refine⟨_,(l[i]).toNat,rfl,?_,_,_,?_,rfl,rfl⟩
   ·unfold gZ
    rw[i5,xk,if_pos eN.1,if_pos (by omega)]
   ·unfold az
    rw[<-List.map_set]
    congr 1
    show _=(kN l i).set (l.getD i 0).toNat (i:Int)
    rw[aU,bc hi];rfl
  ·rintro δ ⟨o1,o2,rfl⟩
   refine hU _ ?_
   simp only[oW,mx,oX,oY,dT,jy,kr,ku,dC,mj,mw,mr,mq,oU,oV,kD,pU,mJ,pV,pW,oK,oM,oN,oO,oQ,oR,oS,mm,pQ,mF,mG,ii,mD,pk,mE,pq,pz,pB,pE,pF,pG,iI,eU,pI,pJ,pK,pL,sj,pO,pP,gN,pZ,pS,oZ,o9,pe,pf,p5,ph,p7,p8,p9,mC,iy,eM,gM,gO,nM,nG,vH,vI,iu,iw,mH,mI,qf,qh,qi,qj,tw,qo,mP,qk,ia,tG,tE,tF,dj,il,rA,nI,fq,rC,aN,vJ,vK,nX,nY,vL,exists_eq_left',exists_eq_left,D.bl.injEq,D.int.injEq,D.lst.injEq,D.fz.injEq,D.str.injEq,D.tup.injEq,vM,and_true,true_and,dg,nV,j0,lj,sA,sC,sD,sE,sF,sG,gJ,gK,mK,sN,sO,sP,sQ,sR,fE,iX,sH,sI,sJ,sM,fC,jw,vN,vO,rh,jk,vP,vQ,rm,sV,sW,sX,sY,sZ,s8,s9,i5,kH,mL,gP,mM,sT,qe,sS,mO,sU,i6,qa,if_true,vR,if_false,reduceIte,tf,decide_eq_true_eq,cM,fI,qp,qu,i8,tK,o8,qw,m8,m9,qm,mT,mV,qA,qI,qJ,qP,qL,qM,kI]
   exact q
noncomputable abbrev Hs(K:Frag):bt:=λds Q=>∃(C:Addr) (ns:List Str) (xs:List D) (n:Int) (many:Nat) (l:List Int) (r:Int),ds=[.obj C ns xs,.int n]/\dk K C/\bU K C "powers"/\bU K C "many"/\(ns.zip xs).lookup ("powers":Str)=some (.lst false (az l))/\(ns.zip xs).lookup ("many":Str)=some (.int many)/\2<=many/\l[(n%((many:Int)-1)).toNat]?=some r/\Q (.int r)
theorem Ht(T:Txt K mg t):aO P w K mg base aS 1 t.xR t.FF ["self","n"] (bw (Hs K)):=by
 refine bY T.aB9 aA7 ?_ ?_
 ·intro ds Q h
  obtain⟨C,ns,xs,n,many,l,r,rfl,hC,h1,h2,h3,h4,h5,h6,q⟩:=h<;>rfl
 ·intro aF A outer s H E hr
  refine⟨_,(aJ (aW (fg (aQ (iA (K:=K) (bv 0)) (aa (aA dX (bv 1) (aa (aA eV (iA (K:=K) (bv 0)) (aa ao))))) (λ_ _=>rfl))))),λds Q h=>?_⟩
  obtain⟨C,ns,xs,n,many,l,r,rfl,hC,h1,h2,h3,h4,h5,h6,q⟩:=h
  walk_at"l3"
  refine⟨C,ns,xs,_,rfl,hC,h1,h3,C,ns,xs,_,rfl,hC,h2,h4,?_⟩
  refine⟨by omega,_,lN (d:=.int r) (ji _ (by omega)) ?_,rfl,q⟩
  unfold az
  rw[eZ,h6];rfl
noncomputable abbrev aK2(P:Program)(w:World)(K:Frag)(mg:Str->Option Value)(base:Heap)(fs:Addr):Sp:=λvs H Q _=>∃(x dx f C:Addr) (b:Str) (n0:Int) (many:Nat) (of oc:Obj) (c k:Addr) (g:Nat->Nat->Nat) (l:List Int) (st:Int),
 vs=[.ref x,.int many,.ref f]/\H x=some (.ins C dx [(b,.int n0)])/\(∀n∈(["many","wide","powers","logs","step","step_power"]:List Str),b≠n)/\ZU K C fs/\fX H f of oc c k/\xa P w K mg base 4 of oc c k (xj g)/\OP g many l st /\
 ∀H' p1 p2,cZ x H H'->H' x=some (.ins C dx ((fK b).zip (Ad n0 many p1 p2 st)))->LI H' p1 l->LI H' p2 (dq l)->p1≠p2->H p1=none->H p2=none->Q .aq H'
theorem QJ(T:Txt K mg t):aO P w K mg base aS 7 t.FG t.FH ["self","many","product"] (aK2 P w K mg base t.xR):=by
 refine T.aM1.ok aJ7 (λvs H Q E h=>?_) λaF A outer s H vs Q E hr h=>?_
 ·obtain⟨x,dx,f,C,b,n0,many,of,oc,c,k,g,l,st,rfl,_⟩:=h;rfl
 obtain⟨x,dx,f,C,b,n0,many,of,oc,c,k,g,l,st,rfl,hx,hb,hC,cO7,hL,hF,q⟩:=h
 refine⟨_,iO (lM (pv 0) (pv 1) rfl) (iO (lM (pv 0) (yY C9 (DD (pv 1)) rH) rfl)
  (iO (lM (pv 0) (ow ((aJ4 T).mono (by decide)) hr rfl T.cG8 T.Qa.kp T.cG9 .nil br (eE (pv 1) (eE (pv 2) gY))) rfl)
  (iO (lM (pv 0) (ow ((aP6 T).mono (by decide)) hr rfl T.cH0 T.Qb.kp T.cH1 .nil br (eE (zc (pv 0) rfl) gY)) rfl)
  (rJ (lM (pv 0) (VN (pv 0) hC.cls hC.sp ((Ht T).mono (by decide)) hr T.Hh .nil br (eE rH gY)) rfl))))),?_⟩
 have nb:∀n∈(["many","wide","powers","logs","step","step_power"]:List Str),b≠n:=hb
 refine⟨.int many,rfl,.ref x,rfl,x,C,dx,_,rfl,hx,hC.cls,hC.many,lh (aX 1) (by decide),?_⟩
 rw[tR (by simpa using nb "many" (by simp))]
 generalize e1:upd H x (HO.ins C dx ([(b,V.int n0)]++[(("many":Str),V.int many)]))=H1
 have eN:H1 x=some (.ins C dx [(b,V.int n0),(("many":Str),V.int many)]):=by rw[<-e1,bN];rfl
 have s1:cZ x H H1:=by rw[<-e1];exact cZ.upd (C:=C) (dx:=dx) hx rfl
 have l1:fX H1 f of oc c k:=by rw[<-e1];exact cO7.xm hx
 have n1:∀p,H1 p=none->H p=none:=λp h=>xn hx (by rw[e1];exact h)
 refine⟨_,rfl,rfl,_,rfl,rfl,_,_,rfl,rfl,.ref x,rfl,x,C,dx,_,rfl,eN,hC.cls,hC.wide,lh (aX 2) (by decide),?_⟩
 rw[tR (by simp;exact⟨nb "wide" (by simp),by decide⟩),gw]
 generalize e2:upd H1 x (HO.ins C dx ([(b,V.int n0),(("many":Str),V.int many)]++[(("wide":Str),V.int ((bl many:Nat)-1))]))=H2
 have gi:H2 x=some (.ins C dx [(b,V.int n0),(("many":Str),V.int many),(("wide":Str),V.int ((bl many:Nat)-1))]):=by rw[<-e2,bN];rfl
 have s2:cZ x H H2:=by rw[<-e2];exact s1.trans (cZ.upd (C:=C) (dx:=dx) eN rfl)
 have l2:fX H2 f of oc c k:=by rw[<-e2];exact l1.xm eN
 have n2:∀p,H2 p=none->H p=none:=λp h=>n1 p (xn eN (by rw[e2];exact h))
 refine⟨_,rfl,_,rfl,H2,[.int many,.aV (.lam of oc c k)],λd=>d=.lst true (az l),ae.refl _,.int (.aV l2 .nil),⟨many,of,oc,c,k,g,l,rfl,hL,hF.step,rfl⟩,λd v F' H3 A' hd hs hf he h3 r nd fr=>?_⟩
 subst hd
 obtain⟨p1,rfl,hp1,yq⟩:=OO r fr
 have jR:=hs.get _ _ gi
 have s3:=s2.trans (hs.x (x:=x))
 refine⟨.ref x,rfl,x,C,dx,_,rfl,jR,hC.cls,hC.ER,lh (aX 3) (by decide),?_⟩
 rw[tR (by simp;exact⟨nb "powers" (by simp),by decide,by decide⟩)]
 generalize e4:upd H3 x (HO.ins C dx ([(b,V.int n0),(("many":Str),V.int many),(("wide":Str),V.int ((bl many:Nat)-1))]++[(("powers":Str),V.ref p1)]))=H4
 have ny:H4 x=some (.ins C dx [(b,V.int n0),(("many":Str),V.int many),(("wide":Str),V.int ((bl many:Nat)-1)),(("powers":Str),V.ref p1)]):=by rw[<-e4,bN];rfl
 have s4:cZ x H H4:=by rw[<-e4];exact s3.trans (cZ.upd (C:=C) (dx:=dx) jR rfl)
 have p4:LI H4 p1 l:=by rw[<-e4];exact hp1.upd jR (λws z=>by cases z)
 have n4:∀p,H4 p=none->H p=none:=λp h=>n2 p (hs.free (xn jR (by rw[e4];exact h)))
 refine⟨.ref x,rfl,x,C,dx,_,.ref p1,rfl,ny,hC.cls,hC.ER,by rw[Ae (nb "powers" (by simp))];rfl,H4,[.lst false (az l)],λd=>d=.lst true (az (dq l)),ae.refl _,.shr p4 (i4 l) .nil,⟨l,rfl,by have:=hF.len;have:=hF.hi;omega,hF.ins,rfl⟩,λd v F' H5 A' hd nz hf he h3 r nd fr=>?_⟩
 subst hd
 obtain⟨p2,rfl,QK,qV⟩:=OO r fr
 have jS:=nz.get _ _ ny
 have s5:=s4.trans (nz.x (x:=x))
 have cO9:p1≠p2:=λz=>by rw[<-z]at qV;unfold LI at p4;rw[qV]at p4;cases p4
 refine⟨.ref x,rfl,x,C,dx,_,rfl,jS,hC.cls,hC.ZV,lh (aX 4) (by decide),?_⟩
 rw[tR (by simp;exact⟨nb "logs" (by simp),by decide,by decide,by decide⟩)]
 generalize e6:upd H5 x (HO.ins C dx ([(b,V.int n0),(("many":Str),V.int many),(("wide":Str),V.int ((bl many:Nat)-1)),(("powers":Str),V.ref p1)]++[(("logs":Str),V.ref p2)]))=H6
 have Hu:H6 x=some (.ins C dx (([b,"many","wide","powers","logs"]:List Str).zip [V.int n0,V.int many,V.int ((bl many:Nat)-1),V.ref p1,V.ref p2])):=by rw[<-e6,bN];rfl
 have s6:cZ x H H6:=by rw[<-e6];exact s5.trans (cZ.upd (C:=C) (dx:=dx) jS rfl)
 have p6:LI H6 p1 l:=by rw[<-e6];exact(p4.same nz).upd jS (λws z=>by cases z)
 have q6:LI H6 p2 (dq l):=by rw[<-e6];exact QK.upd jS (λws z=>by cases z)
 refine⟨.ref x,rfl,x,dx,_,rfl,Hu,by show jV ("step_power":Str) ((b,V.int n0)::_)=none;rw[Ae (nb "step_power" (by simp))];rfl,H6,[.obj C [b,"many","wide","powers","logs"] [.int n0,.int many,.int ((bl many:Nat)-1),.lst false (az l),.lst false (az (dq l))],.int 1],λd=>d=.int st,ae.refl _,
  .obj Hu rfl (.int (.int (.int (.shr p6 (i4 l) (.shr q6 (i4 _) .nil))))) (.int .nil),⟨C,_,_,1,many,l,st,rfl,hC.cls,hC.ER,hC.many,by show jV ("powers":Str) ((b,D.int n0)::_)=_;rw[Ae (nb "powers" (by simp))];rfl,by show jV ("many":Str) ((b,D.int n0)::_)=_;rw[Ae (nb "many" (by simp))];rfl,hF.lo,hF.st,rfl⟩,λd v F' H7 A' hd AZ hf he h3 r nd fr=>?_⟩
 subst hd
 cases r
 have A6:=AZ.get _ _ Hu
 refine⟨.ref x,rfl,x,C,dx,_,rfl,A6,hC.cls,hC.step,lh (aX 5) (by decide),?_⟩
 rw[tR (by simp;exact⟨nb "step" (by simp),by decide,by decide,by decide,by decide⟩)]
 refine q _ p1 p2 ((s6.trans (AZ.x (x:=x))).trans (cZ.upd (C:=C) (dx:=dx) A6 rfl)) (by rw[bN];rfl) ((p6.same AZ).upd A6 (λws z=>by cases z)) ((q6.same AZ).upd A6 (λws z=>by cases z)) cO9 (n2 p1 yq) (n4 p2 qV)
noncomputable abbrev az7:bt:=λds Q=>∃a:Int,ds=[.int a]/\Q (.bl (decide (2<=a)&&decide (a<=61)&&(bL (a.toNat-2)).all λi=>a%(2+(i:Int)) != 0))
theorem az8(T:Txt K mg t):aO P w K mg base aS 1 t.FI t.FJ ["prime"] (bw (az7 )):=by
 refine bY T.Qe az2 ?_ ?_
 ·intro ds Q h
  obtain⟨a,rfl,q⟩:=h<;>rfl
 ·intro aF A outer s H E hr
  refine⟨_,(aJ (aW (rZ (aa (Ei wW wW (aa ao) (bv 0) (aa ao))) (og (bO (Ek rfl) (by rfl) T.Ho DC (ah (aa (fF [("prime",0)] ["d"] rfl (zy rfl T.ij (ah (aa ao) (ah (bv 0) au))) (λ_ _ _ _=>(eG (i:=1) (show(["prime","d"]:List Str).Nodup by decide +kernel) rfl (ar (lookup_relabel_local rfl)) (by decide) (bh (lookup_relabel_local rfl)))) (λ_ _ _ _=>eH) (λ_ _ _ _=>(wK (jD (cV hr)) (aa (aA dX (bv 0) (bv 1))) (aa ao) (bS _))) rfl ⟨rfl,trivial⟩ (by repeat' (first | exact trivial | refine⟨.inl rfl,?_⟩ | refine⟨.inr (.inl rfl),?_⟩ | refine⟨.inr (.inr ⟨_,rfl⟩),?_⟩)) ⟨⟨rfl,.inl rfl,.inl rfl,_,rfl,rfl⟩,trivial⟩ (by decide +kernel) rfl (by decide +kernel))) au)))))),λds Q h=>?_⟩
  obtain⟨a,rfl,q⟩:=h
  walk_at"l3"
  split
  ·rename_i h1
   split
   ·rename_i h2
    refine⟨2,a,⟨rfl,rfl⟩,⟨by decide,by decide,by omega,by omega⟩,?_⟩
    have e0:(a-2).toNat=a.toNat-2:=by omega
    rw[e0]
    refine i7 (bL (a.toNat-2)) (λ(k:Nat)=>D.int (2+(k:Int))) (λ(k:Nat)=>D.bl (a%(2+(k:Int)) != 0)) (by rw[r6]) (λx y h=>by injection h with h;omega) (λk hk=>?_) (.inr λ_ _=>rfl) (by rw[lu,sL];omega) ?_
    ·walk_at"l3"
     refine⟨by omega,?_⟩
     by_cases z:a%(2+(k:Int))=0<;>simp[z]
    ·refine⟨(bL (a.toNat-2)).map λ(k:Nat)=>a%(2+(k:Int)) != 0,?_,?_⟩
     ·unfold sq;rw[gv];rfl
     ·have e:(decide (2<=a)&&decide (a<=61)&&(bL (a.toNat-2)).all λi=>a%(2+(i:Int)) != 0)=((bL (a.toNat-2)).map λ(k:Nat)=>a%(2+(k:Int)) != 0).all id:=by
       simp[h1,h2,yE]
      rw[<-e];exact q
   ·rename_i h2
    have e:(decide (2<=a)&&decide (a<=61)&&(bL (a.toNat-2)).all λi=>a%(2+(i:Int)) != 0)=false:=by simp[h2]
    rw[e]at q;exact q
  ·rename_i h1
   have e:(decide (2<=a)&&decide (a<=61)&&(bL (a.toNat-2)).all λi=>a%(2+(i:Int)) != 0)=false:=by simp[h1]
   rw[e]at q;exact q
noncomputable abbrev aJ5:List D->List Str->List D->Prop:=λds ns xs=>∃p:Nat,ds=[.int p]/\p∈kM/\ns=fK "prime"/\xs=[.int p,.int p,.int ((bl p:Nat)-1),.lst true (az (fl (false,p))),.lst true (az (dq (fl (false,p)))),.int (fst (false,p))]
theorem aD4(T:Txt K mg t)(hB:Bm mg base):aO P w K mg base aS 8 t.FK t.AK ["self","prime"] (EN [t.ja,t.jb] t.aM aJ5):=by
 refine OL T.aE7 T.aD1 aB6 (λvs H Q E h=>?_) λA outer s H vs Q E hr h=>?_
 ·obtain⟨x,dx,bV,ds,ns,xs,rfl,_,_,r,⟨p,rfl,_⟩,_⟩:=h
  have:=r.length
  simp at this
  simp[this]
 obtain⟨x,dx,bV,ds,ns,xs,rfl,tb,hx,r,⟨p,rfl,hp,rfl,rfl⟩,q⟩:=h
 obtain rfl:bV=[.int p]:=by
  cases r with
  | int r=>cases r;rfl
 have hm:(false,p)∈aK:=eP _ (Cw hp)
 have hF:=cC hm
 refine⟨_,iO (CS (CP (CM (ow ((az8 T).mono (by decide)) hr rfl T.cH4 T.Qe.kp T.cH5 .nil br (eE (pv 1) gY)))) (rJ LL) CQ)
  (iO (lM (pv 0) (pv 1) rfl)
  (rJ (yS (OE (E:=E0) (i:=1) T.QG ((QJ T).mono (by decide)) hr T.Qc rfl T.vd rfl rfl rfl rfl (eE (pv 0) (eE (pv 1) (eE (Ox rfl rfl T.aD2 hB) gY))))))),?_⟩
 refine⟨_,rfl,H,[.int p],λd=>d=.bl true,ae.refl _,.int .nil,⟨p,rfl,by rw[ZX p hp]⟩,λd v F' H1 A1 hd qW hf he h3 r nd fr=>?_⟩
 subst hd
 cases r
 refine⟨true,rfl,?_⟩
 refine iU ?_
 have eN:=qW.get _ _ hx
 refine⟨.int p,rfl,.ref x,rfl,x,t.aM,dx,_,rfl,eN,T.fo,T.jQ,by decide,?_⟩
 generalize e2:upd H1 x (HO.ins t.aM dx (eD "prime" (.int p) []))=H2
 have gi:H2 x=some (.ins t.aM dx [(("prime":Str),.int p)]):=by rw[<-e2,bN];rfl
 have s2:cZ x H H2:=by rw[<-e2];exact(qW.x (x:=x)).trans (cZ.upd (C:=x) (dx:=dx) eN rfl)
 have n2:∀p,H2 p=none->H p=none:=λp h=>qW.free (xn eN (by rw[e2];exact h))
 obtain⟨ps,hP⟩:=tb t.ja (by simp)
 obtain⟨more,Hv⟩:=s2.tb _ ps hP
 refine⟨.ref x,rfl,.int p,rfl,⟨_,Hv⟩,λf k qn pm gQ H3 nf Hw hk kf kW hl3=>?_⟩
 refine⟨f,_,_,.int p,Hw,rfl,rfl,λoc u gB hu nc mS=>?_⟩
 obtain⟨tm,rfl⟩:∃tm,u=vq p tm:=hu
 have jR:=kW.get _ _ gi
 refine⟨x,dx,f,t.aM,"prime",p,p,_,oc,_,k,gm (false,p),fl (false,p),fst (false,p),rfl,xo jR (λz=>by rw[z,nf]at gi;cases gi) nc,by decide,⟨T.fo,T.u9,T.yc,T.va,T.qU,T.yb,T.vb⟩,OR mS nc hk kf,?_,hF,λH' p1 p2 sx dO Hx lR ne yq qV=>?_⟩
 ·refine OJ (n:=3) ⟨rfl,rfl,rfl,by decide,rfl,rfl,by decide,by decide,rfl⟩ gB (λu1 u2=>rfl) λq f A outer s H E hr=>?_
  refine⟨_,aA dX (aa (aA jC (bv 0) (bv 1))) (bv 2),λi j Qd h=>?_⟩
  obtain⟨a,b,rfl,rfl,ha,hb,hq⟩:=h
  walk_at"l3"
  have hp0:2<=p:=hF.lo
  refine⟨oo.ok (.inr ⟨by omega,by omega⟩),by omega,?_⟩
  have e:((gm (false,p) a b:Nat):Int)=(a:Int)*b%p:=by
   show((a*b%p:Nat):Int)=_
   rw[lF,yJ]
  rw[<-e];exact hq
 ·have gf:H' f=some (.ext (hG _ oc _ f)):=sx.get f _ (λz=>by rw[z]at nf;rw[nf]at gi;cases gi) (by rw[aP mS.symm,bN]) rfl
  have gc:=sx.get _ _ (dW jR nc).symm bN rfl
  refine⟨gf,gc,?_⟩
  refine q _ (Ad p p p1 p2 (fst (false,p))) [p1,p2] (s2.trans (OQ kW nf nc sx)) ?_ rfl ?_ (by simp[ne]) (λa ha=>?_)
  ·rw[fJ (λz=>by rw[z,gf]at dO;cases dO) (λz=>by rw[z,gc]at dO;cases dO)];exact dO
  ·exact .int (.int (.int (.own (Hx.rem gf gc) rfl (i4 _) (.own (lR.rem gf gc) rfl (i4 _) (.int .nil)))))
  ·simp at ha
   rcases ha with rfl | rfl
   ·exact n2 _ (Af kW yq)
   ·exact n2 _ (Af kW qV)
noncomputable abbrev aI5:bt:=λds Q=>∃(l g:List Int),ds=[.lst false (az l),.lst false (az g)]/\1<=l.length/\l.length<=63/\g.length=l.length+1/\(∀x∈g,0<=x)/\Q (.lst true (mY l g))
theorem aI6(T:Txt K mg t):aO P w K mg base aS 1 t.FL t.FN ["powers","logs"] (bw (aI5 )):=by
 refine bY T.Qf AF ?_ ?_
 ·intro ds Q h
  obtain⟨l,g,rfl,h1,h2,h3,h4,q⟩:=h<;>rfl
 ·intro aF A outer s H E hr
  refine⟨_,(aE (aZ (i:=2) AF.nd rfl (bh rfl) (aA dh (aa (bO (cH) (by rfl) T.cI cF (ah (bv 0) au))) (aa ao)))
   (aE (aZ (i:=3) AF.nd rfl (ar rfl) (eF (cL (aA jC (aa (eF (cL ao cU))) (bv 2)) cU)))
   (aE (jz e7 rfl (zy rfl T.ij (ah (aa ao) (ah (bv 2) au))) (eG (i:=4) AF.nd rfl (bh rfl))
    (aJ (NW (i:=3) rfl (by first | exact ar rfl | exact bh (ar rfl)) (aA dh (aa (eF (cL ao cU))) (aa (fF [("powers",0),("many",2),("logs",1),("a",4)] ["b"] rfl (zy rfl T.ij (ah (aa ao) (ah (bv 2) au))) (λ_ _ _ _=>(eG (i:=4) (show(["powers","many","logs","a","b"]:List Str).Nodup by decide +kernel) rfl (ar (lookup_relabel_local rfl)) (by decide) (bh (lookup_relabel_local rfl)))) (λ_ _ _ _=>eH) (λ_ _ _ _=>(fg (aQ (bv 0) (aa (aA dX (aa (aA dh (aQ (bv 2) (bv 3) (λ_ _=>rfl)) (aQ (bv 2) (bv 4) (λ_ _=>rfl)))) (aa (aA eV (bv 1) (aa ao))))) (λ_ _=>rfl)))) rfl ⟨rfl,⟨rfl,⟨rfl,⟨rfl,trivial⟩⟩⟩⟩ (by repeat' (first | exact trivial | refine⟨.inl rfl,?_⟩ | refine⟨.inr (.inl rfl),?_⟩ | refine⟨.inr (.inr ⟨_,rfl⟩),?_⟩)) ⟨⟨rfl,.inl rfl,.inl rfl,_,rfl,rfl⟩,⟨⟨rfl,.inl rfl,.inl rfl,_,rfl,rfl⟩,⟨⟨rfl,.inl rfl,.inl rfl,_,rfl,rfl⟩,⟨⟨rfl,.inl rfl,.inl rfl,_,rfl,rfl⟩,trivial⟩⟩⟩⟩ (by decide +kernel) rfl (by decide +kernel)))))))
   (aJ (aW (em 3)))))),λds Q h=>?_⟩
  obtain⟨l,g,rfl,h1,h2,h3,h4,q⟩:=h
  refine aD λU hU=>?_
  walk_at"l3"
  refine hU _ ?_
  clear hU U
  refine aD λU hU=>?_
  walk_at"l3"
  refine⟨by decide,⟨by omega,by omega,by omega⟩,by decide,hU _ ?_⟩
  clear hU U
  refine aD λU hU=>?_
  walk_at"l3"
  refine⟨1,(l.length:Int)+1,⟨rfl,rfl⟩,⟨by decide,by decide,by omega,by omega⟩,?_⟩
  have en:((l.length:Int)+1-1).toNat=l.length:=by omega
  rw[en]
  refine hR.mk (λi δ=>∃o,δ=[some (.lst false (az l)),some (.lst false (az g)),some (.int ((l.length:Int)+1)),some (.lst true (tQ l g (i+1))),o]) ⟨none,?_⟩ ?_ ?_
  ·rw[show((l.length:Int)+1).toNat=l.length+1 by omega];rfl
  ·rintro i d δ hd ⟨o,rfl⟩
   obtain⟨hi,rfl⟩:i<l.length/\d=.int (1+(i:Int)):=by
    rw[eZ]at hd
    by_cases hi:i<l.length
    ·rw[nR hi]at hd
     exact⟨hi,(dw hd).symm⟩
    ·rw[nU (by simpa using hi)]at hd;cases hd
   walk_at"l3"
   refine⟨⟨_,rfl⟩,by decide,1,(l.length:Int)+1,⟨rfl,rfl⟩,⟨by decide,by decide,by omega,by omega⟩,?_⟩
   rw[en]
   refine i7 (bL l.length) (λ(k:Nat)=>D.int (1+(k:Int))) (λ(k:Nat)=>D.int (l.getD ((g.getD (i+1) 0+g.getD (k+1) 0)%(l.length:Int)).toNat 0)) (by rw[r6]) (λx y h=>by injection h with h;omega) (λk hk=>?_) (.inr λ_ _=>rfl) (by rw[lu,sL];omega) ?_
   ·have M1:=iD.mp hk
    walk_at"l3"
    have e1:(1+(i:Int)).toNat=i+1:=by omega
    have e2:(1+(k:Int)).toNat=k+1:=by omega
    have e3:(l.length:Int)+1-1=l.length:=by omega
    have n0:=ji (g.getD (i+1) 0+g.getD (k+1) 0) (show(l.length:Int)≠0 by omega)
    have n1:=jj (g.getD (i+1) 0+g.getD (k+1) 0) (show(0:Int)<l.length by omega)
    refine⟨_,jH (by omega) (by omega),_,jH (by omega) (by omega),?_⟩
    rw[e1,e2,e3]
    exact⟨by omega,_,jH n0 n1,rfl,rfl⟩
   ·walk_at"l3"
    refine⟨⟨by simp;omega,by rw[yE,dU];intro x _;rfl⟩,by simp[tQ];omega,_,?_,rfl⟩
    unfold tQ
    rw[List.range_succ (n:=i+1),nQ]
    congr 1
    show _=[D.lst true (az (mX l g (i+1)))]
    unfold mX
    rw[if_neg (by omega)]
    unfold az
    rw[dj,gv];rfl
  ·rintro δ ⟨o,rfl⟩
   refine hU _ ?_
   simp only[oW,mx,oX,oY,dT,jy,kr,ku,dC,mj,mw,mr,mq,oU,oV,kD,pU,mJ,pV,pW,oK,oM,oN,oO,oQ,oR,oS,mm,pQ,mF,mG,ii,mD,pk,mE,pq,pz,pB,pE,pF,pG,iI,eU,pI,pJ,pK,pL,sj,pO,pP,gN,pZ,pS,oZ,o9,pe,pf,p5,ph,p7,p8,p9,mC,iy,eM,gM,gO,nM,nG,vH,vI,iu,iw,mH,mI,qf,qh,qi,qj,tw,qo,mP,qk,ia,tG,tE,tF,dj,il,rA,nI,fq,rC,aN,vJ,vK,nX,nY,vL,exists_eq_left',exists_eq_left,D.bl.injEq,D.int.injEq,D.lst.injEq,D.fz.injEq,D.str.injEq,D.tup.injEq,vM,and_true,true_and,dg,nV,j0,lj,sA,sC,sD,sE,sF,sG,gJ,gK,mK,sN,sO,sP,sQ,sR,fE,iX,sH,sI,sJ,sM,fC,jw,vN,vO,rh,jk,vP,vQ,rm,sV,sW,sX,sY,sZ,s8,s9,i5,kH,mL,gP,mM,sT,qe,sS,mO,sU,i6,qa,if_true,vR,if_false,reduceIte,tf,decide_eq_true_eq,cM,fI,qp,qu,i8,tK,o8,qw,m8,m9,qm,mT,mV,qA,qI,qJ,qP,qL,qM,dS,lu]
   exact q
noncomputable abbrev aI7(t:oB):jI:=λds Q Ex=>∃a b:Nat,ds=[.int a,.int b]/\bl a<=1000000/\bl b<=1000000/\(b=0->Ex t.fm)/\(b≠0->∀q r:Nat,a=cl q b ^^^ r->bl r<bl b->Q (.tup [.int q,.int r]))
theorem QL(T:Txt K mg t):aO P w K mg base (iV P w) 1 t.FP t.FQ ["a","b"] (qg (aI7 t )):=by
 refine Ew T.Hi uo ?_ ?_
 ·intro ds Q Ex h
  obtain⟨a,b,rfl,ha,hb,qx,q⟩:=h<;>rfl
 ·intro aF A outer s H E hr
  refine⟨_,(aE (dG (cG (eW (cV hr)) (bv 1) (aa ao) (bS _)) (aJ (EA T.Hr rfl (by rfl) (ah (aa D4) au))) dF)
   (aE (aZ (i:=2) uo.nd rfl (ar rfl) ao)
   (aE (aZ (i:=3) uo.nd rfl (ar rfl) (em 0))
   (aE (N6 (my e7 (cG NJ (aa (kG (bv 3))) (aa (kG (bv 1))) (bS _))
    (aE (aZ (i:=4) uo.nd rfl (ar rfl) (aA eV (aa (kG (bv 3))) (aa (kG (bv 1)))))
    (aE (wL (i:=2) uo.nd rfl (ar rfl) (aa (aA si (aa ao) (bv 4))) Ee)
    (aJ (wL (i:=3) uo.nd rfl (ar rfl) (aa (aA si (bv 1) (bv 4))) Ee))))))
   (aJ (aW (mv (cL (em 2) (cL (em 3) cU))))))))),λds Q Ex h=>?_⟩
  obtain⟨a,b,rfl,ha,hb,qx,q⟩:=h
  refine aD λU hU=>?_
  walk_at"l3"
  split
  ·rename_i h0
   exact⟨by decide,qx (by omega)⟩
  ·rename_i h0
   have b0:b≠0:=by omega
   refine hU _ ?_
   clear hU U
   refine aD λU hU=>?_
   walk_at"l3"
   refine hU _ ?_
   clear hU U
   refine aD λU hU=>?_
   walk_at"l3"
   refine hU _ ?_
   clear hU U
   refine aD λU hU=>?_
   walk_at"l3"
   refine⟨λm δ=>∃(x r:Nat) (o sh:Option D),δ=[o,some (.int b),some (.int (x:Nat)),some (.int (r:Nat)),sh]/\a=cl x b ^^^ r/\bl r<=bl a/\m=bl r,
    ⟨bl a,0,a,_,none,rfl,by rw[lW,kZ],aX _,rfl⟩,?_⟩
   rintro m δ ⟨x,r,o,sh,rfl,inv,hra,rfl⟩
   simp only[oW,mx,oX,oY,dT,jy,kr,ku,dC,mj,mw,mr,mq,oU,oV,kD,pU,mJ,pV,pW,oK,oM,oN,oO,oQ,oR,oS,mm,pQ,mF,mG,ii,mD,pk,mE,pq,pz,pB,pE,pF,pG,iI,eU,pI,pJ,pK,pL,sj,pO,pP,gN,pZ,pS,oZ,o9,pe,pf,p5,ph,p7,p8,p9,mC,iy,eM,gM,gO,nM,nG,vH,vI,iu,iw,mH,mI,qf,qh,qi,qj,tw,qo,mP,qk,ia,tG,tE,tF,dj,il,rA,nI,fq,rC,aN,vJ,vK,nX,nY,vL,exists_eq_left',exists_eq_left,D.bl.injEq,D.int.injEq,D.lst.injEq,D.fz.injEq,D.str.injEq,D.tup.injEq,vM,and_true,true_and,dg,nV,j0,lj,sA,sC,sD,sE,sF,sG,gJ,gK,mK,sN,sO,sP,sQ,sR,fE,iX,sH,sI,sJ,sM,fC,jw,vN,vO,rh,jk,vP,vQ,rm,sV,sW,sX,sY,sZ,s8,s9,i5,kH,mL,gP,mM,sT,qe,sS,mO,sU,i6,qa,if_true,vR,if_false,reduceIte,tf,decide_eq_true_eq,cM,fI,qp,qu,i8,tK,o8,qw,m8,m9,qm,mT,mV,qA,qI,qJ,qP,qL,qM,gw]
   split
   ·rename_i hc
    have hle:bl b<=bl r:=by omega
    have DA:=MI b0 hle
    have es:(((bl r:Nat):Int)-((bl b:Nat):Int))=((bl r-bl b:Nat):Int):=by omega
    clear hU
    refine aD λU hU=>?_
    walk_at"l3"
    simp only[gw,es]
    refine hU _ ?_
    clear hU
    refine aD λU hU=>?_
    walk_at"l3"
    have o1:bl (1:Int).natAbs=1:=by decide
    refine⟨⟨by omega,by omega⟩,hU _ ?_⟩
    clear hU
    simp only[oW,mx,oX,oY,dT,jy,kr,ku,dC,mj,mw,mr,mq,oU,oV,kD,pU,mJ,pV,pW,oK,oM,oN,oO,oQ,oR,oS,mm,pQ,mF,mG,ii,mD,pk,mE,pq,pz,pB,pE,pF,pG,iI,eU,pI,pJ,pK,pL,sj,pO,pP,gN,pZ,pS,oZ,o9,pe,pf,p5,ph,p7,p8,p9,mC,iy,eM,gM,gO,nM,nG,vH,vI,iu,iw,mH,mI,qf,qh,qi,qj,tw,qo,mP,qk,ia,tG,tE,tF,dj,il,rA,nI,fq,rC,aN,vJ,vK,nX,nY,vL,exists_eq_left',exists_eq_left,D.bl.injEq,D.int.injEq,D.lst.injEq,D.fz.injEq,D.str.injEq,D.tup.injEq,vM,and_true,true_and,dg,nV,j0,lj,sA,sC,sD,sE,sF,sG,gJ,gK,mK,sN,sO,sP,sQ,sR,fE,iX,sH,sI,sJ,sM,fC,jw,vN,vO,rh,jk,vP,vQ,rm,sV,sW,sX,sY,sZ,s8,s9,i5,kH,mL,gP,mM,sT,qe,sS,mO,sU,i6,qa,if_true,vR,if_false,reduceIte,tf,decide_eq_true_eq,cM,fI,qp,qu,i8,tK,o8,qw,m8,m9,qm,mT,mV,qA,qI,qJ,qP,qL,qM,gw]
    refine⟨⟨by omega,by rw[gw];omega⟩,_,DA,x ^^^ 2 ^ (bl r-bl b),r ^^^ b <<< (bl r-bl b),o,_,⟨rfl,?_,?_,rfl⟩,WJ inv,by omega,rfl⟩
    ·rw[show(1:Int)=((1:Nat):Int) from rfl,rR,jt,CG]
    ·rw[rR,jt]
   ·rename_i hc
    refine hU _ ?_
    walk_at"l3"
    refine⟨by decide,q b0 x r inv (by omega)⟩
noncomputable abbrev aI8:bt:=λds Q=>∃a:Nat,ds=[.int a]/\bl a<=60/\Q (.bl (al a))
theorem aI9(T:Txt K mg t):aO P w K mg base aS 2 t.FR t.FT ["a"] (bw (aI8 )):=by
 refine bY T.Qi Fu ?_ ?_
 ·intro ds Q h
  obtain⟨a,rfl,ha,q⟩:=h<;>rfl
 ·intro aF A outer s H E hr
  refine⟨_,(aE (dG (cG zD (bv 0) (aa ao) (bS _)) (aJ (aW jx)) dF)
   (aE (aZ (i:=1) Fu.nd rfl (ar rfl) (aA wV (aa (aA eV (aa (kG (bv 0))) (aa ao))) (aa ao)))
   (aE (jz e7 rfl (zy rfl T.ij (ah (aa ao) (ah (aa (aA si (aa ao) (aa (aA dh (bv 1) (aa ao))))) au))) (eG (i:=2) Fu.nd rfl (ar rfl))
    (aJ (dG (cG (eW (cV hr)) (aQ (aa (bK (zN ((QL T).mono (by decide))) hr rfl T.Qg T.Hi.kp T.Qh zM (ah (bv 0) (ah (bv 2) au)))) (aa ao) (λ_ _=>rfl)) (aa ao) (bS _)) (aJ (aW jx)) dF)))
   (aJ (aW jx))))),λds Q h=>?_⟩
  obtain⟨a,rfl,ha,q⟩:=h
  refine aD λU hU=>?_
  walk_at"l3"
  split
  ·rename_i h2
   rw[WW (by omega)]at q;exact q
  ·rename_i h2
   have h2:2<=a:=by omega
   have hp:=fw (show a≠0 by omega)
   refine hU _ ?_
   clear hU U
   refine aD λU hU=>?_
   walk_at"l3"
   simp only[gw]
   refine⟨wU (by omega) (by omega),hU _ ?_⟩
   clear hU U
   have eh:((((bl a:Nat):Int)-1)/2+1)=(((bl a-1)/2+1:Nat):Int):=by omega
   have e1:(1:Int)*2 ^ ((((bl a:Nat):Int)-1)/2+1).toNat=((2 ^ ((bl a-1)/2+1):Nat):Int):=by
    rw[eh,show(1:Int)=((1:Nat):Int) from rfl,rR,CG]
   have big:2 ^ ((bl a-1)/2+1)<=2 ^ 40:=yy (by decide) (by omega)
   have o1:bl (1:Int).natAbs=1:=by decide
   refine aD λU hU=>?_
   walk_at"l3"
   rw[e1]
   have dJ6:((2 ^ ((bl a-1)/2+1):Nat):Int)<=2 ^ 40:=by exact_mod_cast big
   have nn:(0:Int)<=((2 ^ ((bl a-1)/2+1):Nat):Int):=K6 _
   refine⟨⟨by omega,by omega⟩,_,_,⟨rfl,rfl⟩,⟨by decide,by decide,by omega,by omega⟩,?_⟩
   have en:(((2 ^ ((bl a-1)/2+1):Nat):Int)-2).toNat=2 ^ ((bl a-1)/2+1)-2:=by omega
   rw[en]
   refine hR.mk (λi δ=>(∃o1 o2,δ=[some (.int a),o1,o2])/\∀j,j<i->md a (2+j)≠0) ⟨⟨_,_,rfl⟩,λj hj=>absurd hj (by omega)⟩ ?_ ?_
   ·rintro i d δ hd ⟨⟨o1,o2,rfl⟩,inv⟩
    obtain⟨hi,rfl⟩:i<2 ^ ((bl a-1)/2+1)-2/\d=.int (2+(i:Int)):=by
     rw[eZ]at hd
     by_cases hi:i<2 ^ ((bl a-1)/2+1)-2
     ·rw[nR hi]at hd
      exact⟨hi,(dw hd).symm⟩
     ·rw[nU (by simpa using hi)]at hd;cases hd
    have bi:bl (2+i)<=60:=by
     have:=(WZ h2 (show 2+i<2 ^ ((bl a-1)/2+1) by omega)).2
     omega
    walk_at"l3"
    refine⟨a,2+i,by rw[show((2+i:Nat):Int)=2+(i:Int) by omega],by omega,by omega,by omega,λ_ x r e l=>?_⟩
    have em:md a (2+i)=r:=wt e l
    refine⟨.int r,rfl,rfl,?_⟩
    rw[i6]
    split
    ·rename_i hz
     have r0:r=0:=by have:=of_decide_eq_true hz;omega
     rw[WY hi (em.trans r0)]at q
     exact q
    ·rename_i hz
     refine⟨⟨_,_,rfl,rfl⟩,λj hj=>?_⟩
     by_cases ej:j=i
     ·rw[ej,em]
      intro r0
      exact hz (decide_eq_true (by omega))
     ·exact inv j (by omega)
   ·rintro δ ⟨⟨o1,o2,rfl⟩,inv⟩
    rw[dS,lu]at inv
    rw[WX h2 inv]at q
    refine hU _ ?_
    walk_at"l3"
    exact q
noncomputable abbrev aD5:bt:=λds Q=>∃a:Int,ds=[.int a]/\Q (.bl (decide (4<=a)&&decide (a<=127)&&al a.toNat))
theorem aD6(T:Txt K mg t):aO P w K mg base aS 3 t.FU t.FV ["bits"] (bw (aD5 )):=by
 refine bY T.Qj aB7 ?_ ?_
 ·intro ds Q h
  obtain⟨a,rfl,q⟩:=h<;>rfl
 ·intro aF A outer s H E hr
  refine⟨_,(aJ (aW (rZ (aa (Ei wW wW (aa ao) (bv 0) (aa ao))) (og (bK ((aI9 T).mono (by decide)) hr rfl T.cI0 T.Qi.kp T.cI1 br (ah (bv 0) au)))))),λds Q h=>?_⟩
  obtain⟨a,rfl,q⟩:=h
  walk_at"l3"
  split
  ·rename_i h1
   split
   ·rename_i h2
    refine⟨a.toNat,by rw[yH (by omega)],?_,?_⟩
    ·have:bl a.toNat<=bl 127:=DB (by omega)
     exact dY this (by decide)
    ·have e:(decide (4<=a)&&decide (a<=127)&&al a.toNat)=al a.toNat:=by simp[h1,h2]
     rw[e]at q;exact q
   ·rename_i h2
    have e:(decide (4<=a)&&decide (a<=127)&&al a.toNat)=false:=by simp[h2]
    rw[e]at q;exact q
  ·rename_i h1
   have e:(decide (4<=a)&&decide (a<=127)&&al a.toNat)=false:=by simp[h1]
   rw[e]at q;exact q
noncomputable abbrev aK3:bt:=λds Q=>∃a b:Nat,ds=[.int a,.int b]/\bl a<=1000/\bl b<=1000/\Q (.int (cl a b:Nat))
theorem aK4(T:Txt K mg t):aO P w K mg base aS 1 t.FW t.FX ["a","b"] (bw (aK3 )):=by
 refine bY T.Qk AG ?_ ?_
 ·intro ds Q h
  obtain⟨a,b,rfl,ha,hb,q⟩:=h<;>rfl
 ·intro aF A outer s H E hr
  refine⟨_,(aE (aZ (i:=2) AG.nd rfl (ar rfl) ao)
   (aE (jz e7 rfl (mB rfl T.ij (ah (aa (kG (bv 1))) au)) (eG (i:=3) AG.nd rfl (ar rfl))
    (aJ (dG (cG (eW (cV hr)) (aa (aA NH (aa (aA NG (bv 1) (bv 3))) (aa ao))) (aa ao) (bS _)) (aJ (wL (i:=2) AG.nd rfl (ar rfl) (aa (aA si (bv 0) (bv 3))) Ee)) dF)))
   (aJ (aW (em 2))))),λds Q h=>?_⟩
  obtain⟨a,b,rfl,ha,hb,q⟩:=h
  refine aD λU hU=>?_
  walk_at"l3"
  refine hU _ ?_
  clear hU U
  refine aD λU hU=>?_
  walk_at"l3"
  simp only[gw]
  refine⟨⟨by omega,by omega⟩,N4 (λi δ=>∃o,δ=[some (.int a),some (.int b),some (.int (Mf.P a b i:Nat)),o]) ⟨none,rfl⟩ ?_ ?_⟩
  ·rintro i δ hi ⟨o,rfl⟩
   walk_at"l3"
   refine⟨by omega,?_⟩
   have A7:(kX ((b:Int)/2 ^ ((i:Int)).toNat) 1=1)↔b.testBit i=true:=by
    have h:=W9 b i
    rw[Ll]at h
    rw[<-h,dI]
   split
   ·rename_i hc
    have h:=Xa (a:=a) (A7.mp hc)
    rw[Ll]at h
    exact⟨⟨by omega,by rw[gw];omega⟩,_,h,rfl⟩
   ·rename_i hc
    exact⟨_,by rw[Xb (λz=>hc (A7.mpr z))],rfl⟩
  ·rintro δ ⟨o,rfl⟩
   refine hU _ ?_
   walk_at"l3"
   exact q
noncomputable abbrev aN2:List D->List Str->List D->Prop:=λds ns xs=>∃p:Nat,ds=[.int p]/\p∈fi/\ns=fK "bits"++[("products":Str)]/\xs=[.int p,.int (af (true,p)),.int ((bl (af (true,p)):Nat)-1),.lst true (az (fl (true,p))),.lst true (az (dq (fl (true,p)))),.int (fst (true,p)),.lst true (mY (fl (true,p)) (dq (fl (true,p))))]
theorem aH2(T:Txt K mg t)(hB:Bm mg base):aO P w K mg base aS 8 t.FY t.AL ["self","bits"] (EN [t.ja,t.jb] t.aL aN2):=by
 refine OL T.aI0 T.aH0 PV (λvs H Q E h=>?_) λA outer s H vs Q E hr h=>?_
 ·obtain⟨x,dx,bV,ds,ns,xs,rfl,_,_,r,⟨p,rfl,_⟩,_⟩:=h
  have:=r.length
  simp at this
  simp[this]
 obtain⟨x,dx,bV,ds,ns,xs,rfl,tb,hx,r,⟨p,rfl,hp,rfl,rfl⟩,q⟩:=h
 obtain rfl:bV=[.int p]:=by
  cases r with
  | int r=>cases r;rfl
 have hm:(true,p)∈aK:=fO _ (Cw hp)
 have hF:=cC hm
 refine⟨_,iO (CS (CP (CM (ow ((aD6 T).mono (by decide)) hr rfl T.cI2 T.Qj.kp T.cI3 .nil br (eE (pv 1) gY)))) (rJ LL) CQ)
  (iO (lM (pv 0) (pv 1) rfl)
  (iO (CW (i:=2) PV.nd rfl (ar rfl) (yY MU rH (yY C9 (DD (pv 1)) rH)))
  (iO (yS (OE (E:=E0) (i:=1) T.QG ((QJ T).mono (by decide)) hr T.Qc rfl T.vd rfl rfl rfl rfl (eE (pv 0) (eE (pv 2) (eE (Ox rfl rfl T.aH1 hB) gY)))))
  (rJ (lM (pv 0) (ow ((aI6 T).mono (by decide)) hr rfl T.cH8 T.Qf.kp T.cH9 .nil br (eE (zc (pv 0) rfl) (eE (zc (pv 0) rfl) gY))) rfl))))),?_⟩
 refine⟨_,rfl,H,[.int p],λd=>d=.bl true,ae.refl _,.int .nil,⟨p,rfl,by rw[ZY p hp]⟩,λd v F' H1 A1 hd qW hf he h3 r nd fr=>?_⟩
 subst hd
 cases r
 refine⟨true,rfl,?_⟩
 refine iU ?_
 have eN:=qW.get _ _ hx
 refine⟨.int p,rfl,.ref x,rfl,x,t.aL,dx,_,rfl,eN,T.eY,T.xW,by decide,?_⟩
 generalize e2:upd H1 x (HO.ins t.aL dx (eD "bits" (.int p) []))=H2
 have gi:H2 x=some (.ins t.aL dx [(("bits":Str),.int p)]):=by rw[<-e2,bN];rfl
 have s2:cZ x H H2:=by rw[<-e2];exact(qW.x (x:=x)).trans (cZ.upd (C:=x) (dx:=dx) eN rfl)
 have n2:∀p,H2 p=none->H p=none:=λp h=>qW.free (xn eN (by rw[e2];exact h))
 obtain⟨ps,hP⟩:=tb t.jb (by simp)
 obtain⟨more,Hv⟩:=s2.tb _ ps hP
 have bp:bl p<=7:=OV p hp
 have A8:1<=bl p:=OW p hp
 refine⟨.int p,rfl,rfl,p,rfl,rfl,_,_,rfl,rfl,_,_,rfl,rfl,?_,?_⟩
 ·have o1:bl (1:Int).natAbs=1:=by decide
  rw[gw]
  exact⟨by omega,by omega⟩
 have em:(1:Int)*2 ^ (((bl ((p:Int)).natAbs:Nat):Int)-1).toNat=((af (true,p):Nat):Int):=by
  rw[gw,show(((bl p:Nat):Int)-1)=((bl p-1:Nat):Int) by omega,show(1:Int)=((1:Nat):Int) from rfl,rR,CG];rfl
 show yU 2 (.int ((1:Int)*2 ^ (((bl ((p:Int)).natAbs:Nat):Int)-1).toNat)) _ _ _
 rw[em]
 refine⟨.ref x,rfl,.int (af (true,p)),rfl,⟨_,Hv⟩,λf k qn pm gQ H3 nf Hw hk kf kW hl3=>?_⟩
 refine⟨f,_,_,.int p,Hw,rfl,rfl,λoc u gB hu nc mS=>?_⟩
 obtain⟨tm,rfl⟩:∃tm,u=vq p tm:=hu
 have jR:=kW.get _ _ gi
 refine⟨x,dx,f,t.aL,"bits",p,af (true,p),_,oc,_,k,gm (true,p),fl (true,p),fst (true,p),rfl,xo jR (λz=>by rw[z,nf]at gi;cases gi) nc,by decide,⟨T.eY,T.u6,T.xY,T.qT,T.nu,T.xX,T.u7⟩,OR mS nc hk kf,?_,hF,λH' p1 p2 sx dO Hx lR ne yq qV=>?_⟩
 ·refine OJ (n:=3) ⟨rfl,rfl,rfl,by decide,rfl,rfl,by decide,by decide,rfl⟩ gB (λu1 u2=>rfl) λq f A outer s H E hr=>?_
  refine⟨_,fg (aQ (aa (bK (zN ((QL T).mono (by decide))) hr rfl T.Qg T.Hi.kp T.Qh zM (ah (aa (bK ((aK4 T).mono (by decide)) hr rfl T.cI4 T.Qk.kp T.cI5 br (ah (bv 0) (ah (bv 1) au)))) (ah (bv 2) au)))) (aa ao) (λ_ _=>rfl)),λi j Qd h=>?_⟩
  obtain⟨a,b,rfl,rfl,ha,hb,hq⟩:=h
  walk_at"l3"
  have b1:bl a<=6:=by
   have:bl a<=bl 63:=DB (by omega)
   exact dY this (by decide)
  have b2:bl b<=6:=by
   have:bl b<=bl 63:=DB (by omega)
   exact dY this (by decide)
  have p0:p≠0:=by
   intro z
   rw[z]at A8
   exact absurd A8 (by decide)
  refine⟨a,b,rfl,by omega,by omega,cl a b,p,rfl,dY (ZZ a b) (by omega),by omega,λz=>p0 z,λ_ x r e l=>⟨by simp[D.pl],.int r,rfl,rfl,r,rfl,?_⟩⟩
  have er:gm (true,p) a b=r:=wt e l
  rw[<-er];exact hq
 ·have gf:H' f=some (.ext (hG _ oc _ f)):=sx.get f _ (λz=>by rw[z]at nf;rw[nf]at gi;cases gi) (by rw[aP mS.symm,bN]) rfl
  have gc:=sx.get _ _ (dW jR nc).symm bN rfl
  refine⟨gf,gc,?_⟩
  have s4:=s2.trans (OQ kW nf nc sx)
  have f1:=n2 _ (Af kW yq)
  have f2:=n2 _ (Af kW qV)
  have l1:=Hx.rem gf gc
  have l2:=lR.rem gf gc
  have ny:rem H' f (s.heap.objs.size+1) x=some (.ins t.aL dx ((fK "bits").zip (Ad p (af (true,p)) p1 p2 (fst (true,p))))):=by
   rw[fJ (λz=>by rw[z,gf]at dO;cases dO) (λz=>by rw[z,gc]at dO;cases dO)];exact dO
  generalize rem H' f (s.heap.objs.size+1)=H4 at s4 l1 l2 ny
  refine⟨.ref x,rfl,x,t.aL,dx,_,.ref p1,rfl,ny,T.eY,T.qT,rfl,.ref x,rfl,x,t.aL,dx,_,.ref p2,rfl,ny,T.eY,T.nu,rfl,H4,[.lst false (az (fl (true,p))),.lst false (az (dq (fl (true,p))))],λd=>d=.lst true (mY (fl (true,p)) (dq (fl (true,p)))),ae.refl _,.shr l1 (i4 _) (.shr l2 (i4 _) .nil),
   ⟨_,_,rfl,by have:=hF.len;have:=hF.lo;omega,by have:=hF.len;have:=hF.hi;omega,xk _ _,OU _ _,rfl⟩,λd v F' H5 A' hd nz hf he h3 r nd fr=>?_⟩
  subst hd
  obtain⟨p3,rfl⟩:∃p3,v=.ref p3:=by cases r;exact⟨_,rfl⟩
  have jS:=nz.get _ _ ny
  have nA:∀{a ws},H4 a=some (.lst ws)->a ∉ A':=λ{a ws} e z=>by rw[fr a z]at e;cases e
  refine⟨.ref x,rfl,x,t.aL,dx,_,rfl,jS,T.eY,T.nv,lh (aX 6) (by decide),?_⟩
  refine q _ (Ad p (af (true,p)) p1 p2 (fst (true,p))++[.ref p3]) (p1::p2::A') ((s4.trans (nz.x (x:=x))).trans (cZ.upd (C:=x) (dx:=dx) jS rfl)) (by rw[bN];rfl) rfl ?_ ?_ ?_
  ·exact .int (.int (.int (.own ((l1.same nz).upd jS (λws z=>by cases z)) rfl (i4 _) (.own ((l2.same nz).upd jS (λws z=>by cases z)) rfl (i4 _) (.int ((r.zo (by simp[fC,OT]) (ae.of λb o e=>by cases e)).xm jS (by simp[fC,OT])))))))
  ·exact jf.mpr ⟨by simp[ne];exact nA l1,jf.mpr ⟨nA l2,nd⟩⟩
  ·intro a ha
   rcases bM.mp ha with rfl | ha
   ·exact f1
   ·rcases bM.mp ha with rfl | ha
    ·exact f2
    ·exact s4.free (by rw[ny];simp) (fr a ha)
noncomputable abbrev aK5(cb cp:Addr):bt:=λds Q=>∃m:Bool × Nat,ds=[cW m]/\m∈aK/\Q (fD cb cp m)
theorem aK6(T:Txt K mg t)(hB:Bm mg base):aO P w K mg base aS 10 t.FZ t.Ga ["_law_told_here"] (w9 [t.ja,t.jb] (bw (aK5 t.aL t.aM))):=by
 refine OK T.Ql aJ8 ?_ ?_
 ·intro ds Q h
  obtain⟨m,rfl,hm,q⟩:=h<;>rfl
 ·intro aF A outer s H E hT hr
  refine⟨_,(aE (dG (ky (aQ (bv 0) (aa ao) (λ_ _=>rfl))) (aJ (aW (OM hT T.xV ((aH2 T hB).mono (by decide)) hr rfl T.yn T.aI1 br (ah (aQ (bv 0) (aa ao) (λ_ _=>rfl)) au)))) dF)
   (aJ (aW (OM hT T.ya ((aD4 T hB).mono (by decide)) hr rfl T.yp T.aE8 br (ah (aQ (bv 0) (aa ao) (λ_ _=>rfl)) au))))),λds Q h=>?_⟩
  obtain⟨m,rfl,hm,q⟩:=h
  unfold cW at *
  refine aD λU hU=>?_
  walk_at"l3"
  obtain⟨b,n⟩:=m
  cases b with
  | true =>
   refine⟨_,rfl,true,rfl,?_⟩
   rw[if_pos rfl]
   refine⟨_,rfl,_,_,⟨n,rfl,xu hm,rfl,rfl⟩,?_⟩
   rw[Z6];exact q
  | false =>
   refine⟨_,rfl,false,rfl,?_⟩
   rw[if_neg (by decide)]
   refine hU _ ?_
   walk_at"l3"
   refine⟨_,rfl,_,_,⟨n,rfl,Z8 hm,rfl,rfl⟩,?_⟩
   rw[Z7];exact q
noncomputable abbrev aN3:bt:=λds Q=>∃m:Bool × Nat,ds=[cW m]/\bl m.2<=1000/\1<=bl m.2/\Q (.int (af m:Nat))
theorem aN4(T:Txt K mg t):aO P w K mg base aS 1 t.Gb t.Gd ["_law_told_here"] (bw (aN3 )):=by
 refine bY T.Qm aL6 ?_ ?_
 ·intro ds Q h
  obtain⟨m,rfl,h1,h2,q⟩:=h<;>rfl
 ·intro aF A outer s H E hr
  refine⟨_,(aE (dG (ky (aQ (bv 0) (aa ao) (λ_ _=>rfl))) (aJ (aW (aA si (aa ao) (aa (aA eV (aa (kG (aQ (bv 0) (aa ao) (λ_ _=>rfl)))) (aa ao)))))) dF)
   (aJ (aW (fg (aQ (bv 0) (aa ao) (λ_ _=>rfl)))))),λds Q h=>?_⟩
  obtain⟨m,rfl,h1,h2,q⟩:=h
  unfold cW at *
  refine aD λU hU=>?_
  walk_at"l3"
  obtain⟨b,n⟩:=m
  cases b with
  | true =>
   refine⟨_,rfl,true,rfl,?_⟩
   rw[if_pos rfl]
   refine⟨_,rfl,?_⟩
   have o1:bl (1:Int).natAbs=1:=by decide
   have e:(1:Int)*2 ^ (((bl ((n:Int)).natAbs:Nat):Int)-1).toNat=((af (true,n):Nat):Int):=by
    have fW:1<=bl n:=h2
    rw[gw,show(((bl n:Nat):Int)-1)=((bl n-1:Nat):Int) by omega,show(1:Int)=((1:Nat):Int) from rfl,rR,CG];rfl
   refine⟨?_,by rw[e];exact q⟩
   rw[gw]
   have gH:bl n<=1000:=h1
   have fW:1<=bl n:=h2
   exact⟨by omega,by omega⟩
  | false =>
   refine⟨_,rfl,false,rfl,?_⟩
   rw[if_neg (by decide)]
   refine hU _ ?_
   walk_at"l3"
   exact⟨_,rfl,rfl,q⟩
noncomputable abbrev QM(t:oB)(P:Program)(w:World)(K:Frag)(mg:Str->Option Value)(base:Heap):jI:=λds Q Ex=>∃(m:Bool × Nat) (a b:Nat),ds=[fD t.aL t.aM m,.int a,.int b]/\m∈aK/\a<af m/\b<af m/\(b=0->Ex t.fm)/\(b≠0->∀r:Nat,r<af m->gm m r b=a->Q (.int (r:Nat)))
theorem QN(T:Txt K mg t):aO P w K mg base (iV P w) 2 t.AM t.Ge ["self","a","b"] (qg (QM t P w K mg base)):=by
 refine Ew T.aM4 aJ9 ?_ ?_
 ·intro ds Q Ex h
  obtain⟨m,a,b,rfl,hm,ha,hb,qx,q⟩:=h<;>rfl
 ·intro aF A outer s H E hr
  refine⟨_,(aE (dG (cG (eW (cV hr)) (bv 2) (aa ao) (bS _)) (aJ (EA T.Hr rfl (by rfl) (ah (aa D4) au))) dF)
   (aE (dG (cG (eW (cV hr)) (bv 1) (aa ao) (bS _)) (aJ (aW ao)) dF)
   (aJ (aW (tU (P:=P) (w:=w) (K:=K) (mg:=mg) (base:=base) (n:=1) (bv 0) (hr.mono (by decide)) (ah (aa (aA eV (aQ (iA (K:=K) (bv 0)) (bv 1) (λ_ _=>rfl)) (aQ (iA (K:=K) (bv 0)) (bv 2) (λ_ _=>rfl)))) au)))))),λds Q Ex h=>?_⟩
  obtain⟨m,a,b,rfl,hm,ha,hb,qx,q⟩:=h
  refine aD λU hU=>?_
  walk_at"l3"
  split
  ·rename_i h0
   exact⟨by decide,qx (by omega)⟩
  ·rename_i h0
   have b0:b≠0:=by omega
   refine hU _ ?_
   clear hU U
   refine aD λU hU=>?_
   walk_at"l3"
   split
   ·rename_i h1
    have a0:a=0:=by omega
    subst a0
    exact q b0 0 ha (mZ m b (dR m hm))
   ·rename_i h1
    have a0:a≠0:=by omega
    refine hU _ ?_
    clear hU U
    have hF:=cC hm
    obtain⟨r,e,hr1,hr2⟩:=Pa hm (show 1<=a by omega) ha (show 1<=b by omega) hb
    have qr:=q b0 r hr1 hr2
    obtain⟨k,n⟩:=m
    cases k with
    | true =>
     walk_at"l3"
     have ll:(dq (fl (true,n))).length=af (true,n):=(xk _ _).trans hF.len
     have n0:=ji (lg (true,n) a-lg (true,n) b) (show(af (true,n):Int)-1≠0 by have:=hF.lo;omega)
     have n1:=jj (lg (true,n) a-lg (true,n) b) (show(0:Int)<(af (true,n):Int)-1 by have:=hF.lo;omega)
     refine⟨_,_,_,Hs K,rfl,⟨T.eY,_,_,_,T.u7,Ht T,T.Hh⟩,by decide,_,_,_,_,rfl,T.eY,T.nu,rfl,_,jH (by omega) (by rw[ll];omega),_,_,_,_,rfl,T.eY,T.nu,rfl,_,jH (by omega) (by rw[ll];omega),?_⟩
     refine⟨_,_,_,_,af (true,n),fl (true,n),r,rfl,T.eY,T.qT,T.u6,rfl,rfl,hF.lo,?_,qr⟩
     have hk:((lg (true,n) a-lg (true,n) b)%((af (true,n):Int)-1)).toNat<(fl (true,n)).length:=by have:=hF.len;omega
     show(fl (true,n))[((lg (true,n) a-lg (true,n) b)%((af (true,n):Int)-1)).toNat]?=some (r:Int)
     rw[<-e]
     unfold pw
     rw[aU,bc hk];rfl
    | false =>
     walk_at"l3"
     have ll:(dq (fl (false,n))).length=af (false,n):=(xk _ _).trans hF.len
     have n0:=ji (lg (false,n) a-lg (false,n) b) (show(af (false,n):Int)-1≠0 by have:=hF.lo;omega)
     have n1:=jj (lg (false,n) a-lg (false,n) b) (show(0:Int)<(af (false,n):Int)-1 by have:=hF.lo;omega)
     refine⟨_,_,_,Hs K,rfl,⟨T.fo,_,_,_,T.vb,Ht T,T.Hh⟩,by decide,_,_,_,_,rfl,T.fo,T.qU,rfl,_,jH (by omega) (by rw[ll];omega),_,_,_,_,rfl,T.fo,T.qU,rfl,_,jH (by omega) (by rw[ll];omega),?_⟩
     refine⟨_,_,_,_,af (false,n),fl (false,n),r,rfl,T.fo,T.va,T.u9,rfl,rfl,hF.lo,?_,qr⟩
     have hk:((lg (false,n) a-lg (false,n) b)%((af (false,n):Int)-1)).toNat<(fl (false,n)).length:=by have:=hF.len;omega
     show(fl (false,n))[((lg (false,n) a-lg (false,n) b)%((af (false,n):Int)-1)).toNat]?=some (r:Int)
     rw[<-e]
     unfold pw
     rw[aU,bc hk];rfl
theorem QO(T:Txt K mg t)(m:Bool × Nat):qC P w K mg base 2 "over" (if m.1 then t.aL else t.aM) (QM t P w K mg base):=by
 obtain⟨k,n⟩:=m
 cases k with
 | true=>exact⟨T.eY,_,_,_,T.x4,QN T,T.Qn⟩
 | false=>exact⟨T.fo,_,_,_,T.yf,QN T,T.Qn⟩
noncomputable abbrev aP7:bt:=λds Q=>∃l:List Nat,ds=[.lst false (ak l)]/\l.length<=1000/\Q (.lst true (ak (aH l)))
theorem qX(T:Txt K mg t):aO P w K mg base aS 1 t.Gf t.Gg ["a"] (bw (aP7 )):=by
 refine bY T.nr Fv ?_ ?_
 ·intro ds Q h
  obtain⟨l,rfl,hl,q⟩:=h<;>rfl
 ·intro aF A outer s H E hr
  refine⟨_,(aE (aZ (i:=1) Fv.nd rfl (ar rfl) (bO (cH) (by rfl) T.cI cF (ah (bv 0) au)))
   (aE (my e7 (PW.pt (D7 (cG wX (bv 1) (aa ao) (bS _)) (CN (cG (eW (cV hr)) (aQ (bv 0) (aa (aA eV (bv 1) (aa ao))) (λ_ _=>rfl)) (aa ao) (bS _)))))
    (aJ (wL (i:=1) Fv.nd rfl (ar rfl) (aa ao) Yy)))
   (aJ (aW (jK (bv 0) kF (i3 (bv 1))))))),λds Q h=>?_⟩
  obtain⟨l,rfl,hl,q⟩:=h
  refine aD λU hU=>?_
  walk_at"l3"
  refine hU _ ?_
  clear hU U
  refine aD λU hU=>?_
  walk_at"l3"
  refine⟨λn δ=>∃k:Nat,δ=[some (.lst false (ak l)),some (.int (k:Nat))]/\k<=l.length/\(∀x∈l.drop k,x=0)/\n=k,⟨l.length,l.length,rfl,aX _,by simp,rfl⟩,?_⟩
  rintro n δ ⟨k,rfl,hk,hz,rfl⟩
  walk_at"l3"
  have fin:(n=0\/l.getD (n-1) 0≠0)->U [some (.lst false (ak l)),some (.int (n:Nat))]:=λh=>by
   refine hU _ ?_
   walk_at"l3"
   rw[xy hk hz h]at q
   rw[show dQ l none (some (n:Int))=l.take n from w5 l n]
   exact q
  split
  ·rename_i h1
   refine⟨_,xE (by omega) (by omega),rfl,?_⟩
   rw[i6,show((n:Int)-1).toNat=n-1 by omega]
   by_cases h0:l.getD (n-1) 0=0
   ·rw[if_pos (by rw[h0];rfl)]
    refine⟨n-1,by omega,n-1,by omega,by omega,Pl (by omega) hk hz h0,rfl⟩
   ·rw[if_neg (by simp only[decide_eq_true_eq];omega)]
    exact fin (.inr h0)
  ·rename_i h1
   exact fin (.inl (by omega))
noncomputable abbrev QP(K:Frag):bt:=λds Q=>∃(C:Addr) (p a:Nat) (xs ys:List Nat),ds=[xp C p,.lst false (ak xs),.int a,.lst false (ak ys)]/\dk K C/\bU K C "products"/\p∈fi/\a<af (true,p)/\(∀y∈ys,y<af (true,p))/\xs.length<=1000/\Q (.lst true (ak (jh (λx y=>de (true,p) x (gm (true,p) a y)) xs ys)))
theorem az9(T:Txt K mg t):aO P w K mg base aS 1 t.Gh t.Gi ["self","row","a","other"] (bw (QP K)):=by
 refine bY T.aB0 PY ?_ ?_
 ·intro ds Q h
  obtain⟨C,p,a,xs,ys,rfl,hC,hn,hp,ha,hy,hl,q⟩:=h<;>rfl
 ·intro aF A outer s H E hr
  refine⟨_,(aE (aZ (i:=4) PY.nd rfl (bh rfl) (fg (aQ (iA (K:=K) (bv 0)) (bv 2) (λ_ _=>rfl))))
   (aJ (aW (fF [("by_a",4)] ["x","y"] rfl (zO rfl T.ym (ah (bv 1) (ah (bv 3) au))) (λ_ _ _ _=>(jJ (i1:=1) (i2:=2) rfl (show(["by_a","x","y"]:List Str).Nodup by decide +kernel) rfl (ar (lookup_relabel_local rfl)) rfl (ar (lookup_relabel_local rfl)) (by decide) (by decide) (bh (lookup_relabel_local rfl)) (bh (lookup_relabel_local rfl)))) (λ_ _ _ _=>eH) (λ_ _ _ _=>(aA pH (bv 1) (aQ (bv 0) (bv 2) (λ_ _=>rfl)))) rfl ⟨rfl,trivial⟩ (by repeat' (first | exact trivial | refine⟨.inl rfl,?_⟩ | refine⟨.inr (.inl rfl),?_⟩ | refine⟨.inr (.inr ⟨_,rfl⟩),?_⟩)) ⟨⟨rfl,.inl rfl,.inl rfl,_,rfl,rfl⟩,trivial⟩ (by decide +kernel) rfl (by decide +kernel))))),λds Q h=>?_⟩
  obtain⟨C,p,a,xs,ys,rfl,hC,hn,hp,ha,hy,hl,q⟩:=h
  refine aD λU hU=>?_
  walk_at"l3"
  refine⟨C,_,_,_,rfl,hC,hn,rfl,_,EW hp ha,?_⟩
  refine⟨by rw[gJ,kH];rfl,hU _ ?_⟩
  clear hU U
  walk_at"l3"
  refine⟨_,_,rfl,rfl,Aq (λx y=>de (true,p) x (gm (true,p) a y)) (λx hx y A9=>?_) (by omega) q⟩
  walk_at"l3"
  refine⟨_,EV hp ha (hy y A9),?_⟩
  show kY (x:Int) ((gm (true,p) a y:Nat):Int)=_
  rw[jt];rfl
noncomputable abbrev QQ(K:Frag):bt:=λds Q=>∃(C:Addr) (p a:Nat) (xs ys:List Nat),ds=[qB C p,.lst false (ak xs),.int a,.lst false (ak ys)]/\dk K C/\bU K C "prime"/\0<p/\a<64/\(∀y∈ys,y<64)/\xs.length<=1000/\Q (.lst true (ak (jh (λx y=>de (false,p) x (gm (false,p) a y)) xs ys)))
theorem ax9(T:Txt K mg t):aO P w K mg base aS 1 t.Gj t.Gk ["self","row","a","other"] (bw (QQ K)):=by
 refine bY T.ay9 PZ ?_ ?_
 ·intro ds Q h
  obtain⟨C,p,a,xs,ys,rfl,hC,hn,hp,ha,hy,hl,q⟩:=h<;>rfl
 ·intro aF A outer s H E hr
  refine⟨_,(aE (aZ (i:=4) PZ.nd rfl (bh rfl) (fg (iA (K:=K) (bv 0))))
   (aJ (aW (fF [("prime",4),("a",2)] ["x","y"] rfl (zO rfl T.ym (ah (bv 1) (ah (bv 3) au))) (λ_ _ _ _=>(jJ (i1:=2) (i2:=3) rfl (show(["prime","a","x","y"]:List Str).Nodup by decide +kernel) rfl (ar (lookup_relabel_local rfl)) rfl (ar (lookup_relabel_local rfl)) (by decide) (by decide) (bh (lookup_relabel_local rfl)) (bh (lookup_relabel_local rfl)))) (λ_ _ _ _=>eH) (λ_ _ _ _=>(aA dX (aa (aA eV (bv 2) (aa (aA jC (bv 1) (bv 3))))) (bv 0))) rfl ⟨rfl,⟨rfl,trivial⟩⟩ (by repeat' (first | exact trivial | refine⟨.inl rfl,?_⟩ | refine⟨.inr (.inl rfl),?_⟩ | refine⟨.inr (.inr ⟨_,rfl⟩),?_⟩)) ⟨⟨rfl,.inl rfl,.inl rfl,_,rfl,rfl⟩,⟨⟨rfl,.inl rfl,.inl rfl,_,rfl,rfl⟩,trivial⟩⟩ (by decide +kernel) rfl (by decide +kernel))))),λds Q h=>?_⟩
  obtain⟨C,p,a,xs,ys,rfl,hC,hn,hp,ha,hy,hl,q⟩:=h
  refine aD λU hU=>?_
  walk_at"l3"
  refine⟨C,_,_,.int p,rfl,hC,hn,rfl,rfl,hU _ ?_⟩
  clear hU U
  walk_at"l3"
  refine⟨_,_,rfl,rfl,Aq (λx y=>de (false,p) x (gm (false,p) a y)) (λx hx y A9=>?_) (by omega) q⟩
  have h2:=hy y A9
  walk_at"l3"
  refine⟨oo.ok (.inr ⟨by omega,by omega⟩),by omega,?_⟩
  have e:((x:Int)-((a*y%p:Nat):Int))%(p:Int)=((x:Int)-(a:Int)*y)%p:=by
   rw[lF,yJ,Int.sub_emod,Int.emod_emod,<- Int.sub_emod]
  show _=(((((x:Int)-((a*y%p:Nat):Int))%(p:Int)).toNat:Nat):Int)
  rw[e,yH (ji _ (by omega))]
theorem bD1(T:Txt K mg t){m:Bool × Nat}(hm:m∈aK):∃C ns zs sp,fD t.aL t.aM m=.obj C ns zs/\mU P w K mg base 1 "lessened" C sp/\("lessened":Str) ∉ ns/\∀(xs ys:List Nat) (a:Nat) (Q:D->Prop),a<af m->(∀y∈ys,y<af m)->xs.length<=1000->Q (.lst true (ak (jh (λx y=>de m x (gm m a y)) xs ys)))->sp [.obj C ns zs,.lst false (ak xs),.int a,.lst false (ak ys)] Q:=by
 have hF:=cC hm
 obtain⟨k,n⟩:=m
 cases k with
 | true=>exact⟨_,_,_,QP K,rfl,⟨T.eY,_,_,_,T.xZ,az9 T,T.aB1⟩,by decide,λxs ys a Q ha hy hl q=>⟨_,n,a,xs,ys,rfl,T.eY,T.nv,xu hm,ha,hy,hl,q⟩⟩
 | false =>
  have qY:n<=64:=hF.hi
  have l2:2<=n:=hF.lo
  exact⟨_,_,_,QQ K,rfl,⟨T.fo,_,_,_,T.yd,ax9 T,T.az0⟩,by decide,λxs ys a Q ha hy hl q=>⟨_,n,a,xs,ys,rfl,T.fo,T.jQ,by omega,cJ (show a<n from ha) qY,λy h=>cJ (show y<n from hy y h) qY,hl,q⟩⟩
noncomputable abbrev aJ0(t:oB)(P:Program)(w:World)(K:Frag)(mg:Str->Option Value)(base:Heap):jI:=λds Q Ex=>∃(m:Bool × Nat) (a b:List Nat),ds=[fD t.aL t.aM m,.lst false (ak a),.lst false (ak b)]/\m∈aK/\AllLt (af m) a/\AllLt (af m) b/\a.length<=300/\b.length<=300/\(aH b=[]->Ex t.fm)/\(aH b≠[]->∀q r:List Nat,q=aH q->AllLt (af m) q->q.length<=300->AllLt (af m) r->r.length<=300->(aH r).length<(aH b).length->(∀k,gp m (di m b q k) (cf r k)=cf a k)->Q (.tup [.lst true (ak q),.lst true (ak (aH r))]))
theorem aJ1(T:Txt K mg t):aO P w K mg base (iV P w) 3 t.Gm t.Gn ["field","a","b"] (qg (aJ0 t P w K mg base)):=by
 refine Ew T.Qo qQ ?_ ?_
 ·intro ds Q Ex h
  obtain⟨m,a,b,rfl,hm,ha,hb,Ba,Bb,qx,q⟩:=h<;>rfl
 ·intro aF A outer s H E hr
  refine⟨_,(aE (aZ (i:=3) qQ.nd rfl (ar rfl) (bK ((qX T).mono (by decide)) hr rfl T.qR T.nr.kp T.qS br (ah (bv 2) au)))
   (aE (dG (cG (eW (cV hr)) (bv 3) (aa (eF cU)) (bS _)) (aJ (EA T.Hr rfl (by rfl) (ah (aa D4) au))) dF)
   (aE (aZ (i:=4) qQ.nd rfl (ar rfl) (bK ((qX T).mono (by decide)) hr rfl T.qR T.nr.kp T.qS br (ah (bv 1) au)))
   (aE (aZ (i:=5) qQ.nd rfl (ar rfl) (aA jC (aa (eF (cL ao cU))) (aa (aA dh (aa (aA eV (aa (bO (cH) (by rfl) T.cI cF (ah (bv 4) au))) (aa (bO (cH) (by rfl) T.cI cF (ah (bv 3) au))))) (aa ao)))))
   (aE (N6 (jz e7 rfl (YN rfl T.ij (ah (aa (aA eV (aa (bO (cH) (by rfl) T.cI cF (ah (bv 5) au))) (aa ao))) (ah (aa (kC (aa ao))) (ah (aa (kC (aa ao))) au)))) (eG (i:=6) qQ.nd rfl (ar rfl))
    (aE (YX (i:=7) qQ.nd rfl (ar rfl) (ι (P:=P) (w:=w) (K:=K) (mg:=mg) (base:=base) (n:=2) (bv 0) (hr.mono (by decide)) rfl (ah (aQ (bv 4) (aa (kC (aa ao))) (λ_ _=>rfl)) (ah (aQ (bv 3) (aa (kC (aa ao))) (λ_ _=>rfl)) au))))
    (aE (wZ (i:=5) rfl (by first | exact ar rfl | exact bh (ar rfl)) (fg (bv 7)) (bv 6))
    (aJ (aZ (i:=4) qQ.nd rfl (ar rfl) (aA dh (aa (jK (bv 4) kF (i3 (bv 6)))) (aa (jK (aa (tU (P:=P) (w:=w) (K:=K) (mg:=mg) (base:=base) (n:=1) (bv 0) (hr.mono (by decide)) (ah (aa (jK (bv 4) (i3 (bv 6)) kF)) (ah (bv 7) (ah (bv 3) au))))) kF (i3 (aa (kC (aa ao)))))))))))))
   (aJ (aW (mv (cL (em 5) (cL (bK ((qX T).mono (by decide)) hr rfl T.qR T.nr.kp T.qS br (ah (bv 4) au)) cU)))))))))),λds Q Ex h=>?_⟩
  obtain⟨m,a,b,rfl,hm,ha,hb,Ba,Bb,qx,q⟩:=h
  have ff:=(cC hm).lo
  refine aD λU hU=>?_
  walk_at"l3"
  refine⟨b,rfl,by omega,hU _ ?_⟩
  clear hU U
  obtain⟨D',hD⟩:∃D',D'=aH b:=⟨_,rfl⟩
  have bD:AllLt (af m) D':=by rw[hD];exact λz hz=>hb z (qD hz)
  have lD:D'.length<=300:=by rw[hD];exact dY (qE b) Bb
  rw[<-hD]at qx q ⊢
  refine aD λU hU=>?_
  walk_at"l3"
  refine⟨by decide,rfl,?_⟩
  rw[show(D.lst true ([]:List D))=D.lst true (ak []) from rfl,kO]
  by_cases h0:D'=[]
  ·rw[if_pos (decide_eq_true h0)]
   exact⟨by decide,qx h0⟩
  rw[if_neg (by simp only[decide_eq_true_eq];exact h0)]
  have q:=q h0
  have pD:0<D'.length:=by
   cases D' with
   | nil=>exact absurd rfl h0
   | cons _ _=>exact Nat.succ_pos _
  have tD:cf D' (D'.length-1)≠0:=by
   rcases tW b with h | h
   ·rw[<-hD]at h;omega
   ·rw[<-hD]at h;exact h
  refine hU _ ?_
  clear hU U qx
  refine aD λU hU=>?_
  walk_at"l3"
  refine⟨a,rfl,by omega,hU _ ?_⟩
  clear hU U
  obtain⟨A',hA⟩:∃A',A'=aH a:=⟨_,rfl⟩
  have bA:AllLt (af m) A':=by rw[hA];exact λz hz=>ha z (qD hz)
  have lA:A'.length<=300:=by rw[hA];exact dY (qE a) Ba
  rw[<-hA]
  refine aD λU hU=>?_
  walk_at"l3"
  obtain⟨n,en,hn⟩:∃n:Nat,((A'.length:Int)-(D'.length:Int)+1).toNat=n/\n=A'.length+1-D'.length:=⟨_,rfl,by omega⟩
  refine⟨by decide,⟨by omega,by omega,by omega⟩,?_⟩
  rw[en,show az (aN n 0)=ak (aN n 0) by rw[eX,rB];unfold az;rw[rB];rfl]
  refine hU _ ?_
  clear hU U
  refine aD λU hU=>?_
  walk_at"l3"
  rw[fP]
  refine⟨_,_,_,⟨rfl,rfl,rfl⟩,?_,?_⟩
  ·exact⟨⟨by omega,by omega,by decide,by decide⟩,.inr rfl⟩
  have ers:(ik ((n:Int)-1) (-1) (-1)).toNat=n:=by
   unfold ik
   rw[if_neg (by decide)]
   by_cases h:(n:Int)-1 > -1
   ·rw[if_pos h]
    have:((n:Int)-1 - -1-1) / - -1=(n:Int)-1:=by rw[show(- -1:Int)=1 from rfl,Int.ediv_one];omega
    rw[this];omega
   ·rw[if_neg h];omega
  rw[ers]
  refine hR.mk (λi δ=>∃(qt rest:List Nat) (o1 o2:Option D),δ=[some (fD t.aL t.aM m),some (D.lst false (ak a)),some (D.lst false (ak b)),some (D.lst true (ak D')),some (D.lst true (ak rest)),some (D.lst true (ak qt)),o1,o2]/\(0<n->kQ m A' D' n i qt rest)/\(n=0->qt=[]/\rest=A')) ⟨_,_,none,none,rfl,λh=>kQ.start hm bA (by omega),λh=>⟨by rw[h];rfl,rfl⟩⟩ ?_ ?_
  ·rintro i d δ hd ⟨qt,rest,o1,o2,rfl,I,_⟩
   have hi:i<n:=by
    have:=(jU.mp hd).1
    simpa using this
   rw[eZ,nR hi]at hd
   obtain rfl:d=.int ((n-1-i:Nat):Int):=by
    rw[<-dw hd]
    show D.int ((n:Int)-1+(i:Int)*(-1))=_
    congr 1
    omega
   have I:=I (by omega)
   have E4:rest.length=n-1-i+D'.length:=by have:=I.rl;omega
   have hr0:0<rest.length:=by omega
   have hql:=I.ql
   refine aD λU hU=>?_
   walk_at"l3"
   refine⟨_,_,_,_,tV _ _ m,QO T m,Pb m _ (by decide),_,tX hr0,_,tX pD,m,_,_,by rw[tV];rfl,hm,bx hm I.rb _,bx hm bD _,λz=>absurd z tD,λ_ f hf ht=>⟨rfl,hU _ ?_⟩⟩
   clear hU
   have tA:cf A' (A'.length-1)≠0:=by
    rcases tW a with h | h
    ·rw[<-hA]at h;omega
    ·rw[<-hA]at h;exact h
   have I2:=I.next hm pD hi hf ht tA
   refine aD λU hU=>?_
   walk_at"l3"
   refine⟨_,n-1-i,rfl,by rw[xF (by omega) (by rw[cM];omega)];rfl,?_⟩
   rw[Am]
   refine hU _ ?_
   clear hU
   obtain⟨C,ns,xs,sp,e1,e2,e3,e4⟩:=bD1 (P:=P) (w:=w) (base:=base) T hm
   walk_at"l3"
   rw[ED,w5]
   refine⟨C,ns,xs,sp,e1,e2,e3,e4 _ _ _ _ hf bD (by rw[jX];omega) ⟨eO _,fI _,?_⟩⟩
   rw[qu,ch6]
   refine⟨⟨?_,fI _⟩,qt.set (n-1-i) f,kP m D' rest (n-1-i) f,_,_,⟨?_,rfl,rfl,rfl⟩,λ_=>I2,λh=>by omega⟩
   ·rw[cM,gu,K9,Cy,jX];omega
   ·rw[i8];rfl
  ·rintro δ ⟨qt,rest,o1,o2,rfl,I,I0⟩
   rw[dS,lu]at I
   refine hU _ ?_
   walk_at"l3"
   have lr:rest.length<D'.length:=by
    by_cases h:n=0
    ·rw[(I0 h).2];omega
    ·have:=(I (by omega)).rl
     omega
   have g:qt=aH qt/\AllLt (af m) qt/\qt.length=n/\AllLt (af m) rest/\∀k,gp m (di m b qt k) (cf rest k)=cf a k:=by
    by_cases h:n=0
    ·obtain⟨rfl,rfl⟩:=I0 h
     refine⟨rfl,λa h=>by simp at h,h.symm,bA,λk=>?_⟩
     rw[show di m b [] k=0 from rfl,jM (bx hm bA k),hA,fj]
    ·have I:=I (by omega)
     refine⟨I.quot,I.qb,I.ql,I.rb,λk=>?_⟩
     have:=I.id k
     rw[hD,Pq,hA,fj]at this
     exact this
   exact⟨rest,rfl,by omega,eO _,by decide,q qt rest g.1 g.2.1 (by omega) g.2.2.2.1 (by omega) (lh (qE rest) lr) g.2.2.2.2⟩
noncomputable abbrev QR:bt:=λds Q=>∃(d:D) (a b:Nat),ds=[d,.int a,.int b]/\Q (.int (a ^^^ b:Nat))
theorem aF3(T:Txt K mg t):aO P w K mg base aS 1 t.Gp t.Gq ["self","a","b"] (bw (QR )):=by
 refine bY T.aG6 aE5 ?_ ?_
 ·intro ds Q h
  obtain⟨d,a,b,rfl,q⟩:=h<;>rfl
 ·intro aF A outer s H E hr
  refine⟨_,(aJ (aW (aA pH (bv 1) (bv 2)))),λds Q h=>?_⟩
  obtain⟨d,a,b,rfl,q⟩:=h
  walk_at"l3"
  rw[jt];exact q
noncomputable abbrev QS(K:Frag):bt:=λds Q=>∃(C:Addr) (p:Nat) (a b:Int),ds=[qB C p,.int a,.int b]/\dk K C/\bU K C "prime"/\0<p/\Q (.int ((a-b)%p))
theorem aB4(T:Txt K mg t):aO P w K mg base aS 1 t.Gr t.Gs ["self","a","b"] (bw (QS K)):=by
 refine bY T.aC3 aA8 ?_ ?_
 ·intro ds Q h
  obtain⟨C,p,a,b,rfl,hC,hn,hp,q⟩:=h<;>rfl
 ·intro aF A outer s H E hr
  refine⟨_,(aJ (aW (aA dX (aa (aA eV (bv 1) (bv 2))) (iA (K:=K) (bv 0))))),λds Q h=>?_⟩
  obtain⟨C,p,a,b,rfl,hC,hn,hp,q⟩:=h
  walk_at"l3"
  refine⟨C,_,_,.int p,rfl,hC,hn,rfl,?_⟩
  exact⟨by omega,q⟩
theorem b94(T:Txt K mg t){m:Bool × Nat}(h0:0<m.2):∃C ns xs sp,fD t.aL t.aM m=.obj C ns xs/\mU P w K mg base 1 "minus" C sp/\("minus":Str) ∉ ns/\∀(a b:Nat) (Q:D->Prop),Q (.int (gl m a b))->sp [.obj C ns xs,.int a,.int b] Q:=by
 obtain⟨k,n⟩:=m
 cases k with
 | true=>exact⟨_,_,_,QR,rfl,⟨T.eY,_,_,_,T.x3,aF3 T,T.aG7⟩,by decide,λa b Q q=>⟨_,a,b,rfl,q⟩⟩
 | false=>exact⟨_,_,_,QS K,rfl,⟨T.fo,_,_,_,T.ye,aB4 T,T.aC4⟩,by decide,λa b Q q=>⟨_,n,a,b,rfl,T.fo,T.jQ,h0,q⟩⟩
theorem cf0(T:Txt K mg t){m:Bool × Nat}(h0:0<m.2){a b:Nat}{Q:D->Prop}(q:Q (.int (gl m a b))):Pc P w K mg base 1 t.aL t.aM m "minus" [.int a,.int b] Q :=
 let⟨C,ns,xs,sp,e1,e2,e3,e4⟩:=b94 T h0;⟨C,ns,xs,sp,e1,e2,e3,e4 a b Q q⟩
noncomputable def Hy(a:List Int)(n:Int):List Int:=a++aN (n-a.length).toNat 0
theorem QT(l:List Nat)(n:Nat):az (Hy (l.map λ(k:Nat)=>(k:Int)) (n:Int))=ak (gj l n):=by
 unfold ak Hy gj
 rw[nQ,rB,dS]
 congr 3
 omega
noncomputable abbrev aP9:bt:=λds Q=>∃(a:List Int) (n:Int),ds=[.lst false (az a),.int n]/\a.length<=100000/\0<=n/\n<=100000/\Q (.lst true (az (Hy a n)))
theorem QU(T:Txt K mg t):aO P w K mg base aS 1 t.Gu t.Gv ["a","length"] (bw (aP9 )):=by
 refine bY T.Hj aP8 ?_ ?_
 ·intro ds Q h
  obtain⟨a,n,rfl,h1,h2,h3,q⟩:=h<;>rfl
 ·intro aF A outer s H E hr
  refine⟨_,(aJ (aW (aA dh (bv 0) (aa (aA jC (aa (eF (cL ao cU))) (aa (aA eV (bv 1) (aa (bO (cH) (by rfl) T.cI cF (ah (bv 0) au)))))))))),λds Q h=>?_⟩
  obtain⟨a,n,rfl,h1,h2,h3,q⟩:=h
  simp only[oW,mx,oX,oY,dT,jy,kr,ku,dC,mj,mw,mr,mq,oU,oV,kD,pU,mJ,pV,pW,oK,oM,oN,oO,oQ,oR,oS,mm,pQ,mF,mG,ii,mD,pk,mE,pq,pz,pB,pE,pF,pG,iI,eU,pI,pJ,pK,pL,sj,pO,pP,gN,pZ,pS,oZ,o9,pe,pf,p5,ph,p7,p8,p9,mC,iy,eM,gM,gO,nM,nG,vH,vI,iu,iw,mH,mI,qf,qh,qi,qj,tw,qo,mP,qk,ia,tG,tE,tF,dj,il,rA,nI,fq,rC,aN,vJ,vK,nX,nY,vL,exists_eq_left',exists_eq_left,D.bl.injEq,D.int.injEq,D.lst.injEq,D.fz.injEq,D.str.injEq,D.tup.injEq,vM,and_true,true_and,dg,nV,j0,lj,sA,sC,sD,sE,sF,sG,gJ,gK,mK,sN,sO,sP,sQ,sR,fE,iX,sH,sI,sJ,sM,fC,jw,vN,vO,rh,jk,vP,vQ,rm,sV,sW,sX,sY,sZ,s8,s9,i5,kH,mL,gP,mM,sT,qe,sS,mO,sU,i6,qa,if_true,vR,if_false,reduceIte,tf,decide_eq_true_eq,cM,fI,qp,qu,i8,tK,o8,qw,m8,m9,qm,mT,mV,qA,qI,qJ,qP,qL,qM,sL,fP]
  exact⟨by omega,⟨by omega,by omega,by omega⟩,by omega,q⟩
noncomputable abbrev aK7(cb cp:Addr):bt:=λds Q=>∃(m:Bool × Nat) (a b:List Nat),ds=[fD cb cp m,.lst false (ak a),.lst false (ak b)]/\m∈aK/\AllLt (af m) a/\AllLt (af m) b/\a.length<=500/\b.length<=500/\Q (.lst true (ak (aH (gR (de m) a b))))
theorem aK8(T:Txt K mg t):aO P w K mg base aS 2 t.Gw t.Gx ["field","a","b"] (bw (aK7 t.aL t.aM)):=by
 refine bY T.Qr P0 ?_ ?_
 ·intro ds Q h
  obtain⟨m,a,b,rfl,hm,ha,hb,hl,lR,q⟩:=h<;>rfl
 ·intro aF A outer s H E hr
  refine⟨_,(aE (aZ (i:=3) P0.nd rfl (ar rfl) (bO (NR rfl) (by rfl) T.QH MP (ah (aa (bO (cH) (by rfl) T.cI cF (ah (bv 1) au))) (ah (aa (bO (cH) (by rfl) T.cI cF (ah (bv 2) au))) au))))
   (aJ (aW (bK ((qX T).mono (by decide)) hr rfl T.qR T.nr.kp T.qS br (ah (aa (fF [("field",0)] ["x","y"] rfl (zO rfl T.ym (ah (aa (bK ((QU T).mono (by decide)) hr rfl T.Qp T.Hj.kp T.Qq br (ah (bv 1) (ah (bv 3) au)))) (ah (aa (bK ((QU T).mono (by decide)) hr rfl T.Qp T.Hj.kp T.Qq br (ah (bv 2) (ah (bv 3) au)))) au))) (λ_ _ _ _=>(jJ (i1:=1) (i2:=2) rfl (show(["field","x","y"]:List Str).Nodup by decide +kernel) rfl (ar (lookup_relabel_local rfl)) rfl (ar (lookup_relabel_local rfl)) (by decide) (by decide) (bh (lookup_relabel_local rfl)) (bh (lookup_relabel_local rfl)))) (λ_ _ _ _=>eH) (λ_ _ _ _=>(tU (P:=P) (w:=w) (K:=K) (mg:=mg) (base:=base) (n:=1) (bv 0) (hr.mono (by decide)) (ah (bv 1) (ah (bv 2) au)))) rfl ⟨rfl,trivial⟩ (by repeat' (first | exact trivial | refine⟨.inl rfl,?_⟩ | refine⟨.inr (.inl rfl),?_⟩ | refine⟨.inr (.inr ⟨_,rfl⟩),?_⟩)) ⟨⟨rfl,.inl rfl,.inl rfl,_,rfl,rfl⟩,trivial⟩ (by decide +kernel) rfl (by decide +kernel))) au))))),λds Q h=>?_⟩
  obtain⟨m,a,b,rfl,hm,ha,hb,hl,lR,q⟩:=h
  have m0:=dR m hm
  refine aD λU hU=>?_
  walk_at"l3"
  rw[show(if(b.length:Int)>(a.length:Int)then(b.length:Int)else(a.length:Int))=((max a.length b.length:Nat):Int) by split<;>omega]
  refine hU _ ?_
  clear hU U
  walk_at"l3"
  refine⟨_,_,rfl,by rw[dS];omega,by omega,by omega,_,_,rfl,by rw[dS];omega,by omega,by omega,?_⟩
  rw[QT,QT]
  refine⟨_,_,rfl,rfl,?_⟩
  have lA:=nj (yI a.length b.length)
  refine Aq (de m) (λx hx y hy=>?_) (by omega) ?_
  ·walk_at"l3"
   have g:=jO hm (Ao hm ha _ x hx) (Ao hm hb _ y hy)
   refine cf0 T m0 ?_
   rw[g.1]
  ·refine⟨gR (de m) a b,by rw[fM];rfl,by rw[Ap];omega,by rw[eO,jk],q⟩
noncomputable abbrev QV(K:Frag):bt:=λds Q=>∃(C:Addr) (p a:Nat) (xs:List Nat),ds=[xp C p,.int a,.lst false (ak xs)]/\dk K C/\bU K C "products"/\p∈fi/\a<af (true,p)/\(∀y∈xs,y<af (true,p))/\xs.length<=1000/\Q (.lst true (ak (xs.map (gm (true,p) a))))
theorem aD7(T:Txt K mg t):aO P w K mg base aS 1 t.Gy t.Gz ["self","a","row"] (bw (QV K)):=by
 refine bY T.aE9 P1 ?_ ?_
 ·intro ds Q h
  obtain⟨C,p,a,xs,rfl,hC,hn,hp,ha,hy,hl,q⟩:=h<;>rfl
 ·intro aF A outer s H E hr
  refine⟨_,(aE (aZ (i:=3) P1.nd rfl (bh rfl) (fg (aQ (iA (K:=K) (bv 0)) (bv 1) (λ_ _=>rfl))))
   (aJ (aW (fF [("by_a",3)] ["x"] rfl (wN (bv 2)) (λ_ _ _ _=>(eG (i:=1) (show(["by_a","x"]:List Str).Nodup by decide +kernel) rfl (ar (lookup_relabel_local rfl)) (by decide) (bh (lookup_relabel_local rfl)))) (λ_ _ _ _=>eH) (λ_ _ _ _=>(fg (aQ (bv 0) (bv 1) (λ_ _=>rfl)))) rfl ⟨rfl,trivial⟩ (by repeat' (first | exact trivial | refine⟨.inl rfl,?_⟩ | refine⟨.inr (.inl rfl),?_⟩ | refine⟨.inr (.inr ⟨_,rfl⟩),?_⟩)) ⟨⟨rfl,.inl rfl,.inl rfl,_,rfl,rfl⟩,trivial⟩ (by decide +kernel) rfl (by decide +kernel))))),λds Q h=>?_⟩
  obtain⟨C,p,a,xs,rfl,hC,hn,hp,ha,hy,hl,q⟩:=h
  refine aD λU hU=>?_
  walk_at"l3"
  refine⟨C,_,_,_,rfl,hC,hn,rfl,_,EW hp ha,?_⟩
  refine⟨by rw[gJ,kH];rfl,hU _ ?_⟩
  clear hU U
  walk_at"l3"
  refine i7 xs (λ(i:Nat)=>D.int (i:Int)) (λx=>D.int ((gm (true,p) a x:Nat):Int)) (zP xs) tL (λx hx=>?_) (.inr λ_ _=>rfl) (by rw[sL];omega) ?_
  ·walk_at"l3"
   exact⟨_,EV hp ha (hy x hx),rfl,rfl⟩
  ·rw[eX,gv]at q
   exact q
noncomputable abbrev QW(K:Frag):bt:=λds Q=>∃(C:Addr) (p a:Nat) (xs:List Nat),ds=[qB C p,.int a,.lst false (ak xs)]/\dk K C/\bU K C "prime"/\0<p/\a<64/\(∀y∈xs,y<64)/\xs.length<=1000/\Q (.lst true (ak (xs.map (gm (false,p) a))))
theorem aA0(T:Txt K mg t):aO P w K mg base aS 1 t.GA t.GB ["self","a","row"] (bw (QW K)):=by
 refine bY T.aB2 P2 ?_ ?_
 ·intro ds Q h
  obtain⟨C,p,a,xs,rfl,hC,hn,hp,ha,hy,hl,q⟩:=h<;>rfl
 ·intro aF A outer s H E hr
  refine⟨_,(aE (aZ (i:=3) P2.nd rfl (bh rfl) (fg (iA (K:=K) (bv 0))))
   (aJ (aW (fF [("prime",3),("a",1)] ["x"] rfl (wN (bv 2)) (λ_ _ _ _=>(eG (i:=2) (show(["prime","a","x"]:List Str).Nodup by decide +kernel) rfl (ar (lookup_relabel_local rfl)) (by decide) (bh (lookup_relabel_local rfl)))) (λ_ _ _ _=>eH) (λ_ _ _ _=>(aA dX (aa (aA jC (bv 1) (bv 2))) (bv 0))) rfl ⟨rfl,⟨rfl,trivial⟩⟩ (by repeat' (first | exact trivial | refine⟨.inl rfl,?_⟩ | refine⟨.inr (.inl rfl),?_⟩ | refine⟨.inr (.inr ⟨_,rfl⟩),?_⟩)) ⟨⟨rfl,.inl rfl,.inl rfl,_,rfl,rfl⟩,⟨⟨rfl,.inl rfl,.inl rfl,_,rfl,rfl⟩,trivial⟩⟩ (by decide +kernel) rfl (by decide +kernel))))),λds Q h=>?_⟩
  obtain⟨C,p,a,xs,rfl,hC,hn,hp,ha,hy,hl,q⟩:=h
  refine aD λU hU=>?_
  walk_at"l3"
  refine⟨C,_,_,.int p,rfl,hC,hn,rfl,rfl,hU _ ?_⟩
  clear hU U
  walk_at"l3"
  refine i7 xs (λ(i:Nat)=>D.int (i:Int)) (λx=>D.int ((gm (false,p) a x:Nat):Int)) (zP xs) tL (λx hx=>?_) (.inr λ_ _=>rfl) (by rw[sL];omega) ?_
  ·have h2:=hy x hx
   walk_at"l3"
   refine⟨oo.ok (.inr ⟨by omega,by omega⟩),by omega,?_⟩
   show _=((a*x%p:Nat):Int)
   rw[lF,yJ]
  ·rw[eX,gv]at q
   exact q
theorem bV8(T:Txt K mg t){m:Bool × Nat}(hm:m∈aK):∃C ns zs sp,fD t.aL t.aM m=.obj C ns zs/\mU P w K mg base 1 "scaled" C sp/\("scaled":Str) ∉ ns/\∀(xs:List Nat) (a:Nat) (Q:D->Prop),a<af m->(∀y∈xs,y<af m)->xs.length<=1000->Q (.lst true (ak (xs.map (gm m a))))->sp [.obj C ns zs,.int a,.lst false (ak xs)] Q:=by
 have hF:=cC hm
 obtain⟨k,n⟩:=m
 cases k with
 | true=>exact⟨_,_,_,QV K,rfl,⟨T.eY,_,_,_,T.x8,aD7 T,T.aF0⟩,by decide,λxs a Q ha hy hl q=>⟨_,n,a,xs,rfl,T.eY,T.nv,xu hm,ha,hy,hl,q⟩⟩
 | false =>
  have qY:n<=64:=hF.hi
  have l2:2<=n:=hF.lo
  exact⟨_,_,_,QW K,rfl,⟨T.fo,_,_,_,T.yh,aA0 T,T.aB3⟩,by decide,λxs a Q ha hy hl q=>⟨_,n,a,xs,rfl,T.fo,T.jQ,by omega,cJ (show a<n from ha) qY,λy h=>cJ (show y<n from hy y h) qY,hl,q⟩⟩
noncomputable abbrev QX:bt:=λds Q=>∃(d:D) (a b:Nat),ds=[d,.int a,.int b]/\Q (.int (a ^^^ b:Nat))
theorem aH3(T:Txt K mg t):aO P w K mg base aS 1 t.GC t.GD ["self","a","b"] (bw (QX )):=by
 refine bY T.aI2 aG5 ?_ ?_
 ·intro ds Q h
  obtain⟨d,a,b,rfl,q⟩:=h<;>rfl
 ·intro aF A outer s H E hr
  refine⟨_,(aJ (aW (aA pH (bv 1) (bv 2)))),λds Q h=>?_⟩
  obtain⟨d,a,b,rfl,q⟩:=h
  walk_at"l3"
  rw[jt];exact q
noncomputable abbrev QY(K:Frag):bt:=λds Q=>∃(C:Addr) (p:Nat) (a b:Int),ds=[qB C p,.int a,.int b]/\dk K C/\bU K C "prime"/\0<p/\Q (.int ((a+b)%p))
theorem aD8(T:Txt K mg t):aO P w K mg base aS 1 t.GF t.GG ["self","a","b"] (bw (QY K)):=by
 refine bY T.aF1 aB8 ?_ ?_
 ·intro ds Q h
  obtain⟨C,p,a,b,rfl,hC,hn,hp,q⟩:=h<;>rfl
 ·intro aF A outer s H E hr
  refine⟨_,(aJ (aW (aA dX (aa (aA dh (bv 1) (bv 2))) (iA (K:=K) (bv 0))))),λds Q h=>?_⟩
  obtain⟨C,p,a,b,rfl,hC,hn,hp,q⟩:=h
  walk_at"l3"
  refine⟨C,_,_,.int p,rfl,hC,hn,rfl,?_⟩
  exact⟨by omega,q⟩
theorem cn5(T:Txt K mg t){m:Bool × Nat}(h0:0<m.2):∃C ns xs sp,fD t.aL t.aM m=.obj C ns xs/\mU P w K mg base 1 "plus" C sp/\("plus":Str) ∉ ns/\∀(a b:Nat) (Q:D->Prop),Q (.int (gp m a b:Nat))->sp [.obj C ns xs,.int a,.int b] Q:=by
 obtain⟨k,n⟩:=m
 cases k with
 | true=>exact⟨_,_,_,QX,rfl,⟨T.eY,_,_,_,T.x6,aH3 T,T.aI3⟩,by decide,λa b Q q=>⟨_,a,b,rfl,q⟩⟩
 | false =>
  refine⟨_,_,_,QY K,rfl,⟨T.fo,_,_,_,T.yg,aD8 T,T.aF2⟩,by decide,λa b Q q=>⟨_,n,a,b,rfl,T.fo,T.jQ,h0,?_⟩⟩
  have e:((gp (false,n) a b:Nat):Int)=((a:Int)+b)%n:=by
   show(((a+b)%n:Nat):Int)=_
   rw[lF,Cv]
  rw[<-e];exact q
noncomputable abbrev QZ(K:Frag):bt:=λds Q=>∃(C:Addr) (p a b:Nat),ds=[xp C p,.int a,.int b]/\dk K C/\bU K C "products"/\p∈fi/\a<af (true,p)/\b<af (true,p)/\Q (.int (gm (true,p) a b:Nat))
theorem aF4(T:Txt K mg t):aO P w K mg base aS 1 t.GH t.GI ["self","a","b"] (bw (QZ K)):=by
 refine bY T.aG8 aE6 ?_ ?_
 ·intro ds Q h
  obtain⟨C,p,a,b,rfl,hC,hn,hp,ha,hb,q⟩:=h<;>rfl
 ·intro aF A outer s H E hr
  refine⟨_,(aJ (aW (fg (aQ (aQ (iA (K:=K) (bv 0)) (bv 1) (λ_ _=>rfl)) (bv 2) (λ_ _=>rfl))))),λds Q h=>?_⟩
  obtain⟨C,p,a,b,rfl,hC,hn,hp,ha,hb,q⟩:=h
  walk_at"l3"
  refine⟨C,_,_,_,rfl,hC,hn,rfl,?_⟩
  exact⟨_,EW hp ha,_,EV hp ha hb,rfl,q⟩
noncomputable abbrev Q0(K:Frag):bt:=λds Q=>∃(C:Addr) (p:Nat) (a b:Int),ds=[qB C p,.int a,.int b]/\dk K C/\bU K C "prime"/\0<p/\IntMulOk a b/\Q (.int (a*b%p))
theorem aB5(T:Txt K mg t):aO P w K mg base aS 1 t.GJ t.GK ["self","a","b"] (bw (Q0 K)):=by
 refine bY T.aC5 aA9 ?_ ?_
 ·intro ds Q h
  obtain⟨C,p,a,b,rfl,hC,hn,hp,hm,q⟩:=h<;>rfl
 ·intro aF A outer s H E hr
  refine⟨_,(aJ (aW (aA dX (aa (aA jC (bv 1) (bv 2))) (iA (K:=K) (bv 0))))),λds Q h=>?_⟩
  obtain⟨C,p,a,b,rfl,hC,hn,hp,hm,q⟩:=h
  walk_at"l3"
  exact⟨hm,C,_,_,.int p,rfl,hC,hn,rfl,by omega,q⟩
theorem ce7(T:Txt K mg t){m:Bool × Nat}(hm:m∈aK){a b:Nat}(ha:a<af m)(hb:b<af m){Q:D->Prop}(q:Q (.int (gm m a b:Nat))):Pc P w K mg base 1 t.aL t.aM m "times" [.int a,.int b] Q:=by
 have hF:=cC hm
 obtain⟨k,n⟩:=m
 cases k with
 | true=>exact⟨_,_,_,QZ K,rfl,⟨T.eY,_,_,_,T.x9,aF4 T,T.aG9⟩,by decide,_,n,a,b,rfl,T.eY,T.nv,xu hm,ha,hb,q⟩
 | false =>
  have qY:n<=64:=hF.hi
  have zL:a<n:=ha
  have ju:b<n:=hb
  refine⟨_,_,_,Q0 K,rfl,⟨T.fo,_,_,_,T.yi,aB5 T,T.aC6⟩,by decide,_,n,a,b,rfl,T.fo,T.jQ,by omega,oo.ok (.inr ⟨by omega,by omega⟩),?_⟩
  have e:((gm (false,n) a b:Nat):Int)=(a:Int)*b%n:=by
   show((a*b%n:Nat):Int)=_
   rw[lF,yJ]
  rw[<-e];exact q
noncomputable abbrev aK9(cb cp:Addr):bt:=λds Q=>∃(m:Bool × Nat) (a b:List Nat),ds=[fD cb cp m,.lst false (ak a),.lst false (ak b)]/\m∈aK/\AllLt (af m) a/\AllLt (af m) b/\a.length+b.length<=1000/\Q (.lst true (ak (iB m a b)))
theorem aL0(T:Txt K mg t):aO P w K mg base aS 2 t.GL t.GN ["field","a","b"] (bw (aK9 t.aL t.aM)):=by
 refine bY T.Qs AH ?_ ?_
 ·intro ds Q h
  obtain⟨m,a,b,rfl,hm,ha,hb,hl,q⟩:=h<;>rfl
 ·intro aF A outer s H E hr
  refine⟨_,(aE (aZ (i:=3) AH.nd rfl (ar rfl) (aA jC (aa (eF (cL ao cU))) (aa (aA dh (aa (bO (cH) (by rfl) T.cI cF (ah (bv 1) au))) (aa (bO (cH) (by rfl) T.cI cF (ah (bv 2) au)))))))
   (aE (jz e7 rfl (w4 rfl T.yj (ah (bv 1) au)) (jJ (i1:=4) (i2:=5) rfl AH.nd rfl (ar rfl) rfl (ar rfl))
    (aJ (jz e7 rfl (w4 rfl T.yj (ah (bv 2) au)) (jJ (i1:=6) (i2:=7) rfl AH.nd rfl (ar rfl) rfl (ar rfl))
     (aJ (wZ (i:=3) rfl (by first | exact ar rfl | exact bh (ar rfl)) (tU (P:=P) (w:=w) (K:=K) (mg:=mg) (base:=base) (n:=1) (bv 0) (hr.mono (by decide)) (ah (aQ (bv 3) (aa (aA dh (bv 4) (bv 6))) (λ_ _=>rfl)) (ah (aa (tU (P:=P) (w:=w) (K:=K) (mg:=mg) (base:=base) (n:=1) (bv 0) (hr.mono (by decide)) (ah (bv 5) (ah (bv 7) au)))) au))) (aa (aA dh (bv 4) (bv 6))))))))
   (aJ (aW (bK ((qX T).mono (by decide)) hr rfl T.qR T.nr.kp T.qS br (ah (bv 3) au)))))),λds Q h=>?_⟩
  obtain⟨m,a,b,rfl,hm,ha,hb,hl,q⟩:=h
  have m0:=dR m hm
  refine aD λU hU=>?_
  walk_at"l3"
  refine⟨by decide,⟨by omega,by omega,by omega⟩,?_⟩
  rw[show az (aN ((a.length:Int)+(b.length:Int)).toNat 0)=ak (aN (a.length+b.length) 0) by rw[eX,rB];unfold az;rw[rB];rfl]
  refine hU _ ?_
  clear hU U
  refine aD λU hU=>?_
  walk_at"l3"
  refine hR.mk (λi δ=>∃o4 o5 o6 o7,δ=[some (fD t.aL t.aM m),some (D.lst false (ak a)),some (D.lst false (ak b)),some (D.lst true (ak (fL m b (aN (a.length+b.length) 0) 0 (a.take i)))),o4,o5,o6,o7]) ⟨_,_,_,_,rfl⟩ ?_ ?_
  ·rintro i d δ hd ⟨o4,o5,o6,o7,rfl⟩
   obtain⟨hi,rfl⟩:=An hd
   clear hd
   generalize hT:fL m b (aN (a.length+b.length) 0) 0 (a.take i)=tt
   have lT:tt.length=a.length+b.length:=by rw[<-hT,Aj,fP]
   have bT:AllLt (af m) tt:=by rw[<-hT];exact Ak hm b _ _ _ (ni hm _)
   walk_at"l3"
   refine hR.mk (λj δ=>∃o6 o7,δ=[some (fD t.aL t.aM m),some (D.lst false (ak a)),some (D.lst false (ak b)),some (D.lst true (ak (ef m a[i] tt i (b.take j)))),some (D.int i),some (D.int (a[i]:Nat)),o6,o7]) ⟨_,_,rfl⟩ ?_ ?_
   ·rintro j d δ hd ⟨o6,o7,rfl⟩
    obtain⟨hj,rfl⟩:=An hd
    clear hd
    have lP:(ef m a[i] tt i (b.take j)).length=a.length+b.length:=by rw[xA,lT]
    have bP:AllLt (af m) (ef m a[i] tt i (b.take j)):=xB hm _ _ _ _ bT
    obtain⟨C,ns,xs,sp,e1,e2,e3,e4⟩:=cn5 (P:=P) (w:=w) (base:=base) T m0
    walk_at"l3"
    refine⟨C,ns,xs,sp,e1,e2,e3,_,xE (by omega) (by omega),ce7 T hm (ha _ (iq _)) (hb _ (iq _)) (e4 _ _ _ ⟨rfl,_,((i:Int)+(j:Int)).toNat,rfl,xF (by omega) (by rw[cM];omega),_,_,?_,rfl,rfl⟩)⟩
    rw[Pe m _ b tt i hj,Am,show((i:Int)+(j:Int)).toNat=i+j by omega];rfl
   ·rintro δ ⟨o6,o7,rfl⟩
    rw[kI,cM,rq,Pg m b a _ 0 hi,hT,Lo]
    exact⟨_,_,_,_,rfl⟩
  ·rintro δ ⟨o4,o5,o6,o7,rfl⟩
   rw[kI,cM,rq]
   refine hU _ ?_
   walk_at"l3"
   have:=EX m a b
   exact⟨qF m a b,rfl,by rw[this];exact hl,by rw[fC,EY];rfl,q⟩
noncomputable abbrev aH4(t:oB)(P:Program)(w:World)(K:Frag)(mg:Str->Option Value)(base:Heap):bt:=λds Q=>∃(m:Bool × Nat) (a b:List Nat),ds=[fD t.aL t.aM m,.lst false (ak a),.lst false (ak b)]/\m∈aK/\AllLt (af m) a/\AllLt (af m) b/\a.length+b.length<=130 /\
 (∀g x y:List Nat,AllLt (af m) g->AllLt (af m) x->AllLt (af m) y->g=aH g->x=aH x->y=aH y->g.length<=131->x.length<=1+a.length+b.length->y.length<=1+a.length+b.length->Bz (gp m) (gm m) (cf a) (cf b) (cf g) (cf x) (cf y) ->
  (g≠[]->cf g (g.length-1)=1/\Dv m a g/\Dv m b g)->(g=[]->aH a=[]/\aH b=[])->Q (.tup [.lst true (ak g),.lst true (ak x),.lst true (ak y)]))
theorem aH5(T:Txt K mg t):aO P w K mg base aS 4 t.GO t.GP ["field","a","b"] (bw (aH4 t P w K mg base)):=by
 refine bY T.Qt nq ?_ ?_
 ·intro ds Q h
  obtain⟨m,a,b,rfl,hm,ha,hb,hab,q⟩:=h<;>rfl
 ·intro aF A outer s H E hr
  refine⟨_,(aE (aZ (i:=3) nq.nd rfl (ar rfl) (mv (cL (bK ((qX T).mono (by decide)) hr rfl T.qR T.nr.kp T.qS br (ah (bv 1) au)) (cL (eF (cL ao cU)) (cL (eF cU) cU)))))
   (aE (aZ (i:=4) nq.nd rfl (ar rfl) (mv (cL (bK ((qX T).mono (by decide)) hr rfl T.qR T.nr.kp T.qS br (ah (bv 2) au)) (cL (eF cU) (cL (eF (cL ao cU)) cU)))))
   (aE (my e7 (cG (jD (cV hr)) (aQ (bv 4) (aa ao) (λ_ _=>rfl)) (aa (eF cU)) (bS _))
    (aE (aZ (i:=5) nq.nd rfl (bh rfl) (cu5 (bK (zN ((aJ1 T).mono (by decide))) hr rfl T.cJ7 T.Qo.kp T.cJ8 zM (ah (bv 0) (ah (aQ (bv 3) (aa ao) (λ_ _=>rfl)) (ah (aQ (bv 4) (aa ao) (λ_ _=>rfl)) au)))) (λ_ _=>rfl)))
    (aE (zB (i:=6) nq.nd rfl (ar rfl) [("field",0),("quotient",5)] ["x","y"] rfl (cl1 rfl T.ym (ah (bv 3) (ah (bv 4) au))) (λ_ _ _ _=>(jJ (i1:=2) (i2:=3) rfl (show(["field","quotient","x","y"]:List Str).Nodup by decide +kernel) rfl (ar (lookup_relabel_local rfl)) rfl (ar (lookup_relabel_local rfl)) (by decide) (by decide) (bh (lookup_relabel_local rfl)) (bh (lookup_relabel_local rfl)))) (λ_ _ _ _=>eH) (λ_ _ _ _=>(bK ((aK8 T).mono (by decide)) hr rfl T.cK3 T.Qr.kp T.cK4 br (ah (bv 0) (ah (bv 2) (ah (aa (bK ((aL0 T).mono (by decide)) hr rfl T.cL7 T.Qs.kp T.cL8 br (ah (bv 0) (ah (bv 1) (ah (bv 3) au))))) au))))) rfl ⟨rfl,⟨rfl,trivial⟩⟩ (by repeat' (first | exact trivial | refine⟨.inl rfl,?_⟩ | refine⟨.inr (.inl rfl),?_⟩ | refine⟨.inr (.inr ⟨_,rfl⟩),?_⟩)) ⟨⟨rfl,.inl rfl,.inl rfl,_,rfl,rfl⟩,⟨⟨rfl,.inl rfl,.inl rfl,_,rfl,rfl⟩,trivial⟩⟩ (by decide +kernel) rfl (by decide +kernel))
    (aE (aZ (i:=3) nq.nd rfl (ar rfl) (em 4))
    (aJ (aZ (i:=4) nq.nd rfl (ar rfl) (PH (by rfl) T.Hq (em 6))))))))
   (aE (dG (cG (eW (cV hr)) (aQ (bv 3) (aa ao) (λ_ _=>rfl)) (aa (eF cU)) (bS _)) (aJ (aW (mv (cL (eF cU) (cL (eF cU) (cL (eF cU) cU)))))) dF)
   (aE (aZ (i:=7) nq.nd rfl (bh rfl) (θ (P:=P) (w:=w) (K:=K) (mg:=mg) (base:=base) (n:=2) (bv 0) (hr.mono (by decide)) (ah (aa ao) (ah (aQ (aQ (bv 3) (aa ao) (λ_ _=>rfl)) (aa (kC (aa ao))) (λ_ _=>rfl)) au))))
   (aJ (aW (PH (by rfl) T.Hq (fF [("inverse",7),("field",0)] ["part"] rfl (PR (bv 3)) (λ_ _ _ _=>(eG (i:=2) (show(["inverse","field","part"]:List Str).Nodup by decide +kernel) rfl (ar (lookup_relabel_local rfl)) (by decide) (bh (lookup_relabel_local rfl)))) (λ_ _ _ _=>eH) (λ_ _ _ _=>(tU (P:=P) (w:=w) (K:=K) (mg:=mg) (base:=base) (n:=1) (bv 1) (hr.mono (by decide)) (ah (bv 0) (ah (bv 2) au)))) rfl ⟨rfl,⟨rfl,trivial⟩⟩ (by repeat' (first | exact trivial | refine⟨.inl rfl,?_⟩ | refine⟨.inr (.inl rfl),?_⟩ | refine⟨.inr (.inr ⟨_,rfl⟩),?_⟩)) ⟨⟨rfl,.inl rfl,.inl rfl,_,rfl,rfl⟩,⟨⟨rfl,.inl rfl,.inl rfl,_,rfl,rfl⟩,trivial⟩⟩ (by decide +kernel) rfl (by decide +kernel)))))))))),λds Q h=>?_⟩
  obtain⟨m,a,b,rfl,hm,ha,hb,hab,q⟩:=h
  have ff:=(cC hm).lo
  refine aD λU hU=>?_
  walk_at"l3"
  refine⟨a,rfl,by omega,by decide,by decide,by decide,hU _ ?_⟩
  clear hU U
  refine aD λU hU=>?_
  walk_at"l3"
  refine⟨b,rfl,by omega,by decide,by decide,by decide,hU _ ?_⟩
  clear hU U
  refine aD λU hU=>?_
  walk_at"l3"
  refine⟨λn δ=>∃(r0 s0 t0 r1 s1 t1:List Nat) (o5 o6:Option D),δ=[some (fD t.aL t.aM m),some (D.lst false (ak a)),some (D.lst false (ak b)),some (D.tup [D.lst true (ak r0),D.lst true (ak s0),D.lst true (ak t0)]),some (D.tup [D.lst true (ak r1),D.lst true (ak s1),D.lst true (ak t1)]),o5,o6,none]/\GW m a b (1+a.length+b.length) r0 s0 t0 r1 s1 t1/\n=r1.length,⟨(aH b).length,aH a,[1],[],aH b,[],[1],none,none,rfl,GW.start hm ha hb,rfl⟩,?_⟩
  rintro n δ ⟨r0,s0,t0,r1,s1,t1,o5,o6,rfl,g,rfl⟩
  walk_at"l3"
  refine⟨_,rfl,by decide,⟨by rw[Al],by rfl⟩,?_⟩
  rw[show(D.lst true ([]:List D))=D.lst true (ak []) from rfl,kO]
  have n1:=g.n1
  have n2:=g.n2
  have n3:=g.n3
  have n4:=g.n4
  by_cases h1:r1=[]
  ·rw[decide_eq_true h1,if_neg (by simp)]
   refine hU _ ?_
   clear hU U
   refine aD λU hU=>?_
   walk_at"l3"
   subst h1
   refine⟨_,rfl,by decide,⟨by rw[Al],by rfl⟩,?_⟩
   rw[show(D.lst true ([]:List D))=D.lst true (ak []) from rfl,kO]
   by_cases h0:r0=[]
   ·subst h0
    rw[decide_eq_true rfl,if_pos rfl]
    refine⟨by decide,by decide,by decide,by decide,?_⟩
    have kz:∀{c:List Nat},AllLt (af m) c->Mk (af m) (gp m) (gm m) (cf c) (cf []) (cf [])->aH c=[]:=λ{c} hc k=>by
     obtain⟨u0,u1,d,a1,a2,a3,a4,a5⟩:=k
     refine xH (l':=[]) λk=>?_
     rw[a5 k,tZ (rg hm) (s:=cf []) (λ_=>rfl),tZ (rg hm) (s:=cf []) (λ_=>rfl),(rg hm).z (by omega)];rfl
    have ln:AllLt (af m) ([]:List Nat):=λ_ h=>nomatch h
    exact q [] [] [] ln ln ln rfl rfl rfl (by simp) (by simp) (by simp) (λk=>by rw[tY (rg hm) (c:=cf []) (λ_=>rfl),tY (rg hm) (c:=cf []) (λ_=>rfl),(rg hm).z (by omega)];rfl) (λh=>absurd rfl h) (λ_=>⟨kz ha g.ka,kz hb g.kb⟩)
   ·rw[decide_eq_false h0,if_neg (by simp)]
    refine hU _ ?_
    clear hU U
    have p0:=nS.mpr h0
    have ld:=AB g.c0 h0
    refine aD λU hU=>?_
    walk_at"l3"
    refine⟨_,_,_,_,tV _ _ m,QO T m,Pb m _ (by decide),_,rfl,?_⟩
    dsimp only
    refine⟨_,tX p0,m,1,_,by rw[tV];rfl,hm,by omega,bx hm g.gq _,λz=>absurd z ld,λ_ iv qZ Bc=>⟨rfl,hU _ ?_⟩⟩
    clear hU U
    obtain⟨C,ns,xs,sp,e1,e2,e3,e4⟩:=bV8 (P:=P) (w:=w) (base:=base) T hm
    have Hz:iv≠0:=λz=>by
     rw[z,(rg hm).zq]at Bc;omega
    walk_at"l3"
    refine i7 [r0,s0,t0] (λl=>D.lst false (ak l)) (λl=>D.lst true (ak (l.map (gm m iv)))) (by simp only[dj,il,fM]) (λx y h=>Ar x y h) (λl hl=>?_) (.inr λ_ _=>eO _) (by show 3<=sizeLine;decide) ?_
    ·obtain⟨z1,z2⟩:AllLt (af m) l/\l.length<=131:=by
      simp only[bM,eQ,or_false]at hl
      rcases hl with rfl | rfl | rfl
      ·exact⟨g.gq,by omega⟩
      ·exact⟨g.qN,by omega⟩
      ·exact⟨g.qO,by omega⟩
     walk_at"l3"
     exact⟨C,ns,xs,sp,e1,e2,e3,e4 l iv _ qZ z1 (by omega) rfl⟩
    ·have lm:∀l:List Nat,AllLt (af m) (l.map (gm m iv)):=λl x hx=>by
      obtain⟨y,_,rfl⟩:=iJ.mp hx
      exact(rg hm).lq _ _
     have cm:∀l:List Nat,cf (l.map (gm m iv))=λj=>gm m iv (cf l j):=λl=>funext λj=>xJ hm iv l j
     refine⟨_,rfl,q _ _ _ (lm r0) (lm s0) (lm t0) (Fp hm g.gq g.c0 qZ Hz) (Fp hm g.qN g.cs0 qZ Hz) (Fp hm g.qO g.Fl qZ Hz) (by rw[dS];omega) (by rw[dS];omega) (by rw[dS];omega) ?_ (λ_=>⟨by rw[dS,xJ hm];exact Bc,GW.dv hm g.gq g.ka qZ Bc,GW.dv hm g.gq g.kb qZ Bc⟩) λz=>absurd (List.map_eq_nil_iff.mp z) h0⟩
     rw[cm,cm,cm]
     exact Bz.mul (rg hm) qZ (bx hm ha) (bx hm hb) (bx hm g.qN) (bx hm g.qO) g.z0
  ·rw[decide_eq_false h1,if_pos (by simp)]
   clear hU
   refine aD λU hU=>?_
   walk_at"l3"
   refine⟨_,rfl,_,rfl,m,r0,r1,by rw[fM,fM],hm,g.gq,g.ub,by omega,by omega,λz=>absurd (g.c1.trans z) h1,λ_ qq rr cq lq lql lr _ hr hi=>?_⟩
   refine⟨by rw[jw,dg,dg,eO,eO];simp,_,_,rfl,hU _ ?_⟩
   clear hU
   obtain⟨gn,ln⟩:=g.next hm ha hb h1 cq lq lr hr hi
   refine aD λU hU=>?_
   walk_at"l3"
   refine O7 [(r0,r1),(s0,s1),(t0,t1)] (λz=>D.tup [.lst false (ak z.1),.lst false (ak z.2)]) (λz=>D.lst true (ak (fk m qq z.1 z.2))) ?_ (λx y h=>?_) (λz hz=>?_) O8 (.inr λ_ _=>eO _) (by show 3<=sizeLine;decide) ?_
   ·simp only[eI,Tq,List.zipWith_nil_right,dj,il,iX,fM]
   ·obtain⟨x1,x2⟩:=x
    obtain⟨y1,y2⟩:=y
    injection h with h
    injection h with e1 e2
    injection e2 with e2 _
    exact Prod.ext (Ar _ _ e1) (Ar _ _ e2)
   ·obtain⟨z1,z2,z3,z4⟩:AllLt (af m) z.1/\AllLt (af m) z.2/\z.1.length<=131/\z.2.length<=131:=by
     simp only[bM,eQ,or_false]at hz
     rcases hz with rfl | rfl | rfl
     ·exact⟨g.gq,g.ub,by show r0.length<=131;omega,by show r1.length<=131;omega⟩
     ·exact⟨g.qN,g.Fh,by show s0.length<=131;omega,by show s1.length<=131;omega⟩
     ·exact⟨g.qO,g.Fj,by show t0.length<=131;omega,by show t1.length<=131;omega⟩
    have pl:=xD m qq z.2
    walk_at"l3"
    refine⟨m,qq,z.2,rfl,hm,lq,z2,by omega,m,z.1,iB m qq z.2,by rw[fM],hm,z1,xC hm _ _,by omega,by omega,?_⟩
    exact⟨by rw[eO,jk],rfl⟩
   ·simp only[dj,il,nY,nX]
    refine hU _ ?_
    clear hU
    refine aD λU hU=>?_
    walk_at"l3"
    refine hU _ ?_
    clear hU
    walk_at"l3"
    exact⟨_,ln,r1,s1,t1,_,_,_,_,_,⟨⟨rfl,rfl,rfl⟩,⟨rfl,rfl,rfl⟩,rfl,rfl⟩,gn,rfl⟩
noncomputable abbrev aN5:bt:=λds Q=>∃(ns:List Int) (k:Int),ds=[.fz (az ns),.int k]/\0<=k/\Q (.int (ns.getD k.toNat 0))
theorem Bd(T:Txt K mg t):aO P w K mg base aS 1 t.GQ t.GR ["_law_script","_law_k"] (bw (aN5 )):=by
 refine bY T.xS aL7 ?_ ?_
 ·intro ds Q h
  obtain⟨ns,k,rfl,hk,q⟩:=h<;>rfl
 ·intro aF A outer s H E hr
  refine⟨_,(aE (dG (cG zD (bv 1) (aa (bO (cH) (by rfl) T.cI cF (ah (bv 0) au))) (bS _)) (aJ (aW (fg (aQ (bv 0) (bv 1) (λ_ _=>rfl))))) dF)
   (aJ (aW ao))),λds Q h=>?_⟩
  obtain⟨ns,k,rfl,hk,q⟩:=h
  refine aD λU hU=>?_
  walk_at"l3"
  split
  ·rename_i h
   exact⟨_,jH hk h,rfl,q⟩
  ·rename_i h
   refine hU _ ?_
   walk_at"l3"
   rw[aU,nU (by omega)]at q
   exact q
noncomputable abbrev aP0:bt:=λds Q=>∃l:List Nat,ds=[.lst false (ak l)]/\l.length<=1000/\Q (.lst true (ak (aH l)))
theorem Be(T:Txt K mg t):aO P w K mg base aS 1 t.GS t.GU ["_law_row"] (bw (aP0 )):=by
 refine bY T.xT P4 ?_ ?_
 ·intro ds Q h
  obtain⟨l,rfl,hl,q⟩:=h<;>rfl
 ·intro aF A outer s H E hr
  refine⟨_,(aE (aZ (i:=0) P4.nd rfl (ar rfl) (zE (zF) (by rfl) T.yk wu (ah (bv 0) au)))
   (aE (my e7 (PW.pt (D7 (cG wX (aa (bO (cH) (by rfl) T.cI cF (ah (bv 0) au))) (aa ao) (bS _)) (CN (cG (eW (cV hr)) (aQ (bv 0) (aa (kC (aa ao))) (λ_ _=>rfl)) (aa ao) (bS _)))))
    (aJ (YO (i:=0) rfl (by first | exact ar rfl | exact bh (ar rfl)))))
   (aJ (aW (em 0))))),λds Q h=>?_⟩
  obtain⟨l,rfl,hl,q⟩:=h
  refine aD λU hU=>?_
  walk_at"l3"
  refine hU _ ?_
  clear hU U
  refine aD λU hU=>?_
  walk_at"l3"
  refine⟨λn δ=>∃k:Nat,δ=[some (.lst true (ak (l.take k)))]/\k<=l.length/\(∀x∈l.drop k,x=0)/\n=k,⟨l.length,l.length,by rw[rq];rfl,aX _,by simp,rfl⟩,?_⟩
  rintro n δ ⟨k,rfl,hk,hz,rfl⟩
  walk_at"l3"
  have fin:(n=0\/l.getD (n-1) 0≠0)->U [some (.lst true (ak (l.take n)))]:=λh=>by
   refine hU _ ?_
   walk_at"l3"
   rw[xy hk hz h]at q
   exact q
  have tl:(l.take n).length=n:=by rw[gu];omega
  split
  ·rename_i h1
   rw[tl]at h1
   refine⟨_,tX (by omega),rfl,?_⟩
   rw[i6,tl,show(l.take n).getD (n-1) 0=l.getD (n-1) 0 by rw[aU,vC,if_pos (by omega),aU]]
   by_cases h0:l.getD (n-1) 0=0
   ·rw[if_pos (by rw[h0];rfl)]
    refine⟨λz=>?_,n-1,by omega,n-1,?_,by omega,Pl (by omega) hk hz h0,rfl⟩
    ·have:=congrArg B8 z
     rw[cM,tl]at this
     simp at this
     omega
    ·rw[eX,eX,<- List.map_dropLast,Lr,tl,List.take_take,rz (by omega)]
   ·rw[if_neg (by simp only[decide_eq_true_eq];omega)]
    exact fin (.inr h0)
  ·rename_i h1
   rw[tl]at h1
   exact fin (.inl (by omega))
noncomputable abbrev aN6:bt:=λds Q=>∃(m:Bool × Nat) (a b:Nat),ds=[cW m,.int a,.int b]/\0<m.2/\Q (.int (gp m a b:Nat))
theorem Q1(T:Txt K mg t):aO P w K mg base aS 1 t.GV t.GX ["_law_told_here","_law_a","_law_b"] (bw (aN6 )):=by
 refine bY T.Hk aL8 ?_ ?_
 ·intro ds Q h
  obtain⟨m,a,b,rfl,h0,q⟩:=h<;>rfl
 ·intro aF A outer s H E hr
  refine⟨_,(aE (dG (ky (aQ (bv 0) (aa ao) (λ_ _=>rfl))) (aJ (aW (aA pH (bv 1) (bv 2)))) dF)
   (aJ (aW (aA dX (aa (aA dh (bv 1) (bv 2))) (aQ (bv 0) (aa ao) (λ_ _=>rfl)))))),λds Q h=>?_⟩
  obtain⟨m,a,b,rfl,h0,q⟩:=h
  unfold cW at *
  obtain⟨k,n⟩:=m
  refine aD λU hU=>?_
  walk_at"l3"
  cases k with
  | true =>
   refine⟨_,rfl,true,rfl,?_⟩
   rw[if_pos rfl,jt]
   exact q
  | false =>
   refine⟨_,rfl,false,rfl,?_⟩
   rw[if_neg (by decide)]
   refine hU _ ?_
   walk_at"l3"
   refine⟨_,rfl,?_⟩
   refine⟨by omega,?_⟩
   have e:((gp (false,n) a b:Nat):Int)=((a:Int)+b)%n:=by
    show(((a+b)%n:Nat):Int)=_
    rw[lF,Cv]
   rw[<-e];exact q
noncomputable abbrev aL1:bt:=λds Q=>∃(m:Bool × Nat) (a b:Nat),ds=[cW m,.int a,.int b]/\m∈aK/\a<af m/\b<af m/\Q (.int (gm m a b:Nat))
theorem Q2(T:Txt K mg t):aO P w K mg base aS 1 t.GY t.GZ ["_law_told_here","_law_a","_law_b"] (bw (aL1 )):=by
 refine bY T.Hl uV ?_ ?_
 ·intro ds Q h
  obtain⟨m,a,b,rfl,hm,ha,hb,q⟩:=h<;>rfl
 ·intro aF A outer s H E hr
  refine⟨_,(aE (dG (zu (ky (aQ (bv 0) (aa ao) (λ_ _=>rfl)))) (aJ (aW (aA dX (aa (aA jC (bv 1) (bv 2))) (aQ (bv 0) (aa ao) (λ_ _=>rfl))))) dF)
   (aE (aZ (i:=3) uV.nd rfl (ar rfl) ao)
   (aE (my e7 (cG wX (bv 2) (aa ao) (bS _))
    (aE (dG (cG (eW (cV hr)) (aa (aA NH (bv 2) (aa ao))) (aa ao) (bS _)) (aJ (aZ (i:=3) uV.nd rfl (ar rfl) (aA pH (bv 3) (bv 1)))) dF)
    (aE (aZ (i:=1) uV.nd rfl (ar rfl) (aA si (bv 1) (aa ao)))
    (aE (dG (cG (eW (cV hr)) (aa (kG (bv 1))) (aa (kG (aQ (bv 0) (aa ao) (λ_ _=>rfl)))) (bS _)) (aJ (aZ (i:=1) uV.nd rfl (ar rfl) (aA pH (bv 1) (aQ (bv 0) (aa ao) (λ_ _=>rfl))))) dF)
    (aJ (aZ (i:=2) uV.nd rfl (ar rfl) (aA NG (bv 2) (aa ao))))))))
   (aJ (aW (em 3)))))),λds Q h=>?_⟩
  obtain⟨m,a,b,rfl,hm,ha,hb,q⟩:=h
  unfold cW at *
  obtain⟨k,n⟩:=m
  refine aD λU hU=>?_
  walk_at"l3"
  have hF:=cC hm
  cases k with
  | false =>
   refine⟨_,rfl,false,rfl,?_⟩
   have qY:n<=64:=hF.hi
   have l2:2<=n:=hF.lo
   have zL:a<n:=ha
   have ju:b<n:=hb
   rw[if_pos (by decide)]
   refine⟨oo.ok (.inr ⟨by omega,by omega⟩),_,rfl,by omega,?_⟩
   have e:((gm (false,n) a b:Nat):Int)=(a:Int)*b%n:=by
    show((a*b%n:Nat):Int)=_
    rw[lF,yJ]
   rw[<-e];exact q
  | true =>
   refine⟨_,rfl,true,rfl,?_⟩
   rw[if_neg (by decide)]
   have hp:=xu hm
   have bp:=OV n hp
   have A8:=OW n hp
   have p0:n≠0:=λz=>by rw[z,j8]at A8;omega
   have Eb:bl a<bl n:=by
    have:=dD.mpr (show a<2 ^ (bl n-1) from ha)
    omega
   have hy0:bl b<bl n:=by
    have:=dD.mpr (show b<2 ^ (bl n-1) from hb)
    omega
   refine hU _ ?_
   clear hU U
   refine aD λU hU=>?_
   walk_at"l3"
   refine hU _ ?_
   clear hU U
   refine aD λU hU=>?_
   walk_at"l3"
   refine⟨λm δ=>∃(x y z:Nat),δ=[some (.tup [.bl true,.int n]),some (.int (x:Nat)),some (.int (y:Nat)),some (.int (z:Nat))]/\z ^^^ md (cl x y) n=gm (true,n) a b/\bl x<bl n/\bl y<bl n/\m=bl y,
    ⟨bl b,a,b,0,rfl,by rw[kZ];rfl,Eb,hy0,rfl⟩,?_⟩
   rintro m δ ⟨x,y,z,rfl,inv,hx,hy,rfl⟩
   walk_at"l3"
   split
   ·rename_i hy1
    have QK:=fw (show y≠0 by omega)
    have A9:bl (y/2)=bl y-1:=WU y
    have e1:((x:Int)*2 ^ (1:Int).toNat)=((2*x:Nat):Int):=by
     show(x:Int)*(2:Int) ^ 1=_
     omega
    have e2:((y:Int)/2 ^ (1:Int).toNat)=((y/2:Nat):Int):=by
     show(y:Int)/(2:Int) ^ 1=_
     omega
    have a1:kX (y:Int) 1=((y%2:Nat):Int):=by
     rw[show(1:Int)=((1:Nat):Int) from rfl,MK,Nat.and_one_is_mod]
    have tm:=γ (y:=y) p0 hx
    have tb:=ε p0 hx
    clear hU
    refine aD λU hU=>?_
    walk_at"l3"
    have fin:∀z':Nat,z'=z ^^^ (if y%2=1 then x else 0)->U [some (.tup [.bl true,.int n]),some (.int x),some (.int y),some (.int z')]:=by
     intro z' hz
     have cU7:z' ^^^ md (cl (if bl (2*x)=bl n then 2*x ^^^ n else 2*x) (y/2)) n=gm (true,n) a b:=by
      rw[hz,nK,<- tm];exact inv
     refine hU _ ?_
     clear hU
     refine aD λU hU=>?_
     walk_at"l3"
     refine⟨⟨by decide,by simp only[gw];omega⟩,hU _ ?_⟩
     clear hU
     rw[e1]
     refine aD λU hU=>?_
     walk_at"l3"
     have last:∀x':Nat,x'=(if bl (2*x)=bl n then 2*x ^^^ n else 2*x)->U [some (.tup [.bl true,.int n]),some (.int (x':Nat)),some (.int y),some (.int z')]:=by
      intro x' dO
      refine hU _ ?_
      walk_at"l3"
      exact⟨by decide,bl (y/2),by omega,x',y/2,z',⟨rfl,e2,rfl⟩,by rw[dO];exact cU7,by rw[dO];exact tb,by omega,rfl⟩
     refine⟨_,rfl,?_⟩
     show(if(((bl (((2*x:Nat):Int)).natAbs:Nat):Int)=((bl ((n:Int)).natAbs:Nat):Int))then _ else _)
     rw[gw,gw]
     split
     ·rename_i hc
      refine⟨_,rfl,?_⟩
      have g:=last (2*x ^^^ n) (by rw[if_pos (by omega)])
      rw[<-jt]at g
      exact g
     ·rename_i hc
      exact last (2*x) (by rw[if_neg (by omega)])
    rw[a1]
    split
    ·rename_i A7
     have odd:y%2=1:=by omega
     have g:=fin (z ^^^ x) (by rw[if_pos odd])
     rw[<-jt]at g
     exact g
    ·rename_i A7
     exact fin z (by rw[if_neg (by omega),iG])
   ·rename_i hy1
    have hy:y=0:=by omega
    subst hy
    rw[WC,xq (by rw[j8];exact fw p0),iG]at inv
    subst inv
    refine hU _ ?_
    walk_at"l3"
    exact q
noncomputable abbrev aJ2:bt:=λds Q=>∃(m:Bool × Nat) (a b:List Nat),ds=[cW m,.lst false (ak a),.lst false (ak b)]/\m∈aK/\AllLt (af m) a/\AllLt (af m) b/\a.length+b.length<=1000/\Q (.lst true (ak (iB m a b)))
theorem Bf(T:Txt K mg t):aO P w K mg base aS 2 t.G0 t.G1 ["_law_told_here","_law_a","_law_b"] (bw (aJ2 )):=by
 refine bY T.xU AI ?_ ?_
 ·intro ds Q h
  obtain⟨m,a,b,rfl,hm,ha,hb,hl,q⟩:=h<;>rfl
 ·intro aF A outer s H E hr
  refine⟨_,(aE (zB (i:=3) AI.nd rfl (ar rfl) [] ["_law_k"] rfl (mB rfl T.ij (ah (aa (aA dh (aa (bO (cH) (by rfl) T.cI cF (ah (bv 1) au))) (aa (bO (cH) (by rfl) T.cI cF (ah (bv 2) au))))) au)) (λ_ _ _ _=>(eG (i:=0) (show(["_law_k"]:List Str).Nodup by decide +kernel) rfl (ar (lookup_relabel_local rfl)) (by decide) (bh (lookup_relabel_local rfl)))) (λ_ _ _ _=>eH) (λ_ _ _ _=>ao) rfl trivial (by repeat' (first | exact trivial | refine⟨.inl rfl,?_⟩ | refine⟨.inr (.inl rfl),?_⟩ | refine⟨.inr (.inr ⟨_,rfl⟩),?_⟩)) trivial (by decide +kernel) rfl (by decide +kernel))
   (aE (jz e7 rfl (w4 rfl T.yj (ah (bv 1) au)) (jJ (i1:=4) (i2:=5) rfl AI.nd rfl (ar rfl) rfl (ar rfl))
    (aJ (jz e7 rfl (w4 rfl T.yj (ah (bv 2) au)) (jJ (i1:=6) (i2:=7) rfl AI.nd rfl (ar rfl) rfl (ar rfl))
     (aJ (wZ (i:=3) rfl (by first | exact ar rfl | exact bh (ar rfl)) (bK ((Q1 T).mono (by decide)) hr rfl T.Qu T.Hk.kp T.Qv br (ah (bv 0) (ah (aQ (bv 3) (aa (aA dh (bv 4) (bv 6))) (λ_ _=>rfl)) (ah (aa (bK ((Q2 T).mono (by decide)) hr rfl T.Qw T.Hl.kp T.Qx br (ah (bv 0) (ah (bv 5) (ah (bv 7) au))))) au)))) (aa (aA dh (bv 4) (bv 6))))))))
   (aJ (aW (bK ((Be T).mono (by decide)) hr rfl T.AQ T.xT.kp T.AR br (ah (bv 3) au)))))),λds Q h=>?_⟩
  obtain⟨m,a,b,rfl,hm,ha,hb,hl,q⟩:=h
  have m0:=dR m hm
  refine aD λU hU=>?_
  walk_at"l3"
  refine⟨⟨by omega,by omega⟩,?_⟩
  refine i7 (bL (a.length+b.length)) (λ(i:Nat)=>D.int (i:Int)) (λ_=>D.int ((0:Nat):Int)) (Pk _ (by omega)) tL (λk hk=>?_) (.inr λ_ _=>rfl) (by simp[sL];omega) ?_
  ·walk_at"l3"
   rfl
  rw[show((bL (a.length+b.length)).map λ_=>D.int ((0:Nat):Int))=ak (aN (a.length+b.length) 0) by rw[eX,rB,List.map_const',lu]]
  refine hU _ ?_
  clear hU U
  refine aD λU hU=>?_
  walk_at"l3"
  refine hR.mk (λi δ=>∃o4 o5 o6 o7,δ=[some (cW m),some (D.lst false (ak a)),some (D.lst false (ak b)),some (D.lst true (ak (fL m b (aN (a.length+b.length) 0) 0 (a.take i)))),o4,o5,o6,o7]) ⟨_,_,_,_,rfl⟩ ?_ ?_
  ·rintro i d δ hd ⟨o4,o5,o6,o7,rfl⟩
   obtain⟨hi,rfl⟩:=An hd
   clear hd
   generalize hT:fL m b (aN (a.length+b.length) 0) 0 (a.take i)=tt
   have lT:tt.length=a.length+b.length:=by rw[<-hT,Aj,fP]
   have bT:AllLt (af m) tt:=by rw[<-hT];exact Ak hm b _ _ _ (ni hm _)
   walk_at"l3"
   refine hR.mk (λj δ=>∃o6 o7,δ=[some (cW m),some (D.lst false (ak a)),some (D.lst false (ak b)),some (D.lst true (ak (ef m a[i] tt i (b.take j)))),some (D.int i),some (D.int (a[i]:Nat)),o6,o7]) ⟨_,_,rfl⟩ ?_ ?_
   ·rintro j d δ hd ⟨o6,o7,rfl⟩
    obtain⟨hj,rfl⟩:=An hd
    clear hd
    have lP:(ef m a[i] tt i (b.take j)).length=a.length+b.length:=by rw[xA,lT]
    have bP:AllLt (af m) (ef m a[i] tt i (b.take j)):=xB hm _ _ _ _ bT
    walk_at"l3"
    refine⟨_,xE (by omega) (by omega),m,_,_,rfl,hm,ha _ (iq _),hb _ (iq _),m,_,_,rfl,m0,rfl,_,((i:Int)+(j:Int)).toNat,rfl,xF (by omega) (by rw[cM];omega),_,_,?_,rfl,rfl⟩
    rw[Pe m _ b tt i hj,Am,show((i:Int)+(j:Int)).toNat=i+j by omega];rfl
   ·rintro δ ⟨o6,o7,rfl⟩
    rw[kI,cM,rq,Pg m b a _ 0 hi,hT,Lo]
    exact⟨_,_,_,_,rfl⟩
  ·rintro δ ⟨o4,o5,o6,o7,rfl⟩
   rw[kI,cM,rq]
   refine hU _ ?_
   walk_at"l3"
   have:=EX m a b
   exact⟨qF m a b,rfl,by rw[this];exact hl,by rw[fC,EY];rfl,q⟩
noncomputable abbrev aP1:bt:=λds Q=>∃(m:Bool × Nat) (a b:List Nat),ds=[cW m,.lst false (ak a),.lst false (ak b)]/\m∈aK/\a.length<=500/\b.length<=500/\Q (.lst true (ak (aH (gR (gp m) a b))))
theorem aP2(T:Txt K mg t):aO P w K mg base aS 2 t.G2 t.G3 ["_law_told_here","_law_a","_law_b"] (bw (aP1 )):=by
 refine bY T.Qy AJ ?_ ?_
 ·intro ds Q h
  obtain⟨m,a,b,rfl,hm,Ba,Bb,q⟩:=h<;>rfl
 ·intro aF A outer s H E hr
  refine⟨_,(aE (aZ (i:=3) AJ.nd rfl (ar rfl) (bO (NR rfl) (by rfl) T.QH MP (ah (aa (bO (cH) (by rfl) T.cI cF (ah (bv 1) au))) (ah (aa (bO (cH) (by rfl) T.cI cF (ah (bv 2) au))) au))))
   (aE (aZ (i:=1) AJ.nd rfl (ar rfl) (aA dh (bv 1) (aa (fF [] ["_law_k"] rfl (mB rfl T.ij (ah (aa (aA eV (bv 3) (aa (bO (cH) (by rfl) T.cI cF (ah (bv 1) au))))) au)) (λ_ _ _ _=>(eG (i:=0) (show(["_law_k"]:List Str).Nodup by decide +kernel) rfl (ar (lookup_relabel_local rfl)) (by decide) (bh (lookup_relabel_local rfl)))) (λ_ _ _ _=>eH) (λ_ _ _ _=>ao) rfl trivial (by repeat' (first | exact trivial | refine⟨.inl rfl,?_⟩ | refine⟨.inr (.inl rfl),?_⟩ | refine⟨.inr (.inr ⟨_,rfl⟩),?_⟩)) trivial (by decide +kernel) rfl (by decide +kernel)))))
   (aE (aZ (i:=2) AJ.nd rfl (ar rfl) (aA dh (bv 2) (aa (fF [] ["_law_k"] rfl (mB rfl T.ij (ah (aa (aA eV (bv 3) (aa (bO (cH) (by rfl) T.cI cF (ah (bv 2) au))))) au)) (λ_ _ _ _=>(eG (i:=0) (show(["_law_k"]:List Str).Nodup by decide +kernel) rfl (ar (lookup_relabel_local rfl)) (by decide) (bh (lookup_relabel_local rfl)))) (λ_ _ _ _=>eH) (λ_ _ _ _=>ao) rfl trivial (by repeat' (first | exact trivial | refine⟨.inl rfl,?_⟩ | refine⟨.inr (.inl rfl),?_⟩ | refine⟨.inr (.inr ⟨_,rfl⟩),?_⟩)) trivial (by decide +kernel) rfl (by decide +kernel)))))
   (aJ (aW (bK ((Be T).mono (by decide)) hr rfl T.AQ T.xT.kp T.AR br (ah (aa (fF [("_law_told_here",0)] ["_law_x","_law_y"] rfl (zO rfl T.ym (ah (bv 1) (ah (bv 2) au))) (λ_ _ _ _=>(jJ (i1:=1) (i2:=2) rfl (show(["_law_told_here","_law_x","_law_y"]:List Str).Nodup by decide +kernel) rfl (ar (lookup_relabel_local rfl)) rfl (ar (lookup_relabel_local rfl)) (by decide) (by decide) (bh (lookup_relabel_local rfl)) (bh (lookup_relabel_local rfl)))) (λ_ _ _ _=>eH) (λ_ _ _ _=>(bK ((Q1 T).mono (by decide)) hr rfl T.Qu T.Hk.kp T.Qv br (ah (bv 0) (ah (bv 1) (ah (bv 2) au))))) rfl ⟨rfl,trivial⟩ (by repeat' (first | exact trivial | refine⟨.inl rfl,?_⟩ | refine⟨.inr (.inl rfl),?_⟩ | refine⟨.inr (.inr ⟨_,rfl⟩),?_⟩)) ⟨⟨rfl,.inl rfl,.inl rfl,_,rfl,rfl⟩,trivial⟩ (by decide +kernel) rfl (by decide +kernel))) au))))))),λds Q h=>?_⟩
  obtain⟨m,a,b,rfl,hm,Ba,Bb,q⟩:=h
  have m0:=dR m hm
  refine aD λU hU=>?_
  walk_at"l3"
  rw[show(if(b.length:Int)>(a.length:Int)then(b.length:Int)else(a.length:Int))=((max a.length b.length:Nat):Int) by split<;>omega]
  refine hU _ ?_
  clear hU U
  refine aD λU hU=>?_
  walk_at"l3"
  refine⟨⟨by omega,by omega⟩,xG (n:=max a.length b.length-a.length) (by omega) (by omega) ?_⟩
  dsimp only
  refine⟨⟨by rw[cM,cM,fP];omega,fI _,fI _⟩,?_⟩
  rw[i8,show a++aN (max a.length b.length-a.length) 0=gj a (max a.length b.length) from rfl]
  refine hU _ ?_
  clear hU U
  refine aD λU hU=>?_
  walk_at"l3"
  refine⟨⟨by omega,by omega⟩,xG (n:=max a.length b.length-b.length) (by omega) (by omega) ?_⟩
  dsimp only
  refine⟨⟨by rw[cM,cM,fP];omega,fI _,fI _⟩,?_⟩
  rw[i8,show b++aN (max a.length b.length-b.length) 0=gj b (max a.length b.length) from rfl]
  refine hU _ ?_
  clear hU U
  walk_at"l3"
  have lPA:=nj (yI a.length b.length)
  refine⟨_,_,rfl,rfl,Aq (gp m) (λx hx y hy=>?_) (by omega) ?_⟩
  ·walk_at"l3"
   exact⟨m,x,y,rfl,m0,rfl⟩
  exact⟨gR (gp m) a b,by rw[fM];rfl,by rw[Ap];omega,by rw[eO,jk],q⟩
noncomputable abbrev aN7:bt:=λds Q=>∃(m:Bool × Nat) (a b:Nat),ds=[cW m,.int a,.int b]/\0<m.2/\Q (.int (gl m a b))
theorem aN8(T:Txt K mg t):aO P w K mg base aS 1 t.G4 t.G5 ["_law_told_here","_law_a","_law_b"] (bw (aN7 )):=by
 refine bY T.Qz aL9 ?_ ?_
 ·intro ds Q h
  obtain⟨m,a,b,rfl,h0,q⟩:=h<;>rfl
 ·intro aF A outer s H E hr
  refine⟨_,(aE (dG (ky (aQ (bv 0) (aa ao) (λ_ _=>rfl))) (aJ (aW (aA pH (bv 1) (bv 2)))) dF)
   (aJ (aW (aA dX (aa (aA eV (bv 1) (bv 2))) (aQ (bv 0) (aa ao) (λ_ _=>rfl)))))),λds Q h=>?_⟩
  obtain⟨m,a,b,rfl,h0,q⟩:=h
  unfold cW at *
  obtain⟨k,n⟩:=m
  refine aD λU hU=>?_
  walk_at"l3"
  cases k with
  | true =>
   refine⟨_,rfl,true,rfl,?_⟩
   rw[if_pos rfl,jt]
   exact q
  | false =>
   refine⟨_,rfl,false,rfl,?_⟩
   rw[if_neg (by decide)]
   refine hU _ ?_
   walk_at"l3"
   refine⟨_,rfl,?_⟩
   exact⟨by omega,q⟩
noncomputable abbrev aN9:bt:=λds Q=>∃(m:Bool × Nat) (a g:List Nat),ds=[cW m,.lst false (ak a),.lst false (ak g)]/\m∈aK/\AllLt (af m) a/\AllLt (af m) g/\a.length<=140/\g.length<=140/\g≠[]/\cf g (g.length-1)=1/\Dv m a g/\Q (.bl true)
theorem Q3(T:Txt K mg t):aO P w K mg base aS 2 t.G6 t.G7 ["_law_told_here","_law_a","_law_low"] (bw (aN9 )):=by
 refine bY T.Hm xQ ?_ ?_
 ·intro ds Q h
  obtain⟨m,a,g,rfl,hm,ha,hg,zA,hgl,g0,g1,hd,q⟩:=h<;>rfl
 ·intro aF A outer s H E hr
  refine⟨_,(aE (aZ (i:=3) xQ.nd rfl (ar rfl) (zE (zF) (by rfl) T.yk wu (ah (bv 1) au)))
   (aE (my e7 (cG NJ (aa (bO (cH) (by rfl) T.cI cF (ah (bv 3) au))) (aa (bO (cH) (by rfl) T.cI cF (ah (bv 2) au))) (bS _))
    (aE (bS9 (j:=4) (i:=3) xQ.nd rfl (ar rfl) rfl (by first | exact ar rfl | exact bh (ar rfl)))
    (aE (aZ (i:=5) xQ.nd rfl (ar rfl) (aA eV (aa (aA dh (aa (bO (cH) (by rfl) T.cI cF (ah (bv 3) au))) (aa ao))) (aa (bO (cH) (by rfl) T.cI cF (ah (bv 2) au)))))
    (aJ (jz e7 rfl (mB rfl T.ij (ah (aa (aA eV (aa (bO (cH) (by rfl) T.cI cF (ah (bv 2) au))) (aa ao))) au)) (eG (i:=6) xQ.nd rfl (ar rfl))
     (aJ (wZ (i:=3) rfl (by first | exact ar rfl | exact bh (ar rfl)) (bK ((aN8 T).mono (by decide)) hr rfl T.aO6 T.Qz.kp T.aO7 br (ah (bv 0) (ah (aQ (bv 3) (aa (aA dh (bv 5) (bv 6))) (λ_ _=>rfl)) (ah (aa (bK ((Q2 T).mono (by decide)) hr rfl T.Qw T.Hl.kp T.Qx br (ah (bv 0) (ah (bv 4) (ah (aQ (bv 2) (bv 6) (λ_ _=>rfl)) au))))) au)))) (aa (aA dh (bv 5) (bv 6))))))))))
   (aJ (aW (Nt (aa (bO (YH rfl) (by rfl) T.cN6 W2 (ah (aa (fF [] ["_law_x"] rfl (wN (bv 3)) (λ_ _ _ _=>(eG (i:=0) (show(["_law_x"]:List Str).Nodup by decide +kernel) rfl (ar (lookup_relabel_local rfl)) (by decide) (bh (lookup_relabel_local rfl)))) (λ_ _ _ _=>eH) (λ_ _ _ _=>(wK (jD (cV hr)) (bv 0) (aa ao) (bS _))) rfl trivial (by repeat' (first | exact trivial | refine⟨.inl rfl,?_⟩ | refine⟨.inr (.inl rfl),?_⟩ | refine⟨.inr (.inr ⟨_,rfl⟩),?_⟩)) trivial (by decide +kernel) rfl (by decide +kernel))) au)))))))),λds Q h=>?_⟩
  obtain⟨m,a,g,rfl,hm,ha,hg,zA,hgl,g0,g1,hd,q⟩:=h
  have ff:=(cC hm).lo
  refine aD λU hU=>?_
  walk_at"l3"
  refine hU _ ?_
  clear hU U
  refine aD λU hU=>?_
  walk_at"l3"
  have p0:=nS.mpr g0
  refine⟨λn δ=>∃(l:List Nat) (o4 o5 o6:Option D),δ=[some (cW m),some (D.lst false (ak a)),some (D.lst false (ak g)),some (D.lst true (ak l)),o4,o5,o6]/\AllLt (af m) l/\l.length<=140/\Dv m l g/\n=l.length,⟨a.length,a,none,none,none,rfl,ha,zA,hd,rfl⟩,?_⟩
  rintro n δ ⟨l,o4,o5,o6,rfl,hl,hll,Q4,rfl⟩
  walk_at"l3"
  split
  ·rename_i h1
   clear hU
   obtain⟨l',f,rfl⟩:∃l' f,l=l'++[f]:=⟨l.dropLast,l.getLast (λz=>by rw[z]at h1;simp at h1;exact g0 h1),(List.dropLast_concat_getLast _).symm⟩
   have oa:AllLt (af m) l':=λx hx=>hl x (fO _ hx)
   have hf:f<af m:=hl f (by simp)
   rw[jg,S5]at h1 hll
   refine aD λU hU=>?_
   walk_at"l3"
   refine⟨ak l',f,?_,hU _ ?_⟩
   ·rw[eX,eX,nQ];rfl
   clear hU
   refine aD λU hU=>?_
   walk_at"l3"
   have es:(l'.length:Int)+1-(g.length:Int)=((l'.length+1-g.length:Nat):Int):=by omega
   have eg:(g.length:Int)-1=((g.length-1:Nat):Int):=by omega
   rw[es]
   refine hU _ ?_
   clear hU
   walk_at"l3"
   rw[eg]
   refine⟨⟨by omega,by omega⟩,N4 (λi δ=>∃o6,δ=[some (cW m),some (D.lst false (ak a)),some (D.lst false (ak g)),some (D.lst true (ak (ig m f g (l'.length+1-g.length) l' i))),some (D.int f),some (D.int ((l'.length+1-g.length:Nat):Int)),o6]) ⟨_,rfl⟩ ?_ ?_⟩
   ·rintro i δ hi ⟨o6,rfl⟩
    simp only[gN,nY,nX]
    have gl':=xN (m:=m) f g (l'.length+1-g.length) l' i
    have gt':=xO hm f g (l'.length+1-g.length) oa i
    walk_at"l3"
    have ek:((l'.length+1-g.length:Nat):Int)+(i:Int)=((l'.length+1-g.length+i:Nat):Int):=by omega
    rw[ek]
    have gx:=jO hm (bx hm gt' (l'.length+1-g.length+i)) ((rg hm).lq f (cf g i))
    refine⟨.int (cf (ig m f g (l'.length+1-g.length) l' i) (l'.length+1-g.length+i):Nat),by rw[xE (by omega) (by omega),jW];rfl,.int (cf g i:Nat),by rw[xE (by omega) (by omega),jW];rfl,m,f,cf g i,rfl,hm,hf,bx hm hg i,rfl,m,_,gm m f (cf g i),rfl,dR m hm,rfl,_,l'.length+1-g.length+i,rfl,?_,_,?_,rfl⟩
    ·rw[xF (by omega) (by rw[cM];omega),jW]
    ·rw[gx.1,Am];rfl
   ·rintro δ ⟨o6,rfl⟩
    refine⟨(ig m f g (l'.length+1-g.length) l' (g.length-1)).length,by rw[xN,jg];simp,_,_,_,_,rfl,xO hm f g _ oa _,by rw[xN];omega,Q4.step hm oa hf g1 p0 (by omega),rfl⟩
  ·rename_i h1
   refine hU _ ?_
   clear hU U
   walk_at"l3"
   have z0:=Q4.none hm g1 p0 (by omega)
   refine i7 l (λ(i:Nat)=>D.int (i:Int)) (λ_=>D.bl false) (zP l) tL (λi hi=>?_) (.inr λ_ _=>rfl) (by rw[sL];omega) ?_
   ·have:=z0 i hi
    subst this
    walk_at"l3"
    rfl
   ·refine⟨l.map λ_=>false,by unfold sq;rw[gv];rfl,?_⟩
    have e:(l.map λ_=>false).any id=false:=by simp
    rw[e];exact q
noncomputable abbrev aL2:bt:=λds Q=>∃i:Int,ds=[.int i]/\Q (.bl true)
theorem aL3(T:Txt K mg t):aO P w K mg base aS 1 t.G8 t.G9 ["_law_x"] (bw (aL2 )):=by
 refine bY T.QD aK0 ?_ ?_
 ·intro ds Q h
  obtain⟨i,rfl,q⟩:=h<;>rfl
 ·intro aF A outer s H E hr
  refine⟨_,(aJ (aW (rZ (aa (zG (by rfl) T.AY (by rfl) T.cN8 W3 (bv 0))) (og (Nt (aa (zG (by rfl) T.AY (by rfl) T.cN7 W4 (bv 0)))))))),λds Q h=>?_⟩
  obtain⟨i,rfl,q⟩:=h
  walk_at"l3"
  exact q
noncomputable abbrev aL4:bt:=λds Q=>∃(l:List Nat) (n:Nat),ds=[.lst false (ak l),.int n]/\(∀a∈l,a<n)/\l.length<=1000/\Q (.bl true)
theorem aL5(T:Txt K mg t):aO P w K mg base aS 2 t.Ha t.Hb ["_law_found","_law_many_here"] (bw (aL4 )):=by
 refine bY T.QE aK1 ?_ ?_
 ·intro ds Q h
  obtain⟨l,n,rfl,ha,hl,q⟩:=h<;>rfl
 ·intro aF A outer s H E hr
  refine⟨_,(aE (dG (zu (ky (aa (zG (by rfl) T.AY (by rfl) T.yk wu (bv 0))))) (aJ (aW jx)) dF)
   (aJ (aW (bO (Ek rfl) (by rfl) T.Ho DC (ah (aa (fF [("_law_many_here",1)] ["_law_x"] rfl (wN (bv 0)) (λ_ _ _ _=>(eG (i:=1) (show(["_law_many_here","_law_x"]:List Str).Nodup by decide +kernel) rfl (ar (lookup_relabel_local rfl)) (by decide) (bh (lookup_relabel_local rfl)))) (λ_ _ _ _=>eH) (λ_ _ _ _=>(rZ (aa (bK ((aL3 T).mono (by decide)) hr rfl T.aM5 T.QD.kp T.aM6 br (ah (bv 1) au))) (og (Ei wW zD (aa ao) (bv 1) (bv 0))))) rfl ⟨rfl,trivial⟩ (by repeat' (first | exact trivial | refine⟨.inl rfl,?_⟩ | refine⟨.inr (.inl rfl),?_⟩ | refine⟨.inr (.inr ⟨_,rfl⟩),?_⟩)) ⟨⟨rfl,.inl rfl,.inl rfl,_,rfl,rfl⟩,trivial⟩ (by decide +kernel) rfl (by decide +kernel))) au))))),λds Q h=>?_⟩
  obtain⟨l,n,rfl,ha,hl,q⟩:=h
  refine aD λU hU=>?_
  walk_at"l3"
  refine hU _ ?_
  clear hU U
  walk_at"l3"
  refine i7 l (λ(i:Nat)=>D.int (i:Int)) (λ_=>D.bl true) (zP l) tL (λi hi=>?_) (.inr λ_ _=>rfl) (by rw[sL];omega) ?_
  ·walk_at"l3"
   have:=ha i hi
   refine⟨i,rfl,true,rfl,?_⟩
   rw[if_pos rfl,if_pos (by omega)]
   omega
  ·refine⟨l.map λ_=>true,by unfold sq;rw[gv];rfl,?_⟩
   have e:(l.map λ_=>true).all id=true:=by simp
   rw[e];exact q
noncomputable abbrev aO0:bt:=λds Q=>∃(l:List Nat) (n:Nat),ds=[.lst false (ak (aH l)),.int n]/\(∀a∈l,a<n)/\l.length<=1000/\Q (.bl true)
theorem aO1(T:Txt K mg t):aO P w K mg base aS 3 t.Hc t.Hd ["_law_found","_law_many_here"] (bw (aO0 )):=by
 refine bY T.QF aM0 ?_ ?_
 ·intro ds Q h
  obtain⟨l,n,rfl,ha,hl,q⟩:=h<;>rfl
 ·intro aF A outer s H E hr
  refine⟨_,(aJ (aW (rZ (aa (bK ((aL5 T).mono (by decide)) hr rfl T.aM7 T.QE.kp T.aM8 br (ah (bv 0) (ah (bv 1) au)))) (og (Yk (aa (wK (eW (cV hr)) (aa (bO (cH) (by rfl) T.cI cF (ah (bv 0) au))) (aa ao) (bS _))) (og (wK (jD (cV hr)) (aQ (bv 0) (aa (kC (aa ao))) (λ_ _=>rfl)) (aa ao) (bS _)))))))),λds Q h=>?_⟩
  obtain⟨l,n,rfl,ha,hl,q⟩:=h
  walk_at"l3"
  have h1:=qE l
  refine⟨aH l,n,rfl,λa h=>ha a (qD h),by omega,?_⟩
  refine⟨true,rfl,?_⟩
  rw[if_pos rfl]
  split
  ·exact q
  ·rename_i h0
   have lR:=tW l
   have h3:(aH l).getD ((aH l).length-1) 0≠0:=lR.resolve_left (by omega)
   have e:dm (ak (aH l)) (-1)=some (.int (((aH l).getD ((aH l).length-1) 0:Nat):Int)):=tX (by omega)
   refine⟨_,e,rfl,?_⟩
   rw[i6,decide_eq_false (by omega)]
   exact q
theorem cl9(T:Txt K mg t)(hB:Bm mg base):aO P w K mg base aS 11 t.He t.Hf ["_law_script"] (w9 [t.ja,t.jb] (bw (NX ))):=by
 refine OK T.cN1 gr ?_ ?_
 ·intro ds Q h
  obtain⟨ns,rfl,hl,q⟩:=h<;>rfl
 ·intro aF A outer s H E hT hr
  refine⟨_,(aE (aZ (i:=1) gr.nd rfl (ar rfl) (bK ((aN0 T).mono (by decide)) hr rfl T.aO2 T.P7.kp T.aO3 br (ah (aa (bK ((Bd T).mono (by decide)) hr rfl T.AN T.xS.kp T.AO br (ah (bv 0) (ah (aa ao) au)))) au)))
   (aE (aZ (i:=2) gr.nd rfl (ar rfl) (ZQ hT ((aK6 T hB).mono (by decide)) hr rfl T.aM2 T.Ql.kp T.aM3 br (ah (bv 1) au)))
   (aE (aZ (i:=3) gr.nd rfl (bh rfl) (bK ((aN4 T).mono (by decide)) hr rfl T.aO4 T.Qm.kp T.aO5 br (ah (bv 1) au)))
   (aE (aZ (i:=4) gr.nd rfl (ar rfl) (Yl (ky (aQ (bv 1) (aa ao) (λ_ _=>rfl))) ao ao))
   (aE (zB (i:=5) gr.nd rfl (ar rfl) [("_law_many_here",3)] ["_law_cell_here"] rfl (wN (aa (jK (bv 0) (i3 (aa ao)) (i3 (aa (aA dh (aa ao) (bv 4))))))) (λ_ _ _ _=>(eG (i:=1) (show(["_law_many_here","_law_cell_here"]:List Str).Nodup by decide +kernel) rfl (ar (lookup_relabel_local rfl)) (by decide) (bh (lookup_relabel_local rfl)))) (λ_ _ _ _=>eH) (λ_ _ _ _=>(aA dX (bv 1) (bv 0))) rfl ⟨rfl,trivial⟩ (by repeat' (first | exact trivial | refine⟨.inl rfl,?_⟩ | refine⟨.inr (.inl rfl),?_⟩ | refine⟨.inr (.inr ⟨_,rfl⟩),?_⟩)) ⟨⟨rfl,.inl rfl,.inl rfl,_,rfl,rfl⟩,trivial⟩ (by decide +kernel) rfl (by decide +kernel))
   (aE (aZ (i:=6) gr.nd rfl (ar rfl) (aA dh (aa ao) (aa (aA dX (aa (bK ((Bd T).mono (by decide)) hr rfl T.AN T.xS.kp T.AO br (ah (bv 0) (ah (aa ao) au)))) (aa ao)))))
   (aE (aZ (i:=7) gr.nd rfl (ar rfl) (jK (bv 5) (i3 (bv 6)) kF))
   (aE (aZ (i:=8) gr.nd rfl (ar rfl) (aA dX (aa (bK ((Bd T).mono (by decide)) hr rfl T.AN T.xS.kp T.AO br (ah (bv 0) (ah (aa ao) au)))) (aa (aA dh (aa (bO (cH) (by rfl) T.cI cF (ah (bv 7) au))) (aa ao)))))
   (aE (aZ (i:=9) gr.nd rfl (ar rfl) (aA dX (aa (bK ((Bd T).mono (by decide)) hr rfl T.AN T.xS.kp T.AO br (ah (bv 0) (ah (aa ao) au)))) (aa ao)))
   (aE (aZ (i:=10) gr.nd rfl (ar rfl) (aA dh (aa (bK ((Bf T).mono (by decide)) hr rfl T.AS T.xU.kp T.AU br (ah (bv 1) (ah (aa (jK (bv 5) kF (i3 (bv 6)))) (ah (aa (jK (bv 7) kF (i3 (bv 8)))) au))))) (aa (fF [] ["_law_k"] rfl (mB rfl T.ij (ah (aa (aA dX (bv 9) (aa ao))) au)) (λ_ _ _ _=>(eG (i:=0) (show(["_law_k"]:List Str).Nodup by decide +kernel) rfl (ar (lookup_relabel_local rfl)) (by decide) (bh (lookup_relabel_local rfl)))) (λ_ _ _ _=>eH) (λ_ _ _ _=>ao) rfl trivial (by repeat' (first | exact trivial | refine⟨.inl rfl,?_⟩ | refine⟨.inr (.inl rfl),?_⟩ | refine⟨.inr (.inr ⟨_,rfl⟩),?_⟩)) trivial (by decide +kernel) rfl (by decide +kernel)))))
   (aE (aZ (i:=11) gr.nd rfl (ar rfl) (aA dh (aa (bK ((Bf T).mono (by decide)) hr rfl T.AS T.xU.kp T.AU br (ah (bv 1) (ah (aa (jK (bv 5) kF (i3 (bv 6)))) (ah (aa (jK (bv 7) (i3 (bv 8)) kF)) au))))) (aa (fF [] ["_law_k"] rfl (mB rfl T.ij (ah (aa (aA dX (aa (aA wV (bv 9) (aa ao))) (aa ao))) au)) (λ_ _ _ _=>(eG (i:=0) (show(["_law_k"]:List Str).Nodup by decide +kernel) rfl (ar (lookup_relabel_local rfl)) (by decide) (bh (lookup_relabel_local rfl)))) (λ_ _ _ _=>eH) (λ_ _ _ _=>ao) rfl trivial (by repeat' (first | exact trivial | refine⟨.inl rfl,?_⟩ | refine⟨.inr (.inl rfl),?_⟩ | refine⟨.inr (.inr ⟨_,rfl⟩),?_⟩)) trivial (by decide +kernel) rfl (by decide +kernel)))))
   (aE (dG (cG (eW (cV hr)) (aa (aA wV (bv 9) (aa ao))) (aa ao) (bS _)) (aJ (zB (i:=10) gr.nd rfl (ar rfl) [] ["_law_k"] rfl (mB rfl T.ij (ah (aa (aA dX (bv 9) (aa ao))) au)) (λ_ _ _ _=>(eG (i:=0) (show(["_law_k"]:List Str).Nodup by decide +kernel) rfl (ar (lookup_relabel_local rfl)) (by decide) (bh (lookup_relabel_local rfl)))) (λ_ _ _ _=>eH) (λ_ _ _ _=>ao) rfl trivial (by repeat' (first | exact trivial | refine⟨.inl rfl,?_⟩ | refine⟨.inr (.inl rfl),?_⟩ | refine⟨.inr (.inr ⟨_,rfl⟩),?_⟩)) trivial (by decide +kernel) rfl (by decide +kernel))) dF)
   (aE (aZ (i:=12) gr.nd rfl (ar rfl) (mv (cL (zE (zF) (by rfl) T.yk wu (ah (bv 10) au)) (cL (zE (zF) (by rfl) T.yk wu (ah (bv 11) au)) cU))))
   (aE (aZ (i:=13) gr.nd rfl (ar rfl) (bK ((aH5 T).mono (by decide)) hr rfl T.cL9 T.Qt.kp T.cM0 br (ah (bv 2) (ah (aQ (bv 12) (aa ao) (λ_ _=>rfl)) (ah (aQ (bv 12) (aa ao) (λ_ _=>rfl)) au)))))
   (aE (dG (PW.pt (rY (zu (ky (aa (zG (by rfl) T.AY (by rfl) T.Hq MQ (bv 13))))) (rY (cG (jD (cV hr)) (aa (bO (cH) (by rfl) T.cI cF (ah (bv 13) au))) (aa ao) (bS _)) (CO (zu (ky (aa (bO (Ek rfl) (by rfl) T.Ho DC (ah (aa (fF [("_law_many_here",3)] ["_law_one"] rfl (PR (bv 13)) (λ_ _ _ _=>(eG (i:=1) (show(["_law_many_here","_law_one"]:List Str).Nodup by decide +kernel) rfl (ar (lookup_relabel_local rfl)) (by decide) (bh (lookup_relabel_local rfl)))) (λ_ _ _ _=>eH) (λ_ _ _ _=>(bK ((aO1 T).mono (by decide)) hr rfl T.aO8 T.QF.kp T.aO9 br (ah (bv 1) (ah (bv 0) au)))) rfl ⟨rfl,trivial⟩ (by repeat' (first | exact trivial | refine⟨.inl rfl,?_⟩ | refine⟨.inr (.inl rfl),?_⟩ | refine⟨.inr (.inr ⟨_,rfl⟩),?_⟩)) ⟨⟨rfl,.inl rfl,.inl rfl,_,rfl,rfl⟩,trivial⟩ (by decide +kernel) rfl (by decide +kernel))) au))))))))) (aJ (aW jx)) dF)
   (aE (dG (PW.pt (rY (cG wX (aa (bO (cH) (by rfl) T.cI cF (ah (aQ (bv 13) (aa ao) (λ_ _=>rfl)) au))) (aa ao) (bS _)) (rY (cG wX (aa (bO (cH) (by rfl) T.cI cF (ah (aQ (bv 13) (aa ao) (λ_ _=>rfl)) au))) (aa ao) (bS _)) (rY (cG (jD (cV hr)) (aQ (bv 12) (aa ao) (λ_ _=>rfl)) (bv 10) (bS _)) (CO (cG (jD (cV hr)) (aQ (bv 12) (aa ao) (λ_ _=>rfl)) (bv 11) (bS _))))))) (aJ (aW jx)) dF)
   (aE (dG (cG (jD (cV hr)) (aa (bK ((aP2 T).mono (by decide)) hr rfl T.aP3 T.Qy.kp T.aP4 br (ah (bv 1) (ah (aa (bK ((Bf T).mono (by decide)) hr rfl T.AS T.xU.kp T.AU br (ah (bv 1) (ah (aQ (bv 13) (aa ao) (λ_ _=>rfl)) (ah (bv 10) au))))) (ah (aa (bK ((Bf T).mono (by decide)) hr rfl T.AS T.xU.kp T.AU br (ah (bv 1) (ah (aQ (bv 13) (aa ao) (λ_ _=>rfl)) (ah (bv 11) au))))) au))))) (aQ (bv 13) (aa ao) (λ_ _=>rfl)) (bS _)) (aJ (aW jx)) dF)
   (aE (dG (PW.pt (D7 (cG (eW (cV hr)) (aa (bO (cH) (by rfl) T.cI cF (ah (aa (bK ((Be T).mono (by decide)) hr rfl T.AQ T.xT.kp T.AR br (ah (bv 10) au))) au))) (aa ao) (bS _)) (CN (cG (eW (cV hr)) (aa (bO (cH) (by rfl) T.cI cF (ah (aa (bK ((Be T).mono (by decide)) hr rfl T.AQ T.xT.kp T.AR br (ah (bv 11) au))) au))) (aa ao) (bS _))))) (aJ (aW (wK (eW (cV hr)) (aQ (bv 13) (aa ao) (λ_ _=>rfl)) (aa (eF cU)) (bS _)))) dF)
   (aE (dG (PW.pt (rY (cG (eW (cV hr)) (aa (bO (cH) (by rfl) T.cI cF (ah (aQ (bv 13) (aa ao) (λ_ _=>rfl)) au))) (aa ao) (bS _)) (CO (cG (jD (cV hr)) (aQ (aQ (bv 13) (aa ao) (λ_ _=>rfl)) (aa (kC (aa ao))) (λ_ _=>rfl)) (aa ao) (bS _))))) (aJ (aW jx)) dF)
   (aJ (aW (rZ (aa (bK ((Q3 T).mono (by decide)) hr rfl T.QB T.Hm.kp T.QC br (ah (bv 1) (ah (bv 10) (ah (aQ (bv 13) (aa ao) (λ_ _=>rfl)) au))))) (og (bK ((Q3 T).mono (by decide)) hr rfl T.QB T.Hm.kp T.QC br (ah (bv 1) (ah (bv 11) (ah (aQ (bv 13) (aa ao) (λ_ _=>rfl)) au))))))))))))))))))))))))))),λds Q h=>?_⟩
  obtain⟨ns,rfl,hl,q⟩:=h
  refine aD λU hU=>?_
  walk_at"l3"
  refine⟨ns,0,rfl,by decide,_,rfl,rfl,hU _ ?_⟩
  clear hU U
  generalize hmm:nh (ns.getD (0:Int).toNat 0)=m
  have hm:m∈aK:=by rw[<-hmm];exact ν _
  have hF:=cC hm
  have ff:=hF.lo
  have hhi:=hF.hi
  have hbl:=μ m hm
  have m0:=dR m hm
  have cW5:∀z:Int,z%(af m:Int)=(((z%(af m:Int)).toNat:Nat):Int):=λz=>by
   have n0:=ji z (show(af m:Int)≠0 by omega)
   omega
  have cW6:∀z:Int,(z%(af m:Int)).toNat<af m:=λz=>by
   have n1:=jj z (show(0:Int)<(af m:Int) by omega)
   omega
  refine aD λU hU=>?_
  walk_at"l3"
  refine⟨m,rfl,hm,hU _ ?_⟩
  clear hU U
  refine aD λU hU=>?_
  walk_at"l3"
  refine⟨m,rfl,by omega,by omega,hU _ ?_⟩
  clear hU U
  refine aD λU hU=>?_
  walk_at"l3"
  have st:∀r:Nat,r<=48->U [some (D.fz (az ns)),some (cW m),some (fD t.aL t.aM m),some (D.int (af m)),some (D.int r),none,none,none,none,none,none,none,none,none]:=by
   intro r hr
   refine hU _ ?_
   clear hU U
   refine aD λU hU=>?_
   walk_at"l3"
   generalize hL:dQ ns (some 4) (some (4+(r:Int)))=L
   have lL:L.length<=48:=by
    rw[<-hL,show(4:Int)+(r:Int)=((4+r:Nat):Int) by omega,show dQ ns (some 4) _=_ from N0 ns 4 (4+r),gu,jX];omega
   refine i7 L (λz=>D.int z) (λz=>D.int (((z%(af m:Int)).toNat:Nat):Int)) (by rw[gP];rfl) (λa b h=>by injection h) (λz hz=>?_) (.inr λ_ _=>rfl) (by rw[sL];omega) ?_
   ·walk_at"l3"
    exact⟨by omega,by rw[<-cW5]⟩
   obtain⟨cs,ecs,Q5,lcs⟩:∃cs:List Nat,(L.map λz=>D.int (((z%(af m:Int)).toNat:Nat):Int))=ak cs/\AllLt (af m) cs/\cs.length<=48:=by
    refine⟨L.map λz=>(z%(af m:Int)).toNat,by rw[eX,gv];rfl,λa ha=>?_,by simpa using lL⟩
    obtain⟨k,_,rfl⟩:=iJ.mp ha
    exact cW6 _
   rw[ecs]
   refine hU _ ?_
   clear hU U
   refine aD λU hU=>?_
   walk_at"l3"
   refine⟨ns,1,rfl,by decide,by decide,?_⟩
   obtain⟨sz,esz,iS⟩:∃k:Nat,1+ns.getD (1:Int).toNat 0%7=k/\k<=7:=⟨(1+ns.getD (1:Int).toNat 0%7).toNat,by omega,by omega⟩
   rw[esz]
   refine hU _ ?_
   clear hU U
   refine aD λU hU=>?_
   walk_at"l3"
   rw[ED]
   refine hU _ ?_
   clear hU U
   refine aD λU hU=>?_
   walk_at"l3"
   refine⟨ns,2,rfl,by decide,by omega,?_⟩
   obtain⟨k,ek,hk⟩:∃k:Nat,ns.getD (2:Int).toNat 0%(((cs.drop sz).length:Int)+1)=k/\k<=(cs.drop sz).length:=by
    have n0:=ji (ns.getD (2:Int).toNat 0) (show((cs.drop sz).length:Int)+1≠0 by omega)
    have n1:=jj (ns.getD (2:Int).toNat 0) (show(0:Int)<((cs.drop sz).length:Int)+1 by omega)
    exact⟨(ns.getD (2:Int).toNat 0%(((cs.drop sz).length:Int)+1)).toNat,by omega,by omega⟩
   rw[ek]
   refine hU _ ?_
   clear hU U
   refine aD λU hU=>?_
   walk_at"l3"
   refine⟨ns,3,rfl,by decide,by omega,?_⟩
   obtain⟨wy,ew,hw⟩:∃k:Nat,ns.getD (3:Int).toNat 0%144=k/\k<144:=by
    have n0:=ji (ns.getD (3:Int).toNat 0) (show(144:Int)≠0 by omega)
    have n1:=jj (ns.getD (3:Int).toNat 0) (show(0:Int)<144 by omega)
    exact⟨(ns.getD (3:Int).toNat 0%144).toNat,by omega,by omega⟩
   rw[ew]
   refine hU _ ?_
   clear hU U
   have hC:AllLt (af m) (cs.take sz):=λz hz=>Q5 z (vB hz)
   have hP:AllLt (af m) (cs.drop sz):=λz hz=>Q5 z (Cp hz)
   have lC:(cs.take sz).length<=7:=by rw[gu];omega
   have lP:(cs.drop sz).length<=48:=by rw[jX];omega
   generalize cs.drop sz=pa at hP lP hk
   have hT0:AllLt (af m) (pa.take k):=λz hz=>hP z (vB hz)
   have hD0:AllLt (af m) (pa.drop k):=λz hz=>hP z (Cp hz)
   have lT0:(pa.take k).length=k:=by rw[gu];omega
   have lD0:(pa.drop k).length+k=pa.length:=by rw[jX];omega
   have pT:=xD m (cs.take sz) (pa.take k)
   have pD:=xD m (cs.take sz) (pa.drop k)
   have Q6:∀(x:List Nat) (n:Nat),AllLt (af m) x->AllLt (af m) (x++aN n 0):=λx n hx z hz=>by
    rcases eA.mp hz with hz | hz
    ·exact hx z hz
    ·exact ni hm _ z hz
   refine aD λU hU=>?_
   walk_at"l3"
   rw[w5,w5]
   refine⟨m,_,_,rfl,hm,hC,hT0,by omega,eO _,by decide,⟨by omega,by omega⟩,xG (n:=wy%4) (by omega) (by omega) ?_⟩
   dsimp only
   refine⟨⟨by rw[cM,cM,fP];omega,fI _,fI _⟩,?_⟩
   rw[i8]
   obtain⟨a,ea,bA,lA⟩:∃z:List Nat,iB m (cs.take sz) (pa.take k)++aN (wy%4) 0=z/\AllLt (af m) z/\z.length<=10+k:=⟨_,rfl,Q6 _ _ (xC hm _ _),by rw[jg,fP];omega⟩
   rw[ea]
   refine hU _ ?_
   clear hU U
   refine aD λU hU=>?_
   walk_at"l3"
   rw[w5,ED]
   refine⟨m,_,_,rfl,hm,hC,hD0,by omega,eO _,wU (by decide) (by decide),by decide,⟨by omega,by omega⟩,xG (n:=wy/4%4) (by omega) (by omega) ?_⟩
   dsimp only
   refine⟨⟨by rw[cM,cM,fP];omega,fI _,fI _⟩,?_⟩
   rw[i8]
   obtain⟨b,eb,bB,lB⟩:∃z:List Nat,iB m (cs.take sz) (pa.drop k)++aN (wy/4%4) 0=z/\AllLt (af m) z/\z.length<=10+(pa.length-k):=⟨_,rfl,Q6 _ _ (xC hm _ _),by rw[jg,fP];omega⟩
   rw[eb]
   refine hU _ ?_
   clear hU U
   refine aD λU hU=>?_
   walk_at"l3"
   have s1:∀a:List Nat,AllLt (af m) a->a.length<=10+k->U [some (D.fz (az ns)),some (cW m),some (fD t.aL t.aM m),some (D.int (af m)),some (D.int r),some (D.lst true (ak cs)),some (D.int sz),some (D.lst true (ak pa)),some (D.int k),some (D.int wy),some (D.lst true (ak a)),some (D.lst true (ak b)),none,none]:=by
    clear bA lA ea a
    intro a bA lA
    refine hU _ ?_
    clear hU U
    refine aD λU hU=>?_
    walk_at"l3"
    refine⟨by decide,hU _ ?_⟩
    clear hU U
    refine aD λU hU=>?_
    walk_at"l3"
    refine⟨_,rfl,_,rfl,m,a,b,by rw[fM,fM],hm,bA,bB,by omega,λg x y lg lx ly cg cx cy gl xl yl hz iW he=>?_⟩
    refine⟨by rw[jw,dg,dg,dg,eO,eO,eO];simp,hU _ ?_⟩
    clear hU U
    refine aD λU hU=>?_
    walk_at"l3"
    rw[if_neg (by decide)]
    refine i7 [g,x,y] (λl=>D.lst false (ak l)) (λ_=>D.bl true) (by simp only[dj,il,fM]) (λu v h=>Ar u v h) (λl hl=>?_) (.inr λ_ _=>rfl) (by show 3<=sizeLine;decide) ?_
    ·obtain⟨z1,z2,z3⟩:AllLt (af m) l/\l=aH l/\l.length<=131:=by
      simp only[bM,eQ,or_false]at hl
      rcases hl with rfl | rfl | rfl
      ·exact⟨lg,cg,gl⟩
      ·exact⟨lx,cx,by omega⟩
      ·exact⟨ly,cy,by omega⟩
     walk_at"l3"
     exact⟨l,af m,by rw[<-z2],z1,by omega,rfl⟩
    dsimp only
    refine⟨[true,true,true],rfl,?_⟩
    rw[if_neg (by decide)]
    refine hU _ ?_
    clear hU U
    have eqs:∀l:List Nat,aI 6 (D.lst true (ak l))=true:=Al 5 true
    have pX:=xD m x a
    have pY:=xD m y b
    refine aD λU hU=>?_
    walk_at"l3"
    refine⟨_,rfl,?_⟩
    dsimp only
    rw[cM,if_neg (by omega)]
    refine⟨_,rfl,?_⟩
    dsimp only
    rw[cM,if_neg (by omega)]
    refine⟨_,rfl,eqs _,?_⟩
    rw[kO,decide_eq_true rfl,if_neg (by simp)]
    refine⟨_,rfl,eqs _,?_⟩
    rw[kO,decide_eq_true rfl,if_neg (by simp)]
    refine hU _ ?_
    clear hU U
    have sg:aH (gR (gp m) (iB m x a) (iB m y b))=g:=by
     refine(xH λn=>?_).trans cg.symm
     rw[cc5 hm,E2 hm,E2 hm,t7 hm,t7 hm]
     exact(hz n).symm
    refine aD λU hU=>?_
    walk_at"l3"
    refine⟨_,rfl,m,x,a,by rw[fM],hm,lx,bA,by omega,eO _,?_⟩
    refine⟨_,rfl,m,y,b,by rw[fM],hm,ly,bB,by omega,by rw[eO,jk],?_⟩
    refine⟨m,_,_,by rw[fM,fM],hm,by omega,by omega,by rw[eO,jk],_,rfl,⟨eqs _,eqs _⟩,?_⟩
    rw[sg,kO,decide_eq_true rfl,if_neg (by simp)]
    refine hU _ ?_
    clear hU U
    refine aD λU hU=>?_
    walk_at"l3"
    have fin:g≠[]->U [some (D.fz (az ns)),some (cW m),some (fD t.aL t.aM m),some (D.int (af m)),some (D.int r),some (D.lst true (ak cs)),some (D.int sz),some (D.lst true (ak pa)),some (D.int k),some (D.int wy),some (D.lst true (ak a)),some (D.lst true (ak b)),some (D.tup [D.lst true (ak a),D.lst true (ak b)]),some (D.tup [D.lst true (ak g),D.lst true (ak x),D.lst true (ak y)])]:=by
     intro h0
     obtain⟨g1,da,db⟩:=iW h0
     have p0:=nS.mpr h0
     refine hU _ ?_
     clear hU U
     refine aD λU hU=>?_
     walk_at"l3"
     refine⟨_,rfl,?_⟩
     dsimp only
     rw[cM,if_neg (by omega)]
     refine⟨_,rfl,?_⟩
     dsimp only
     refine⟨_,tX p0,by rw[mO],?_⟩
     rw[show g.getD (g.length-1) 0=1 from g1,show bF (D.int ((1:Nat):Int)) (D.int 1)=true from rfl,if_neg (by simp)]
     refine hU _ ?_
     clear hU U
     walk_at"l3"
     refine⟨_,rfl,m,a,g,by rw[fM],hm,bA,lg,by omega,by omega,h0,g1,da,?_⟩
     refine⟨rfl,true,rfl,?_⟩
     rw[if_pos rfl]
     exact⟨_,rfl,m,b,g,by rw[fM],hm,bB,lg,by omega,by omega,h0,g1,db,rfl,q⟩
    refine⟨a,rfl,by omega,eO _,?_⟩
    dsimp only
    rw[cM]
    by_cases za:aH a=[]
    ·rw[if_pos (by rw[za];rfl)]
     refine⟨b,rfl,by omega,eO _,?_⟩
     dsimp only
     rw[cM]
     by_cases zb:aH b=[]
     ·rw[if_pos (by rw[zb];rfl)]
      refine⟨_,rfl,by decide,⟨eqs _,rfl⟩,?_⟩
      have gz:g=[]:=by
       rw[cg]
       refine xH (l':=[]) λn=>?_
       have c0:∀l:List Nat,aH l=[]->∀j,cf l j=0:=λl hl j=>by rw[<-fj,hl];rfl
       rw[hz n,tZ (rg hm) (c0 a za),tZ (rg hm) (c0 b zb),(rg hm).z (by omega)];rfl
      rw[gz,show bF (D.lst true (ak [])) (D.lst true [])=true from rfl]
      exact q
     ·rw[if_neg (λz=>zb (Lw.mp (by omega)))]
      exact fin λz=>zb (he z).2
    ·rw[if_neg (λz=>za (Lw.mp (by omega)))]
     exact fin λz=>za (he z).1
   refine⟨wU (by decide) (by decide),?_⟩
   split
   ·refine⟨by decide,⟨by omega,by omega⟩,xG (n:=wy%4) (by omega) (by omega) ?_⟩
    exact s1 _ (ni hm _) (by rw[fP];omega)
   ·exact s1 a bA lA
  refine(show ∃d,dm [D.bl m.1,D.int m.2] (0:Int)=some d/\_ from⟨_,rfl,m.1,rfl,?_⟩)
  split
  ·exact st 28 (by decide)
  ·exact st 48 (by decide)
end
set_option maxHeartbeats 0 in
theorem all_mk{l:PySem.W.OpenLaw}{w:World}{K:Frag}{h:Heap}{mg:Str->Option Value}{fa:Addr}{ts:List Addr}(X:K.In h)(G:h.Ns mainGlobals mg)(hfa:mg "law"=some (.ref fa))
  {od0 an0:Option Addr} {sl0:Array (Option Value)} {oc0 kV0 dc0 pm0 Q7 Fl:Value} {f0:Addr}
  {od1 an1:Option Addr} {sl1:Array (Option Value)} {oc1 kV1 dc1 pm1 Q8 Fm:Value} {f1:Addr}
  {od2 an2:Option Addr} {sl2:Array (Option Value)} {oc2 kV2 dc2 pm2 Q9 ct2:Value} {f2:Addr}
  {od3 an3:Option Addr} {sl3:Array (Option Value)} {oc3 kV3 dc3 pm3 Ra ct3:Value} {f3:Addr}
  {od4 an4:Option Addr} {sl4:Array (Option Value)} {oc4 kV4 dc4 pm4 Rb ct4:Value} {f4:Addr}
  {od5 an5:Option Addr} {sl5:Array (Option Value)} {oc5 kV5 dc5 pm5 Rc ct5:Value} {f5:Addr}
  {od6 an6:Option Addr} {sl6:Array (Option Value)} {oc6 kV6 dc6 pm6 Rh ct6:Value} {f6:Addr}
  {od7 an7:Option Addr} {sl7:Array (Option Value)} {oc7 kV7 dc7 pm7 ct7:Value} {f7:Addr}
  {yr ja:Addr} {aE1:Option Addr} {aE2:Array (Option Value)} {Ri:Array Value} {aE3:Value}
  {od8 an8:Option Addr} {sl8:Array (Option Value)} {oc8 kV8 dc8 pm8 Rj ct8:Value} {f8:Addr}
  {od9 an9:Option Addr} {sl9:Array (Option Value)} {oc9 kV9 dc9 pm9 Rk ct9:Value} {f9:Addr}
  {c88 c89:Option Addr} {c90:Array (Option Value)} {c91 c92 c93 c94 Rl c95:Value} {Bg:Addr}
  {c96 c97:Option Addr} {c98:Array (Option Value)} {c99 da0 da1 da2 Rm da3:Value} {Bh:Addr}
  {da4 da5:Option Addr} {da6:Array (Option Value)} {da7 da8 da9 db0 Rn db1:Value} {jA:Addr}
  {db2 db3:Option Addr} {db4:Array (Option Value)} {db5 db6 db7 db8 db9:Value} {ve:Addr}
  {yt jb:Addr} {aH6:Option Addr} {aH7:Array (Option Value)} {Ro:Array Value} {aH8:Value}
  {dd3 dd4:Option Addr} {dd5:Array (Option Value)} {dd6 dd7 dd8 dd9 Rp de0:Value} {Bi:Addr}
  {de1 de2:Option Addr} {de3:Array (Option Value)} {de4 de5 de6 de7 Rq de8:Value} {Bj:Addr}
  {de9 df0:Option Addr} {df1:Array (Option Value)} {df2 df3 df4 df5 Rt df6:Value} {nB:Addr}
  {df7 df8:Option Addr} {df9:Array (Option Value)} {dg0 dg1 dg2 dg3 Ru dg4:Value} {Bk:Addr}
  {dg5 dg6:Option Addr} {dg7:Array (Option Value)} {dg8 dg9 dh0 dh1 Rv dh2:Value} {vf:Addr}
  {dh3 dh4:Option Addr} {dh5:Array (Option Value)} {dh6 dh7 dh8 dh9 Rw di0:Value} {vg:Addr}
  {di1 di2:Option Addr} {di3:Array (Option Value)} {di4 di5 di6 di7 Rx di8:Value} {Bl:Addr}
  {di9 dj0:Option Addr} {dj1:Array (Option Value)} {dj2 dj3 dj4 dj5 Ry dj6:Value} {vh:Addr}
  {dj7 dj8:Option Addr} {dj9:Array (Option Value)} {dk0 dk1 dk2 dk3 Rz dk4:Value} {vi:Addr}
  {dk5 dk6:Option Addr} {dk7:Array (Option Value)} {dk8 dk9 dl0 dl1 RA dl2:Value} {Bo:Addr}
  {dl3 dl4:Option Addr} {dl5:Array (Option Value)} {dl6 dl7 dl8 dl9 RB dm0:Value} {se:Addr}
  {dm1 dm2:Option Addr} {dm3:Array (Option Value)} {dm4 dm5 dm6 dm7 RC dm8:Value} {vj:Addr}
  {dm9 dn0:Option Addr} {dn1:Array (Option Value)} {dn2 dn3 dn4 dn5 RD dn6:Value} {vk:Addr}
  {dn7 dn8:Option Addr} {dn9:Array (Option Value)} {do0 do1 do2 do3 RE do4:Value} {vm:Addr}
  {do5 do6:Option Addr} {do7:Array (Option Value)} {do8 do9 dp0 dp1 RF dp2:Value} {vn:Addr}
  {dp3 dp4:Option Addr} {dp5:Array (Option Value)} {dp6 dp7 dp8 dp9 RG dq0:Value} {vo:Addr}
  {dq1 dq2:Option Addr} {dq3:Array (Option Value)} {dq4 dq5 dq6 dq7 RH dq8:Value} {vp:Addr}
  {dq9 dr0:Option Addr} {dr1:Array (Option Value)} {dr2 dr3 dr4 dr5 RI dr6:Value} {Bp:Addr}
  {dr7 dr8:Option Addr} {dr9:Array (Option Value)} {ds0 ds1 ds2 ds3 RJ ds4:Value} {Bq:Addr}
  {ds5 ds6:Option Addr} {ds7:Array (Option Value)} {ds8 ds9 dt0 dt1 RK dt2:Value} {Br:Addr}
  {dt3 dt4:Option Addr} {dt5:Array (Option Value)} {dt6 dt7 dt8 dt9 RL du0:Value} {Bt:Addr}
  {du1 du2:Option Addr} {du3:Array (Option Value)} {du4 du5 du6 du7 RM du8:Value} {Bu:Addr}
  {du9 dv0:Option Addr} {dv1:Array (Option Value)} {dv2 dv3 dv4 dv5 RN dv6:Value} {Bv:Addr}
  {dv7 dv8:Option Addr} {dv9:Array (Option Value)} {dw0 dw1 dw2 dw3 RO dw4:Value} {Bw:Addr}
  {dw5 dw6:Option Addr} {dw7:Array (Option Value)} {dw8 dw9 dx0 dx1 RP dx2:Value} {By:Addr}
  {dx3 dx4:Option Addr} {dx5:Array (Option Value)} {dx6 dx7 dx8 dx9 RQ dy0:Value} {BA:Addr}
  {dy1 dy2:Option Addr} {dy3:Array (Option Value)} {dy4 dy5 dy6 dy7 RR dy8:Value} {BB:Addr}
  {dy9 dz0:Option Addr} {dz1:Array (Option Value)} {dz2 dz3 dz4 dz5 RT dz6:Value} {BC:Addr}
  {dz7 dz8:Option Addr} {dz9:Array (Option Value)} {dA0 dA1 dA2 dA3 RU dA4:Value} {BD:Addr}
  {dA5 dA6:Option Addr} {dA7:Array (Option Value)} {dA8 dA9 dB0 dB1 RV dB2:Value} {BE:Addr}
  {dB3 RW:Option Addr} {dB4:Array (Option Value)} {dB5 RX RY RZ HA R0:Value} {HB:Addr}
  {aL fm jc aM:Addr}
  (yn:nsIn K mainGlobals "BitField"=some (some (.ref aL)))
  (yo:nsIn K mainGlobals "ByNought"=some (some (.ref fm)))
  (vd:nsIn K mainGlobals "Field"=some (some (.ref jc)))
  (yp:nsIn K mainGlobals "PrimeField"=some (some (.ref aM)))
  (a0:nsIn K mainGlobals "_law_told"=some (some (.ref f0)))
  (l0:K.lookup f0=some ⟨oc0,od0,.func (fnOf "_law_told" "_law_told" (bq ud) (aY ud) (ax ud) .none kV0 dc0 pm0 an0 Q7 Fl),sl0⟩)
  (c0:codeIn K Q7 "_law_told"=true)
  (k0:keepIn K (.ref f0)=true)
  (a1:nsIn K mainGlobals "powers_of"=some (some (.ref f1)))
  (l1:K.lookup f1=some ⟨oc1,od1,.func (fnOf "powers_of" "powers_of" (bq ue) (aY ue) (ax ue) .none kV1 dc1 pm1 an1 Q8 Fm),sl1⟩)
  (c1:codeIn K Q8 "powers_of"=true)
  (k1:keepIn K (.ref f1)=true)
  (a2:nsIn K mainGlobals "step_powers"=some (some (.ref f2)))
  (l2:K.lookup f2=some ⟨oc2,od2,.func (fnOf "step_powers" "step_powers" (bq uf) (aY uf) (ax uf) .none kV2 dc2 pm2 an2 Q9 ct2),sl2⟩)
  (c2:codeIn K Q9 "step_powers"=true)
  (k2:keepIn K (.ref f2)=true)
  (a3:nsIn K mainGlobals "logs_of"=some (some (.ref f3)))
  (l3:K.lookup f3=some ⟨oc3,od3,.func (fnOf "logs_of" "logs_of" (bq ug) (aY ug) (ax ug) .none kV3 dc3 pm3 an3 Ra ct3),sl3⟩)
  (c3:codeIn K Ra "logs_of"=true)
  (k3:keepIn K (.ref f3)=true)
  (a4:findIn K (.ref jc) "step_power"=some (some (.ref f4)))
  (l4:K.lookup f4=some ⟨oc4,od4,.func (fnOf "step_power" "Field.step_power" (bq uh) (aY uh) (ax uh) .none kV4 dc4 pm4 an4 Rb ct4),sl4⟩)
  (c4:codeIn K Rb "Field.step_power"=true)
  (k4:keepIn K (.ref f4)=true)
  (a5:findIn K (.ref jc) "__init__"=some (some (.ref f5)))
  (l5:K.lookup f5=some ⟨oc5,od5,.func (fnOf "__init__" "Field.__init__" (bq ui) (aY ui) (ax ui) .none kV5 dc5 pm5 an5 Rc ct5),sl5⟩)
  (c5:codeIn K Rc "Field.__init__"=true)
  (k5:keepIn K (.ref f5)=true)
  (a6:nsIn K mainGlobals "makes_prime_field"=some (some (.ref f6)))
  (l6:K.lookup f6=some ⟨oc6,od6,.func (fnOf "makes_prime_field" "makes_prime_field" (bq uj) (aY uj) (ax uj) .none kV6 dc6 pm6 an6 Rh ct6),sl6⟩)
  (c6:codeIn K Rh "makes_prime_field"=true)
  (k6:keepIn K (.ref f6)=true)
  (a7:findIn K (.ref aM) "__init__"=some (some (.ref f7)))
  (l7:K.lookup f7=some ⟨oc7,od7,.func (fnOf "__init__" "PrimeField.__init__" (bq kS) (aY kS) (ax kS) .none kV7 dc7 pm7 an7 (.ref yr) ct7),sl7⟩)
  (c7:codeIn K (.ref yr) "PrimeField.__init__"=true)
  (k7:keepIn K (.ref f7)=true)
  (R1:K.lookup yr=some ⟨aE3,aE1,.fields Ri,aE2⟩)
  (R3:Ri[11]?=some (.ref ja))
  (HC:codeHdIn K yr ja=true)
  (a8:nsIn K mainGlobals "product_rows"=some (some (.ref f8)))
  (l8:K.lookup f8=some ⟨oc8,od8,.func (fnOf "product_rows" "product_rows" (bq uk) (aY uk) (ax uk) .none kV8 dc8 pm8 an8 Rj ct8),sl8⟩)
  (c8:codeIn K Rj "product_rows"=true)
  (k8:keepIn K (.ref f8)=true)
  (a9:nsIn K mainGlobals "bits_divided"=some (some (.ref f9)))
  (l9:K.lookup f9=some ⟨oc9,od9,.func (fnOf "bits_divided" "bits_divided" (bq um) (aY um) (ax um) .none kV9 dc9 pm9 an9 Rk ct9),sl9⟩)
  (c9:codeIn K Rk "bits_divided"=true)
  (k9:keepIn K (.ref f9)=true)
  (HD:nsIn K mainGlobals "stands_alone"=some (some (.ref Bg)))
  (HE:K.lookup Bg=some ⟨c91,c88,.func (fnOf "stands_alone" "stands_alone" (bq uq) (aY uq) (ax uq) .none c92 c93 c94 c89 Rl c95),c90⟩)
  (HF:codeIn K Rl "stands_alone"=true)
  (HG:keepIn K (.ref Bg)=true)
  (HH:nsIn K mainGlobals "makes_bit_field"=some (some (.ref Bh)))
  (HI:K.lookup Bh=some ⟨c99,c96,.func (fnOf "makes_bit_field" "makes_bit_field" (bq ur) (aY ur) (ax ur) .none da0 da1 da2 c97 Rm da3),c98⟩)
  (HJ:codeIn K Rm "makes_bit_field"=true)
  (HK:keepIn K (.ref Bh)=true)
  (HL:nsIn K mainGlobals "bits_times"=some (some (.ref jA)))
  (HM:K.lookup jA=some ⟨da7,da4,.func (fnOf "bits_times" "bits_times" (bq uu) (aY uu) (ax uu) .none da8 da9 db0 da5 Rn db1),da6⟩)
  (HN:codeIn K Rn "bits_times"=true)
  (HP:keepIn K (.ref jA)=true)
  (R4:findIn K (.ref aL) "__init__"=some (some (.ref ve)))
  (HQ:K.lookup ve=some ⟨db5,db2,.func (fnOf "__init__" "BitField.__init__" (bq kT) (aY kT) (ax kT) .none db6 db7 db8 db3 (.ref yt) db9),db4⟩)
  (HR:codeIn K (.ref yt) "BitField.__init__"=true)
  (HS:keepIn K (.ref ve)=true)
  (R5:K.lookup yt=some ⟨aH8,aH6,.fields Ro,aH7⟩)
  (R6:Ro[11]?=some (.ref jb))
  (HU:codeHdIn K yt jb=true)
  (HV:nsIn K mainGlobals "_law_field"=some (some (.ref Bi)))
  (HW:K.lookup Bi=some ⟨dd6,dd3,.func (fnOf "_law_field" "_law_field" (bq uv) (aY uv) (ax uv) .none dd7 dd8 dd9 dd4 Rp de0),dd5⟩)
  (HX:codeIn K Rp "_law_field"=true)
  (HY:keepIn K (.ref Bi)=true)
  (HZ:nsIn K mainGlobals "_law_many"=some (some (.ref Bj)))
  (Ia:K.lookup Bj=some ⟨de4,de1,.func (fnOf "_law_many" "_law_many" (bq uw) (aY uw) (ax uw) .none de5 de6 de7 de2 Rq de8),de3⟩)
  (Ib:codeIn K Rq "_law_many"=true)
  (Ic:keepIn K (.ref Bj)=true)
  (R7:findIn K (.ref jc) "over"=some (some (.ref nB)))
  (Ie:K.lookup nB=some ⟨df2,de9,.func (fnOf "over" "Field.over" (bq uA) (aY uA) (ax uA) .none df3 df4 df5 df0 Rt df6),df1⟩)
  (Ig:codeIn K Rt "Field.over"=true)
  (yu:keepIn K (.ref nB)=true)
  (Ih:nsIn K mainGlobals "trimmed"=some (some (.ref Bk)))
  (Ii:K.lookup Bk=some ⟨dg0,df7,.func (fnOf "trimmed" "trimmed" (bq uB) (aY uB) (ax uB) .none dg1 dg2 dg3 df8 Ru dg4),df9⟩)
  (Ij:codeIn K Ru "trimmed"=true)
  (Ik:keepIn K (.ref Bk)=true)
  (R8:findIn K (.ref aL) "lessened"=some (some (.ref vf)))
  (Il:K.lookup vf=some ⟨dg8,dg5,.func (fnOf "lessened" "BitField.lessened" (bq uC) (aY uC) (ax uC) .none dg9 dh0 dh1 dg6 Rv dh2),dg7⟩)
  (Im:codeIn K Rv "BitField.lessened"=true)
  (BF:keepIn K (.ref vf)=true)
  (R9:findIn K (.ref aM) "lessened"=some (some (.ref vg)))
  (Io:K.lookup vg=some ⟨dh6,dh3,.func (fnOf "lessened" "PrimeField.lessened" (bq uD) (aY uD) (ax uD) .none dh7 dh8 dh9 dh4 Rw di0),dh5⟩)
  (Ip:codeIn K Rw "PrimeField.lessened"=true)
  (BG:keepIn K (.ref vg)=true)
  (Iq:nsIn K mainGlobals "poly_divided"=some (some (.ref Bl)))
  (Ir:K.lookup Bl=some ⟨di4,di1,.func (fnOf "poly_divided" "poly_divided" (bq uE) (aY uE) (ax uE) .none di5 di6 di7 di2 Rx di8),di3⟩)
  (Iu:codeIn K Rx "poly_divided"=true)
  (Iw:keepIn K (.ref Bl)=true)
  (Sa:findIn K (.ref aL) "minus"=some (some (.ref vh)))
  (Iy:K.lookup vh=some ⟨dj2,di9,.func (fnOf "minus" "BitField.minus" (bq uF) (aY uF) (ax uF) .none dj3 dj4 dj5 dj0 Ry dj6),dj1⟩)
  (Iz:codeIn K Ry "BitField.minus"=true)
  (BH:keepIn K (.ref vh)=true)
  (Sb:findIn K (.ref aM) "minus"=some (some (.ref vi)))
  (IA:K.lookup vi=some ⟨dk0,dj7,.func (fnOf "minus" "PrimeField.minus" (bq uG) (aY uG) (ax uG) .none dk1 dk2 dk3 dj8 Rz dk4),dj9⟩)
  (IB:codeIn K Rz "PrimeField.minus"=true)
  (BJ:keepIn K (.ref vi)=true)
  (IC:nsIn K mainGlobals "filled"=some (some (.ref Bo)))
  (ID:K.lookup Bo=some ⟨dk8,dk5,.func (fnOf "filled" "filled" (bq uH) (aY uH) (ax uH) .none dk9 dl0 dl1 dk6 RA dl2),dk7⟩)
  (IE:codeIn K RA "filled"=true)
  (IF:keepIn K (.ref Bo)=true)
  (IG:nsIn K mainGlobals "poly_minus"=some (some (.ref se)))
  (IH:K.lookup se=some ⟨dl6,dl3,.func (fnOf "poly_minus" "poly_minus" (bq uI) (aY uI) (ax uI) .none dl7 dl8 dl9 dl4 RB dm0),dl5⟩)
  (II:codeIn K RB "poly_minus"=true)
  (IJ:keepIn K (.ref se)=true)
  (Sd:findIn K (.ref aL) "scaled"=some (some (.ref vj)))
  (IK:K.lookup vj=some ⟨dm4,dm1,.func (fnOf "scaled" "BitField.scaled" (bq uJ) (aY uJ) (ax uJ) .none dm5 dm6 dm7 dm2 RC dm8),dm3⟩)
  (IL:codeIn K RC "BitField.scaled"=true)
  (BK:keepIn K (.ref vj)=true)
  (Se:findIn K (.ref aM) "scaled"=some (some (.ref vk)))
  (IM:K.lookup vk=some ⟨dn2,dm9,.func (fnOf "scaled" "PrimeField.scaled" (bq uK) (aY uK) (ax uK) .none dn3 dn4 dn5 dn0 RD dn6),dn1⟩)
  (IQ:codeIn K RD "PrimeField.scaled"=true)
  (BL:keepIn K (.ref vk)=true)
  (Sf:findIn K (.ref aL) "plus"=some (some (.ref vm)))
  (IS:K.lookup vm=some ⟨do0,dn7,.func (fnOf "plus" "BitField.plus" (bq uL) (aY uL) (ax uL) .none do1 do2 do3 dn8 RE do4),dn9⟩)
  (IT:codeIn K RE "BitField.plus"=true)
  (BM:keepIn K (.ref vm)=true)
  (Sg:findIn K (.ref aM) "plus"=some (some (.ref vn)))
  (IU:K.lookup vn=some ⟨do8,do5,.func (fnOf "plus" "PrimeField.plus" (bq uM) (aY uM) (ax uM) .none do9 dp0 dp1 do6 RF dp2),do7⟩)
  (IV:codeIn K RF "PrimeField.plus"=true)
  (BN:keepIn K (.ref vn)=true)
  (Sh:findIn K (.ref aL) "times"=some (some (.ref vo)))
  (IW:K.lookup vo=some ⟨dp6,dp3,.func (fnOf "times" "BitField.times" (bq uN) (aY uN) (ax uN) .none dp7 dp8 dp9 dp4 RG dq0),dp5⟩)
  (IY:codeIn K RG "BitField.times"=true)
  (BO:keepIn K (.ref vo)=true)
  (Si:findIn K (.ref aM) "times"=some (some (.ref vp)))
  (IZ:K.lookup vp=some ⟨dq4,dq1,.func (fnOf "times" "PrimeField.times" (bq uO) (aY uO) (ax uO) .none dq5 dq6 dq7 dq2 RH dq8),dq3⟩)
  (Ja:codeIn K RH "PrimeField.times"=true)
  (BP:keepIn K (.ref vp)=true)
  (Jb:nsIn K mainGlobals "poly_times"=some (some (.ref Bp)))
  (Jc:K.lookup Bp=some ⟨dr2,dq9,.func (fnOf "poly_times" "poly_times" (bq uP) (aY uP) (ax uP) .none dr3 dr4 dr5 dr0 RI dr6),dr1⟩)
  (Jd:codeIn K RI "poly_times"=true)
  (Je:keepIn K (.ref Bp)=true)
  (Jf:nsIn K mainGlobals "poly_greatest"=some (some (.ref Bq)))
  (Jg:K.lookup Bq=some ⟨ds0,dr7,.func (fnOf "poly_greatest" "poly_greatest" (bq uQ) (aY uQ) (ax uQ) .none ds1 ds2 ds3 dr8 RJ ds4),dr9⟩)
  (Jh:codeIn K RJ "poly_greatest"=true)
  (Ji:keepIn K (.ref Bq)=true)
  (Jj:nsIn K mainGlobals "_law_cell"=some (some (.ref Br)))
  (Jk:K.lookup Br=some ⟨ds8,ds5,.func (fnOf "_law_cell" "_law_cell" (bq uR) (aY uR) (ax uR) .none ds9 dt0 dt1 ds6 RK dt2),ds7⟩)
  (Jl:codeIn K RK "_law_cell"=true)
  (Jm:keepIn K (.ref Br)=true)
  (Jn:nsIn K mainGlobals "_law_cut"=some (some (.ref Bt)))
  (Jo:K.lookup Bt=some ⟨dt6,dt3,.func (fnOf "_law_cut" "_law_cut" (bq uS) (aY uS) (ax uS) .none dt7 dt8 dt9 dt4 RL du0),dt5⟩)
  (Jp:codeIn K RL "_law_cut"=true)
  (Jq:keepIn K (.ref Bt)=true)
  (Jr:nsIn K mainGlobals "_law_plus"=some (some (.ref Bu)))
  (Js:K.lookup Bu=some ⟨du4,du1,.func (fnOf "_law_plus" "_law_plus" (bq uT) (aY uT) (ax uT) .none du5 du6 du7 du2 RM du8),du3⟩)
  (Jt:codeIn K RM "_law_plus"=true)
  (Ju:keepIn K (.ref Bu)=true)
  (Jv:nsIn K mainGlobals "_law_times"=some (some (.ref Bv)))
  (Jw:K.lookup Bv=some ⟨dv2,du9,.func (fnOf "_law_times" "_law_times" (bq uU) (aY uU) (ax uU) .none dv3 dv4 dv5 dv0 RN dv6),dv1⟩)
  (Jx:codeIn K RN "_law_times"=true)
  (Jy:keepIn K (.ref Bv)=true)
  (Jz:nsIn K mainGlobals "_law_product"=some (some (.ref Bw)))
  (JA:K.lookup Bw=some ⟨dw0,dv7,.func (fnOf "_law_product" "_law_product" (bq uW) (aY uW) (ax uW) .none dw1 dw2 dw3 dv8 RO dw4),dv9⟩)
  (JB:codeIn K RO "_law_product"=true)
  (JC:keepIn K (.ref Bw)=true)
  (JE:nsIn K mainGlobals "_law_sum"=some (some (.ref By)))
  (JF:K.lookup By=some ⟨dw8,dw5,.func (fnOf "_law_sum" "_law_sum" (bq uX) (aY uX) (ax uX) .none dw9 dx0 dx1 dw6 RP dx2),dw7⟩)
  (JG:codeIn K RP "_law_sum"=true)
  (JH:keepIn K (.ref By)=true)
  (JI:nsIn K mainGlobals "_law_less"=some (some (.ref BA)))
  (JJ:K.lookup BA=some ⟨dx6,dx3,.func (fnOf "_law_less" "_law_less" (bq uY) (aY uY) (ax uY) .none dx7 dx8 dx9 dx4 RQ dy0),dx5⟩)
  (JK:codeIn K RQ "_law_less"=true)
  (JL:keepIn K (.ref BA)=true)
  (JM:nsIn K mainGlobals "_law_goes"=some (some (.ref BB)))
  (JN:K.lookup BB=some ⟨dy4,dy1,.func (fnOf "_law_goes" "_law_goes" (bq uZ) (aY uZ) (ax uZ) .none dy5 dy6 dy7 dy2 RR dy8),dy3⟩)
  (JO:codeIn K RR "_law_goes"=true)
  (JP:keepIn K (.ref BB)=true)
  (JQ:nsIn K mainGlobals "_law_whole"=some (some (.ref BC)))
  (JR:K.lookup BC=some ⟨dz2,dy9,.func (fnOf "_law_whole" "_law_whole" (bq u3) (aY u3) (ax u3) .none dz3 dz4 dz5 dz0 RT dz6),dz1⟩)
  (JS:codeIn K RT "_law_whole"=true)
  (JT:keepIn K (.ref BC)=true)
  (JU:nsIn K mainGlobals "_law_signs"=some (some (.ref BD)))
  (JV:K.lookup BD=some ⟨dA0,dz7,.func (fnOf "_law_signs" "_law_signs" (bq u4) (aY u4) (ax u4) .none dA1 dA2 dA3 dz8 RU dA4),dz9⟩)
  (JW:codeIn K RU "_law_signs"=true)
  (JX:keepIn K (.ref BD)=true)
  (JY:nsIn K mainGlobals "_law_poly"=some (some (.ref BE)))
  (JZ:K.lookup BE=some ⟨dA8,dA5,.func (fnOf "_law_poly" "_law_poly" (bq u5) (aY u5) (ax u5) .none dA9 dB0 dB1 dA6 RV dB2),dA7⟩)
  (J0:codeIn K RV "_law_poly"=true)
  (J1:keepIn K (.ref BE)=true)
  (BQ:nsIn K mainGlobals "law"=some (some (.ref HB)))
  (J2:K.lookup HB=some ⟨dB5,dB3,.func (fnOf "law" "law" (bq kU) (aY kU) (ax kU) .none RX RY RZ RW HA R0),dB4⟩)
  (J3:codeIn K HA "law"=true)
  (J4:keepIn K (.ref HB)=true)
  (BR:PySem.W.plainGet K aL Str.empty=true)
  (BS:PySem.W.hasDictIn K aL=true)
  (BU:PySem.W.plainOver K aL=true)
  (BV:findIn K (.ref aL) "__setattr__"=some (some (.builtin "object.__setattr__")))
  (xV:PySem.W.makesIn K aL=true)
  (J5:findIn K (.ref aL) "__init__"=some (some (.ref ve)))
  (J6:isFn K (.ref ve)=true)
  (J7:keepIn K (.ref aL)=true)
  (J8:findIn K (.ref aL) "__class__"=some (some (.builtin "object.__class__")))
  (J9:specialIn K (.builtin "object.__class__") "__get__"=some (some (.builtin "getset_descriptor.__get__")))
  (Ka:takesIn K (.builtin "object.__class__")=some true)
  (Kb:mroIn K aL (.type "object")=some true)
  (xW:findIn K (.ref aL) "bits"=some none)
  (nu:findIn K (.ref aL) "logs"=some none)
  (u6:findIn K (.ref aL) "many"=some none)
  (qT:findIn K (.ref aL) "powers"=some none)
  (AV:findIn K (.ref aL) "prime"=some none)
  (nv:findIn K (.ref aL) "products"=some none)
  (xX:findIn K (.ref aL) "step"=some none)
  (xY:findIn K (.ref aL) "wide"=some none)
  (xZ:findIn K (.ref aL) "lessened"=some (some (.ref vf)))
  (Kd:isFn K (.ref vf)=true)
  (x3:findIn K (.ref aL) "minus"=some (some (.ref vh)))
  (Ke:isFn K (.ref vh)=true)
  (x4:findIn K (.ref aL) "over"=some (some (.ref nB)))
  (Kf:isFn K (.ref nB)=true)
  (x6:findIn K (.ref aL) "plus"=some (some (.ref vm)))
  (Kg:isFn K (.ref vm)=true)
  (x8:findIn K (.ref aL) "scaled"=some (some (.ref vj)))
  (Kh:isFn K (.ref vj)=true)
  (u7:findIn K (.ref aL) "step_power"=some (some (.ref f4)))
  (Ki:isFn K (.ref f4)=true)
  (x9:findIn K (.ref aL) "times"=some (some (.ref vo)))
  (Kj:isFn K (.ref vo)=true)
  (BW:PySem.W.plainGet K aM Str.empty=true)
  (BX:PySem.W.hasDictIn K aM=true)
  (BY:PySem.W.plainOver K aM=true)
  (BZ:findIn K (.ref aM) "__setattr__"=some (some (.builtin "object.__setattr__")))
  (ya:PySem.W.makesIn K aM=true)
  (Kk:findIn K (.ref aM) "__init__"=some (some (.ref f7)))
  (Kl:isFn K (.ref f7)=true)
  (Km:keepIn K (.ref aM)=true)
  (Kn:findIn K (.ref aM) "__class__"=some (some (.builtin "object.__class__")))
  (Ko:specialIn K (.builtin "object.__class__") "__get__"=some (some (.builtin "getset_descriptor.__get__")))
  (Kp:takesIn K (.builtin "object.__class__")=some true)
  (Kq:mroIn K aM (.type "object")=some true)
  (AW:findIn K (.ref aM) "bits"=some none)
  (qU:findIn K (.ref aM) "logs"=some none)
  (u9:findIn K (.ref aM) "many"=some none)
  (va:findIn K (.ref aM) "powers"=some none)
  (jQ:findIn K (.ref aM) "prime"=some none)
  (AX:findIn K (.ref aM) "products"=some none)
  (yb:findIn K (.ref aM) "step"=some none)
  (yc:findIn K (.ref aM) "wide"=some none)
  (yd:findIn K (.ref aM) "lessened"=some (some (.ref vg)))
  (Kr:isFn K (.ref vg)=true)
  (ye:findIn K (.ref aM) "minus"=some (some (.ref vi)))
  (Ks:isFn K (.ref vi)=true)
  (yf:findIn K (.ref aM) "over"=some (some (.ref nB)))
  (Kt:isFn K (.ref nB)=true)
  (yg:findIn K (.ref aM) "plus"=some (some (.ref vn)))
  (Ku:isFn K (.ref vn)=true)
  (yh:findIn K (.ref aM) "scaled"=some (some (.ref vk)))
  (Kv:isFn K (.ref vk)=true)
  (vb:findIn K (.ref aM) "step_power"=some (some (.ref f4)))
  (Kw:isFn K (.ref f4)=true)
  (yi:findIn K (.ref aM) "times"=some (some (.ref vp)))
  (Kx:isFn K (.ref vp)=true)
  (Ky:specialIn K (.ref jc) "__getattribute__"=some (some (.builtin "type.__getattribute__")))
  (at2:PySem.W.readsIn K jc (.type "type")=true)
  (Kz:PySem.W.findCls K (.ref jc) (.type "type") "__init__"=some (.val (.ref f5)))
  (KA:nsIn K mainGlobals "all"=some none)
  (KC:nsIn K mainGlobals "any"=some none)
  (KD:nsIn K mainGlobals "bool"=some none)
  (KG:nsIn K mainGlobals "enumerate"=some none)
  (KH:nsIn K mainGlobals "int"=some none)
  (KI:nsIn K mainGlobals "isinstance"=some none)
  (KJ:nsIn K mainGlobals "len"=some none)
  (KL:nsIn K mainGlobals "list"=some none)
  (KN:nsIn K mainGlobals "max"=some none)
  (KO:nsIn K mainGlobals "range"=some none)
  (KP:nsIn K mainGlobals "tuple"=some none)
  (KQ:nsIn K mainGlobals "zip"=some none)
  (KR:(PySem.W.clsIn K fm).isSome=true)
  (Sj:PySem.W.typeIn K (.ref fm)=some (.type "type"))
  (KS:PySem.W.excIn K fm [.type "ValueError",.type "Exception",.type "BaseException",.type "object"] "ValueError.__new__"=true)
  (KU:findIn K (.ref fm) "__getattribute__"=some (some (.builtin "BaseException.__getattribute__")))
  (KW:findIn K (.ref fm) "__getattr__"=some none)
  (KY:findIn K (.ref fm) "__class__"=some (some (.builtin "object.__class__")))
  (KZ:specialIn K (.builtin "object.__class__") "__get__"=some (some (.builtin "getset_descriptor.__get__")))
  (K0:takesIn K (.builtin "object.__class__")=some true)
  (K1:mroIn K fm (.type "object")=some true)
  (K2:mroIn K fm (.type "BaseException")=some true)
  (nl:K.all (λp=>Er p.2)=true)
  (sub:∀P∈[ja,jb],P∈ts) :
  ∃fd:FuncData,(∀(s:Shared) (v:Value),BindsTo s fd ⟨[v],[]⟩ [("_law_script",v)])/\∀base:Heap,K.In base->base.Ns mainGlobals mg->Bm mg base->aO l.prog w K mg base aS 11 fa fd ["_law_script"] (zS ts K):=by
 have e:=hfa.symm.trans (mg_of X G BQ)
 cases e
 have F0:=bH (st:=ud) l0 c0 k0
 have b0:=F0.binds (ps:=["_law_cell_here"]) λ_ _ _ _ _ _=>iC (λ_=>rfl)
 have F1:=bH (st:=ue) l1 c1 k1
 have b1:=F1.binds (ps:=["a","product"]) λ_ _ _ _ _ _=>ie (λ_ _=>rfl)
 have F2:=bH (st:=uf) l2 c2 k2
 have b2:=F2.binds (ps:=["many","product"]) λ_ _ _ _ _ _=>ie (λ_ _=>rfl)
 have F3:=bH (st:=ug) l3 c3 k3
 have b3:=F3.binds (ps:=["powers"]) λ_ _ _ _ _ _=>iC (λ_=>rfl)
 have F4:=bH (st:=uh) l4 c4 k4
 have b4:=F4.binds (ps:=["self","n"]) λ_ _ _ _ _ _=>ie (λ_ _=>rfl)
 have F5:=bH (st:=ui) l5 c5 k5
 have b5:=F5.binds (ps:=["self","many","product"]) λ_ _ _ _ _ _=>et (λ_ _ _=>rfl)
 have F6:=bH (st:=uj) l6 c6 k6
 have b6:=F6.binds (ps:=["prime"]) λ_ _ _ _ _ _=>iC (λ_=>rfl)
 have F7:=bH (st:=kS) l7 c7 k7
 have b7:=F7.binds (ps:=["self","prime"]) λ_ _ _ _ _ _=>ie (λ_ _=>rfl)
 have F8:=bH (st:=uk) l8 c8 k8
 have b8:=F8.binds (ps:=["powers","logs"]) λ_ _ _ _ _ _=>ie (λ_ _=>rfl)
 have F9:=bH (st:=um) l9 c9 k9
 have b9:=F9.binds (ps:=["a","b"]) λ_ _ _ _ _ _=>ie (λ_ _=>rfl)
 have Sk:=bH (st:=uq) HE HF HG
 have b10:=Sk.binds (ps:=["a"]) λ_ _ _ _ _ _=>iC (λ_=>rfl)
 have Sl:=bH (st:=ur) HI HJ HK
 have b11:=Sl.binds (ps:=["bits"]) λ_ _ _ _ _ _=>iC (λ_=>rfl)
 have Sm:=bH (st:=uu) HM HN HP
 have b12:=Sm.binds (ps:=["a","b"]) λ_ _ _ _ _ _=>ie (λ_ _=>rfl)
 have Sn:=bH (st:=kT) HQ HR HS
 have b13:=Sn.binds (ps:=["self","bits"]) λ_ _ _ _ _ _=>ie (λ_ _=>rfl)
 have So:=bH (st:=uv) HW HX HY
 have b14:=So.binds (ps:=["_law_told_here"]) λ_ _ _ _ _ _=>iC (λ_=>rfl)
 have Sq:=bH (st:=uw) Ia Ib Ic
 have b15:=Sq.binds (ps:=["_law_told_here"]) λ_ _ _ _ _ _=>iC (λ_=>rfl)
 have Sr:=bH (st:=uA) Ie Ig yu
 have b16:=Sr.binds (ps:=["self","a","b"]) λ_ _ _ _ _ _=>et (λ_ _ _=>rfl)
 have Ss:=bH (st:=uB) Ii Ij Ik
 have b17:=Ss.binds (ps:=["a"]) λ_ _ _ _ _ _=>iC (λ_=>rfl)
 have Su:=bH (st:=uC) Il Im BF
 have b18:=Su.binds (ps:=["self","row","a","other"]) λ_ _ _ _ _ _=>PK (λ_ _ _ _=>rfl)
 have Sv:=bH (st:=uD) Io Ip BG
 have b19:=Sv.binds (ps:=["self","row","a","other"]) λ_ _ _ _ _ _=>PK (λ_ _ _ _=>rfl)
 have Sw:=bH (st:=uE) Ir Iu Iw
 have b20:=Sw.binds (ps:=["field","a","b"]) λ_ _ _ _ _ _=>et (λ_ _ _=>rfl)
 have Sx:=bH (st:=uF) Iy Iz BH
 have b21:=Sx.binds (ps:=["self","a","b"]) λ_ _ _ _ _ _=>et (λ_ _ _=>rfl)
 have Sy:=bH (st:=uG) IA IB BJ
 have b22:=Sy.binds (ps:=["self","a","b"]) λ_ _ _ _ _ _=>et (λ_ _ _=>rfl)
 have Sz:=bH (st:=uH) ID IE IF
 have b23:=Sz.binds (ps:=["a","length"]) λ_ _ _ _ _ _=>ie (λ_ _=>rfl)
 have SA:=bH (st:=uI) IH II IJ
 have b24:=SA.binds (ps:=["field","a","b"]) λ_ _ _ _ _ _=>et (λ_ _ _=>rfl)
 have SD:=bH (st:=uJ) IK IL BK
 have b25:=SD.binds (ps:=["self","a","row"]) λ_ _ _ _ _ _=>et (λ_ _ _=>rfl)
 have SE:=bH (st:=uK) IM IQ BL
 have b26:=SE.binds (ps:=["self","a","row"]) λ_ _ _ _ _ _=>et (λ_ _ _=>rfl)
 have SF:=bH (st:=uL) IS IT BM
 have b27:=SF.binds (ps:=["self","a","b"]) λ_ _ _ _ _ _=>et (λ_ _ _=>rfl)
 have SG:=bH (st:=uM) IU IV BN
 have b28:=SG.binds (ps:=["self","a","b"]) λ_ _ _ _ _ _=>et (λ_ _ _=>rfl)
 have SH:=bH (st:=uN) IW IY BO
 have b29:=SH.binds (ps:=["self","a","b"]) λ_ _ _ _ _ _=>et (λ_ _ _=>rfl)
 have SI:=bH (st:=uO) IZ Ja BP
 have b30:=SI.binds (ps:=["self","a","b"]) λ_ _ _ _ _ _=>et (λ_ _ _=>rfl)
 have SJ:=bH (st:=uP) Jc Jd Je
 have b31:=SJ.binds (ps:=["field","a","b"]) λ_ _ _ _ _ _=>et (λ_ _ _=>rfl)
 have SK:=bH (st:=uQ) Jg Jh Ji
 have b32:=SK.binds (ps:=["field","a","b"]) λ_ _ _ _ _ _=>et (λ_ _ _=>rfl)
 have SM:=bH (st:=uR) Jk Jl Jm
 have b33:=SM.binds (ps:=["_law_script","_law_k"]) λ_ _ _ _ _ _=>ie (λ_ _=>rfl)
 have SN:=bH (st:=uS) Jo Jp Jq
 have b34:=SN.binds (ps:=["_law_row"]) λ_ _ _ _ _ _=>iC (λ_=>rfl)
 have SO:=bH (st:=uT) Js Jt Ju
 have b35:=SO.binds (ps:=["_law_told_here","_law_a","_law_b"]) λ_ _ _ _ _ _=>et (λ_ _ _=>rfl)
 have SQ:=bH (st:=uU) Jw Jx Jy
 have b36:=SQ.binds (ps:=["_law_told_here","_law_a","_law_b"]) λ_ _ _ _ _ _=>et (λ_ _ _=>rfl)
 have SR:=bH (st:=uW) JA JB JC
 have b37:=SR.binds (ps:=["_law_told_here","_law_a","_law_b"]) λ_ _ _ _ _ _=>et (λ_ _ _=>rfl)
 have SS:=bH (st:=uX) JF JG JH
 have b38:=SS.binds (ps:=["_law_told_here","_law_a","_law_b"]) λ_ _ _ _ _ _=>et (λ_ _ _=>rfl)
 have SU:=bH (st:=uY) JJ JK JL
 have b39:=SU.binds (ps:=["_law_told_here","_law_a","_law_b"]) λ_ _ _ _ _ _=>et (λ_ _ _=>rfl)
 have SV:=bH (st:=uZ) JN JO JP
 have b40:=SV.binds (ps:=["_law_told_here","_law_a","_law_low"]) λ_ _ _ _ _ _=>et (λ_ _ _=>rfl)
 have SW:=bH (st:=u3) JR JS JT
 have b41:=SW.binds (ps:=["_law_x"]) λ_ _ _ _ _ _=>iC (λ_=>rfl)
 have SX:=bH (st:=u4) JV JW JX
 have b42:=SX.binds (ps:=["_law_found","_law_many_here"]) λ_ _ _ _ _ _=>ie (λ_ _=>rfl)
 have SY:=bH (st:=u5) JZ J0 J1
 have b43:=SY.binds (ps:=["_law_found","_law_many_here"]) λ_ _ _ _ _ _=>ie (λ_ _=>rfl)
 have S0:=bH (st:=kU) J2 J3 J4
 have b44:=S0.binds (ps:=["_law_script"]) λ_ _ _ _ _ _=>iC (λ_=>rfl)
 have T:Txt K mg ⟨f0,_,f1,_,f2,_,f3,_,f4,_,f5,_,f6,_,f7,_,f8,_,f9,_,Bg,_,Bh,_,jA,_,ve,_,Bi,_,Bj,_,nB,_,Bk,_,vf,_,vg,_,Bl,_,vh,_,vi,_,Bo,_,se,_,vj,_,vk,_,vm,_,vn,_,vo,_,vp,_,Bp,_,Bq,_,Br,_,Bt,_,Bu,_,Bv,_,Bw,_,By,_,BA,_,BB,_,BC,_,BD,_,BE,_,fa,_,yr,ja,yt,jb,aL,fm,jc,aM⟩:=⟨F0,mg_of X G a0,b0,F1,mg_of X G a1,b1,F2,mg_of X G a2,b2,F3,mg_of X G a3,b3,F4,b4,F5,b5,F6,mg_of X G a6,b6,F7,b7,F8,mg_of X G a8,b8,F9,mg_of X G a9,b9,Sk,mg_of X G HD,b10,Sl,mg_of X G HH,b11,Sm,mg_of X G HL,b12,Sn,b13,So,mg_of X G HV,b14,Sq,mg_of X G HZ,b15,Sr,b16,Ss,mg_of X G Ih,b17,Su,b18,Sv,b19,Sw,mg_of X G Iq,b20,Sx,b21,Sy,b22,Sz,mg_of X G IC,b23,SA,mg_of X G IG,b24,SD,b25,SE,b26,SF,b27,SG,b28,SH,b29,SI,b30,SJ,mg_of X G Jb,b31,SK,mg_of X G Jf,b32,SM,mg_of X G Jj,b33,SN,mg_of X G Jn,b34,SO,mg_of X G Jr,b35,SQ,mg_of X G Jv,b36,SR,mg_of X G Jz,b37,SS,mg_of X G JE,b38,SU,mg_of X G JI,b39,SV,mg_of X G JM,b40,SW,mg_of X G JQ,b41,SX,mg_of X G JU,b42,SY,mg_of X G JY,b43,S0,mg_of X G BQ,b44,rfl,HC,rfl,HU,⟨BR,BS,BU,BV⟩,⟨xV,J5,J6,J7⟩,⟨⟨BR,BS,BU,BV⟩,J8,J9,Ka,Kb⟩,xW,nu,u6,qT,AV,nv,xX,xY,⟨xZ,Kd,BF⟩,⟨x3,Ke,BH⟩,⟨x4,Kf,yu⟩,⟨x6,Kg,BM⟩,⟨x8,Kh,BK⟩,⟨u7,Ki,k4⟩,⟨x9,Kj,BO⟩,⟨BW,BX,BY,BZ⟩,⟨ya,Kk,Kl,Km⟩,⟨⟨BW,BX,BY,BZ⟩,Kn,Ko,Kp,Kq⟩,AW,qU,u9,va,jQ,AX,yb,yc,⟨yd,Kr,BG⟩,⟨ye,Ks,BJ⟩,⟨yf,Kt,yu⟩,⟨yg,Ku,BN⟩,⟨yh,Kv,BL⟩,⟨vb,Kw,k4⟩,⟨yi,Kx,BP⟩,⟨Ky,at2,Kz,k5⟩,mg_none_of X G KA,mg_none_of X G KC,mg_none_of X G KD,mg_none_of X G KG,mg_none_of X G KH,mg_none_of X G KI,mg_none_of X G KJ,mg_none_of X G KL,mg_none_of X G KN,mg_none_of X G KO,mg_none_of X G KP,mg_none_of X G KQ,mg_of X G yn,mg_of X G yo,mg_of X G vd,mg_of X G yp,Y6 (mg_of X G yo) KS,⟨KR,KU,KW,KY,KZ,K0,K1,K2⟩⟩
 exact⟨fnOf "law" "law" (bq kU) (aY kU) (ax kU) .none RX RY RZ RW HA R0,λs v=>.of_eq rfl,λbase _ _ hB=>(cl9 T hB).imp λvs H Q E h=>let z:=Zn nl h;⟨λP hP=>z.1 P (sub P hP),z.2⟩⟩
theorem aE4{K:Frag}{h:Heap}{c f k P:Addr}{od an:Option Addr}{sl:Array (Option Value)}{oc kV dc pm ct kt:Value}{ko:Option Addr}{ks:Array (Option Value)}{kf:Array Value}(X:K.In h)(a:nsIn K mainGlobals "PrimeField"=some (some (.ref c)))(b:findIn K (.ref c) "__init__"=some (some (.ref f)))
  (l:K.lookup f=some ⟨oc,od,.func (fnOf "__init__" "PrimeField.__init__" (bq kS) (aY kS) (ax kS) .none kV dc pm an (.ref k) ct),sl⟩) (lk:K.lookup k=some ⟨kt,ko,.fields kf,ks⟩) (lp:kf[11]?=some (.ref P)) (n:K.lookup P=none) (e:codeHdIn K k P=true):K.lookup P=none/\∃c,CodeHd h c P:=⟨n,k,PySem.W.codeHd_of_K X e⟩
theorem aH9{K:Frag}{h:Heap}{c f k P:Addr}{od an:Option Addr}{sl:Array (Option Value)}{oc kV dc pm ct kt:Value}{ko:Option Addr}{ks:Array (Option Value)}{kf:Array Value}(X:K.In h)(a:nsIn K mainGlobals "BitField"=some (some (.ref c)))(b:findIn K (.ref c) "__init__"=some (some (.ref f)))
  (l:K.lookup f=some ⟨oc,od,.func (fnOf "__init__" "BitField.__init__" (bq kT) (aY kT) (ax kT) .none kV dc pm an (.ref k) ct),sl⟩) (lk:K.lookup k=some ⟨kt,ko,.fields kf,ks⟩) (lp:kf[11]?=some (.ref P)) (n:K.lookup P=none) (e:codeHdIn K k P=true):K.lookup P=none/\∃c,CodeHd h c P:=⟨n,k,PySem.W.codeHd_of_K X e⟩
theorem walk{l:PySem.W.OpenLaw}{q:Program}{loose:List Str}{XP:(Str->Option Value)->Heap->Prop}{YP:World->Heap->Prop}{d:DefRec}{K:Params->Frag}{ts:List Addr}(hn:l.most=some 63)(wj:d.params.defaults=[])
  (hY:∀(w:World) (h:Heap),YP w h->(K w.params).In h/\∀P∈ts,h.get? P=some (PySem.W.tabObj #[]))
  (hC:∀(w:World) (h:Heap),(K w.params).In h->∀P∈ts,(K w.params).lookup P=none/\∃c,CodeHd h c P)
  (F:∀(w:World) (mg:Str->Option Value) (fa:Addr) (h:Heap),(K w.params).In h->h.Ns mainGlobals mg->mg d.name=some (.ref fa) ->
   ∃fd:FuncData,(∀(s:Shared) (u:Value),BindsTo s fd ⟨[u],[]⟩ [("_law_script",u)])/\∀base:Heap,(K w.params).In base->base.Ns mainGlobals mg->Bm mg base->aO l.prog w (K w.params) mg base aS 11 fa fd ["_law_script"] (zS ts (K w.params))) :
  PySem.W.WalkO q loose XP YP l.row.toRowW d [] (λf vs=>PySem.call f vs) :=
 L2.Zm (n:=63) (k:=11) (x:="_law_script") (CX:=λ_=>aS) (sp:=λw=>zS ts (K w.params)) hn (by decide) wj ⟨rfl,by decide,by decide⟩ hY hC F (λ_ _ a ns hl hO hS=>⟨a,ns,rfl,hO,hS,hl,λ_=>rfl⟩) λ_ _ _ _ _ z=>z
end HK11
set_option genInjectivity false in
set_option genSizeOf false in
structure PySem.W.Fast:Prop where
 (tw8556751457761211392 tw2624585056198864960 tw5450547902671509632 tw4203645638043538560 tw11074671845085513952 tw15145395726729071872 tw2674283430380455232 tw2838222406735414656 tw10601689374370746752 tw15570450319398441408 tw2581132405012593152 tw1475058713745241664 tw5969808415019220544 tw15622726634957568576 tw10600538854947423840 tw5223188537477086912 tw13252404590186491712 tw14319115731794927456 tw16564394986515522432 tw6890906990549015488 tw17294848984826080192 tw9412462268783832032 tw3076913699196747744 tw10745442754549574657 tw4007573621192362049 tw4859145553904736385 tw13320037366035841185 tw2735338481442930849 tw12913096601680835745 tw11426157215627817153 tw2098729167755754689 tw16242197188440975553 tw7893589735190239649 tw16491247382599470625 tw14703978346725873217 tw4694978181410117185 tw8538799744060750401 tw6907311154854620769 tw15432587977901501089 tw14804161570635484865:True)
 (tw5610323246694704833 tw992361867223112513 tw6590243565436434241 tw2453682165166305314 tw12691171005972619394 tw12449160968478655650 tw6299845855921247458 tw16365680753517574594 tw12071761721346413026 tw12666171379574989314 tw15343679533265905218 tw7905668758114838114 tw18382101254330902114 tw18077703725968314018 tw7646241425999457058 tw15785496526749347746 tw594149104342953890 tw13317806371013735362 tw6630852545647779778 tw8062029130032621538 tw4115546478767317091 tw1712261490551599267 tw4865753857742898371 tw3642591337957595331 tw5074150615866131683 tw15181325247947203811 tw5057043372845475075 tw14058278378900903171 tw2108552912021583107 tw11222279398013304099 tw1607171360122833219 tw101547039593256291 tw18347441369069524355 tw3669036377892700547 tw16379893726425888323 tw7424781921076826723 tw14984280820958914147 tw2088230708893610595 tw1867078032992930435 tw12757589667738365635:True)
 (tw14866622055795121859 tw13530860819987959523 tw15263975402284294883 tw14429871086722364227 tw11107031966608071491 tw16133670864246270819 tw14643857675978158979 tw382593656941371299 tw12320689425815752708 tw6493155991250739236 tw17645040317839679588 tw8402238534236691652 tw16097121001453253828 tw1049575333792043236 tw15704062526054111492 tw17415499375030293764 tw11981628458922832164 tw2387999035438661988 tw16723714207730706884 tw4314405135317481028 tw5975791995383524004 tw328281300782108484 tw16161318687003844645 tw8855998020043970597 tw687018460505018437 tw3577913704177473605 tw15400502497836402821 tw4573727340125271205 tw7055766159177141413 tw17913326865077863621 tw5156045592554147013 tw13586915997731124453 tw18233366958679939333 tw14602994555882228037 tw4846234445789145445 tw16740416988809929093 tw11168593264916842917 tw5457575859712292293 tw2360114312964386277 tw4909736086538439141:True)
 (tw14245415217267809829 tw15076514348480490053 tw14704801330467370661 tw3670013001889298277 tw1147552131291767749 tw17501740838768391206 tw12204199608427607078 tw11940826893518400678 tw10676442034193153254 tw1422059012231204102 tw1542906386965509382 tw5754212230360986886 tw12350134301195192646 tw1853148489953370470 tw1159976620653318534 tw4059597991551636902 tw17596067797338856870 tw3562874213780187590 tw8039061947510039014 tw8492987352634882534 tw2688560598235815462 tw8915383022045737638 tw11081962254500260614 tw5274125555882993446 tw17565198178892665670 tw10762945329321116550 tw3828843290906610630 tw6771379890461810695 tw5197177151384889351 tw3408953114185858151 tw2467558923483507815 tw2728315485877307655 tw5769947291011369319 tw12722905992568765831 tw8689528989823959463 tw5175629542600540679 tw8868200412975073799 tw6581201609453821447 tw12267012919602609703 tw160857581704174119:True)
 (tw13813733718576194119 tw9385890991113953927 tw5648055004447960743 tw818081347723877255 tw3497179700062184327 tw7155244182554675175 tw10069925635881902184 tw838954586807176328 tw3935696784523667624 tw18291735351102107816 tw16333743407738772680 tw49331252728500488 tw17988924196653029672 tw17948075129251850536 tw11062298937419868488 tw14009952917290725960 tw12206485211341006440 tw12231186533842506344 tw18405421892211479208 tw11912273329699568296 tw2721043885819466472 tw1718073838874109704 tw1975282040338742056 tw16865437937764168 tw5139529303579701289 tw7048883629260635241 tw2884877175622451369 tw2437159820098094345 tw16420268111207630121 tw8770791881835722185 tw12576722972651118025 tw9015936332266375785 tw12492717218938027625 tw5832779090343808649 tw8555214983964026569 tw11555353510682339049 tw1285194434802365161 tw13207904730765810409 tw13807826659069252425 tw1564686926473037705:True)
 (tw12767581846766213001 tw18273399650696262537 tw9181967422087682985 tw14830902081741283241 tw3867382573157671913 tw2861071093116295242 tw10762420056953070858 tw3774731477444596010 tw5975991148930028842 tw779423284646219178 tw1389975748122232234 tw2581498094569758314 tw5677852616388518570 tw3047275842368352970 tw1441660427674046282 tw6891189090188258218 tw12378185389226717098 tw13498775295586759658 tw368073446900662315 tw13297105277122590763 tw13720442723887532139 tw909376166498761867 tw8502602569268041899 tw16550251460579838283 tw2067954015069523275 tw9244229540203507115 tw13278295290589204939 tw4219294926466730539 tw5851891431715924523 tw9495607930855711307 tw16382179190105713259 tw9747873678538875563 tw1396571650051323563 tw7234116480032074539 tw6151375697402071979 tw3655014153464075211 tw2232840545274616811 tw15100398885595338764 tw8355516776442564652 tw2187252818902651948:True)
 (tw14707460186967301196 tw18160555553929899212 tw17111670376398286252 tw15742233614572363212 tw7719437753352759756 tw2282338469015793100 tw14131577874108076492 tw11924173157132431948 tw7495853600125851244 tw811082608022919980 tw8059201285306171212 tw792533467095429036 tw17884588829474592748 tw17189380044011555853 tw8350194641139676205 tw8798283677099118637 tw2109657012714266893 tw5793016210716127629 tw4493365606103292333 tw7509891788859304397 tw9808751776824822349 tw6609641057196358221 tw17463308424956338797 tw6043827342001694445 tw2578396840490034957 tw7081477641821545293 tw8195946382334211150 tw11792927735390362702 tw5938061761462361262 tw13771710306475005134 tw724481268031940814 tw9734624807628597454 tw6332823121403027694 tw5994661020397611246 tw17099483562760527150 tw16168946020668138798 tw17059952565733156142 tw13572340476942217518 tw5548903329659951438 tw15614579481014246734:True)
 (tw5029261676437873998 tw12697117964622609774 tw15678576368250550638 tw15510296330866447918 tw4491802165700899406 tw14597284195604436622 tw3502942998062489294 tw14499311682608945934 tw9251423605680629518 tw16898122055701887758 tw8652060548723788590 tw12775688149028326254 tw17998353543908703118 tw16131454214825755598 tw10050881735328834542 tw3351513259545297902 tw6284694250199845903 tw12262519812269551631 tw8014413813294625903 tw5937766982378080399 tw18119490828425274543 tw9058409890866692335 tw730154154408784111 tw9502549451601351951 tw9407902173812484431 tw8888875369471991151 tw9033490684189130159 tw15696251429081053679 tw1067720385228079599 tw5088110713057577519 tw5227700381673282191 tw7610094129834531503 tw7367703545521360559 tw12740812301015105231 tw8194851061717533423 tw9498365200716251887 tw1102453238549955343 tw11795917033817482063 tw15684032303477296111 tw5931319805605719023:True)
 (tw271877228993981423 tw6442035546584965136 tw2146693793565675600 tw10660336217192961104 tw9379085439662426288 tw13204888390174131504 tw7830789494610269616 tw15803641442559745488 tw10481148552342785520 tw9119207712321003024 tw10934038480308700752 tw3678696417445907024 tw16304392646307147376 tw3203611839638918800 tw6963678827045143184 tw16553212200656269008 tw4321120520529055472 tw14684580917729412912 tw2448321687154928464 tw9711531530796575568 tw9997630576463565680 tw379934155110504304 tw11401609253926947760 tw11000575439137247281 tw7456212987726220369 tw1884598020171377777 tw11766677232078213233 tw14431815595666264241 tw5896404186890986673 tw5354519247893040433 tw13575197116674256273 tw15138534942946660785 tw4711191084943352241 tw15565456954685535793 tw2870529612426425969 tw16911780284702943857 tw5170255718352826033 tw9258005281105738417 tw2074636668752145233 tw6469945486564228945:True)
 (tw18291508240266674033 tw11218095384566599730 tw2806466454516702290 tw9401784985825355858 tw8147668173966208082 tw12194193853723998354 tw16954225288772593010 tw799508247520252370 tw15888575537802703314 tw8722598624274523922 tw16668729498146340626 tw13700410941958562610 tw17760886854253922098 tw3067803165370035058 tw13493848890291513202 tw14132698952411670418 tw4590795835268980626 tw498974204244295666 tw17340207192629193779 tw13905657702771089523 tw9882177728291070067 tw4019945451071893683 tw13581557296881937683 tw17986032471916213651 tw14644433132112875955 tw7932198444623037907 tw2599977893954177523 tw11059276060238123539 tw11820125461359673875 tw5680030904742921747 tw6164985372176702995 tw17865454514411245203 tw5442017720965864147 tw15096620641107844819 tw17912089835234338547 tw3291715628534522675 tw11213323920937557939 tw3325071996585635763 tw4643312572193270707 tw8455674825251488820:True)
 (tw779643746803829908 tw8779309806797294964 tw12038711663944308180 tw11039294440992240276 tw4849445175014785684 tw16776531790042249908 tw4957254925013475060 tw9043851992294941460 tw16346384348863432500 tw886240457603813236 tw17458370975717133300 tw1112477627702596693 tw4560514983576150133 tw12261958966073505941 tw9813607090254505205 tw3982189301414213941 tw14967464847663511861 tw5777746348581753173 tw7086976734733903221 tw16650578389040391573 tw18132450977686965685 tw8833195834942179797 tw17564049859058641493 tw12463026273354463829 tw318957176008195701 tw927352286398696053 tw15325698284791986805 tw9875237432268460693 tw16497786741604970165 tw11348382761174558421 tw3745425640444904213 tw10770851303234407221 tw11481388006031163221 tw3732615964923715541 tw17460607841483345974 tw13078058105260204118 tw15995702392857602262 tw8772624287789794518 tw14414783571609666806 tw11128377880308050198:True)
 (tw6501936930154152278 tw1648242356656289142 tw8855403888154583478 tw9929045463510618550 tw9760147331799508534 tw14209131267969053270 tw14924531548249409142 tw9218760961065878134 tw16718179194901803670 tw14240329609228844694 tw11846360689756018390 tw12003310140811216662 tw4082526004093809494 tw11485685457742455702 tw12917273142636551094 tw4937993442243507158 tw4593608948149697559 tw5192782991731145783 tw5457077890997646423 tw3640781864247634039 tw11861129254731454615 tw7871542815553010903 tw4095765772956545271 tw17022928446211732791 tw1852170136317915447 tw9918903842565794167 tw4161045942109270423 tw12197960230545248759 tw3501069645699757623 tw8129303080334177879 tw11288606673154654903 tw6017239694857948919 tw15965191240007684951 tw7716317328329226167 tw14563128446111131607 tw7647325737715172343 tw17786409672922201144 tw2114993836165930104 tw17040748210711950488 tw13666559313786230072:True)
 (tw12879789870768255384 tw10503562535333115320 tw15094207723677043128 tw8714723468776164824 tw11203970743804006008 tw12243949733820907192 tw2866787407670421208 tw10010715451916603224 tw16869757216188734360 tw11734636865017304024 tw2906135402224694264 tw8466067049010049273 tw7612600817579704697 tw11358638838740354489 tw12891678915796970969 tw14966434443437291993 tw9722673562009728633 tw737129286230709977 tw9747142466589399833 tw7405975094730763033 tw13737330487350456281 tw13479162038493377497 tw12198487808170558457 tw14676431357528863834 tw8811638950672005242 tw8937540841443917978 tw17976147676871715034 tw14781496874278682938 tw16259596910704388410 tw1994764720071601466 tw5829618130577848634 tw9862412449905279322 tw1636021241830811994 tw10991261261097633210 tw16587310006895468026 tw3404886692623963642 tw6563314432323828282 tw5008232282626085498 tw14494600623969658490 tw1840117731822289562:True)
 (tw6443022420292105882 tw9114445791420436154 tw5557810486253546170 tw475751235182754490 tw16366058943443889882 tw16718164075818106618 tw7460604373524430650 tw5526230104696610618 tw2956626849324674906 tw4153825920156029979 tw4416924452090528955 tw7927329399863513339 tw6421539223713556763 tw4174860813315011931 tw1327376039823359323 tw10997542520344567227 tw1352444070429026811 tw15876445153904885275 tw913373299776677467 tw16166238382702932667 tw9698322325104885499 tw3626514510223525755 tw12798086616904867771 tw15241405158650430427 tw9427828220196665339 tw8637672616493080636 tw13587515329685103740 tw16566530256295942364 tw414319202288133404 tw16675666095197734204 tw15800814880223666524 tw16826538807288222140 tw13878464490944192956 tw10687035363528313308 tw14683493077511411164 tw9599996710108770844 tw12571748331460743740 tw14561748354336869980 tw13883318547373372028 tw6322815176685167260:True)
 (tw8657681705542942364 tw18343067129641008828 tw2612822988740285180 tw16832023557778977628 tw17026449383223102332 tw13863925870655518620 tw6343059304859001756 tw18398269077027973084 tw12499913156340154589 tw17155823805254567165 tw10880218012896988413 tw15138640869946594557 tw1332057843267539261 tw12459186187625751965 tw18004990565193386525 tw387459918753154621 tw3594779962774130269 tw5449211321572398781 tw5605090372671482557 tw1308556782321655549 tw12368341183692461853 tw1252282864684786461 tw16338826346156346173 tw3194044781012862813 tw741768103130626909 tw4452388208058391421 tw739854353452193757 tw7468268298573047902 tw4408485426746345662 tw3614406246514456766 tw5863189999427807486 tw419386741662805406 tw14458552428720626110 tw5022214121210057214 tw3491113987078674942 tw15385334358796013214 tw11962289055445622430 tw13411555794561401534 tw15581551379391096670 tw16177320012237985662:True)
 (tw13659929967220665246 tw9801124940851597214 tw10071954884131213214 tw14842357358414849982 tw15954034958737599519 tw14915574524916280383 tw8877755787194419359 tw6202094537858998463 tw6692882977381887167 tw779670262428906783 tw8815913865536085343 tw5434448219976282495 tw16298912361552145855 tw8774945416479539679 tw8884595997969707487 tw2090310615708409471 tw13643486370491230879 tw7212920730525958975 tw17289242705602947903 tw16106090630553740127 tw6432533997616391039 tw1512619073921298335 tw17795737564431649727 tw12823517641298851839 tw3543991148134170623 tw3175509026862618065:True)
open PySem PySem.W PyProof.Rows
set_option maxRecDepth 100000 in
set_option maxHeartbeats 0 in
theorem PySem.Challenge.cw_mendfield_k11_greatest_walked_holds : PySem.Challenge.rw_mendfield_k11_greatest_walked.Holds := by
 w_on;o_law;k_head;(case hw=>w_witness2)
 k_fill
 refine HK11.walk (l:=PySem.Challenge.rw_mendfield_k11_greatest_walked) rfl rfl (λw h Y=>⟨PySem.W.km_in_of Y,PySem.W.km_tabs_of Y⟩) ?C ?F
 case C =>
  intro w h hX
  repeat' (first | exact List.forall_mem_nil _ | refine List.forall_mem_cons.mpr ⟨?_,?_⟩)
  all_goals first | (refine' HK11.aE4 hX ?a ?b ?l ?lk ?lp ?n ?e;(case a=>k_is);(case b=>k_is);(case l=>k_is);(case lk=>k_is);(case lp=>first | rfl | with_unfolding_all rfl);(case n=>kernel_rfl);(case e=>kernel_rfl)) | (refine' HK11.aH9 hX ?a ?b ?l ?lk ?lp ?n ?e;(case a=>k_is);(case b=>k_is);(case l=>k_is);(case lk=>k_is);(case lp=>first | rfl | with_unfolding_all rfl);(case n=>kernel_rfl);(case e=>kernel_rfl))
 case F =>
  intro w mg fa h KX G wk
  refine' HK11.all_mk KX G wk ?yn ?yo ?vd ?yp ?a0 ?l0 ?c0 ?k0 ?a1 ?l1 ?c1 ?k1 ?a2 ?l2 ?c2 ?k2 ?a3 ?l3 ?c3 ?k3 ?a4 ?l4 ?c4 ?k4 ?a5 ?l5 ?c5 ?k5 ?a6 ?l6 ?c6 ?k6 ?a7 ?l7 ?c7 ?k7 ?R1 ?R3 ?HC ?a8 ?l8 ?c8 ?k8 ?a9 ?l9 ?c9 ?k9 ?HD ?HE ?HF ?HG ?HH ?HI ?HJ ?HK ?HL ?HM ?HN ?HP ?R4 ?HQ ?HR ?HS ?R5 ?R6 ?HU ?HV ?HW ?HX ?HY ?HZ ?Ia ?Ib ?Ic ?R7 ?Ie ?Ig ?yu ?Ih ?Ii ?Ij ?Ik ?R8 ?Il ?Im ?BF ?R9 ?Io ?Ip ?BG ?Iq ?Ir ?Iu ?Iw ?Sa ?Iy ?Iz ?BH ?Sb ?IA ?IB ?BJ ?IC ?ID ?IE ?IF ?IG ?IH ?II ?IJ ?Sd ?IK ?IL ?BK ?Se ?IM ?IQ ?BL ?Sf ?IS ?IT ?BM ?Sg ?IU ?IV ?BN ?Sh ?IW ?IY ?BO ?Si ?IZ ?Ja ?BP ?Jb ?Jc ?Jd ?Je ?Jf ?Jg ?Jh ?Ji ?Jj ?Jk ?Jl ?Jm ?Jn ?Jo ?Jp ?Jq ?Jr ?Js ?Jt ?Ju ?Jv ?Jw ?Jx ?Jy ?Jz ?JA ?JB ?JC ?JE ?JF ?JG ?JH ?JI ?JJ ?JK ?JL ?JM ?JN ?JO ?JP ?JQ ?JR ?JS ?JT ?JU ?JV ?JW ?JX ?JY ?JZ ?J0 ?J1 ?BQ ?J2 ?J3 ?J4 ?BR ?BS ?BU ?BV ?xV ?J5 ?J6 ?J7 ?J8 ?J9 ?Ka ?Kb ?xW ?nu ?u6 ?qT ?AV ?nv ?xX ?xY ?xZ ?Kd ?x3 ?Ke ?x4 ?Kf ?x6 ?Kg ?x8 ?Kh ?u7 ?Ki ?x9 ?Kj ?BW ?BX ?BY ?BZ ?ya ?Kk ?Kl ?Km ?Kn ?Ko ?Kp ?Kq ?AW ?qU ?u9 ?va ?jQ ?AX ?yb ?yc ?yd ?Kr ?ye ?Ks ?yf ?Kt ?yg ?Ku ?yh ?Kv ?vb ?Kw ?yi ?Kx ?Ky ?at2 ?Kz ?KA ?KC ?KD ?KG ?KH ?KI ?KJ ?KL ?KN ?KO ?KP ?KQ ?KR ?Sj ?KS ?KU ?KW ?KY ?KZ ?K0 ?K1 ?K2 ?nl ?sub
  (case yn=>k_is)
  (case yo=>k_is)
  (case vd=>k_is)
  (case yp=>k_is)
  (case a0=>k_is)
  (case l0=>k_is)
  (case c0=>k_is)
  (case k0=>k_is)
  (case a1=>k_is)
  (case l1=>k_is)
  (case c1=>k_is)
  (case k1=>k_is)
  (case a2=>k_is)
  (case l2=>k_is)
  (case c2=>k_is)
  (case k2=>k_is)
  (case a3=>k_is)
  (case l3=>k_is)
  (case c3=>k_is)
  (case k3=>k_is)
  (case a4=>k_is)
  (case l4=>k_is)
  (case c4=>k_is)
  (case k4=>k_is)
  (case a5=>k_is)
  (case l5=>k_is)
  (case c5=>k_is)
  (case k5=>k_is)
  (case a6=>k_is)
  (case l6=>k_is)
  (case c6=>k_is)
  (case k6=>k_is)
  (case a7=>k_is)
  (case l7=>k_is)
  (case c7=>k_is)
  (case k7=>k_is)
  (case R1=>k_is)
  (case R3=>first | rfl | with_unfolding_all rfl)
  (case HC=>kernel_rfl)
  (case a8=>k_is)
  (case l8=>k_is)
  (case c8=>k_is)
  (case k8=>k_is)
  (case a9=>k_is)
  (case l9=>k_is)
  (case c9=>k_is)
  (case k9=>k_is)
  (case HD=>k_is)
  (case HE=>k_is)
  (case HF=>k_is)
  (case HG=>k_is)
  (case HH=>k_is)
  (case HI=>k_is)
  (case HJ=>k_is)
  (case HK=>k_is)
  (case HL=>k_is)
  (case HM=>k_is)
  (case HN=>k_is)
  (case HP=>k_is)
  (case R4=>k_is)
  (case HQ=>k_is)
  (case HR=>k_is)
  (case HS=>k_is)
  (case R5=>k_is)
  (case R6=>first | rfl | with_unfolding_all rfl)
  (case HU=>kernel_rfl)
  (case HV=>k_is)
  (case HW=>k_is)
  (case HX=>k_is)
  (case HY=>k_is)
  (case HZ=>k_is)
  (case Ia=>k_is)
  (case Ib=>k_is)
  (case Ic=>k_is)
  (case R7=>k_is)
  (case Ie=>k_is)
  (case Ig=>k_is)
  (case yu=>k_is)
  (case Ih=>k_is)
  (case Ii=>k_is)
  (case Ij=>k_is)
  (case Ik=>k_is)
  (case R8=>k_is)
  (case Il=>k_is)
  (case Im=>k_is)
  (case BF=>k_is)
  (case R9=>k_is)
  (case Io=>k_is)
  (case Ip=>k_is)
  (case BG=>k_is)
  (case Iq=>k_is)
  (case Ir=>k_is)
  (case Iu=>k_is)
  (case Iw=>k_is)
  (case Sa=>k_is)
  (case Iy=>k_is)
  (case Iz=>k_is)
  (case BH=>k_is)
  (case Sb=>k_is)
  (case IA=>k_is)
  (case IB=>k_is)
  (case BJ=>k_is)
  (case IC=>k_is)
  (case ID=>k_is)
  (case IE=>k_is)
  (case IF=>k_is)
  (case IG=>k_is)
  (case IH=>k_is)
  (case II=>k_is)
  (case IJ=>k_is)
  (case Sd=>k_is)
  (case IK=>k_is)
  (case IL=>k_is)
  (case BK=>k_is)
  (case Se=>k_is)
  (case IM=>k_is)
  (case IQ=>k_is)
  (case BL=>k_is)
  (case Sf=>k_is)
  (case IS=>k_is)
  (case IT=>k_is)
  (case BM=>k_is)
  (case Sg=>k_is)
  (case IU=>k_is)
  (case IV=>k_is)
  (case BN=>k_is)
  (case Sh=>k_is)
  (case IW=>k_is)
  (case IY=>k_is)
  (case BO=>k_is)
  (case Si=>k_is)
  (case IZ=>k_is)
  (case Ja=>k_is)
  (case BP=>k_is)
  (case Jb=>k_is)
  (case Jc=>k_is)
  (case Jd=>k_is)
  (case Je=>k_is)
  (case Jf=>k_is)
  (case Jg=>k_is)
  (case Jh=>k_is)
  (case Ji=>k_is)
  (case Jj=>k_is)
  (case Jk=>k_is)
  (case Jl=>k_is)
  (case Jm=>k_is)
  (case Jn=>k_is)
  (case Jo=>k_is)
  (case Jp=>k_is)
  (case Jq=>k_is)
  (case Jr=>k_is)
  (case Js=>k_is)
  (case Jt=>k_is)
  (case Ju=>k_is)
  (case Jv=>k_is)
  (case Jw=>k_is)
  (case Jx=>k_is)
  (case Jy=>k_is)
  (case Jz=>k_is)
  (case JA=>k_is)
  (case JB=>k_is)
  (case JC=>k_is)
  (case JE=>k_is)
  (case JF=>k_is)
  (case JG=>k_is)
  (case JH=>k_is)
  (case JI=>k_is)
  (case JJ=>k_is)
  (case JK=>k_is)
  (case JL=>k_is)
  (case JM=>k_is)
  (case JN=>k_is)
  (case JO=>k_is)
  (case JP=>k_is)
  (case JQ=>k_is)
  (case JR=>k_is)
  (case JS=>k_is)
  (case JT=>k_is)
  (case JU=>k_is)
  (case JV=>k_is)
  (case JW=>k_is)
  (case JX=>k_is)
  (case JY=>k_is)
  (case JZ=>k_is)
  (case J0=>k_is)
  (case J1=>k_is)
  (case BQ=>k_is)
  (case J2=>k_is)
  (case J3=>k_is)
  (case J4=>k_is)
  (case BR=>k_is)
  (case BS=>k_is)
  (case BU=>k_is)
  (case BV=>k_is)
  (case xV=>k_is)
  (case J5=>k_is)
  (case J6=>k_is)
  (case J7=>k_is)
  (case J8=>k_is)
  (case J9=>k_is)
  (case Ka=>k_is)
  (case Kb=>k_is)
  (case xW=>k_is)
  (case nu=>k_is)
  (case u6=>k_is)
  (case qT=>k_is)
  (case AV=>k_is)
  (case nv=>k_is)
  (case xX=>k_is)
  (case xY=>k_is)
  (case xZ=>k_is)
  (case Kd=>k_is)
  (case x3=>k_is)
  (case Ke=>k_is)
  (case x4=>k_is)
  (case Kf=>k_is)
  (case x6=>k_is)
  (case Kg=>k_is)
  (case x8=>k_is)
  (case Kh=>k_is)
  (case u7=>k_is)
  (case Ki=>k_is)
  (case x9=>k_is)
  (case Kj=>k_is)
  (case BW=>k_is)
  (case BX=>k_is)
  (case BY=>k_is)
  (case BZ=>k_is)
  (case ya=>k_is)
  (case Kk=>k_is)
  (case Kl=>k_is)
  (case Km=>k_is)
  (case Kn=>k_is)
  (case Ko=>k_is)
  (case Kp=>k_is)
  (case Kq=>k_is)
  (case AW=>k_is)
  (case qU=>k_is)
  (case u9=>k_is)
  (case va=>k_is)
  (case jQ=>k_is)
  (case AX=>k_is)
  (case yb=>k_is)
  (case yc=>k_is)
  (case yd=>k_is)
  (case Kr=>k_is)
  (case ye=>k_is)
  (case Ks=>k_is)
  (case yf=>k_is)
  (case Kt=>k_is)
  (case yg=>k_is)
  (case Ku=>k_is)
  (case yh=>k_is)
  (case Kv=>k_is)
  (case vb=>k_is)
  (case Kw=>k_is)
  (case yi=>k_is)
  (case Kx=>k_is)
  (case Ky=>k_is)
  (case at2=>k_is)
  (case Kz=>k_is)
  (case KA=>k_is)
  (case KC=>k_is)
  (case KD=>k_is)
  (case KG=>k_is)
  (case KH=>k_is)
  (case KI=>k_is)
  (case KJ=>k_is)
  (case KL=>k_is)
  (case KN=>k_is)
  (case KO=>k_is)
  (case KP=>k_is)
  (case KQ=>k_is)
  (case KR=>first | k_is | rfl | decide)
  (case Sj=>k_is)
  (case KS=>k_exc)
  (case KU=>k_is)
  (case KW=>k_is)
  (case KY=>k_is)
  (case KZ=>k_is)
  (case K0=>k_is)
  (case K1=>k_is)
  (case K2=>k_is)
  (case nl=>first | k_is | rfl | decide)
  (case sub=>decide)
