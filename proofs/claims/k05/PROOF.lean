import PyProof.Rows.All
import Wide.All
import OpenK.AllK
import Wide.FinOn
import Lean
import PyProof.EqAt
import PyProof.EqKinds
import PyProof.TupleCall
import PyProof.NeKinds
import PyProof.Rows.Range3
import PyProof.FitsBits
import PyProof.StationsW
import PyProof.NsDelKeeps
import PyProof.Rows.CatchOwn
import KE.KTryMore
import PyProof.ExcArgsOwn
import PyProof.ExcAttrAll.ValueError
import OpenK.KOwn
import PyProof.ZipIter
import PyProof.WalksEnum
import PyProof.EnumMake
import KE.KIntText
import PyProof.Conv_int
import PyProof.StrWalks
import PyProof.StrLawsFirst
import KE.KLam
import KE.KNestM
import KE.KRevIter
import PyProof.ListRange
import PyProof.Rows.SortWalk
import PyProof.Rows.SetFrom
import PyProof.FactsAll.set
import PyProof.Rows.SeqMore
import PyProof.FString
import PySem.Challenge.RW_mendfield_k05_field_made
open Array renaming append_assoc→qQ,getElem?_eq_some_iff→Eh,length_toList→LG,toList_append→LX
open Bool renaming and_eq_true→cC,false_and→fi,true_and→ie,false_eq_true→jg,and_true→jh,or_false→nz,not_false→rm,not_true→rn,or_true→rp,true_or→rq,false_or→rz,false_ne_true→tV,and_false→xk,eq_iff_iff→Ef,or_eq_true→El
open Classical renaming byContradiction→LO
open False renaming elim→cm
open ForInStep renaming yield→xf
open Int renaming natAbs_natCast→df,emod_lt_of_pos→kz,toNat→kC,natCast_add→nH,emod_nonneg→nI,natCast_emod→qZ,toNat_natCast→xm,zero_emod→xo,natCast_nonneg→D5,zero_add→Eo,toNat_of_nonneg→Es,fdiv_eq_ediv_of_nonneg→LJ
open List renaming replicate→aR,range→aT,mem_cons→cI,map_cons→cU,all_eq_true→cV,size_toArray→cZ,append_assoc→da,all_cons→de,mem_append_right→dm,getElem?_eq_getElem→dw,mem_append→dW,mem_range→fg,mem_append_left→fh,lookup_cons→fk,getD_eq_getElem?_getD→fE,length_cons→fU,append_nil→fW,getElem?_map→gy,mem_cons_of_mem→hG,lookup→hJ,map_nil→hW,mem_map→ig,nodup_cons→je,mem_singleton→jf,getElem?_eq_some_iff→kg,replicate_succ→kl,nil_append→km,perm_append_comm→ku,map_map→ky,set_cons_zero→kA,set_cons_succ→kB,filterMap_cons→nu,length_map→nv,flatten_cons→nB,cons.inj→nE,all_nil→nF,cons_append→nG,length_range→nJ,getElem?_set_ne→qR,not_mem_nil→qT,all_map→qU,getElem?_eq_none→qV,length_nil→rf,getElem?_cons_zero→rh,getElem?_cons_succ→rj,cons.injEq→rl,mem_of_getElem?→tY,getElem_mem→ud,map_append→ue,getElem?_append_right→wY,length_append→wZ,append_eq_nil_iff→xi,getElem?_range→xj,mem_map_of_mem→xq,getElem?_eq_none_iff→D1,mem_filter→D2,mem_cons_self→D3,getElem?_set_self→D4,of_mem_zip→D7,length→D8,getElem?_replicate→D9,getElem?_append_left→Ea,Sublist.refl→Ej,append_inj→Ek,map_congr_left→Ep,mem_filterMap→LH,getElem_of_mem→LQ,set_eq_of_length_le→LS,eq_nil_iff_forall_not_mem→LU,mem_replicate→LV,getElem?_mapIdx→LW,zip_cons_cons→LY
open Nat renaming le_refl→bH,lt_of_lt_of_le→bQ,ne_of_lt→cM,le_trans→dv,lt_irrefl→fC,shiftLeft_eq→fX,xor_zero→gz,mul_comm→hV,testBit_xor→ia,zero_xor→ib,zero_le→ki,pow_succ→kn,xor_assoc→kq,lt_of_le_of_lt→kr,mul_assoc→nC,two_pow_pos→qS,not_lt→qW,mul_mod→qX,mod_lt→qY,lt_succ_self→tW,log2_lt→t7,pow_le_pow_right→t8,eq_of_testBit_eq→t9,testBit_zero→ua,strongRecOn→ub,mod_eq_of_lt→uf,le_of_lt→wW,testBit_lt_two_pow→w6,testBit_succ→w9,xor_self→xb,mod_add_mod→xn,add_sub_cancel_left→xp,one_shiftLeft→xt,xor_comm→Ec,testBit_and→Ee,mod_mod→Er,succ.inj→Et,testBit_eq_decide_div_mod_eq→LK,shiftLeft_xor_distrib→LL,mul_lt_mul_right→LM,testBit_shiftLeft→LN,shiftRight_eq_div_pow→LP,exists_eq_add_of_le→LZ
open Ne renaming symm→dD
open Option renaming some.inj→cR,getD_some→nD,getD_none→q0,map_some→q8,map_none→q9,some.injEq→rk,isSome_iff_exists→tX,none→w5,map_eq_some_iff→Em,bind_some→LR
open Or renaming inl→aH,inr→cB
open PyProof renaming Rows.callWith_type1→wX
open PySem renaming Heap.lt_size→aW,Value.ref→bb,Heap.get?_push_of_some→cY,Str.ofString→dE,Heap.get?_push_size→fj,Str.empty→fV,PassesOwn.never→gA,Builtin.bitAnd→jc,Value.none→ke,Builtin.bitXor→kh,Heap.get?_update_other→kj,Value.int→qP,Obj.mapSeq→tZ,Value.bool→wV,Heap.get?_update_self→w4,Obj.data_mapFields→xg,Value.builtin→xh,Heap.size_push→D6,Builtin.List.listTooLong→Eb,Obj.isFreed_of_fields→Eg,Heap.MadeExcOf→Ei,Calls.Name_function_global→LF
open Sum renaming inl→nr,inr→nt
open True renaming intro→ny
set_option Elab.async false
set_option linter.all false
set_option maxRecDepth 100000
namespace L2
open PySem PySem.Spec PyProof.Rows
noncomputable abbrev Key:=Sum Int Str
noncomputable def Eu:Key->Value->Bool
 | .inl k,v=>Value.isInt k v
 | .inr x,v=>Value.isStrOf x v
noncomputable def L4(w:World):Key->Int
 | .inl k=>hashInt k
 | .inr x=>hashStr w x
theorem ij:∀{k:Key} {v:Value},Eu k v=true->(∃i t,k=nr i/\v=qP i t)\/(∃x t,k=nt x/\v=Value.str x t)
 | .inl i,v,h=>by
  obtain⟨t,e⟩:=Value.isInt_shape (k:=i) (v:=v) h
  exact .inl ⟨i,t,rfl,e⟩
 | .inr x,v,h=>by
  obtain⟨t,e⟩:=Value.isStrOf_shape (x:=x) (v:=v) h
  exact .inr ⟨x,t,rfl,e⟩
theorem L5(a b:Int):decide ((nr a:Key)=nr b)=(a==b):=by
 by_cases e:a=b
 ·subst e;simp
 ·have h:¬ (nr a:Key)=nr b:=λq=>e (Sum.inl.inj q)
  rw[decide_eq_false h]
  exact(beq_eq_false_iff_ne.mpr e).symm
theorem L6(a b:Str):decide ((nt a:Key)=nt b)=decide (a=b):=by
 by_cases e:a=b
 ·subst e;simp
 ·have h:¬ (nt a:Key)=nt b:=λq=>e (Sum.inr.inj q)
  rw[decide_eq_false h,decide_eq_false e]
theorem L7(a:Int)(b:Str):decide ((nr a:Key)=nt b)=false:=decide_eq_false (λq=>nomatch q)
theorem L8(a:Str)(b:Int):decide ((nt a:Key)=nr b)=false:=decide_eq_false (λq=>nomatch q)
noncomputable def Ew(prog:Program)(w:World):PySem.KeyKind prog w Key where
 is:=Eu
 hash:=L4 w
 inj:=λv a b ha hb=>by
  rcases ij ha with⟨i,t,rfl,rfl⟩ | ⟨x,t,rfl,rfl⟩
  ·rcases ij hb with⟨j,u,rfl,e⟩ | ⟨y,u,rfl,e⟩
   ·injection e with e1 _;rw[e1]
   ·exact nomatch e
  ·rcases ij hb with⟨j,u,rfl,e⟩ | ⟨y,u,rfl,e⟩
   ·exact nomatch e
   ·injection e with e1 _;rw[e1]
 byValue:=λk v h=>by
  rcases ij h with⟨i,t,rfl,rfl⟩ | ⟨x,t,rfl,rfl⟩<;>rfl
 pyHash:=λhv h=>by
  rcases ij hv with⟨i,t,rfl,rfl⟩ | ⟨x,t,rfl,rfl⟩
  ·exact wpAny_pyHash_int h
  ·exact wpAny_pyHash_str h
 eqBool:=λhu hv h=>by
  rcases ij hu with⟨i,t,rfl,rfl⟩ | ⟨x,t,rfl,rfl⟩
  ·rcases ij hv with⟨j,u,rfl,rfl⟩ | ⟨y,u,rfl,rfl⟩
   ·rw[L5]at h;exact wpAny_eqBool_int h
   ·rw[L7]at h;exact SeqAt.EqAt.int_str i t y u _ _ _ _ h
  ·rcases ij hv with⟨j,u,rfl,rfl⟩ | ⟨y,u,rfl,rfl⟩
   ·rw[L8]at h;exact SeqAt.EqAt.str_int x t j u _ _ _ _ h
   ·rw[L6]at h;exact wpAny_eqBool_str h
 «strs»:=λk x t v h=>by
  rcases ij h with⟨i,u,rfl,e⟩ | ⟨y,u,rfl,e⟩
  ·exact nomatch e
  ·injection e with e1 _
   subst e1
   cases v<;>rfl
end L2
namespace L2
open PySem PySem.Spec PyProof.Rows
inductive V where
 | ai | bl (b:Bool) | int (i:Int) | str (x:Str) | ug (b:Array UInt8) | kD (b:UInt64) | ref (a:Addr) | ty (n:String)
 deriving DecidableEq
noncomputable def RelV:V->Value->Prop
 | .ai,u=>u=ke
 | .bl b,u=>u=wV b
 | .int i,u=>∃t,u=qP i t
 | .str x,u=>∃t,u=Value.str x t
 | .ug b,u=>∃t,u=Value.bytes b t
 | .kD b,u=>∃t,u=Value.float b t
 | .ref a,u=>u=bb a
 | .ty n,u=>u=Value.type n
noncomputable abbrev Vals:List V->List Value->Prop:=Paired RelV
theorem Vals.length{xs:List V}{us:List Value}(r:Vals xs us):xs.length=us.length:=Paired.length r
theorem Vals.get:∀{xs:List V} {us:List Value} {i:Nat} {x:V},Vals xs us->xs[i]?=some x->∃u,us[i]?=some u/\RelV x u
 | _,_,_,_,.nil,e=>by simp at e
 | _,_,0,_,.cons r _,e=>by simp at e;subst e;exact⟨_,rfl,r⟩
 | _,_,i+1,x,.cons _ t,e=>by
  obtain⟨u,h1,h2⟩:=Vals.get (i:=i) (x:=x) t (by simpa using e)
  exact⟨u,by simpa using h1,h2⟩
theorem Vals.set{x:V}{u:Value}(r:RelV x u):∀{xs:List V} {us:List Value} (i:Nat),Vals xs us->Vals (xs.set i x) (us.set i u)
 | _,_,_,.nil=>.nil
 | _,_,0,.cons _ t=>.cons r t
 | _,_,i+1,.cons q t=>.cons q (Vals.set r i t)
theorem Vals.append:∀{xs ys:List V} {us ws:List Value},Vals xs us->Vals ys ws->Vals (xs++ys) (us++ws)
 | _,_,_,_,.nil,s=>s
 | _,_,_,_,.cons r t,s=>.cons r (Vals.append t s)
theorem Vals.take:∀{xs:List V} {us:List Value} (n:Nat),Vals xs us->Vals (xs.take n) (us.take n)
 | _,_,0,_=>.nil
 | _,_,_+1,.nil=>.nil
 | _,_,n+1,.cons r t=>.cons r (Vals.take n t)
theorem Vals.drop:∀{xs:List V} {us:List Value} (n:Nat),Vals xs us->Vals (xs.drop n) (us.drop n)
 | _,_,0,r=>r
 | _,_,_+1,.nil=>.nil
 | _,_,n+1,.cons _ t=>Vals.drop n t
theorem Vals.none_of:∀{xs:List V} {us:List Value} {i:Nat},Vals xs us->xs[i]?=none->us[i]?=none:=λ{xs us i} r e=>by
 have h1:=r.length
 have h2:xs.length<=i:=D1.mp e
 exact D1.mpr (by omega)
noncomputable def gB:Option V->Option Value->Prop
 | some v,some u=>RelV v u
 | none,none=>True
 | _,_=>False
noncomputable def KV{κ:Type}:List (κ × V)->List (κ × Value)->Prop:=Paired λ(p:κ × V) (q:κ × Value)=>p.1=q.1/\RelV p.2 q.2
noncomputable def kV:Key->V
 | .inl i=>.int i
 | .inr x=>.str x
inductive HO where
 | lst (xs:List V)
 | tup (xs:List V)
 | dK (bX:List (Key × V)) | dT (bX:List (List Key × V))
 | set (S:Int->Bool) (n:Nat)
 | ins (C dx:Addr) (fs:List (Str × V))
 | own (x:Addr)
 | xd (fs:List (Str × V))
 | met (f x:Addr)
 | rA (lo hi:Int)
 | bt (o:Obj) (u:HO)
 | bS (ps:Array Value)
 | ext (φ:Heap->Prop)
noncomputable abbrev Hp:=Addr->Option HO
noncomputable def upd(H:Hp)(a:Addr)(o:HO):Hp:=λb=>if b=a then some o else H b
theorem bj{H:Hp}{a:Addr}{o:HO}:upd H a o a=some o:=by unfold upd;rw[if_pos rfl]
theorem az{H:Hp}{a b:Addr}{o:HO}(h:b≠a):upd H a o b=H b:=by unfold upd;rw[if_neg h]
theorem cE{H:Hp}{a b:Addr}{o:HO}(h:H a=some o)(h':H b=none):a≠b:=by
 intro e;subst e;rw[h]at h';cases h'
section
variable(P:Program)(w:World)
noncomputable def cx(H:Hp)(h:Heap)(a:Addr):HO->Prop
 | .lst xs=>xs.length<=sizeLine/\∃(its:List Value) (n:Nat),Vals xs its/\h.get? a=some { cls:=.type "list",data:=.seq its.toArray n }
 | .tup xs=>xs.length<=sizeLine/\∃its:List Value,Vals xs its/\IsTup h a its.toArray
 | .dK bX=>bX.length<=sizeLine/\(a==sysModules)=false/\∃vs,KV bX vs/\h.DictOf (Ew P w) a vs
 | .dT bX=>bX.length<=sizeLine/\(a==sysModules)=false/\∃xs:List (List Key × Addr × Value),
   Paired (λ(p:List Key × V) (q:List Key × Addr × Value)=>p.1=q.1/\H q.2.1=some (.tup (p.1.map kV))/\RelV p.2 q.2.2) bX xs /\
   ∃o es ep,h.get? a=some o/\o.ExactDict/\o.data=.dict es ep/\es.toList=xs.map (entryOfKey (tupleKind (Ew P w)))/\(xs.map (·.1)).Nodup
 | .set S n=>h.SetOf (intKind P w) a S n
 | .ins C dx fs=>H dx=some (.own a)/\fs.length<=1000/\dx≠a/\h.get? a=some (PySem.W.instObj C dx) /\
   ∃mA,h.Ns1 dx mA/\(∀f,gB (fs.lookup f) (mA f))/\PySem.Within mA (fs.map (·.1))
 | .own _=>∃o,h.get? a=some o
 | .xd fs=>∃mA,h.Ns1 a mA/\∀f,gB (fs.lookup f) (mA f)
 | .rA lo hi=>∃t u v,h.get? a=some { cls:=.type "range",data:=.fields #[.int lo t,.int hi u,.int 1 v] }
 | .bt o u=>h.get? a=some o/\cx H h a u
 | .bS ps=>h.get? a=some { cls:=.none,data:=.fields ps }/\TriplesOk ps.toList/\∀pos cv,codeAmong pos ps.toList=some cv->∃c φ,cv=.ref c/\H c=some (.ext φ)/\∀h',φ h'->∃q,h'.CodeRec (.ref c) q
 | .met f x=>h.get? a=some (PySem.W.methodObj (.ref f) (.ref x))
 | .ext φ=>φ h/\(∃o,h.get? a=some o)/\∀h1 h2:Heap,φ h1->(∀b o,(b=a\/H b=some (.own a))->h1.get? b=some o->h2.get? b=some o)->φ h2
noncomputable def bI(H:Hp)(h:Heap):Prop:=∀a o,H a=some o->cx P w H h a o
end
section
variable{P:Program}{w:World}{H H':Hp}{h h':Heap}{a:Addr}{o:HO}
theorem cx.lt(x:cx P w H h a o):a<h.objs.size:=by
 cases o with
 | lst xs=>obtain⟨_,_,_,_,e⟩:=x;exact aW e
 | tup xs=>obtain⟨_,_,_,p⟩:=x;exact p.lt
 | dK bX=>obtain⟨_,_,_,_,o,_,_,e,_⟩:=x;exact aW e
 | dT bX=>obtain⟨_,_,_,_,o,_,_,e,_⟩:=x;exact aW e
 | set S n=>obtain⟨o,_,_,_,e,_⟩:=x;exact aW e
 | ins C dx fs=>obtain⟨_,_,_,e,_⟩:=x;exact aW e
 | own y=>obtain⟨_,e⟩:=x;exact aW e
 | xd fs=>obtain⟨_,⟨_,_,_,e,_⟩,_⟩:=x;exact aW e
 | rA lo hi=>obtain⟨_,_,_,e⟩:=x;exact aW e
 | bt ob u=>obtain⟨e,_⟩:=x;exact aW e
 | bS ps=>exact aW (show h.get? a=some _ from x.1)
 | met f y=>exact aW (show h.get? a=some _ from x)
 | ext φ=>obtain⟨_,⟨_,e⟩,_⟩:=x;exact aW e
theorem Paired.xu{α β:Type}{F G:α->β->Prop}:∀{l₁:List α} {l₂:List β},Paired F l₁ l₂->(∀a b,F a b->G a b)->Paired G l₁ l₂
 | _,_,.nil,_=>.nil
 | _,_,.cons r t,f=>.cons (f _ _ r) (Paired.xu t f)
theorem cx.eK(x:cx P w H h a o)(k:∀b u,(b=a\/H b=some (.own a))->h.get? b=some u->h'.get? b=some u)
  (ho:∀b,H b=some (.own a)->H' b=some (.own a)) (ht:∀b xs,H b=some (.tup xs)->H' b=some (.tup xs)) (hx:∀b φ,H b=some (.ext φ)->H' b=some (.ext φ)):cx P w H' h' a o:=by
 induction o with
 | lst xs=>obtain⟨z,its,n,r,e⟩:=x;exact⟨z,its,n,r,k _ _ (.inl rfl) e⟩
 | tup xs=>obtain⟨z,its,r,ob,e,c⟩:=x;exact⟨z,its,r,ob,k _ _ (.inl rfl) e,c⟩
 | dK bX=>obtain⟨z,y,vs,r,ob,es,ep,e,c⟩:=x;exact⟨z,y,vs,r,ob,es,ep,k _ _ (.inl rfl) e,c⟩
 | dT bX =>
  obtain⟨z,y,xs,r,ob,es,ep,e,c⟩:=x
  exact⟨z,y,xs,Paired.xu r λp q z=>⟨z.1,ht _ _ z.2.1,z.2.2⟩,ob,es,ep,k _ _ (.inl rfl) e,c⟩
 | set S n=>obtain⟨ob,es,ep,t,e,c⟩:=x;exact⟨ob,es,ep,t,k _ _ (.inl rfl) e,c⟩
 | ins C dx fs =>
  obtain⟨d,z,ne,e,mA,⟨od,es,ep,e2,c⟩,r⟩:=x
  exact⟨ho _ d,z,ne,k _ _ (.inl rfl) e,mA,⟨od,es,ep,k _ _ (.inr d) e2,c⟩,r⟩
 | own y=>obtain⟨ob,e⟩:=x;exact⟨ob,k _ _ (.inl rfl) e⟩
 | xd fs=>obtain⟨mA,⟨od,es,ep,e,c⟩,r⟩:=x;exact⟨mA,⟨od,es,ep,k _ _ (.inl rfl) e,c⟩,r⟩
 | rA lo hi=>obtain⟨t,u,v,e⟩:=x;exact⟨t,u,v,k _ _ (.inl rfl) e⟩
 | bt ob u ih=>obtain⟨e,q⟩:=x;exact⟨k _ _ (.inl rfl) e,ih q⟩
 | bS ps =>
  obtain⟨e,t,c⟩:=x
  refine⟨k a _ (.inl rfl) e,t,λpos cv q=>?_⟩
  obtain⟨d,φ,e1,e2,e3⟩:=c pos cv q
  exact⟨d,φ,e1,hx _ _ e2,e3⟩
 | met f y =>
  have e:h.get? a=some (PySem.W.methodObj (.ref f) (.ref y)):=x
  show h'.get? a=some (PySem.W.methodObj (.ref f) (.ref y))
  exact k a _ (.inl rfl) e
 | ext φ=>obtain⟨p,⟨o,e⟩,st⟩:=x;exact⟨st _ _ p λb o hb q=>k _ _ hb q,⟨o,k _ _ (.inl rfl) e⟩,λh1 h2 p1 kk=>st h1 h2 p1 λb o hb q=>kk b o (hb.imp id (ho b)) q⟩
theorem bI.lt(x:bI P w H h)(e:H a=some o):a<h.objs.size:=(x a o e).lt
theorem bI.fresh(x:bI P w H h)(e:h.objs.size<=a):H a=none:=by
 cases q:H a with
 | none=>rfl
 | some u=>exact absurd (bQ (x.lt q) e) (fC _)
theorem bI.kept(x:bI P w H h)(k:∀b u,h.get? b=some u->h'.get? b=some u):bI P w H h':=λa o e =>
 (x a o e).eK (λb u _ q=>k b u q) (λ_ q=>q) (λ_ _ q=>q) λ_ _ q=>q
theorem bI.laid(x:bI P w H h)(k:∀b u,h.get? b=some u->h'.get? b=some u)(hp:h.objs.size<=a)(new:cx P w (upd H a o) h' a o):bI P w (upd H a o) h':=λb u e=>by
 have hn:=x.fresh hp
 by_cases hb:b=a
 ·subst hb;rw[bj]at e;cases e;exact new
 ·rw[az hb]at e
  exact(x b u e).eK (λc v _ q=>k c v q) (λc q=>by rw[az (cE q hn)];exact q) (λc xs q=>by rw[az (cE q hn)];exact q) λc xs q=>by rw[az (cE q hn)];exact q
end
noncomputable def Rd(H:Hp)(a:Addr)(u:HO):Prop:=H a=some u\/∃o,H a=some (.bt o u)
theorem Rd.of{H:Hp}{a:Addr}{u:HO}(h:H a=some u):Rd H a u:=.inl h
theorem Rd.ok{P:Program}{w:World}{H:Hp}{h:Heap}{a:Addr}{u:HO}(r:Rd H a u)(x:bI P w H h):cx P w H h a u:=by
 rcases r with r | ⟨o,r⟩
 ·exact x a u r
 ·obtain⟨_,q⟩:=x a _ r
  exact q
noncomputable def uh:Option HO->Prop
 | some (.lst _)=>True
 | some (.dK _)=>True
 | some (.dT _)=>True
 | some (.set _ _)=>True
 | some (.ins _ _ _)=>True
 | _=>False
section
variable{P:Program}{w:World}{H:Hp}{h h':Heap}{x e:Addr}{o':HO}
theorem bI.write(ok:bI P w H h)(mu:uh (H x))(he:e=x\/H e=some (.own x))(k:∀b u,b≠e->h.get? b=some u->h'.get? b=some u)(nK:∃u,h'.get? e=some u)
  (new:cx P w (upd H x o') h' x o'):bI P w (upd H x o') h':=λb u q=>by
 have Ey:∀c y,H c=some (.own y)->c≠x:=λc y r z=>by subst z;rw[r]at mu;exact mu
 have L9:∀c xs,H c=some (.tup xs)->c≠x:=λc xs r z=>by subst z;rw[r]at mu;exact mu
 by_cases hb:b=x
 ·subst hb;rw[bj]at q;cases q;exact new
 ·rw[az hb]at q
  by_cases kE:b=e
  ·have q':H b=some (.own x):=by
    rcases he with z | z
    ·exact absurd (kE.trans z) hb
    ·rw[kE];exact z
   rw[q]at q';cases q'
   obtain⟨v,hv⟩:=nK
   exact⟨v,by rw[kE];exact hv⟩
  ·refine(ok b u q).eK (λc v hc r=>k c v ?_ r) (λc r=>by rw[az (Ey c b r)];exact r) (λc xs r=>by rw[az (L9 c xs r)];exact r) λc φ r=>by rw[az (λz=>by rw[z]at r;rw[r]at mu;exact mu)];exact r
   rcases hc with rfl | hc
   ·exact kE
   ·rintro rfl
    rcases he with z | z
    ·exact Ey c b hc z
    ·rw[hc]at z;cases z;exact hb rfl
end
structure Un(fs ex:List Addr)(H H':Hp)(h h':Heap):Prop where
 keep:∀b o,h.get? b=some o->H b=none->b ∉ fs->b ∉ ex->h'.get? b=some o
 slot:∀b o,h.get? b=some o->H b=none->b∈fs->b ∉ ex->∃sl,h'.get? b=some { o with slots:=sl }
 free:∀b o,h.get? b=some o->H b=none->b ∉ ex->H' b=none
 there:∀b o,h.get? b=some o->b ∉ ex->∃o',h'.get? b=some o'
 dn:∀b xs,H b=some (.tup xs)->H' b=some (.tup xs)
 dh:∀b o u,H b=some (.bt o u)->H' b=some (.bt o u)
 cS:∀b ps,H b=some (.bS ps)->∃more,H' b=some (.bS (ps++more))
section
variable{fs xv ex Ez:List Addr}{H H1 H2:Hp}{h h1 h2 h':Heap}{a x e:Addr}{o:HO}
theorem Un.any(u:Un fs ex H H1 h h1){b:Addr}{ob:Obj}(q:h.get? b=some ob)(n:H b=none)(hx:b ∉ ex):∃sl,h1.get? b=some { ob with slots:=sl }:=by
 by_cases hb:b∈fs
 ·exact u.slot b ob q n hb hx
 ·exact⟨ob.slots,u.keep b ob q n hb hx⟩
theorem Un.trans(a:Un fs ex H H1 h h1)(b:Un fs ex H1 H2 h1 h2):Un fs ex H H2 h h2 where
 keep:=λc ob q n hc hx=>b.keep c ob (a.keep c ob q n hc hx) (a.free c ob q n hx) hc hx
 slot:=λc ob q n hc hx=>by
  obtain⟨sl,e1⟩:=a.slot c ob q n hc hx
  obtain⟨kF,e2⟩:=b.slot c _ e1 (a.free c ob q n hx) hc hx
  exact⟨kF,e2⟩
 free:=λc ob q n hx=>by
  obtain⟨o',e1⟩:=a.there c ob q hx
  exact b.free c o' e1 (a.free c ob q n hx) hx
 there:=λc ob q hx=>by
  obtain⟨o',e1⟩:=a.there c ob q hx
  exact b.there c o' e1 hx
 dn:=λc xs q=>b.dn c xs (a.dn c xs q)
 dh:=λc ob xs q=>b.dh c ob xs (a.dh c ob xs q)
 cS:=λc ps q=>by
  obtain⟨m1,e1⟩:=a.cS c ps q
  obtain⟨m2,e2⟩:=b.cS c _ e1
  exact⟨m1++m2,by rw[e2,qQ]⟩
theorem Un.kept(k:∀b u,h.get? b=some u->h'.get? b=some u):Un fs ex H H h h' :=
 ⟨λb ob q _ _ _=>k b ob q,λb ob q _ _ _=>⟨ob.slots,k b ob q⟩,λ_ _ _ n _=>n,λb ob q _=>⟨ob,k b ob q⟩,λ_ _ q=>q,λ_ _ _ q=>q,λ_ ps q=>⟨#[],by rw[q];simp⟩⟩
theorem Un.refl:Un fs ex H H h h:=Un.kept λ_ _ q=>q
theorem Un.laid(k:∀b u,h.get? b=some u->h'.get? b=some u)(hp:h.objs.size<=a)(hn:H a=none):Un fs ex H (upd H a o) h h' where
 keep:=λb u q _ _ _=>k b u q
 slot:=λb u q _ _ _=>⟨u.slots,k b u q⟩
 free:=λb u q n _=>by rw[az (cM (bQ (aW q) hp))];exact n
 there:=λb u q _=>⟨u,k b u q⟩
 dn:=λb xs q=>by rw[az (cE q hn)];exact q
 dh:=λb u xs q=>by rw[az (cE q hn)];exact q
 cS:=λb ps q=>⟨#[],by rw[az (cE q hn),q];simp⟩
theorem Un.write(mu:uh (H x))(he:e=x\/H e=some (.own x))(k:∀b u,b≠e->h.get? b=some u->h'.get? b=some u)(nK:∃u,h'.get? e=some u):Un fs ex H (upd H x o) h h':=by
 have hx:∀b,H b=none->b≠x:=λb n z=>by subst z;rw[n]at mu;exact mu
 have hb:∀b,H b=none->b≠e:=λb n z=>by
  subst z
  rcases he with r | r
  ·exact hx b n r
  ·rw[n]at r;cases r
 have hm:∀b u,H b=some u->¬ uh (some u)->b≠x:=λb u q nm z=>by subst z;rw[q]at mu;exact nm mu
 refine⟨λb u q n _ _=>k b u (hb b n) q,λb u q n _ _=>⟨u.slots,k b u (hb b n) q⟩,λb u q n _=>by rw[az (hx b n)];exact n,λb u q _=>?_,
  λb xs q=>by rw[az (hm b _ q λz=>z)];exact q,λb u xs q=>by rw[az (hm b _ q λz=>z)];exact q,λb ps q=>⟨#[],by rw[az (hm b _ q λz=>z),q];simp⟩⟩
 by_cases kE:b=e
 ·subst kE;exact nK
 ·exact⟨u,k b u kE q⟩
theorem Un.mono(u:Un fs ex H H1 h h1)(hs:∀b∈fs,b∈xv)(hx:∀b∈ex,b∈Ez):Un xv Ez H H1 h h1 :=
 ⟨λb ob q n hb he=>u.keep b ob q n (λz=>hb (hs b z)) λz=>he (hx b z),λ_ _ q n _ he=>u.any q n λz=>he (hx _ z),λb ob q n he=>u.free b ob q n λz=>he (hx b z),λb ob q he=>u.there b ob q λz=>he (hx b z),u.dn,u.dh,u.cS⟩
end
noncomputable def ui(h:Heap)(H:Hp):List Addr:=(aT h.objs.size).filter λa=>(H a).isSome
noncomputable def gC(h:Heap)(H:Hp):Heap:=PySem.W.hideAll h (ui h H)
theorem Ma(h:Heap)(H:Hp):(gC h H).objs.size=h.objs.size:=PySem.W.hideAll_size _ _
theorem Mb{h:Heap}{H:Hp}{b:Addr}{o:Obj}(e:h.get? b=some o)(n:H b=none):(gC h H).get? b=some o :=
 PySem.W.hideAll_get _ e λhm=>by
  have q:(H b).isSome=true:=(D2.mp hm).2
  rw[n]at q;simp at q
theorem Mc{h:Heap}{H:Hp}{b:Addr}{o:Obj}(e:(gC h H).get? b=some o):h.get? b=some o/\H b=none:=by
 have e':h.get? b=some o:=PySem.W.of_hideAll (ui h H) e
 refine⟨e',?_⟩
 cases q:H b with
 | none=>rfl
 | some x =>
  have hm:b∈ui h H:=D2.mpr ⟨fg.mpr (aW e'),by simp[q]⟩
  have z:(gC h H).get? b=none:=PySem.W.hideAll_none (ui h H) hm
  rw[z]at e;cases e
noncomputable def Md(g h:Heap)(L:Addr):List (Addr × Obj):=(aT h.objs.size).filterMap λa=>if a=L\/(g.get? a).isSome=true then none else(h.get? a).map λo=>(a,o)
noncomputable def cy(g h:Heap)(L d:Addr):List (Addr × Obj):=(Md g h L).filter λp=>decide (p.1≠d)
end L2
namespace L2
open PySem PySem.Spec PyProof.Rows
structure Mod(K:PySem.W.Frag)(mg:Str->Option Value)(base:Heap):Prop where
 fY:K.In base
 glob:base.Ns mainGlobals mg
 blt:∃mb,base.Ns builtinsNs mb/\∀x:Str,x≠"__name__"->mb x=bootBuiltins x
 nolimit:base.NoLimit
structure Cx where
 prog:Program
 w:World
 K:PySem.W.Frag
 mg:Str->Option Value
 base:Heap
 A:Around
 N:List Str
 bu:Shared
 fZ:Hp
 env:Env
 outer:List Env
 stack:List Env
 ex:List Addr
 fn:Str->Bool
 calm:Bool
 pn:List (Addr × Obj)
 xe:Value->Shared->Prop
noncomputable def bY(l:List Env):List Addr:=l.filterMap (·.frame)
noncomputable abbrev Cx.fs(X:Cx):List Addr:=bY X.outer
noncomputable def ik(sc:Scope)(x:Str):Prop:=sc.names.lookup x=some .local\/sc.names.lookup x=some .cell\/sc.names.lookup x=some .free
noncomputable def Loc(sc:Scope)(x:Str):Prop:=sc.names.lookup x=some .local\/sc.names.lookup x=some .cell
noncomputable def Me(env:Env)(h:Heap)(m:Str->Option Value)(x:Str)(u:Value):Prop :=
 (env.kindOf x=some .local/\m x=some u)\/((env.kindOf x=some .cell\/env.kindOf x=some .free)/\∃c,env.cells.lookup x=some c/\h.IsCell c (some u))
structure Cx.Ok(X:Cx):Prop where
 mod:Mod X.K X.mg X.base
 kind:X.env.scope.kind=.function
 glob:X.env.globals=mainGlobals
 blt:X.env.builtins=builtinsNs
 above:X.bu.heap.objs.size<=X.env.locals
 inj:∀x y c,X.env.cells.lookup x=some c->X.env.cells.lookup y=some c->x=y
 has:∀x,(X.env.kindOf x=some .cell\/X.env.kindOf x=some .free)->∃c,X.env.cells.lookup x=some c
 il:∀x c,X.fn x=true->X.env.cells.lookup x=some c->X.bu.heap.objs.size<=c
 hd:X.calm=true->X.A.handled=none
 frames:X.A.frames=some X.stack
 kG:X.stack=X.outer\/(X.stack=X.env::X.outer/\X.env.frame=some X.env.locals)
 kH:∀b∈X.ex,b≠X.env.locals/\∀x c,X.env.cells.lookup x=some c->c≠b
 bs:∀b o,X.base.get? b=some o->X.bu.heap.get? b=some o/\X.fZ b=none
 dX:X.base.objs.size<=X.bu.heap.objs.size
 ji:∀b o,X.base.get? b=some o->b ∉ X.ex
 jj:∀b∈X.ex,b ∉ X.fs
 di:X.bu.heap.FunFrames X.base X.outer
 et:∀b∈X.fs,X.fZ b=none
structure Inv(X:Cx)(pins:List (Addr × Obj))(σ:List (Option V))(H:Hp)(s:Shared):Prop where
 ok:X.Ok
 os:s.os=X.bu.os
 bare:AllBare s.gens
 base:Un X.fs X.ex X.fZ H X.bu.heap s.heap
 loc:∃m,s.heap.Ns X.env.locals m/\∀(i:Nat) (x:Str) (v:V),X.N[i]?=some x->σ[i]?=some (some v)->ik X.env.scope x->∃u,RelV v u/\Me X.env s.heap m x u
 cell:∀x c,X.env.cells.lookup x=some c->∃v,s.heap.IsCell c v
 free:H X.env.locals=none
 dj:∀x c,X.env.cells.lookup x=some c->H c=none
 pin:∀p∈X.pn++pins,s.heap.get? p.1=some p.2/\H p.1=none/\p.1≠X.env.locals/\p.1 ∉ X.fs/\∀v,p.2.data≠.cell v
 aq:bI X.prog X.w H s.heap
 len:σ.length=X.N.length
section
variable{X:Cx}{pins:List (Addr × Obj)}{σ:List (Option V)}{H H':Hp}{s:Shared}{h':Heap}
theorem Cx.Ok.Mg(ok:X.Ok){b:Addr}{o:Obj}(e:X.base.get? b=some o):b ∉ X.fs:=λhb=>by
 have:=(ok.di.mem hb).1
 rw[e]at this;cases this
theorem Inv.bs(I:Inv X pins σ H s):∀b o,X.base.get? b=some o->s.heap.get? b=some o/\H b=none:=λb o e =>
 ⟨I.base.keep b o (I.ok.bs b o e).1 (I.ok.bs b o e).2 (I.ok.Mg e) (I.ok.ji b o e),I.base.free b o (I.ok.bs b o e).1 (I.ok.bs b o e).2 (I.ok.ji b o e)⟩
theorem Inv.bk(I:Inv X pins σ H s):∀b o,X.base.get? b=some o->s.heap.get? b=some o:=λb o e=>(I.bs b o e).1
theorem Inv.mod(I:Inv X pins σ H s):Mod X.K X.mg X.base:=I.ok.mod
theorem Inv.bq(I:Inv X pins σ H s):X.K.In s.heap:=I.ok.mod.fY.keeps I.bk
theorem Inv.nolimit(I:Inv X pins σ H s):s.heap.NoLimit:=I.ok.mod.nolimit.keeps I.bk
theorem Inv.fr(I:Inv X pins σ H s):∃m,Fr X.base X.env.locals s.heap m :=
 let⟨m,hn,_⟩:=I.loc
 ⟨m,hn,I.bk,dv I.ok.dX I.ok.above⟩
theorem Inv.lt(I:Inv X pins σ H s):X.env.locals<s.heap.objs.size:=let⟨_,hn,_⟩:=I.loc;hn.lt
theorem Inv.sz(I:Inv X pins σ H s):X.bu.heap.objs.size<=s.heap.objs.size:=dv I.ok.above (wW I.lt)
theorem Inv.EA(I:Inv X pins σ H s){a:Addr}(h:s.heap.objs.size<=a):a ∉ X.fs:=λhb=>by
 obtain⟨_,o,ho,_⟩:=I.ok.di.mem hb
 exact absurd (bQ (aW ho) (dv I.sz h)) (fC _)
theorem Inv.fF(I:Inv X pins σ H s):∀x c,X.env.cells.lookup x=some c->c≠X.env.locals:=λx c e z=>by
 obtain⟨v,o,ho,hd⟩:=I.cell x c e
 obtain⟨m,⟨o',es,ep,gb,rB,_⟩,_⟩:=I.loc
 rw[z,gb]at ho;cases ho;rw[rB]at hd;cases hd
theorem Inv.di(I:Inv X pins σ H s):s.heap.FunFrames X.base X.outer:=by
 have all:∀(l:List Env),(∀b∈bY l,b∈X.fs)->X.bu.heap.FunFrames X.base l->s.heap.FunFrames X.base l:=by
  intro l
  induction l with
  | nil=>intro _ _;trivial
  | cons env r ih =>
   intro hs hl
   obtain⟨hk,⟨L,o,hf,hn,ho,hd⟩,hr⟩:=hl
   have hL:L∈X.fs:=hs L (by unfold bY;rw[nu,hf];exact D3)
   obtain⟨sl,e⟩:=I.base.slot L o ho (I.ok.et L hL) hL λz=>I.ok.jj L z hL
   exact⟨hk,⟨L,_,hf,hn,e,hd⟩,ih (λb hb=>hs b (by unfold bY;rw[nu,hf];exact hG _ hb)) hr⟩
 exact all X.outer (λ_ hb=>hb) I.ok.di
theorem Inv.stack(I:Inv X pins σ H s):s.heap.FunFrames X.base X.stack:=by
 rcases I.ok.kG with e | ⟨e,hf⟩
 ·rw[e];exact I.di
 ·rw[e]
  obtain⟨m,hn,_⟩:=I.loc
  refine .cons (by rw[I.ok.kind];decide) hf hn ?_ I.di
  exact Heap.get?_none_of_le (dv I.ok.dX I.ok.above)
theorem Inv.rC(I:Inv X pins σ H s):∀b∈bY X.stack,b∈X.env.locals::X.fs:=λb hb=>by
 rcases I.ok.kG with e | ⟨e,hf⟩
 ·rw[e]at hb;exact hG _ hb
 ·rw[e]at hb
  unfold bY at hb
  rw[nu,hf]at hb
  exact hb
theorem Inv.uj(I:Inv X pins σ H s):∀b∈bY X.stack,H b=none:=λb hb=>by
 rcases cI.mp (I.rC b hb)with e | hb
 ·rw[e];exact I.free
 ·obtain⟨_,o,ho,_⟩:=I.ok.di.mem hb
  exact I.base.free b o ho (I.ok.et b hb) λz=>I.ok.jj b z hb
theorem Inv.step{g':Array GenState}{t':Nat}{d':Drawn}{ch:List Addr}(I:Inv X pins σ H s)
  (gD:∀b∈ch,(b∈X.ex\/X.bu.heap.objs.size<=b)/\b≠X.env.locals/\(∀x c,X.env.cells.lookup x=some c->c≠b)/\∀p∈X.pn++pins,p.1≠b)
  (keep:∀b o,b≠X.env.locals->b ∉ X.fs->b ∉ ch->s.heap.get? b=some o->H b=none->h'.get? b=some o)
  (slot:∀b o,b≠X.env.locals->b∈X.fs->b ∉ ch->s.heap.get? b=some o->H b=none->∃sl,h'.get? b=some { o with slots:=sl }) (free:∀b o,b ∉ ch->s.heap.get? b=some o->H b=none->H' b=none)
  (there:∀b o,b ∉ ch->s.heap.get? b=some o->∃o',h'.get? b=some o')
  (dn:∀b xs,H b=some (.tup xs)->H' b=some (.tup xs)) (dh:∀b o u,H b=some (.bt o u)->H' b=some (.bt o u)) (cS:∀b ps,H b=some (.bS ps)->∃more,H' b=some (.bS (ps++more)))
  (ns:∀m,s.heap.Ns X.env.locals m->h'.Ns X.env.locals m) (aq:bI X.prog X.w H' h') (hg:AllBare g') :
  Inv X pins σ H' { s with heap:=h',gens:=g',drawn:=d',toks:=t' }:=by
 have nL:∀b o,X.bu.heap.get? b=some o->b≠X.env.locals:=λb o e=>cM (bQ (aW e) I.ok.above)
 have kI:∀b o,X.bu.heap.get? b=some o->b ∉ X.ex->b ∉ ch:=λb o e hx hb=>by
  rcases(gD b hb).1 with z | z
  ·exact hx z
  ·exact absurd (bQ (aW e) z) (fC _)
 have cellK:∀x c,X.env.cells.lookup x=some c->∀v,s.heap.IsCell c v->h'.IsCell c v:=λx c e v ⟨o,ho,hd⟩=>by
  have rD:c ∉ ch:=λz=>(gD c z).2.2.1 x c e rfl
  by_cases hc:c∈X.fs
  ·obtain⟨sl,q⟩:=slot c o (I.fF x c e) hc rD ho (I.dj x c e)
   exact⟨_,q,hd⟩
  ·exact⟨o,keep c o (I.fF x c e) hc rD ho (I.dj x c e),hd⟩
 refine⟨I.ok,I.os,hg,⟨λb o e n hb hx=>?_,λb o e n hb hx=>?_,λb o e n hx=>?_,λb o e hx=>?_,λb xs e=>dn b xs (I.base.dn b xs e),λb o xs e=>dh b o xs (I.base.dh b o xs e),λb ps e=>?_⟩,?_,λx c e=>?_,?_,λx c e=>?_,λp hp=>?_,aq,I.len⟩
 ·exact keep b o (nL b o e) hb (kI b o e hx) (I.base.keep b o e n hb hx) (I.base.free b o e n hx)
 ·obtain⟨sl,e1⟩:=I.base.slot b o e n hb hx
  obtain⟨kF,e2⟩:=slot b _ (nL b o e) hb (kI b o e hx) e1 (I.base.free b o e n hx)
  exact⟨kF,e2⟩
 ·obtain⟨o',e1⟩:=I.base.there b o e hx
  exact free b o' (kI b o e hx) e1 (I.base.free b o e n hx)
 ·obtain⟨o',e1⟩:=I.base.there b o e hx
  exact there b o' (kI b o e hx) e1
 ·obtain⟨m1,e1⟩:=I.base.cS b ps e
  obtain⟨m2,e2⟩:=cS b _ e1
  exact⟨m1++m2,by rw[e2,qQ]⟩
 ·obtain⟨m,hn,hl⟩:=I.loc
  refine⟨m,ns m hn,λi x v e1 e2 e3=>?_⟩
  obtain⟨u,r,l⟩:=hl i x v e1 e2 e3
  refine⟨u,r,?_⟩
  rcases l with l | ⟨k,c,e,z⟩
  ·exact .inl l
  ·exact .inr ⟨k,c,e,cellK x c e _ z⟩
 ·obtain⟨v,z⟩:=I.cell x c e
  exact⟨v,cellK x c e v z⟩
 ·obtain⟨m,⟨o,_,_,ho,_⟩,_⟩:=I.loc
  exact free _ o (λz=>(gD _ z).2.1 rfl) ho I.free
 ·obtain⟨v,o,ho,hd⟩:=I.cell x c e
  exact free c o (λz=>(gD c z).2.2.1 x c e rfl) ho (I.dj x c e)
 ·obtain⟨e,n,ne,nf,d⟩:=I.pin p hp
  have rD:p.1 ∉ ch:=λz=>(gD p.1 z).2.2.2 p hp rfl
  exact⟨keep p.1 p.2 ne nf rD e n,free p.1 p.2 rD e n,ne,nf,d⟩
theorem Inv.un{t':Nat}(I:Inv X pins σ H s)(u:Un X.fs [] H H' s.heap h')(aq:bI X.prog X.w H' h'):Inv X pins σ H' { s with heap:=h',toks:=t' }:=by
 obtain⟨m,⟨o,es,ep,ho,r⟩,_⟩:=id I.loc
 obtain⟨sl,hL⟩:=u.any ho I.free (by simp)
 exact I.step (g':=s.gens) (d':=s.drawn) (ch:=[]) (λ_ z=>nomatch z) (λb o _ hb _ e n=>u.keep b o e n hb (by simp)) (λb o _ hb _ e n=>u.slot b o e n hb (by simp)) (λb o _ e n=>u.free b o e n (by simp)) (λb o _ e=>u.there b o e (by simp)) u.dn u.dh u.cS (λm' hm=>by
  obtain⟨o',xw,xx,gb,r'⟩:=hm
  rw[ho]at gb;cases gb
  exact⟨_,xw,xx,hL,r'⟩) aq I.bare
theorem Inv.call{g':Array GenState}{t':Nat}{d':Drawn}{ch:List Addr}(I:Inv X pins σ H s)(u:Un (bY X.stack) ch H H' s.heap h')(aq:bI X.prog X.w H' h')(hg:AllBare g')
  (gD:∀b∈ch,(b∈X.ex\/X.bu.heap.objs.size<=b)/\b≠X.env.locals/\(∀x c,X.env.cells.lookup x=some c->c≠b)/\∀p∈X.pn++pins,p.1≠b) :
  Inv X pins σ H' { s with heap:=h',gens:=g',drawn:=d',toks:=t' }:=by
 obtain⟨m,⟨o,es,ep,ho,r⟩,_⟩:=id I.loc
 obtain⟨sl,hL⟩:=u.any ho I.free λz=>(gD _ z).2.1 rfl
 exact I.step (ch:=ch) gD (λb o hL hb hc e n=>u.keep b o e n (λz=>(cI.mp (I.rC b z)).elim hL hb) hc) (λb o _ _ hc e n=>u.any e n hc) (λb o hc e n=>u.free b o e n hc) (λb o hc e=>u.there b o e hc) u.dn u.dh u.cS (λm' hm=>by
  obtain⟨o',xw,xx,gb,r'⟩:=hm
  rw[ho]at gb;cases gb
  exact⟨_,xw,xx,hL,r'⟩) aq hg
theorem Inv.turned{t':Nat}{it:Addr}(I:Inv X pins σ H s)(k:∀b o,b≠it->s.heap.get? b=some o->h'.get? b=some o)(hn:H it=none)(hL:it≠X.env.locals)
  (h1:it∈X.ex\/X.bu.heap.objs.size<=it) (h2:∀x c,X.env.cells.lookup x=some c->c≠it) (h3:∀p∈X.pn++pins,p.1≠it):Inv X pins σ H { s with heap:=h',toks:=t' }:=by
 have jk:∀b u,H b=some u->b≠it:=λb u e z=>by rw[z,hn]at e;cases e
 refine I.step (g':=s.gens) (d':=s.drawn) (ch:=[it]) (λb hb=>?_) (λb o _ _ hc e _=>k b o (λz=>hc (by simp[z])) e) (λb o _ _ hc e _=>⟨o.slots,k b o (λz=>hc (by simp[z])) e⟩) (λ_ _ _ _ n=>n)
  (λb o hc e=>⟨o,k b o (λz=>hc (by simp[z])) e⟩) (λ_ _ e=>e) (λ_ _ _ e=>e) (λb ps e=>⟨#[],by rw[e];simp⟩) (λm hm=>?_) (λb u e=>?_) I.bare
 ·have e:b=it:=by simpa using hb
  subst e
  exact⟨h1,hL,h2,h3⟩
 ·obtain⟨o,es,ep,ho,r⟩:=hm
  exact⟨o,es,ep,k _ o (dD hL) ho,r⟩
 ·refine(I.aq b u e).eK (λc v hc q=>k c v ?_ q) (λ_ q=>q) (λ_ _ q=>q) λ_ _ q=>q
  rcases hc with z | z
  ·rw[z];exact jk b u e
  ·exact jk c _ z
theorem Inv.tok(I:Inv X pins σ H s)(t:Nat):Inv X pins σ H { s with toks:=t }:=I.un (h':=s.heap) (t':=t) Un.refl I.aq
theorem Inv.kept{t':Nat}(I:Inv X pins σ H s)(k:∀b u,s.heap.get? b=some u->h'.get? b=some u):Inv X pins σ H { s with heap:=h',toks:=t' }:=I.un (Un.kept k) (I.aq.kept k)
theorem Inv.laid{a:Addr}{o:HO}{t':Nat}(I:Inv X pins σ H s)(k:∀b u,s.heap.get? b=some u->h'.get? b=some u)(hp:s.heap.objs.size<=a)(new:cx X.prog X.w (upd H a o) h' a o) :
  Inv X pins σ (upd H a o) { s with heap:=h',toks:=t' }:=I.un (Un.laid k hp (I.aq.fresh hp)) (I.aq.laid k hp new)
theorem Inv.write{x e:Addr}{o:HO}{t':Nat}(I:Inv X pins σ H s)(mu:uh (H x))(he:e=x\/H e=some (.own x))(k:∀b u,b≠e->s.heap.get? b=some u->h'.get? b=some u)(nK:∃u,h'.get? e=some u)
  (new:cx X.prog X.w (upd H x o) h' x o):Inv X pins σ (upd H x o) { s with heap:=h',toks:=t' }:=I.un (Un.write mu he k nK) (I.aq.write mu he k nK new)
theorem Inv.weak{aj:List (Option V)}(I:Inv X pins σ H s)(hl:aj.length=σ.length)(w:∀(i:Nat) v,aj[i]?=some (some v)->σ[i]?=some (some v)):Inv X pins aj H s :=
 ⟨I.ok,I.os,I.bare,I.base,let⟨m,hn,xy⟩:=I.loc;⟨m,hn,λi x v e1 e2 e3=>xy i x v e1 (w i v e2) e3⟩,I.cell,I.free,I.dj,I.pin,I.aq,hl.trans I.len⟩
theorem Inv.EB{nM:List (Addr × Obj)}(I:Inv X pins σ H s)(h:∀p∈nM,s.heap.get? p.1=some p.2/\H p.1=none/\p.1≠X.env.locals/\p.1 ∉ X.fs/\∀v,p.2.data≠.cell v):Inv X nM σ H s :=
 ⟨I.ok,I.os,I.bare,I.base,I.loc,I.cell,I.free,I.dj,λp hp=>(dW.mp hp).elim (λz=>I.pin p (fh _ z)) (h p),I.aq,I.len⟩
theorem xA{N:List Str}(hN:N.Nodup){i j:Nat}{x:Str}(a:N[i]?=some x)(b:N[j]?=some x):i=j:=by
 obtain⟨h1,e1⟩:=kg.mp a
 obtain⟨h2,e2⟩:=kg.mp b
 exact(List.getElem_inj hN).mp (e1.trans e2.symm)
theorem Mh{M:Model}{A:Around}{E:Value->Shared->Prop}{i:Nat}{x:Str}{v:V}{u:Value}{Q:Unit->Shared->Prop}(I:Inv X pins σ H s)(hN:X.N.Nodup)(hi:X.N[i]?=some x)(hx:Loc X.env.scope x)(r:RelV v u)
  (h:∀s',Inv X pins (σ.set i (some v)) H s'->(∃a,Heap.SameBut a s.heap s'.heap/\(a=X.env.locals\/X.env.cells.lookup x=some a))->Q () s') (hf:X.fn x=true\/X.env.scope.names.lookup x=some .local:=by first | exact .inl rfl | exact .inr rfl | assumption):wpAny M A (storeName X.env x u) Q E s:=by
 obtain⟨m,hn,hl⟩:=id I.loc
 have Mi:(X.env.scope.kind==.class||(X.env.scope.kind==.module&&X.env.locals != X.env.globals))=false:=by rw[I.ok.kind];rfl
 have EC:i<σ.length:=by rw[I.len];exact(kg.mp hi).1
 have fF:=I.fF
 have tracked:∀{a:Addr} {h':Heap},(∃o,s.heap.get? a=some o/\H a=none)->Heap.SameBut a s.heap h'->bI X.prog X.w H h':=λ{a h'} ha hs b ob e=>by
  obtain⟨_,_,ED⟩:=ha
  refine(I.aq b ob e).eK (λc w' hc q=>(hs.2 c ?_).trans q) (λ_ q=>q) (λ_ _ q=>q) λ_ _ q=>q
  rintro rfl
  rcases hc with rfl | hc
  ·rw[ED]at e;cases e
  ·rw[ED]at hc;cases hc
 rcases hx with hk | hk
 ·refine wpAny_storeName_local hk hn (λh' xB hs=>?_) Mi
  obtain⟨oL,_,_,EE,_⟩:=id hn
  refine h _ ⟨I.ok,I.os,I.bare,⟨λb o e n hb hx=>?_,λb o e n hb hx=>?_,I.base.free,λb o e hx=>?_,I.base.dn,I.base.dh,I.base.cS⟩,⟨_,xB,λj y v' e1 e2 e3=>?_⟩,λy c e=>?_,I.free,I.dj,λp hp=>?_,tracked ⟨oL,EE,I.free⟩ hs,by simpa using I.len⟩ ⟨_,hs,.inl rfl⟩
  ·exact(hs.2 b (cM (bQ (aW e) I.ok.above))).trans (I.base.keep b o e n hb hx)
  ·obtain⟨sl,e1⟩:=I.base.slot b o e n hb hx
   exact⟨sl,(hs.2 b (cM (bQ (aW e) I.ok.above))).trans e1⟩
  ·obtain⟨o',e1⟩:=I.base.there b o e hx
   exact⟨o',(hs.2 b (cM (bQ (aW e) I.ok.above))).trans e1⟩
  ·by_cases hj:j=i
   ·subst hj
    rw[hi]at e1;cases e1
    rw[D4 EC]at e2
    cases e2
    exact⟨u,r,.inl ⟨hk,by simp⟩⟩
   ·rw[qR (dD hj)]at e2
    obtain⟨u',r',q⟩:=hl j y v' e1 e2 e3
    refine⟨u',r',?_⟩
    rcases q with⟨k,e⟩ | ⟨k,c,e,z⟩
    ·refine .inl ⟨k,?_⟩
     have:y≠x:=λe=>hj (xA hN e1 (e ▸ hi))
     simp[this,e]
    ·exact .inr ⟨k,c,e,z.sameBut hs (fF y c e)⟩
  ·obtain⟨w',z⟩:=I.cell y c e
   exact⟨w',z.sameBut hs (fF y c e)⟩
  ·obtain⟨e,n,ne,nf,d⟩:=I.pin p hp
   exact⟨(hs.2 p.1 ne).trans e,n,ne,nf,d⟩
 ·have rE:X.fn x=true:=by
   rcases hf with z | z
   ·exact z
   ·rw[z]at hk;cases hk
  obtain⟨c,hc⟩:=I.ok.has x (.inl hk)
  obtain⟨w',z⟩:=I.cell x c hc
  refine wpAny_storeName_cell I.ok.kind hk hc z (λh' rF hs=>?_)
  obtain⟨oc,eL,Mj⟩:=id z
  refine h { s with heap:=h' } ⟨I.ok,I.os,I.bare,⟨λb o e n hb hx=>?_,λb o e n hb hx=>?_,I.base.free,λb o e hx=>?_,I.base.dn,I.base.dh,I.base.cS⟩,⟨m,hn.sameBut hs (dD (fF x c hc)),λj y v' e1 e2 e3=>?_⟩,λy c' e=>?_,I.free,I.dj,λp hp=>?_,tracked ⟨oc,eL,I.dj x c hc⟩ hs,by simpa using I.len⟩ ⟨c,hs,.inr hc⟩
  ·exact(hs.2 b (cM (bQ (aW e) (I.ok.il x c rE hc)))).trans (I.base.keep b o e n hb hx)
  ·obtain⟨sl,e1⟩:=I.base.slot b o e n hb hx
   exact⟨sl,(hs.2 b (cM (bQ (aW e) (I.ok.il x c rE hc)))).trans e1⟩
  ·obtain⟨o',e1⟩:=I.base.there b o e hx
   exact⟨o',(hs.2 b (cM (bQ (aW e) (I.ok.il x c rE hc)))).trans e1⟩
  ·by_cases hj:j=i
   ·subst hj
    rw[hi]at e1;cases e1
    rw[D4 EC]at e2
    cases e2
    exact⟨u,r,.inr ⟨.inl hk,c,hc,rF⟩⟩
   ·rw[qR (dD hj)]at e2
    obtain⟨u',r',q⟩:=hl j y v' e1 e2 e3
    refine⟨u',r',?_⟩
    rcases q with q | ⟨k,c',e,z'⟩
    ·exact .inl q
    ·refine .inr ⟨k,c',e,z'.sameBut hs ?_⟩
     rintro rfl
     exact hj (xA hN e1 (I.ok.inj _ _ _ e hc ▸ hi))
  ·by_cases EF:c'=c
   ·subst EF;exact⟨_,rF⟩
   ·obtain⟨w2,z2⟩:=I.cell y c' e
    exact⟨w2,z2.sameBut hs EF⟩
  ·obtain⟨e,n,ne,nf,d⟩:=I.pin p hp
   refine⟨(hs.2 p.1 ?_).trans e,n,ne,nf,d⟩
   intro q
   rw[q,eL]at e
   have q':oc=p.2:=cR e
   exact d w' (by rw[<-q'];exact Mj)
theorem uk{M:Model}{A:Around}{E:Value->Shared->Prop}{i:Nat}{x:Str}{v:V}{u:Value}{Q:Unit->Shared->Prop}(I:Inv X pins σ H s)(hN:X.N.Nodup)(hi:X.N[i]?=some x)(hx:Loc X.env.scope x)(r:RelV v u)
  (h:∀s',Inv X pins (σ.set i (some v)) H s'->Q () s') (hf:X.fn x=true\/X.env.scope.names.lookup x=some .local:=by first | exact .inl rfl | exact .inr rfl | assumption):wpAny M A (storeName X.env x u) Q E s :=
 Mh I hN hi hx r (λs' I' _=>h s' I') hf
theorem Inv.xC{s':Shared}{ch:List Addr}(I:Inv X pins σ H s)(ho:s'.os=s.os)(u:Un (bY X.stack) ch H H' s.heap s'.heap)(aq:bI X.prog X.w H' s'.heap)(hg:AllBare s'.gens)
  (gD:∀b∈ch,(b∈X.ex\/X.bu.heap.objs.size<=b)/\b≠X.env.locals/\(∀x c,X.env.cells.lookup x=some c->c≠b)/\∀p∈X.pn++pins,p.1≠b):Inv X pins σ H' s':=by
 obtain⟨h',g',d',t',o'⟩:=s'
 have e:o'=s.os:=ho
 subst e
 exact I.call (g':=g') (t':=t') (d':=d') u aq hg gD
end
noncomputable abbrev XK:=Value->Option Addr->Hp->Prop
noncomputable abbrev St:=List (Option V)
noncomputable abbrev VK:=V->Hp->Prop
noncomputable abbrev TE:=St->Hp->VK->Prop
noncomputable abbrev TT:=St->Hp->(Bool->Hp->Prop)->Prop
noncomputable abbrev TA:=St->Hp->(List V->Hp->Prop)->Prop
structure Ends where
 nx:St->Hp->Prop
 rt:VK
 bk:St->Hp->Prop:=λ_ _=>False
 ct:St->Hp->Prop:=λ_ _=>False
noncomputable abbrev TS:=Ends->St->Hp->Prop
noncomputable def EP(X:Cx)(pins:List (Addr × Obj))(σ:St)(Q:VK)(u:Value)(s':Shared):Prop:=∃v H',Inv X pins σ H' s'/\RelV v u/\Q v H'
noncomputable def TP(X:Cx)(pins:List (Addr × Obj))(σ:St)(Q:Bool->Hp->Prop)(b:Bool)(s':Shared):Prop:=∃H',Inv X pins σ H' s'/\Q b H'
noncomputable def AP(X:Cx)(pins:List (Addr × Obj))(σ:St)(Q:List V->Hp->Prop)(us:List Value)(s':Shared):Prop:=∃vs H',Inv X pins σ H' s'/\Vals vs us/\Q vs H'
noncomputable def SP(X:Cx)(pins:List (Addr × Obj))(D:Ends)(f:Flow)(s':Shared):Prop :=
 match f with
 | .next=>∃aj H',Inv X pins aj H' s'/\D.nx aj H'
 | .brk=>∃aj H',Inv X pins aj H' s'/\D.bk aj H'
 | .cont=>∃aj H',Inv X pins aj H' s'/\D.ct aj H'
 | .ret u=>∃v aj H',Inv X pins aj H' s'/\RelV v u/\D.rt v H'
noncomputable def PE(X:Cx)(e:Expr)(t:TE):Prop :=
 ∀(pins:List (Addr × Obj)) (s:Shared) (σ:St) (H:Hp) (Q:VK),Inv X pins σ H s->t σ H Q->wpAny (model X.prog X.w) X.A (eval e X.env) (EP X pins σ Q) X.xe s
noncomputable def PT(X:Cx)(e:Expr)(t:TT):Prop :=
 ∀(pins:List (Addr × Obj)) (s:Shared) (σ:St) (H:Hp) (Q:Bool->Hp->Prop),Inv X pins σ H s->t σ H Q->wpAny (model X.prog X.w) X.A (isTrue e X.env (eval e X.env)) (TP X pins σ Q) X.xe s
noncomputable def PW(X:Cx)(e:Expr)(t:TT):Prop :=
 ∀(whole:Sem Value) (pins:List (Addr × Obj)) (s:Shared) (σ:St) (H:Hp) (Q:Bool->Hp->Prop),Inv X pins σ H s->t σ H Q->wpAny (model X.prog X.w) X.A (isTrue e X.env whole) (TP X pins σ Q) X.xe s
theorem PW.pt{X:Cx}{e:Expr}{t:TT}(h:PW X e t):PT X e t:=h _
noncomputable def PA(X:Cx)(es:List Expr)(t:TA):Prop :=
 ∀(pos:Pos) (pins:List (Addr × Obj)) (s:Shared) (σ:St) (H:Hp) (Q:List V->Hp->Prop),Inv X pins σ H s->t σ H Q->wpAny (model X.prog X.w) X.A (spliced (backTo pos (starEach es X.env))) (AP X pins σ Q) X.xe s
noncomputable def PS(X:Cx)(st:Stmt)(t:TS):Prop :=
 ∀(pins:List (Addr × Obj)) (s:Shared) (σ:St) (H:Hp) (D:Ends),Inv X pins σ H s->t D σ H->wpAny (model X.prog X.w) X.A (exec st X.env) (SP X pins D) X.xe s
noncomputable def PSs(X:Cx)(st:List Stmt)(t:TS):Prop :=
 ∀(pins:List (Addr × Obj)) (s:Shared) (σ:St) (H:Hp) (D:Ends),Inv X pins σ H s->t D σ H->wpAny (model X.prog X.w) X.A (execs st X.env) (SP X pins D) X.xe s
theorem aw{α:Type}{t:Sem α}{Q Q':α->Shared->Prop}{M:Model}{A:Around}{E:Value->Shared->Prop}{s:Shared}(h:wpAny M A t Q E s)(hQ:∀a s,Q a s->Q' a s):wpAny M A t Q' E s:=wpAny_mono h hQ λ_ _ x=>x
end L2
namespace L2
open PySem PySem.Spec PyProof.Rows
section
variable{X:Cx}
noncomputable def EG(i:Nat):TE:=λσ H Q=>∃v,σ[i]?=some (some v)/\Q v H
noncomputable def tC(v:V):TE:=λ_ H Q=>Q v H
theorem nN{i:Nat}{x:Str}{pos:Pos}(hN:X.N[i]?=some x)(hv:ik X.env.scope x)(hd:(x==("__debug__":Str))=false:=by decide)(bO:(x==("__classdict__":Str))=false:=by decide):PE X (.Name x pos) (EG i):=by
 intro pins s σ H Q I h
 obtain⟨v,e,h⟩:=h
 obtain⟨m,hn,hl⟩:=I.loc
 obtain⟨u,r,l⟩:=hl i x v hN e hv
 have fin:EP X pins σ Q u s:=⟨v,H,I,r,h⟩
 rcases l with⟨hk,hm⟩ | ⟨hk,c,hc,eM⟩
 ·exact wpAny_Name (wpAny_loadName_local I.ok.kind hk hn hm fin) hd
 ·rcases hk with hk | hk
  ·exact wpAny_Name (wpAny_loadName_cell I.ok.kind hk hc eM fin) hd
  ·exact wpAny_Name (wpAny_loadName_free I.ok.kind hk hc eM fin bO) hd
theorem rG{i j pos}:PE X (.Constant (.int i) j pos) (tC (.int i)):=λ_ _ _ H _ I h=>wpAny_Constant_int ⟨.int i,H,I.tok _,⟨_,rfl⟩,h⟩
theorem Ml{b j pos}:PE X (.Constant (.bool b) j pos) (tC (.bl b)):=λ_ _ _ H _ I h=>Constant_bool ⟨.bl b,H,I,rfl,h⟩
theorem Mm{j pos}:PE X (.Constant .none j pos) (tC .ai):=λ_ _ _ H _ I h=>Constant_none ⟨.ai,H,I,rfl,h⟩
theorem Mn{x j pos}:PE X (.Constant (.str x) j pos) (tC (.str x)):=λ_ _ _ H _ I h=>Calls.Constant_str ⟨.str x,H,I.tok _,⟨_,rfl⟩,h⟩
noncomputable def Gl(X:Cx)(x:Str):Prop:=X.env.kindOf x=some .globalImplicit
theorem jl{E:Value->Shared->Prop}{pins:List (Addr × Obj)}{s:Shared}{σ:St}{H:Hp}{x:Str}{u:Value}{pos:Pos}{Q:Value->Shared->Prop}(I:Inv X pins σ H s)(hg:Gl X x)(hm:X.mg x=some u)(h:Q u s)
  (hd:(x==("__debug__":Str))=false:=by decide):wpAny (model X.prog X.w) X.A (eval (.Name x pos) X.env) Q E s :=
 LF I.ok.kind hg (Calls.loadGlobal_global (by rw[I.ok.glob];exact I.mod.glob.keeps I.bk) hm h) hd
theorem nO{E:Value->Shared->Prop}{pins:List (Addr × Obj)}{s:Shared}{σ:St}{H:Hp}{x:Str}{u:Value}{pos:Pos}{Q:Value->Shared->Prop}(I:Inv X pins σ H s)(hg:Gl X x)(hm:X.mg x=none)(hv:bootBuiltins x=some u)(h:Q u s)
  (hn:x≠"__name__":=by decide) (hd:(x==("__debug__":Str))=false:=by decide):wpAny (model X.prog X.w) X.A (eval (.Name x pos) X.env) Q E s:=by
 obtain⟨mb,h1,h2⟩:=I.mod.blt
 exact LF I.ok.kind hg (Calls.loadGlobal_builtin (by rw[I.ok.glob];exact I.mod.glob.keeps I.bk) hm (by rw[I.ok.blt];exact h1.keeps I.bk) ((h2 x hn).trans hv) h) hd
theorem EH{x:Str}{v:V}{u:Value}{pos:Pos}(hg:Gl X x)(hm:X.mg x=some u)(r:RelV v u)(hd:(x==("__debug__":Str))=false:=by decide):PE X (.Name x pos) (tC v) :=
 λ_ _ _ H _ I h=>jl I hg hm ⟨v,H,I,r,h⟩ hd
theorem Mo{x:Str}{v:V}{u:Value}{pos:Pos}(hg:Gl X x)(hm:X.mg x=none)(hv:bootBuiltins x=some u)(r:RelV v u)(hn:x≠"__name__":=by decide)(hd:(x==("__debug__":Str))=false:=by decide):PE X (.Name x pos) (tC v) :=
 λ_ _ _ H _ I h=>nO I hg hm hv ⟨v,H,I,r,h⟩ hn hd
variable{a b:Expr}{ta tb:TE}{pos:Pos}
noncomputable def tB(t:TE):TT:=λσ H Q=>t σ H λx H1=>∃c,x=.bl c/\Q c H1
theorem xD{e:Expr}{t:TE}(h:PE X e t)(he:∀whole,isTrue e X.env whole=(do let v<-whole;standAt e.pos;holding [v] (truthy v)):=by intro _;rfl):PT X e (tB t):=by
 intro pins s σ H Q I hw
 refine isTrue_plain (aw (h pins s σ H _ I hw) λv s1 ⟨x,H1,I1,r1,q1⟩=>?_) (he _)
 obtain⟨d,rfl,q⟩:=q1
 cases r1
 exact wpAny_truthy_bool ⟨H1,I1,q⟩
variable{tA EI:TT}{cy:List Expr}
noncomputable def Mp(t u:TT):TT:=λσ H Q=>t σ H λc H1=>if c=true then Q true H1 else u σ H1 Q
noncomputable def Mq(t:TT):TT:=λσ H Q=>t σ H λc H1=>Q (!c) H1
theorem xE(ha:PT X a tA):PW X (.BoolOp .Or [a] pos) tA:=by
 intro wh pins s σ H Q I h
 refine isTrue_or (aw (ha pins s σ H Q I h) λc s1 e=>?_)
 cases c with
 | false=>exact isTrue_or_nil e
 | true=>exact e
theorem Mr(ha:PT X a tA)(hb:PW X (.BoolOp .Or (b::cy) pos) EI):PW X (.BoolOp .Or (a::b::cy) pos) (Mp tA EI):=by
 intro wh pins s σ H Q I h
 refine isTrue_or (aw (ha pins s σ H _ I h) λc s1 ⟨H1,I1,q1⟩=>?_)
 cases c with
 | true=>exact⟨H1,I1,q1⟩
 | false=>exact hb wh pins s1 σ H1 Q I1 q1
theorem xF(ha:PT X a tA):PT X (.UnaryOp .Not a pos) (Mq tA):=by
 intro pins s σ H Q I h
 exact isTrue_not (ha pins s σ H (λc H1=>Q (!c) H1) I h)
noncomputable def Ms(ta tb:TE):TE:=λσ H Q=>ta σ H λx H1=>∃c,x=.bl c/\if c=true then tb σ H1 Q else Q (.bl false) H1
noncomputable def Mt(ta:TE):TE:=λσ H Q=>ta σ H λx H1=>∃c,x=.bl c/\Q (.bl (!c)) H1
theorem gE{op}{t:TE}(h:PE X a t):PE X (.BoolOp op [a] pos) t:=λpins s σ H Q I hw=>BoolOp_one (h pins s σ H Q I hw)
theorem Mu(ha:PE X a ta)(hb:PE X (.BoolOp .And (b::cy) pos) tb):PE X (.BoolOp .And (a::b::cy) pos) (Ms ta tb):=by
 intro pins s σ H Q I h
 refine BoolOp_and (aw (ha pins s σ H _ I h) λv s1 ⟨x,H1,I1,r1,q1⟩=>?_)
 obtain⟨c,rfl,q1⟩:=q1
 cases r1
 refine wpAny_truthy_bool ?_
 cases c with
 | true=>exact hb pins s1 σ H1 Q I1 q1
 | false=>exact⟨.bl false,H1,I1,rfl,q1⟩
theorem Mv(ha:PE X a ta):PE X (.UnaryOp .Not a pos) (Mt ta):=by
 intro pins s σ H Q I h
 refine UnaryOp_ (aw (ha pins s σ H _ I h) λv s1 ⟨x,H1,I1,r1,q1⟩=>?_)
 obtain⟨c,rfl,q1⟩:=q1
 cases r1
 exact not_of (wpAny_truthy_bool ⟨.bl (!c),H1,I1,rfl,q1⟩)
end
end L2
namespace L2
open PySem PySem.Spec PyProof.Rows
noncomputable def bJ(K:PySem.W.Frag)(H:Hp)(a:Addr)(xs:List V):Prop :=
 Rd H a (.lst xs) \/
  ∃(o:Obj) (its:Array Value) (n:Nat),K.lookup a=some o/\o.cls=.type "list"/\o.dict=none/\o.data=.seq its n/\its.size<=sizeLine/\Vals xs its.toList
noncomputable def dY(K:PySem.W.Frag)(H:Hp)(a:Addr)(xs:List V):Prop :=
 Rd H a (.tup xs) \/
  ∃(o:Obj) (its:Array Value) (n:Nat),K.lookup a=some o/\o.cls=.type "tuple"/\o.data=.seq its n/\its.size<=sizeLine/\Vals xs its.toList
noncomputable def Mw:Value->Option V
 | .none=>some .ai
 | .bool b=>some (.bl b)
 | .int i _=>some (.int i)
 | .str x _=>some (.str x)
 | .bytes b _=>some (.ug b)
 | .float b _=>some (.kD b)
 | .ref a=>some (.ref a)
 | .type n=>some (.ty n)
 | _=>none
theorem RelV.abs{x:V}{u:Value}(r:RelV x u):Mw u=some x:=by
 cases x with
 | ai=>cases r;rfl
 | bl _=>cases r;rfl
 | int _=>obtain⟨t,rfl⟩:=r;rfl
 | str _=>obtain⟨t,rfl⟩:=r;rfl
 | ug _=>obtain⟨t,rfl⟩:=r;rfl
 | kD _=>obtain⟨t,rfl⟩:=r;rfl
 | ref _=>cases r;rfl
 | ty _=>cases r;rfl
theorem RelV.inj{x y:V}{u:Value}(r:RelV x u)(q:RelV y u):x=y:=cR (r.abs.symm.trans q.abs)
theorem Vals.inj:∀{xs ys:List V} {us:List Value},Vals xs us->Vals ys us->xs=ys
 | _,_,_,.nil,.nil=>rfl
 | _,_,_,.cons r t,.cons r' t'=>by rw[r.inj r',Vals.inj t t']
section
variable{X:Cx}{pins:List (Addr × Obj)}{σ:St}{H:Hp}{s:Shared}{a:Addr}{xs ys:List V}
theorem bJ.of{K:PySem.W.Frag}(h:H a=some (.lst xs)):bJ K H a xs:=.inl (.inl h)
theorem dY.of{K:PySem.W.Frag}(h:H a=some (.tup xs)):dY K H a xs:=.inl (.inl h)
theorem Inv.list(I:Inv X pins σ H s)(h:bJ X.K H a xs):∃its:List Value,Vals xs its/\PlainL s.heap a its.toArray/\xs.length<=sizeLine:=by
 rcases h with h | ⟨o,its,n,hk,hc,hd,hs,hz,r⟩
 ·obtain⟨z,its,n,r,e⟩:=h.ok I.aq
  exact⟨its,r,⟨_,n,e,rfl,rfl,rfl⟩,z⟩
 ·refine⟨its.toList,r,⟨o,n,I.bq a o hk,hc,hd,by simpa using hs⟩,?_⟩
  have e:=r.length
  simp only[LG]at e
  omega
theorem Inv.tuple(I:Inv X pins σ H s)(h:dY X.K H a xs):∃its:List Value,Vals xs its/\IsTup s.heap a its.toArray/\xs.length<=sizeLine:=by
 rcases h with h | ⟨o,its,n,hk,hc,hs,hz,r⟩
 ·obtain⟨z,its,r,p⟩:=h.ok I.aq
  exact⟨its,r,p,z⟩
 ·refine⟨its.toList,r,⟨o,I.bq a o hk,hc,n,by simpa using hs⟩,?_⟩
  have e:=r.length
  simp only[LG]at e
  omega
theorem Inv.EJ(I:Inv X pins σ H s)(h:bJ X.K H a xs)(h':bJ X.K H a ys):xs=ys:=by
 obtain⟨its,r,⟨o,n,e,_,_,d⟩,_⟩:=I.list h
 obtain⟨its',r',⟨o',n',e',_,_,d'⟩,_⟩:=I.list h'
 rw[e]at e';cases e'
 rw[d]at d'
 injection d' with d1 _
 have:its=its':=by simpa using congrArg Array.toList d1
 subst this
 exact r.inj r'
end
noncomputable abbrev Cx.fm(X:Cx)(E:Value->Shared->Prop):Cx:={ X with xe:=E }
noncomputable abbrev Cx.dq(X:Cx):Cx:=X.fm λ_ _=>False
theorem Cx.Ok.fm{X:Cx}(ok:X.Ok)(E:Value->Shared->Prop):(X.fm E).Ok :=
 ⟨ok.mod,ok.kind,ok.glob,ok.blt,ok.above,ok.inj,ok.has,ok.il,ok.hd,ok.frames,ok.kG,ok.kH,ok.bs,ok.dX,ok.ji,ok.jj,ok.di,ok.et⟩
theorem Cx.Ok.gg{X:Cx}{E:Value->Shared->Prop}(ok:(X.fm E).Ok):X.Ok :=
 ⟨ok.mod,ok.kind,ok.glob,ok.blt,ok.above,ok.inj,ok.has,ok.il,ok.hd,ok.frames,ok.kG,ok.kH,ok.bs,ok.dX,ok.ji,ok.jj,ok.di,ok.et⟩
section
variable{X:Cx}{pins:List (Addr × Obj)}{σ:St}{H:Hp}{s:Shared}{E:Value->Shared->Prop}
theorem Inv.fm(I:Inv X pins σ H s)(E:Value->Shared->Prop):Inv (X.fm E) pins σ H s:=⟨I.ok.fm E,I.os,I.bare,I.base,I.loc,I.cell,I.free,I.dj,I.pin,I.aq,I.len⟩
theorem Inv.gg(I:Inv (X.fm E) pins σ H s):Inv X pins σ H s:=⟨I.ok.gg,I.os,I.bare,I.base,I.loc,I.cell,I.free,I.dj,I.pin,I.aq,I.len⟩
theorem SP.gg{D:Ends}{f:Flow}{s':Shared}(h:SP (X.fm E) pins D f s'):SP X pins D f s':=by
 cases f with
 | next=>obtain⟨aj,H',I,q⟩:=h;exact⟨aj,H',I.gg,q⟩
 | brk=>obtain⟨aj,H',I,q⟩:=h;exact⟨aj,H',I.gg,q⟩
 | cont=>obtain⟨aj,H',I,q⟩:=h;exact⟨aj,H',I.gg,q⟩
 | ret u=>obtain⟨v,aj,H',I,r,q⟩:=h;exact⟨v,aj,H',I.gg,r,q⟩
theorem PE.dq{e:Expr}{t:TE}(h:PE X.dq e t):PE X e t:=λpins s σ H Q I hw =>
 wpAny_mono (h pins s σ H Q (I.fm _) hw) (λ_ _ ⟨v,H',I',r,q⟩=>⟨v,H',I'.gg,r,q⟩) λ_ _ z=>cm z
theorem PT.dq{e:Expr}{t:TT}(h:PT X.dq e t):PT X e t:=λpins s σ H Q I hw =>
 wpAny_mono (h pins s σ H Q (I.fm _) hw) (λ_ _ ⟨H',I',q⟩=>⟨H',I'.gg,q⟩) λ_ _ z=>cm z
theorem PSs.dq{st:List Stmt}{t:TS}(h:PSs X.dq st t):PSs X st t:=λpins s σ H D I hw =>
 wpAny_mono (h pins s σ H D (I.fm _) hw) (λ_ _ q=>q.gg) λ_ _ z=>cm z
end
section
variable{X:Cx}{st:Stmt}{cy:List Stmt}{t u:TS}{e:Expr}{te:TE}{pos:Pos}
noncomputable def Mx:TS:=λD σ H=>D.nx σ H
noncomputable def Mz(t u:TS):TS:=λD σ H=>t { D with nx:=u D } σ H
theorem um:PSs X [] Mx:=λ_ _ σ H _ I h=>wpAny_execs_nil ⟨σ,H,I,h⟩
theorem gh(h1:PS X st t)(h2:PSs X cy u):PSs X (st::cy) (Mz t u):=by
 intro pins s σ H D I h
 refine wpAny_execs_cons (aw (h1 pins s σ H { D with nx:=u D } I h) λf s1 q=>?_)
 cases f with
 | next =>
  obtain⟨aj,H',I',q⟩:=q
  exact h2 pins s1 aj H' D I' q
 | ret v=>exact q
 | brk=>exact q
 | cont=>exact q
theorem nQ(h1:PS X st t):PSs X [st] t:=by
 intro pins s σ H D I h
 refine wpAny_execs_cons (aw (h1 pins s σ H D I h) λf s1 q=>?_)
 cases f with
 | next=>exact wpAny_execs_nil q
 | ret v=>exact q
 | brk=>exact q
 | cont=>exact q
theorem Inv.quiet{pins:List (Addr × Obj)}{σ:St}{H:Hp}{s:Shared}(I:Inv X pins σ H s):interactive X.env=false:=by simp[interactive,I.ok.kind]
noncomputable def MA(te:TE):TS:=λD σ H=>te σ H λ_ H1=>D.nx σ H1
theorem xG(he:PE X e te)(hs:swapsWith e none pos.line X.env=pure false:=by rfl):PS X (.Expr e pos) (MA te):=by
 intro pins s σ H D I h
 exact wpAny_Expr_any (aw (he pins s σ H _ I h) λv s1 ⟨x,H1,I1,r1,q1⟩=>⟨σ,H1,I1,q1⟩) I.quiet hs
noncomputable def MB(te:TE):TS:=λD σ H=>te σ H D.rt
theorem MC(he:PE X e te):PS X (.Return (some e) pos) (MB te):=by
 intro pins s σ H D I h
 exact wpAny_Return_some (aw (he pins s σ H _ I h) λv s1 ⟨x,H1,I1,r1,q1⟩=>⟨x,σ,H1,I1,r1,q1⟩)
noncomputable def MD(c:TT)(t u:TS):TS:=λD σ H=>c σ H λb H1=>if b=true then t D σ H1 else u D σ H1
theorem xH{c:Expr}{a b:List Stmt}{tc:TT}(hc:PT X c tc)(ha:PSs X a t)(hb:PSs X b u):PS X (.If c a b pos) (MD tc t u):=by
 intro pins s σ H D I h
 refine wpAny_If (aw (hc pins s σ H _ I h) λd s1 ⟨H1,I1,q1⟩=>?_)
 cases d with
 | true=>exact ha pins s1 σ H1 D I1 q1
 | false=>exact hb pins s1 σ H1 D I1 q1
noncomputable def EK:TS:=λ_ _ _=>False
theorem EL:PS X st EK:=λ_ _ _ _ _ _ h=>h.elim
theorem ME{nR:List Stmt}:PSs X nR EK:=λ_ _ _ _ _ _ h=>h.elim
end
noncomputable abbrev TG:=V->St->Hp->(St->Hp->Prop)->Prop
noncomputable abbrev kJ:=List V->St->Hp->(St->Hp->Prop)->Prop
noncomputable def PG(X:Cx)(target:Expr)(t:TG):Prop :=
 ∀(pins:List (Addr × Obj)) (s:Shared) (σ:St) (H:Hp) (v:V) (u:Value) (Q:St->Hp->Prop),Inv X pins σ H s->RelV v u->t v σ H Q ->
  wpAny (model X.prog X.w) X.A (assign target X.env u) (λ_ s'=>∃aj H',Inv X pins aj H' s'/\Q aj H') X.xe s
noncomputable def uo(X:Cx)(ts:List Expr)(t:kJ):Prop :=
 ∀(pins:List (Addr × Obj)) (s:Shared) (σ:St) (H:Hp) (vs:List V) (us:List Value) (Q:St->Hp->Prop),Inv X pins σ H s->Vals vs us->t vs σ H Q ->
  wpAny (model X.prog X.w) X.A (assignInOrder ((assignEach ts X.env).map (·.2)) us) (λ_ s'=>∃aj H',Inv X pins aj H' s'/\Q aj H') X.xe s
noncomputable abbrev xI:=V->V->V->Hp->(Hp->Prop)->Prop
noncomputable def EM(X:Cx)(t:xI):Prop :=
 ∀(pins:List (Addr × Obj)) (s:Shared) (σ:St) (H:Hp) (o i v:V) (ov iv u:Value) (Q:Hp->Prop),Inv X pins σ H s->RelV o ov->RelV i iv->RelV v u->t o i v H Q ->
  wpAny (model X.prog X.w) X.A (setItem ov iv u) (λ_ s'=>∃H',Inv X pins σ H' s'/\Q H') X.xe s
noncomputable abbrev xJ:=V->V->Hp->VK->Prop
noncomputable def MF(X:Cx)(op:Operator)(t:xJ):Prop :=
 ∀(pins:List (Addr × Obj)) (s:Shared) (σ:St) (H:Hp) (x y:V) (v u:Value) (Q:VK),Inv X pins σ H s->RelV x v->RelV y u->t x y H Q ->
  wpAny (model X.prog X.w) X.A (inplaceOp op v u) (EP X pins σ Q) X.xe s
section
variable{X:Cx}{pos:Pos}
noncomputable def uq(i:Nat):TG:=λv σ H Q=>Q (σ.set i (some v)) H
theorem ur{i:Nat}{x:Str}(hN:X.N.Nodup)(hi:X.N[i]?=some x)(hx:Loc X.env.scope x)(hf:X.fn x=true\/X.env.scope.names.lookup x=some .local:=by first | exact .inl rfl | exact .inr rfl | assumption):PG X (.Name x pos) (uq i):=by
 intro pins s σ H v u Q I r h
 exact wpAny_assign_Name (uk I hN hi hx r (λs' I'=>⟨_,H,I',h⟩) hf)
noncomputable def MG:kJ:=λvs σ H Q=>vs=[]/\Q σ H
noncomputable def MH(t:TG)(u:kJ):kJ:=λvs σ H Q=>∃v r,vs=v::r/\t v σ H λaj H'=>u r aj H' Q
theorem MI:uo X [] MG:=by
 intro pins s σ H vs us Q I r h
 obtain⟨e,h⟩:=h
 subst e
 cases r
 exact assignInOrder_nil ⟨σ,H,I,h⟩
theorem EN{e:Expr}{es:List Expr}{t:TG}{u:kJ}(h1:PG X e t)(h2:uo X es u)
  (hs:(assignEach (e::es) X.env).map (·.2)=assign e X.env::(assignEach es X.env).map (·.2):=by rfl):uo X (e::es) (MH t u):=by
 intro pins s σ H vs us Q I r h
 obtain⟨v,vr,e1,h⟩:=h
 subst e1
 cases r with
 | cons r rr =>
  rw[hs]
  refine assignInOrder_cons (aw (h1 pins s σ H _ _ _ I r h) λ_ s1 ⟨dF,H1,I1,q1⟩=>?_)
  exact h2 pins s1 dF H1 _ _ Q I1 rr q1
noncomputable def MJ(K:PySem.W.Frag)(n:Nat)(t:kJ):TG:=λv σ H Q=>∃a xs,v=.ref a/\dY K H a xs/\xs.length=n/\t xs σ H Q
theorem MK{es:List Expr}{k:Nat}{t:kJ}{n:Nat}(hc:X.calm=true)(h:uo X es t)
  (hn:(assignEach es X.env).length=n:=by rfl) (bw:(assignEach es X.env).findIdx? (·.1)=none:=by rfl):PG X (.Tuple es k pos) (MJ X.K n t):=by
 intro pins s σ H v u Q I r hw
 obtain⟨a,xs,e1,hq,hl,hw⟩:=hw
 subst e1
 cases r
 obtain⟨its,rv,ht,hz⟩:=I.tuple hq
 refine assign_Tuple_tuple (I.ok.hd hc) ht (by simp[hn,<- hl,rv.length]) bw λh' hx=>?_
 have I1:Inv X pins σ H { s with heap:=h' }:=I.kept (t':=s.toks) λb o e=>hx b o (cM (aW e)) e
 exact h pins _ σ H xs _ Q I1 (by simpa using rv) hw
noncomputable def ML(to ti:TE)(t:xI):TG:=λv σ H Q=>to σ H λo H1=>ti σ H1 λi H2=>t o i v H2 λH3=>Q σ H3
theorem MM{o i:Expr}{to ti:TE}{t:xI}(ho:PE X o to)(hi:PE X i ti)(hs:EM X t)
  (ha:∀v,assign (.Subscript o i pos) X.env v=(do
   let ov<-holding [v] (eval o X.env)
   let iv<-holding [v,ov] (eval i X.env)
   standAt pos
   holding [v,ov,iv] (setItem ov iv v)
   release [v,ov,iv] []):=by intro _;rfl):PG X (.Subscript o i pos) (ML to ti t):=by
 intro pins s σ H v u Q I r h
 rw[ha]
 refine wpAny_bind (wpAny_holding (aw (ho pins s σ H _ I h) λov s1 ⟨x,H1,I1,r1,q1⟩=>?_))
 refine wpAny_bind (wpAny_holding (aw (hi pins s1 σ H1 _ I1 q1) λiv s2 ⟨y,H2,I2,r2,q2⟩=>?_))
 refine wpAny_bind (wpAny_standAt (wpAny_bind (wpAny_holding (aw (hs pins s2 σ H2 x y v ov iv u _ I2 r1 r2 r q2) λ_ s3 ⟨H3,I3,q3⟩=>?_))))
 exact wpAny_release ⟨σ,H3,I3,q3⟩
noncomputable def xK(te:TE)(g:TG):TS:=λD σ H=>te σ H λx H1=>g x σ H1 D.nx
theorem MN{tg e:Expr}{te:TE}{g:TG}(he:PE X e te)(hg:PG X tg g)(hs:swapsWithSole [tg] e pos.line X.env=pure false:=by rfl)(hw:swappedStores [tg] e X.env=pure none:=by rfl)
  (h1:(assignEach [tg] X.env).map (·.2)=[assign tg X.env]:=by rfl):PS X (.Assign [tg] e pos) (xK te g):=by
 intro pins s σ H D I h
 refine wpAny_Assign_stores (aw (he pins s σ H _ I h) λv s1 ⟨x,H1,I1,r1,q1⟩=>?_) hs hw
 rw[h1]
 exact aw (hg pins s1 σ H1 x v _ I1 r1 q1) λ_ s2 q=>q
theorem EO{i:Nat}{x:Str}{e:Expr}{te:TE}{pos':Pos}(hN:X.N.Nodup)(hi:X.N[i]?=some x)(hx:Loc X.env.scope x)(he:PE X e te)(hs:swapsWith e (some (.Name x pos')) pos.line X.env=pure false:=by rfl)(hf:X.fn x=true\/X.env.scope.names.lookup x=some .local:=by first | exact .inl rfl | exact .inr rfl | assumption) :
  PS X (.Assign [.Name x pos'] e pos) (xK te (uq i)):=by
 intro pins s σ H D I h
 refine wpAny_Assign_Name (aw (he pins s σ H _ I h) λv s1 ⟨y,H1,I1,r1,q1⟩=>?_) hs
 exact uk I1 hN hi hx r1 (λs2 I2=>⟨_,H1,I2,q1⟩) hf
noncomputable def MP(i:Nat)(te:TE)(ti:xJ):TS:=λD σ H=>∃x,σ[i]?=some (some x)/\te σ H λy H1=>ti x y H1 λz H2=>D.nx (σ.set i (some z)) H2
theorem MQ{i:Nat}{x:Str}{e:Expr}{te:TE}{op:Operator}{ti:xJ}{pos':Pos}(hN:X.N.Nodup)(hi:X.N[i]?=some x)(hx:Loc X.env.scope x)(he:PE X e te)(ho:MF X op ti)(hf:X.fn x=true\/X.env.scope.names.lookup x=some .local:=by first | exact .inl rfl | exact .inr rfl | assumption) :
  PS X (.AugAssign (.Name x pos') op e pos) (MP i te ti):=by
 intro pins s σ H D I h
 obtain⟨v,e1,h⟩:=h
 obtain⟨m,hn,hl⟩:=I.loc
 have MR:ik X.env.scope x:=by rcases hx with k | k;exact .inl k;exact .inr (.inl k)
 obtain⟨u,r,l⟩:=hl i x v hi e1 MR
 refine wpAny_AugAssign_Name ?_
 have go:wpAny (model X.prog X.w) X.A (eval e X.env) (λw fo=>wpAny (model X.prog X.w) X.A (inplaceOp op u w) (λr MS=>wpAny (model X.prog X.w) X.A (storeName X.env x r) (λ_=>SP X pins D .next) X.xe MS) X.xe fo) X.xe s:=by
  refine aw (he pins s σ H _ I h) λw s1 ⟨y,H1,I1,r1,q1⟩=>?_
  refine aw (ho pins s1 σ H1 v y u w _ I1 r r1 q1) λz s2 ⟨zv,H2,I2,r2,q2⟩=>?_
  exact uk I2 hN hi hx r2 (λs3 I3=>⟨_,H2,I3,q2⟩) hf
 rcases l with⟨hk,hm⟩ | ⟨hk,c,hc,eM⟩
 ·exact wpAny_loadName_local I.ok.kind hk hn hm go
 ·rcases hk with hk | hk
  ·exact wpAny_loadName_cell I.ok.kind hk hc eM go
  ·rcases hx with k | k
   ·have:X.env.scope.names.lookup x=some .free:=hk
    rw[k]at this;cases this
   ·have:X.env.scope.names.lookup x=some .free:=hk
    rw[k]at this;cases this
end
section
variable{X:Cx}{pos:Pos}
noncomputable def MT(c:TT)(tb:TS):TS:=λD σ H=>∃W:Nat->St->Hp->Prop,(∃m,W m σ H)/\∀m σ H,W m σ H ->
 c σ H λb H1=>if b=true then ∃N:St->Hp->Prop,(∀aj H',N aj H'->∃m',m'<m/\W m' aj H')/\tb { D with nx:=N,ct:=N,bk:=D.nx } σ H1 else D.nx σ H1
theorem MU{c:Expr}{body:List Stmt}{tc:TT}{tb:TS}(hp:PassesOwn (model X.prog X.w) X.A X.env X.xe)(hc:PT X c tc)(hb:PSs X body tb):PS X (.While c body [] pos) (MT tc tb):=by
 intro pins s σ H D I h
 obtain⟨W,⟨m0,w0⟩,turn⟩:=h
 refine wpAny_While (codeAny_whileLoop (λn s'=>∃aj H',Inv X pins aj H' s'/\W n aj H') ?_ m0 ⟨σ,H,I,w0⟩)
 rintro n s1 ⟨dF,H1,I1,w1⟩
 refine wpAny_passesOwn hp (aw (hc pins s1 dF H1 _ I1 (turn n dF H1 w1)) λb s2 ⟨H2,I2,q2⟩=>?_)
 cases b with
 | true =>
  obtain⟨N,hN,q2⟩:=q2
  rw[if_pos rfl]
  refine wpAny_passesOwn hp (aw (hb pins s2 dF H2 _ I2 q2) λf s3 q3=>?_)
  cases f with
  | next =>
   obtain⟨gi,H3,I3,n3⟩:=q3
   obtain⟨m',hm,w3⟩:=hN gi H3 n3
   exact⟨m',hm,gi,H3,I3,w3⟩
  | cont =>
   obtain⟨gi,H3,I3,n3⟩:=q3
   obtain⟨m',hm,w3⟩:=hN gi H3 n3
   exact⟨m',hm,gi,H3,I3,w3⟩
  | brk=>exact q3
  | ret v=>exact q3
 | false =>
  rw[if_neg tV]
  exact wpAny_execs_nil ⟨dF,H2,I2,q2⟩
end
structure It where
 go:Nat->Hp->Prop
 gj:Nat->Hp->V->Hp->Prop
 stop:Nat->Hp->Prop
noncomputable def gk(X:Cx)(pins:List (Addr × Obj))(H:Hp)(b:Addr):Prop :=
 H b=none/\b≠X.env.locals/\b ∉ X.fs/\(b∈X.ex\/X.bu.heap.objs.size<=b)/\(∀x c,X.env.cells.lookup x=some c->c≠b)/\∀p∈X.pn++pins,p.1≠b
theorem Inv.xM{X:Cx}{pins:List (Addr × Obj)}{σ:St}{H H':Hp}{s:Shared}{b:Addr}(I:Inv X pins σ H s)(hb:s.heap.objs.size<=b)(hn:H' b=none):gk X pins H' b:=by
 refine⟨hn,Nat.ne_of_gt (bQ I.lt hb),I.EA hb,.inr (dv I.sz hb),λx c e z=>?_,λp hp z=>?_⟩
 ·obtain⟨v,q⟩:=I.cell x c e
  exact absurd (bQ q.lt (by rw[z];exact hb)) (fC _)
 ·exact absurd (bQ (aW (I.pin p hp).1) (by rw[z];exact hb)) (fC _)
structure Turn(P:Program)(w:World)(K:PySem.W.Frag)(tg:Expr)(J:It)(fp:List Addr)(it:Addr)(tn:Nat->Heap->Prop):Prop where
 mem:it∈fp
 obj:∀i h,tn i h->∀b∈fp,∃o,h.get? b=some o/\∀v,o.data≠.cell v
 keep:∀i h h',tn i h->(∀b∈fp,∀o,h.get? b=some o->h'.get? b=some o)->tn i h'
 item:∀(X:Cx),X.prog=P->X.w=w->X.K=K->X.calm=true->∀(i:Nat) (pins:List (Addr × Obj)) (s:Shared) (σ:St) (H:Hp) (E:Value->Shared->Prop),Inv X pins σ H s->(∀b∈fp,gk X pins H b)->tn i s.heap->J.go i H ->
  wpAny (model P w) X.A (pyNext (.ref it)) (λr s1=>∃u,r=some u /\
   wpAny (model P w) X.A (letOwnedTupleGo tg (.ref it) u) (λ_ s2=>∃x H',Inv X pins σ H' s2/\RelV x u/\J.gj i H x H'/\tn (i+1) s2.heap/\∀b∈fp,H' b=none) E s1) E s
 done:∀(X:Cx),X.prog=P->X.w=w->X.K=K->X.calm=true->∀(i:Nat) (pins:List (Addr × Obj)) (s:Shared) (σ:St) (H:Hp) (E:Value->Shared->Prop),Inv X pins σ H s->(∀b∈fp,gk X pins H b)->tn i s.heap->J.stop i H ->
  wpAny (model P w) X.A (pyNext (.ref it)) (λr s1=>r=none/\Inv X pins σ H s1) E s
 self:∀(A:Around) (i:Nat) (s:Shared) (Q:Value->Shared->Prop) (E:Value->Shared->Prop),tn i s.heap->Q (.ref it) s->wpAny (model P w) A (pyIter (.ref it)) Q E s
noncomputable abbrev TI:=St->Hp->(It->Hp->Prop)->Prop
noncomputable def ER(X:Cx)(pins:List (Addr × Obj))(σ:St)(tg:Expr)(R:It->Hp->Prop)(xN:Value)(s2:Shared):Prop :=
 ∃(it:Addr) (fp:List Addr) (tn:Nat->Heap->Prop) (J:It) (H':Hp),xN=.ref it/\Inv X pins σ H' s2/\Turn X.prog X.w X.K tg J fp it tn/\tn 0 s2.heap/\(∀b∈fp,gk X pins H' b)/\R J H'
noncomputable def PI(X:Cx)(tg iter:Expr)(wi:TI):Prop :=
 ∀(pins:List (Addr × Obj)) (s:Shared) (σ:St) (H:Hp) (R:It->Hp->Prop),Inv X pins σ H s->wi σ H R ->
  wpAny (model X.prog X.w) X.A (eval iter X.env) (λv s1=>wpAny (model X.prog X.w) X.A (pyIter v) (ER X pins σ tg R) X.xe s1) X.xe s
theorem ES{M:Model}{A:Around}{E:Value->Shared->Prop}{s:Shared}{tg:Expr}{it:Addr}{u:Value}{o:Obj}{n:String}{vs:Array Value}{Q:Unit->Shared->Prop}(ho:s.heap.get? it=some o)(hc:o.cls=.type n)(hd:o.data=.fields vs)
  (hn:["enumerate","zip","dict_itemiterator","dict_reverseitemiterator","odict_iterator","itertools.zip_longest","itertools.pairwise"].contains n=false) (hQ:Q () s):wpAny M A (letOwnedTupleGo tg (.ref it) u) Q E s:=by
 unfold letOwnedTupleGo
 cases tg<;>first
  | exact wpAny_pure hQ
  | (cases u<;>first
    | exact wpAny_pure hQ
    | (refine wpAny_bind (wpAny_load ho ?_)
       rw[hc,hd]
       show wpAny M A (if(["enumerate","zip","dict_itemiterator","dict_reverseitemiterator","odict_iterator","itertools.zip_longest","itertools.pairwise"].contains n&&vs[0]?==some (rawInt _))=true then _ else _) Q E s
       rw[if_neg (by intro h;rw[hn,fi]at h;cases h)]
       exact wpAny_pure hQ))
noncomputable def xO(K:PySem.W.Frag)(a:Addr):It :=
 ⟨λi H=>∃xs x,bJ K H a xs/\xs[i]?=some x,λi H x H'=>H'=H/\∀xs,bJ K H a xs->xs[i]?=some x,λi H=>∃xs,bJ K H a xs/\xs.length<=i⟩
noncomputable def rH(lo:Int)(n:Nat):It:=⟨λi _=>i<n,λi H x H'=>H'=H/\x=.int (lo+i),λi _=>n<=i⟩
theorem MV{P:Program}{w:World}{K:PySem.W.Frag}{tg:Expr}(a it:Addr):Turn P w K tg (xO K a) [it] it (λi h=>h.IsListIter it a i) where
 mem:=by simp
 obj:=λi h st b hb=>by
  have e:b=it:=by simpa using hb
  subst e
  obtain⟨o,e,c,d⟩:=st
  exact⟨o,e,λv z=>by rw[d]at z;cases z⟩
 keep:=λi h h' st k=>st.at λo e=>k it (by simp) o e
 item:=by
  intro X hP hw hK hc i pins s σ H E I hf st hg
  subst hP hw hK
  obtain⟨xs,x,hq,hx⟩:=hg
  obtain⟨its,rv,p,hz⟩:=I.list hq
  obtain⟨u,hu,ru⟩:=rv.get hx
  obtain⟨f0,f1,f2,f3,f4,f5⟩:=hf it (by simp)
  refine wpAny_pyNext_list_item st p.isList (x:=u) (by simpa using hu) λh' jm sb=>?_
  have I1:Inv X pins σ H { s with heap:=h' }:=I.turned (t':=s.toks) (λb o hb e=>(sb.2 b hb).trans e) f0 f1 f3 f4 f5
  obtain⟨o,e,c,d⟩:=id jm
  exact⟨u,rfl,ES (s:={ s with heap:=h' }) e c d (by decide) ⟨x,H,I1,ru,⟨rfl,λys hy=>by rw[I.EJ hy hq];exact hx⟩,jm,λb hb=>(hf b hb).1⟩⟩
 done:=by
  intro X hP hw hK hc i pins s σ H E I hf st hg
  subst hP hw hK
  obtain⟨xs,hq,hx⟩:=hg
  obtain⟨its,rv,p,hz⟩:=I.list hq
  obtain⟨f0,f1,f2,f3,f4,f5⟩:=hf it (by simp)
  have hl:=rv.length
  exact wpAny_pyNext_list_end (I.ok.hd hc) st p.isList (by simp;omega) λh' eb=>⟨rfl,I.turned (t':=s.toks) (λb o hb e=>eb b o hb e) f0 f1 f3 f4 f5⟩
 self:=λ_ _ _ _ _ st h=>wpAny_pyIter_listiter st h
theorem MW{P:Program}{w:World}{K:PySem.W.Frag}{tg:Expr}(it:Addr)(lo:Int)(n:Nat):Turn P w K tg (rH lo n) [it] it (λi h=>IsRangeIter h it (lo+(i:Nat)*1) ((n:Int)-(i:Nat)) 1) where
 mem:=by simp
 obj:=λi h st b hb=>by
  have e:b=it:=by simpa using hb
  subst e
  exact⟨_,st,λv z=>by
   have z':Data.fields _=Data.cell v:=z
   cases z'⟩
 keep:=λi h h' st k=>k it (by simp) _ st
 item:=by
  intro X hP hw hK hc i pins s σ H E I hf st hg
  subst hP hw hK
  obtain⟨f0,f1,f2,f3,f4,f5⟩:=hf it (by simp)
  have W:=Walks.range (prog:=X.prog) (w:=X.w) (I.ok.hd hc) it lo 1 n
  refine W.item i s _ _ hg st λv h' tk hv jm kk=>?_
  obtain⟨t,rfl⟩:=hv
  have I1:Inv X pins σ H { s with heap:=h',toks:=tk }:=I.turned (λb o hb e=>kk b o (by simpa using hb) e) f0 f1 f3 f4 f5
  refine⟨_,rfl,ES (s:={ s with heap:=h',toks:=tk }) (n:="range_iterator") jm rfl rfl (by decide) ⟨.int (lo+i),H,I1,⟨t,?_⟩,⟨rfl,rfl⟩,jm,λb hb=>(hf b hb).1⟩⟩
  rw[Int.mul_one]
 done:=by
  intro X hP hw hK hc i pins s σ H E I hf st hg
  subst hP hw hK
  obtain⟨f0,f1,f2,f3,f4,f5⟩:=hf it (by simp)
  exact wpAny_pyNext_range_end (I.ok.hd hc) st (by have:n<=i:=hg;omega) λh' eb=>⟨rfl,I.turned (t':=s.toks) (λb o hb e=>eb b o hb e) f0 f1 f3 f4 f5⟩
 self:=λ_ _ _ _ _ st h=>wpAny_pyIter_rangeiter st h
end L2
namespace L2
open PySem PySem.Spec PyProof.Rows
section
variable{X:Cx}{tg:Expr}
noncomputable def MX(K:PySem.W.Frag)(tl:TE):TI:=λσ H R=>tl σ H λx H1=>∃a,x=.ref a/\(∃xs,bJ K H1 a xs)/\R (xO K a) H1
theorem MY{l:Expr}{tl:TE}(hl:PE X l tl):PI X tg l (MX X.K tl):=by
 intro pins s σ H R I h
 refine aw (hl pins s σ H _ I h) λv s1 ⟨x,H1,I1,r1,q1⟩=>?_
 obtain⟨a,e,⟨xs,hq⟩,q⟩:=q1
 subst e
 cases r1
 obtain⟨its,rv,p,hz⟩:=I1.list hq
 refine wpAny_pyIter_list p.isList ?_
 refine⟨s1.heap.objs.size,[s1.heap.objs.size],_,_,H1,rfl,I1.kept (t':=s1.toks) λb o e=>cY _ e,MV a _,⟨_,fj _ rfl,rfl,rfl⟩,λb hb=>?_,q⟩
 have e:b=s1.heap.objs.size:=by simpa using hb
 subst e
 exact I1.xM (bH _) (I1.aq.fresh (bH _))
theorem ET{pins:List (Addr × Obj)}{σ:St}{H:Hp}{s:Shared}{R:It->Hp->Prop}{E:Value->Shared->Prop}{lo hi:Int}{t u v:Tok}{tk:Nat}(I:Inv X pins σ H s)(h1:-(2 ^ 62)<=lo)(h2:lo<2 ^ 62)(h3:-(2 ^ 62)<=hi)(h4:hi<2 ^ 62)
  (q:R (rH lo (hi-lo).toNat) H):wpAny (model X.prog X.w) X.A (pyIter (.ref s.heap.objs.size)) (ER X pins σ tg R) E { s with heap:=s.heap.push { cls:=.type "range",data:=.fields #[.int lo t,.int hi u,.int 1 v] },toks:=tk }:=by
 refine wpAny_pyIter_range (IsRange.new ..) (small_one h1 h2 h3 h4) ?_
 have I1:Inv X pins σ H { s with heap:=s.heap.push { cls:=.type "range",data:=.fields #[.int lo t,.int hi u,.int 1 v] },toks:=tk }:=I.kept λb o e=>cY _ e
 refine⟨(s.heap.push { cls:=.type "range",data:=.fields #[.int lo t,.int hi u,.int 1 v] }).objs.size,[(s.heap.push { cls:=.type "range",data:=.fields #[.int lo t,.int hi u,.int 1 v] }).objs.size],_,_,H,rfl,
  I1.kept (t':=tk) λb o e=>cY _ e,MW _ lo (hi-lo).toNat,?_,λb hb=>?_,q⟩
 ·have e1:lo+((0:Nat):Int)*1=lo:=by simp
  have e2:(((hi-lo).toNat:Nat):Int)-((0:Nat):Int)=Builtin.Range.rangeSize lo hi 1:=by rw[rangeSize_one];split<;>omega
  show IsRangeIter _ _ (lo+((0:Nat):Int)*1) ((((hi-lo).toNat:Nat):Int)-((0:Nat):Int)) 1
  rw[e1,e2]
  exact fj _ rfl
 ·have e:b=(s.heap.push { cls:=.type "range",data:=.fields #[.int lo t,.int hi u,.int 1 v] }).objs.size:=by simpa using hb
  subst e
  exact I1.xM (bH _) (I1.aq.fresh (bH _))
noncomputable def MZ(ta:TA):TI:=λσ H R=>ta σ H λvs H1=>∃j:Int,vs=[.int j]/\-(2 ^ 62)<=j/\j<2 ^ 62/\R (rH 0 j.toNat) H1
noncomputable def M0(ta:TA):TI:=λσ H R=>ta σ H λvs H1=>∃i j:Int,vs=[.int i,.int j]/\(-(2 ^ 62)<=i/\i<2 ^ 62/\-(2 ^ 62)<=j/\j<2 ^ 62)/\R (rH i (j-i).toNat) H1
theorem M1{a:Expr}{ta:TA}{p pos:Pos}(hg:Gl X "range")(hm:X.mg "range"=none)(ha:PA X [a] ta)(hs:starEach [a] X.env=[(false,eval a X.env)]:=by rfl):PI X tg (.Call (.Name "range" p) [a] [] pos) (MZ ta):=by
 intro pins s σ H R I h
 refine Call_ (nO I hg hm boot_range (wX (aw (ha pos pins s σ H _ I h) λus s1 ⟨vs,H1,I1,r1,q1⟩=>?_) hs rfl))
 obtain⟨j,e,q1,q2,q⟩:=q1
 subst e
 cases r1 with
 | cons r rr =>
  cases rr
  obtain⟨t,rfl⟩:=r
  exact call_range_1 (ET I1 (by omega) (by omega) q1 q2 (by simpa using q))
theorem M3{a b:Expr}{ta:TA}{p pos:Pos}(hg:Gl X "range")(hm:X.mg "range"=none)(ha:PA X [a,b] ta)(hs:starEach [a,b] X.env=[(false,eval a X.env),(false,eval b X.env)]:=by rfl)(dG:starEach [b] X.env=[(false,eval b X.env)]:=by rfl) :
  PI X tg (.Call (.Name "range" p) [a,b] [] pos) (M0 ta):=by
 intro pins s σ H R I h
 refine Call_ (nO I hg hm boot_range (wX (aw (ha pos pins s σ H _ I h) λus s1 ⟨vs,H1,I1,r1,q1⟩=>?_) (by rw[hs,dG]) (by rw[dG];rfl)))
 obtain⟨i,j,e,⟨q1,q2,q3,q4⟩,q⟩:=q1
 subst e
 cases r1 with
 | cons r rr =>
  cases rr with
  | cons r' rr =>
   cases rr
   obtain⟨t,rfl⟩:=r
   obtain⟨t',rfl⟩:=r'
   exact call_range_2 (ET I1 q1 q2 q3 q4 q)
noncomputable def M4(wi:TI)(g:TG)(tb:TS):TS:=λD σ H=>wi σ H λJ H1=>∃W:Nat->Nat->St->Hp->Prop,(∃m,W 0 m σ H1)/\∀i m σ H,W i m σ H ->
 (J.stop i H/\D.nx σ H)\/(J.go i H/\∃N:St->Hp->Prop,(∀aj H',N aj H'->∃m',m'<m/\W (i+1) m' aj H')/\∀x H',J.gj i H x H'->g x σ H' λfq H2=>tb { D with nx:=N,ct:=N,bk:=D.nx } fq H2)
noncomputable def rJ(fp:List Addr)(h:Heap):List (Addr × Obj):=fp.filterMap λb=>(h.get? b).map λo=>(b,o)
theorem uu{fp:List Addr}{h:Heap}{b:Addr}{o:Obj}(hb:b∈fp)(e:h.get? b=some o):(b,o)∈rJ fp h:=LH.mpr ⟨b,hb,by rw[e];rfl⟩
theorem M5{fp:List Addr}{h:Heap}{p:Addr × Obj}(hp:p∈rJ fp h):p.1∈fp/\h.get? p.1=some p.2:=by
 obtain⟨b,hb,e⟩:=LH.mp hp
 cases q:h.get? b with
 | none=>rw[q]at e;cases e
 | some o =>
  rw[q]at e
  have e':(b,o)=p:=cR e
  subst e'
  exact⟨hb,q⟩
theorem Inv.pinned{pins:List (Addr × Obj)}{σ:St}{H:Hp}{s:Shared}{fp:List Addr}(I:Inv X pins σ H s)(hf:∀b∈fp,gk X pins H b)(ho:∀b∈fp,∃o,s.heap.get? b=some o/\∀v,o.data≠.cell v):Inv X (pins++rJ fp s.heap) σ H s :=
 I.EB λp hp=>(dW.mp hp).elim (λz=>I.pin p (dm _ z)) λz=>by
  obtain⟨hb,e⟩:=M5 z
  obtain⟨f0,f1,f2,_⟩:=hf p.1 hb
  obtain⟨o,e',d⟩:=ho p.1 hb
  rw[e]at e';cases e'
  exact⟨e,f0,f1,f2,d⟩
theorem Inv.rK{pins pl:List (Addr × Obj)}{σ:St}{H:Hp}{s:Shared}(I:Inv X (pins++pl) σ H s):Inv X pins σ H s:=I.EB λp hp=>I.pin p (dm _ (fh _ hp))
theorem M6{iter:Expr}{body:List Stmt}{wi:TI}{g:TG}{tb:TS}{pos:Pos}(hp:PassesOwn (model X.prog X.w) X.A X.env X.xe)(hc:X.calm=true)(hi:PI X tg iter wi)(hg:PG X tg g)(hb:PSs X body tb)
  (hs:∀x,foldedSetIterable iter X.env x=pure x:=by intro _;rfl):PS X (.For tg iter body [] pos) (M4 wi g tb):=by
 intro pins s σ H D I h
 refine wpAny_For (aw (hi pins s σ H _ I h) λv s1 h1=>aw h1 λxN s2 h2=>?_) hs
 obtain⟨it,fp,tn,J,H2,e,I2,T,rL,f2,W,⟨m0,w0⟩,turn⟩:=h2
 subst e
 have xP:∀{H':Hp},(∀b∈fp,H' b=none)->∀b∈fp,gk X pins H' b:=λhn b hb=>⟨hn b hb,(f2 b hb).2⟩
 refine codeAny_forLoop_any (λn s'=>∃i aj H',Inv X pins aj H' s'/\tn i s'.heap/\(∀b∈fp,H' b=none)/\W i n aj H') ?_ m0 ⟨0,σ,H2,I2,rL,λb hb=>(f2 b hb).1,w0⟩
 rintro n s3 ⟨i,gi,H3,I3,EU,EV,w3⟩
 rcases turn i n gi H3 w3 with⟨stop,qn⟩ | ⟨go,N,hN,step⟩
 ·refine wpAny_passesOwn hp (aw (T.done X rfl rfl rfl hc i pins s3 gi H3 X.xe I3 (xP EV) EU stop) λr s4 ⟨hr,I4⟩=>?_)
  subst hr
  exact wpAny_execs_nil ⟨gi,H3,I4,qn⟩
 ·refine wpAny_passesOwn hp (aw (T.item X rfl rfl rfl hc i pins s3 gi H3 X.xe I3 (xP EV) EU go) λr s4 ⟨u,hr,h4⟩=>?_)
  subst hr
  refine wpAny_passesOwn hp (aw h4 λ_ s5 ⟨x,H5,I5,r5,y5,kK,xQ⟩=>?_)
  have xR:=I5.pinned (xP xQ) (T.obj _ _ kK)
  refine wpAny_passesOwn hp (aw (hg _ s5 gi H5 x u _ xR r5 (step x H5 y5)) λ_ s6 ⟨uv,H6,I6,q6⟩=>?_)
  refine wpAny_passesOwn hp (aw (hb _ s6 uv H6 _ I6 q6) λf s7 q7=>?_)
  have again:∀{gn:St} {H7:Hp},Inv X (pins++rJ fp s5.heap) gn H7 s7->N gn H7->∃m,m<n/\∃i aj H',Inv X pins aj H' s7/\tn i s7.heap/\(∀b∈fp,H' b=none)/\W i m aj H':=λ{gn H7} I7 n7=>by
   obtain⟨m',hm,w7⟩:=hN gn H7 n7
   refine⟨m',hm,i+1,gn,H7,I7.rK,T.keep _ _ _ kK λb hb o e=>(I7.pin (b,o) (dm _ (dm _ (uu hb e)))).1,λb hb=>?_,w7⟩
   obtain⟨o,e,d⟩:=T.obj _ _ kK b hb
   exact(I7.pin (b,o) (dm _ (dm _ (uu hb e)))).2.1
  cases f with
  | next=>obtain⟨gn,H7,I7,n7⟩:=q7;exact again I7 n7
  | cont=>obtain⟨gn,H7,I7,n7⟩:=q7;exact again I7 n7
  | brk=>obtain⟨gn,H7,I7,q7⟩:=q7;exact⟨gn,H7,I7.rK,q7⟩
  | ret v=>obtain⟨x7,gn,H7,I7,r7,q7⟩:=q7;exact⟨x7,gn,H7,I7.rK,r7,q7⟩
end
end L2
namespace L2
open PySem PySem.Spec PyProof.Rows
noncomputable abbrev R2:=V->V->Hp->VK->Prop
noncomputable def bM(X:Cx)(f:Value->Value->Sem Value)(r:R2):Prop :=
 ∀(pins:List (Addr × Obj)) (s:Shared) (σ:St) (H:Hp) (x y:V) (v u:Value) (Q:VK),Inv X pins σ H s->RelV x v->RelV y u->r x y H Q ->
  wpAny (model X.prog X.w) X.A (f v u) (EP X pins σ Q) X.xe s
noncomputable def xS(X:Cx)(f:Value->Sem Value)(r:V->Hp->VK->Prop):Prop :=
 ∀(pins:List (Addr × Obj)) (s:Shared) (σ:St) (H:Hp) (x:V) (v:Value) (Q:VK),Inv X pins σ H s->RelV x v->r x H Q ->
  wpAny (model X.prog X.w) X.A (f v) (EP X pins σ Q) X.xe s
noncomputable def eN(X:Cx)(f:Value)(r:List V->Hp->VK->Prop):Prop :=
 ∀(pins:List (Addr × Obj)) (s:Shared) (σ:St) (H:Hp) (xs:List V) (us:List Value) (Q:VK),Inv X pins σ H s->Vals xs us->r xs H Q ->
  wpAny (model X.prog X.w) X.A (call f us) (EP X pins σ Q) X.xe s
noncomputable def rM(r:R2)(ta tb:TE):TE:=λσ H Q=>ta σ H λx H1=>tb σ H1 λy H2=>r x y H2 Q
noncomputable def M7(r:V->Hp->VK->Prop)(ta:TE):TE:=λσ H Q=>ta σ H λx H1=>r x H1 Q
noncomputable def rI(C:Int->Int->Prop)(g:Int->Int->V):R2:=λx y H Q=>∃i j,x=.int i/\y=.int j/\C i j/\Q (g i j) H
noncomputable def fu(g:Int->Int->V):R2:=λx y H Q=>∃i j,x=.int i/\y=.int j/\Q (g i j) H
noncomputable def rU(g:Int->V):V->Hp->VK->Prop:=λx H Q=>∃i,x=.int i/\Q (g i) H
section
variable{X:Cx}{a b c:Expr}{ta tb tc:TE}{pos:Pos}
theorem xT(ha:PE X a ta)(hb:PE X b tb){pins:List (Addr × Obj)}{s:Shared}{σ:St}{H:Hp}{R:V->V->Hp->Prop}(I:Inv X pins σ H s)
  (h:ta σ H λx H1=>tb σ H1 λy H2=>R x y H2) {Q:Value->Shared->Prop} {f:Value->Value->Sem Value}
  (hf:∀v u s2 x y H2,Inv X pins σ H2 s2->RelV x v->RelV y u->R x y H2->wpAny (model X.prog X.w) X.A (f v u) Q X.xe s2) :
  wpAny (model X.prog X.w) X.A (eval a X.env) (λv aP=>wpAny (model X.prog X.w) X.A (eval b X.env) (λu fo=>wpAny (model X.prog X.w) X.A (f v u) Q X.xe fo) X.xe aP) X.xe s:=by
 refine aw (ha pins s σ H _ I h) λv s1 ⟨x,H1,I1,r1,q1⟩=>?_
 refine aw (hb pins s1 σ H1 _ I1 q1) λu s2 ⟨y,H2,I2,r2,q2⟩=>?_
 exact hf v u s2 x y H2 I2 r1 r2 q2
theorem uw{op:Operator}{r:R2}(ho:bM X (binaryOp op) r)(ha:PE X a ta)(hb:PE X b tb):PE X (.BinOp a op b pos) (rM r ta tb):=by
 intro pins s σ H Q I h
 exact wpAny_BinOp (xT ha hb I h λv u s2 x y H2 I2 rx ry q=>ho pins s2 σ H2 x y v u Q I2 rx ry q)
theorem M8{op:UnaryOp}{r:V->Hp->VK->Prop}(ho:xS X (unaryOp op) r)(ha:PE X a ta):PE X (.UnaryOp op a pos) (M7 r ta):=by
 intro pins s σ H Q I h
 exact UnaryOp_ (aw (ha pins s σ H _ I h) λv s1 ⟨x,H1,I1,r1,q1⟩=>ho pins s1 σ H1 x v Q I1 r1 q1)
theorem nS{f:Value->Value->Sem Value}{C:Int->Int->Prop}{g:Int->Int->Int}
  (rule:∀(i j:Int) (t u:Tok) (s:Shared) (Q:Value->Shared->Prop) (E:Value->Shared->Prop),C i j->Q (.int (g i j) s.toks) { s with toks:=s.toks+1 }->wpAny (model X.prog X.w) X.A (f (.int i t) (.int j u)) Q E s) :
  bM X f (rI C λi j=>.int (g i j)):=by
 intro pins s σ H x y v u Q I rx ry h
 obtain⟨i,j,rfl,rfl,hc,q⟩:=h
 obtain⟨t,rfl⟩:=rx
 obtain⟨t',rfl⟩:=ry
 exact rule i j t t' s _ _ hc ⟨.int (g i j),H,I.tok _,⟨_,rfl⟩,q⟩
theorem nU{f:Value->Value->Sem Value}{g:Int->Int->Int}
  (rule:∀(i j:Int) (t u:Tok) (s:Shared) (Q:Value->Shared->Prop) (E:Value->Shared->Prop),Q (.int (g i j) s.toks) { s with toks:=s.toks+1 }->wpAny (model X.prog X.w) X.A (f (.int i t) (.int j u)) Q E s) :
  bM X f (fu λi j=>.int (g i j)):=by
 intro pins s σ H x y v u Q I rx ry h
 obtain⟨i,j,rfl,rfl,q⟩:=h
 obtain⟨t,rfl⟩:=rx
 obtain⟨t',rfl⟩:=ry
 exact rule i j t t' s _ _ ⟨.int (g i j),H,I.tok _,⟨_,rfl⟩,q⟩
theorem uy{f:Value->Value->Sem Value}{g:Int->Int->Bool}
  (rule:∀(i j:Int) (t u:Tok) (s:Shared) (Q:Value->Shared->Prop) (E:Value->Shared->Prop),Q (.bool (g i j)) s->wpAny (model X.prog X.w) X.A (f (.int i t) (.int j u)) Q E s) :
  bM X f (fu λi j=>.bl (g i j)):=by
 intro pins s σ H x y v u Q I rx ry h
 obtain⟨i,j,rfl,rfl,q⟩:=h
 obtain⟨t,rfl⟩:=rx
 obtain⟨t',rfl⟩:=ry
 exact rule i j t t' s _ _ ⟨.bl (g i j),H,I,rfl,q⟩
noncomputable def EW(i j:Int):Prop:=0<=j/\j<=1000000/\i.natAbs<2 ^ 64
noncomputable def uz(i j:Int):Prop:=(-(2 ^ 64)<i/\i<2 ^ 64)\/(-(2 ^ 64)<j/\j<2 ^ 64)
theorem uz.ok{i j:Int}(h:uz i j):IntMulOk i j:=by
 rcases h with⟨h1,h2⟩ | ⟨h1,h2⟩
 ·exact .of_left (intBits_le_64 h1 h2)
 ·exact .of_right (intBits_le_64 h1 h2)
theorem M9(k:Nat):(0:Int)<=2 ^ k:=by
 rw[two_pow_cast]
 exact D5 _
theorem Na:bM X (binaryOp .Add) (fu λi j=>.int (i+j)):=nU λ_ _ _ _ _ _ _ q=>add_int q
theorem xU:bM X (binaryOp .Sub) (fu λi j=>.int (i-j)):=nU λ_ _ _ _ _ _ _ q=>sub_int q
theorem Nb:bM X (binaryOp .Mod) (rI (λ_ j=>0<j) λi j=>.int (i%j)):=nS λi j _ _ _ _ _ hc q=>by
 have h1:(0:Int)<j:=hc
 exact mod_int' (by omega) (by rw[Int.fmod_eq_emod_of_nonneg i (by omega)];exact q)
theorem Nc:bM X (binaryOp .Pow) (rI EW λi j=>.int (i ^ j.toNat)):=nS λ_ _ _ _ _ _ _ hc q=>pow_int_small hc.1 hc.2.1 hc.2.2 q
theorem Nd:bM X (binaryOp .RShift) (rI (λ_ j=>0<=j) λi j=>.int (i/2 ^ j.toNat)):=nS λi j _ _ _ _ _ hc q =>
 rshift_int hc (by rw[LJ i (M9 _)];exact q)
theorem Nf:bM X (binaryOp .BitAnd) (fu λi j=>.int (jc i j)):=nU λ_ _ _ _ _ _ _ q=>and_int q
theorem Ng:bM X (binaryOp .BitXor) (fu λi j=>.int (kh i j)):=nU λ_ _ _ _ _ _ _ q=>xor_int q
theorem Nh:bM X (inplaceOp .Add) (fu λi j=>.int (i+j)):=nU λ_ _ _ _ _ _ _ q=>iadd_int q
theorem Ni:bM X (inplaceOp .BitXor) (fu λi j=>.int (kh i j)):=nU λ_ _ _ _ _ _ _ q=>ixor_int q
theorem Nj{f:Value->Sem Value}{g:Int->Int}
  (rule:∀(i:Int) (t:Tok) (s:Shared) (Q:Value->Shared->Prop) (E:Value->Shared->Prop),Q (.int (g i) s.toks) { s with toks:=s.toks+1 }->wpAny (model X.prog X.w) X.A (f (.int i t)) Q E s) :
  xS X f (rU λi=>.int (g i)):=by
 intro pins s σ H x v Q I rx h
 obtain⟨i,rfl,q⟩:=h
 obtain⟨t,rfl⟩:=rx
 exact rule i t s _ _ ⟨.int (g i),H,I.tok _,⟨_,rfl⟩,q⟩
theorem Nk:xS X (unaryOp .USub) (rU λi=>.int (-i)):=Nj λ_ _ _ _ _ q=>neg_int q
end
section
variable{X:Cx}{a b c:Expr}{ta tb tc:TE}{pos:Pos}
theorem Nl:bM X (compareOp .Lt) (fu λi j=>.bl (decide (i<j))):=uy λ_ _ _ _ _ _ _ q=>lt_int q
theorem Nm:bM X (compareOp .LtE) (fu λi j=>.bl (decide (i<=j))):=uy λ_ _ _ _ _ _ _ q=>le_int q
theorem Nn:bM X (compareOp .Gt) (fu λi j=>.bl (decide (j<i))):=uy λ_ _ _ _ _ _ _ q=>gt_int q
theorem Np:bM X (compareOp .GtE) (fu λi j=>.bl (decide (j<=i))):=uy λ_ _ _ _ _ _ _ q=>ge_int q
theorem bM.or{f:Value->Value->Sem Value}{r r':R2}(h:bM X f r)(h':bM X f r'):bM X f (λx y H Q=>r x y H Q\/r' x y H Q):=by
 intro pins s σ H x y v u Q I rx ry q
 rcases q with q | q
 ·exact h pins s σ H x y v u Q I rx ry q
 ·exact h' pins s σ H x y v u Q I rx ry q
theorem bE(b:Expr){op:CmpOp}(h:op≠.In:=by decide)(h2:op≠.NotIn:=by decide):behindInMarks op b=false:=by
 have e1:(op==CmpOp.In)=false:=by cases op<;>first | rfl | exact absurd rfl h
 have e2:(op==CmpOp.NotIn)=false:=by cases op<;>first | rfl | exact absurd rfl h2
 cases b<;>simp[behindInMarks,e1,e2]
theorem Nq{op:CmpOp}{r:R2}(ho:bM X (compareOp op) r)(ha:PE X a ta)(hb:PE X b tb)(hm:behindInMarks op b=false):PE X (.Compare a [op] [b] pos) (rM r ta tb):=by
 intro pins s σ H Q I h
 exact wpAny_Compare1 (xT ha hb I h λv u s2 x y H2 I2 rx ry q=>ho pins s2 σ H2 x y v u Q I2 rx ry q) hm
noncomputable def EX(t:TE):TT:=λσ H Q=>t σ H λx H'=>∃k,x=.bl k/\Q k H'
theorem Nr{op:CmpOp}{r:R2}(ho:bM X (compareOp op) r)(ha:PE X a ta)(hb:PE X b tb)(hm:behindInMarks op b=false):PT X (.Compare a [op] [b] pos) (EX (rM r ta tb)):=by
 intro pins s σ H Q I h
 refine wpAny_isTrue_Compare1 (aw (ha pins s σ H _ I h) λv s1 ⟨x,H1,I1,r1,q1⟩=>aw (hb pins s1 σ H1 _ I1 q1) λu s2 ⟨y,H2,I2,r2,q2⟩ =>
  aw (ho pins s2 σ H2 x y v u _ I2 r1 r2 q2) λc s3 ⟨z,H3,I3,r3,k,e,q3⟩=>?_) hm
 subst e
 cases r3
 exact wpAny_truthy_bool ⟨H3,I3,q3⟩
noncomputable def EY(r r':R2)(ta tb tc:TE):TE:=λσ H Q=>ta σ H λx H1=>tb σ H1 λy H2=>r x y H2 λz H3=>∃k,z=.bl k /\
 (if k=true then tc σ H3 λw' H4=>r' y w' H4 Q else Q (.bl false) H3)
theorem Nt{op kL:CmpOp}{r r':R2}(ho:bM X (compareOp op) r)(gb:bM X (compareOp kL) r')(ha:PE X a ta)(hb:PE X b tb)(hc:PE X c tc)
  (hm:lastMarks [op,kL] [b,c]=false:=by with_unfolding_all rfl):PE X (.Compare a [op,kL] [b,c] pos) (EY r r' ta tb tc):=by
 intro pins s σ H Q I h
 refine Compare_chain (aw (ha pins s σ H _ I h) λv s1 ⟨x,H1,I1,r1,q1⟩=>chain_link (aw (hb pins s1 σ H1 _ I1 q1) λu s2 ⟨y,H2,I2,r2,q2⟩ =>
  aw (ho pins s2 σ H2 x y v u _ I2 r1 r2 q2) λd s3 ⟨z,H3,I3,r3,k,e,q3⟩=>?_)) hm
 subst e
 cases r3
 refine wpAny_truthy_bool ?_
 cases k with
 | false=>exact ite_ff ⟨.bl false,H3,I3,rfl,q3⟩
 | true=>exact ite_tt (chain_last (aw (hc pins s3 σ H3 _ I3 q3) λw' s4 ⟨z',H4,I4,r4,q4⟩=>gb pins s4 σ H4 y z' u w' Q I4 r2 r4 q4))
theorem nV:(sizeLine:Nat)<2 ^ 63:=by rw[sizeLine_eq];decide
theorem Nu:bM X (binaryOp .Add) (λx y H Q=>∃i j,x=.str i/\y=.str j/\i.length+j.length<=sizeLine/\Q (.str (i++j)) H):=by
 intro pins s σ H x y v u Q I rx ry h
 obtain⟨i,j,rfl,rfl,hz,q⟩:=h
 obtain⟨t,rfl⟩:=rx
 obtain⟨t',rfl⟩:=ry
 exact add_str (λt' tk=>⟨.str (i++j),H,I.tok _,⟨_,rfl⟩,q⟩) hz
theorem xV{x:V}{us:List Value}(r:Vals [x] us):∃u,us=[u]/\RelV x u:=by
 cases r with
 | cons r1 r2=>cases r2;exact⟨_,rfl,r1⟩
theorem Nv:eN X (.type "str") (λxs H Q=>∃i,xs=[.int i]/\i.natAbs.log2<1920/\Q (.str (toString i)) H):=by
 intro pins s σ H xs us Q I r h
 obtain⟨i,rfl,hz,q⟩:=h
 obtain⟨u,rfl,t,rfl⟩:=xV r
 exact PySem.P.str_of_int hz ⟨.str _,H,I.tok _,⟨_,rfl⟩,q⟩
end
end L2
namespace L2
open PySem PySem.Spec PyProof.Rows
structure kM(h:Heap)(x dx C:Addr)(mA:Str->Option Value):Prop where
 obj:h.get? x=some (PySem.W.instObj C dx)
 ns:h.Ns1 dx mA
 ne:dx≠x
theorem Nw{h:Heap}{dx:Addr}{mA:Str->Option Value}(n:h.Ns1 dx mA):∃od,h.get? dx=some od/\∀name,PySem.W.lookIn name od=some (mA name):=by
 obtain⟨o,es,ep,ho,hd,hk,_,hm⟩:=n
 refine⟨o,ho,λname=>?_⟩
 have e:=hm name
 unfold nsFind findBy at e
 rw[<-Array.find?_toList]at e
 unfold PySem.W.lookIn
 rw[hd]
 dsimp only
 split
 ·rename_i y q
  rw[q]at e
  exact congrArg some e
 ·rename_i q
  rw[q]at e
  have a:es.toList.any (·.refKey)=false:=by
   rw[List.any_eq_false]
   intro y hy
   obtain⟨z,t,Nx⟩:=hk y (Array.mem_toList_iff.mp hy)
   simp[DictEntry.refKey,Nx]
  have a':¬ es.toList.any (·.refKey)=true:=by rw[a];exact tV
  rw[if_neg a']
  exact congrArg some e
theorem kM.look{h:Heap}{x dx C:Addr}{mA:Str->Option Value}(I:kM h x dx C mA):∃od,PySem.W.InstAt h x (PySem.W.instObj C dx) C (some od)/\∀name,PySem.W.lookIn name od=some (mA name) :=
 let⟨od,ho,hl⟩:=Nw I.ns
 ⟨od,⟨I.obj,rfl,rfl,ho⟩,hl⟩
section
variable{prog:Program}{w:World}{A:Around}{E:Value->Shared->Prop}{s:Shared}{K:PySem.W.Frag}{x dx C f:Addr}{mA:Str->Option Value}{name:Str}{v:Value}
theorem Ny{expr:Bool}{Q:Value->Shared->Prop}(X:K.In s.heap)(I:kM s.heap x dx C mA)(hg:PySem.W.plainGet K C name=true)(hh:PySem.W.hasDictIn K C=true)
  (ha:PySem.W.findIn K (.ref C) name=some none) (hv:mA name=some v) (Nz:PySem.W.handedIn v=true) (h:Q v { s with toks:=s.toks+1 }) :
  wpAny (model prog w) A (getAttr (.ref x) name expr) Q E s:=by
 obtain⟨od,J,hl⟩:=I.look
 exact PySem.W.get_value X J (PySem.W.plainGet_of hg).1 (PySem.W.findObj_own hh ha rfl (by rw[hl,hv])) Nz h
theorem NA{pl:Sem Bool}{Q:Value × List Value->Shared->Prop}(X:K.In s.heap)(I:kM s.heap x dx C mA)(hg:PySem.W.plainGet K C name=true)
  (hf:PySem.W.findIn K (.ref C) name=some (some (.ref f))) (ht:PySem.W.isFn K (.ref f)=true) (hv:mA name=none) (h:Q (.ref f,[.ref x]) s) :
  wpAny (model prog w) A (getMethod (.ref x) name pl) Q E s:=by
 obtain⟨od,J,hl⟩:=I.look
 exact PySem.W.method_fn X J (PySem.W.plainGet_of hg).1 (PySem.W.plainGet_of hg).2 hf (beq_iff_eq.mp ht) (by show(PySem.W.lookIn name od).map (·.isSome)=some false;rw[hl,hv];rfl) h
theorem NB{ns:List Str}{Q:Unit->Shared->Prop}(X:K.In s.heap)(I:kM s.heap x dx C mA)
  (hs:PySem.W.findIn K (.ref C) "__setattr__"=some (some (.builtin "object.__setattr__"))) (hp:PySem.W.plainOver K C=true) (ht:PySem.W.takerIn K C name=some none) (hh:PySem.W.hasDictIn K C=true)
  (hw:PySem.Within mA ns) (gF:ns.length<=sizeLine)
  (h:∀h',kM h' x dx C (λy=>if y=name then some v else mA y)->Heap.SameBut dx s.heap h'->Q () { s with heap:=h',toks:=s.toks+2 }) :
  wpAny (model prog w) A (setAttr (.ref x) name v) Q E s:=by
 obtain⟨od,J,hl⟩:=I.look
 refine PySem.W.set_plain X J hs (PySem.W.osa_open (s:={ s with toks:=s.toks+1 }) (r:=none) X J hp ht λb=>?_)
 obtain⟨cd,hc,rB⟩:=PySem.W.any_some hh
 have hx:s.heap.get? x=some ⟨.ref C,some dx,.plain,#[]⟩:=I.obj
 refine wpAny_bind (wpAny_pure (wpAny_bind (wpAny_bind (wpAny_loadPart hx (wpAny_bind (PySem.W.Looks.here (s:={ s with toks:=s.toks+1 }) (PySem.W.looks_clsIn X hc) ?_))))))
 rw[rB]
 refine wpAny_pure (a:=some dx) (wpAny_bind (wpAny_pure (wpAny_bind ?_)))
 refine wpAny_nsSet1 (s:={ s with toks:=s.toks+1 }) I.ns λh' rN dG=>?_
 obtain⟨oD,esD,epD,NC,rO,iq⟩:=rN.count (PySem.Within.cons name v hw)
 refine wpAny_bind (wpAny_lookBehind NC (by rw[rO];exact pastItsLine_dict (dv iq (by rw[fU];omega))) ?_)
 exact wpAny_pure (h _ ⟨(dG.2 _ (dD I.ne)).trans I.obj,rN,I.ne⟩ dG)
theorem EZ{R:Result->Shared->Prop}{vs:List Value}{kw:List (Str × Value)}(X:K.In s.heap)(hm:PySem.W.makesIn K C=true)
  (hi:PySem.W.findIn K (.ref C) "__init__"=some (some (.ref f))) (hf:PySem.W.typeIn K (.ref f)=some (.type "function"))
  (h:codeAny (model prog w) (A.under (.builtin "type.__call__" ⟨.ref C::vs,kw⟩)) (.call (.ref f) ⟨.ref (s.heap.objs.size+1)::vs,kw⟩) (PySem.W.InitBack (s.heap.objs.size+1) R)
   { s with heap:=(s.heap.push PySem.W.emptyDict).push (PySem.W.instObj C s.heap.objs.size) }) :
  codeAny (model prog w) A (.call (.ref C) ⟨vs,kw⟩) R s:=by
 obtain⟨hh,g,d,t,os⟩:=s
 exact PySem.W.make_core (PySem.W.makes_of X hm) (PySem.W.looks_findIn X hi) (λself=>PySem.W.bind_fn X self hf) (.inl rfl) h
end
noncomputable def dk(f:Str)(v:V):List (Str × V)->List (Str × V)
 | []=>[(f,v)]
 | (g,x)::r=>if g=f then(g,v)::r else(g,x)::dk f v r
theorem E1(f g:Str)(v:V):∀fs:List (Str × V),(dk f v fs).lookup g=if g=f then some v else fs.lookup g
 | []=>by
  show hJ g [(f,v)]=_
  by_cases h:g=f
  ·have hb:(g==f)=true:=beq_iff_eq.mpr h
   simp only[hJ,hb,if_pos h]
  ·have hb:(g==f)=false:=beq_eq_false_iff_ne.mpr h
   simp only[hJ,hb,if_neg h]
 | (k,x)::r=>by
  have ih:=E1 f g v r
  rw[show dk f v ((k,x)::r)=(if k=f then(k,v)::r else(k,x)::dk f v r) from rfl]
  by_cases hk:k=f
  ·rw[if_pos hk]
   by_cases h:g=k
   ·have hb:(g==k)=true:=beq_iff_eq.mpr h
    simp only[hJ,hb,if_pos (h.trans hk)]
   ·have hb:(g==k)=false:=beq_eq_false_iff_ne.mpr h
    simp only[hJ,hb,if_neg (λe:g=f=>h (e.trans hk.symm))]
  ·rw[if_neg hk]
   by_cases h:g=k
   ·have hb:(g==k)=true:=beq_iff_eq.mpr h
    simp only[hJ,hb,if_neg (λe:g=f=>hk (h.symm.trans e))]
   ·have hb:(g==k)=false:=beq_eq_false_iff_ne.mpr h
    simp only[hJ,hb]
    exact ih
theorem xW(f:Str)(v:V):∀fs:List (Str × V),f∈(dk f v fs).map (·.1)/\∀g,g∈fs.map (·.1)->g∈(dk f v fs).map (·.1)
 | []=>⟨by simp[dk],λg h=>by simp at h⟩
 | (k,x)::r=>by
  obtain⟨i1,i2⟩:=xW f v r
  rw[show dk f v ((k,x)::r)=(if k=f then(k,v)::r else(k,x)::dk f v r) from rfl]
  by_cases hk:k=f
  ·rw[if_pos hk]
   subst hk
   exact⟨by simp,λg h=>by simpa using h⟩
  ·rw[if_neg hk]
   refine⟨?_,λg h=>?_⟩
   ·rw[cU]
    exact hG _ i1
   ·rw[cU]at h ⊢
    rcases cI.mp h with e | e
    ·exact cI.mpr (.inl e)
    ·exact hG _ (i2 g e)
theorem E2(f:Str)(v:V):∀fs:List (Str × V),(dk f v fs).length<=fs.length+1
 | []=>by simp[dk]
 | (k,x)::r=>by
  have ih:=E2 f v r
  rw[show dk f v ((k,x)::r)=(if k=f then(k,v)::r else(k,x)::dk f v r) from rfl]
  by_cases hk:k=f
  ·rw[if_pos hk,fU,fU];omega
  ·rw[if_neg hk,fU,fU];omega
theorem gB.some_of{v:V}{o:Option Value}(r:gB (some v) o):∃u,o=some u/\RelV v u:=by
 cases o with
 | none=>exact(show False from r).elim
 | some u=>exact⟨u,rfl,r⟩
theorem gB.none_of{o:Option Value}(r:gB none o):o=none:=by
 cases o with
 | none=>rfl
 | some u=>exact(show False from r).elim
theorem ND{v:V}{u:Value}(r:RelV v u):PySem.W.handedIn u=true:=by
 cases v with
 | ai=>cases(show u=ke from r);rfl
 | bl b=>cases(show u=wV b from r);rfl
 | int i=>obtain⟨t,e⟩:=(show ∃t,u=qP i t from r);cases e;rfl
 | str x=>obtain⟨t,e⟩:=(show ∃t,u=Value.str x t from r);cases e;rfl
 | ug b=>obtain⟨t,e⟩:=(show ∃t,u=Value.bytes b t from r);cases e;rfl
 | kD b=>obtain⟨t,e⟩:=(show ∃t,u=Value.float b t from r);cases e;rfl
 | ref a=>cases(show u=bb a from r);rfl
 | ty n=>cases(show u=Value.type n from r);rfl
section
variable{P:Program}{w:World}{H H':Hp}{h h':Heap}{a C dx:Addr}{fs xv:List (Str × V)}
theorem uA(aq:bI P w H h)(e:H a=some (.ins C dx fs)):∃mA,kM h a dx C mA/\(∀f,gB (fs.lookup f) (mA f))/\PySem.Within mA (fs.map (·.1))/\fs.length<=1000/\H dx=some (.own a):=by
 obtain⟨d,z,ne,ob,mA,n,r,q⟩:=(show cx P w H h a (.ins C dx fs) from aq a _ e)
 exact⟨mA,⟨ob,n,ne⟩,r,q,z,d⟩
end
structure cJ(K:PySem.W.Frag)(C:Addr):Prop where
 pg:PySem.W.plainGet K C fV=true
 hd:PySem.W.hasDictIn K C=true
 po:PySem.W.plainOver K C=true
 sa:PySem.W.findIn K (.ref C) "__setattr__"=some (some (.builtin "object.__setattr__"))
theorem cJ.get{K:PySem.W.Frag}{C:Addr}(c:cJ K C)(f:Str):PySem.W.plainGet K C f=true:=c.pg
noncomputable def bF(K:PySem.W.Frag)(C:Addr)(f:Str):Prop:=PySem.W.findIn K (.ref C) f=some none
theorem bF.NF{K:PySem.W.Frag}{C:Addr}{f:Str}(n:bF K C f):PySem.W.takerIn K C f=some none:=by
 unfold PySem.W.takerIn
 rw[show PySem.W.findIn K (.ref C) f=some none from n]
 rfl
structure Meth(K:PySem.W.Frag)(C:Addr)(m:Str)(f:Addr):Prop where
 at_:PySem.W.findIn K (.ref C) m=some (some (.ref f))
 fn:PySem.W.isFn K (.ref f)=true
 kp:PySem.W.keepIn K (.ref f)=true
section
variable{X:Cx}{pins:List (Addr × Obj)}{σ:St}{H:Hp}{s:Shared}{a C dx:Addr}{fs:List (Str × V)}{f:Str}{v:V}{A:Around}{E:Value->Shared->Prop}
theorem NG{b:Bool}{Q:Value->Shared->Prop}(I:Inv X pins σ H s)(e:H a=some (.ins C dx fs))(c:cJ X.K C)(n:bF X.K C f)(l:fs.lookup f=some v)
  (h:∀u s',Inv X pins σ H s'->RelV v u->Q u s'):wpAny (model X.prog X.w) A (getAttr (.ref a) f b) Q E s:=by
 obtain⟨mA,O,r,_,_,_⟩:=uA I.aq e
 obtain⟨u,hu,ru⟩:=gB.some_of (v:=v) (o:=mA f) (by rw[<-l];exact r f)
 exact Ny I.bq O (c.get f) c.hd n hu (ND ru) (h u _ (I.tok _) ru)
theorem uB{m:Str}{g:Addr}{pl:Sem Bool}{Q:Value × List Value->Shared->Prop}(I:Inv X pins σ H s)(e:H a=some (.ins C dx fs))(c:cJ X.K C)(k:Meth X.K C m g)(l:fs.lookup m=none)
  (h:Q (.ref g,[.ref a]) s):wpAny (model X.prog X.w) A (getMethod (.ref a) m pl) Q E s:=by
 obtain⟨mA,O,r,_,_,_⟩:=uA I.aq e
 have hn:mA m=none:=gB.none_of (by rw[<-l];exact r m)
 exact NA I.bq O (c.get m) k.at_ k.fn hn h
theorem NH{y:V}{u:Value}{Q:Unit->Shared->Prop}(I:Inv X pins σ H s)(e:H a=some (.ins C dx fs))(c:cJ X.K C)(n:bF X.K C f)(hl:fs.length<1000)(ry:RelV y u)
  (h:∀s',Inv X pins σ (upd H a (.ins C dx (dk f y fs))) s'->Q () s'):wpAny (model X.prog X.w) A (setAttr (.ref a) f u) Q E s:=by
 obtain⟨mA,O,r,wi,_,ho⟩:=uA I.aq e
 have hz:(fs.map (·.1)).length<=sizeLine:=by rw[nv,sizeLine_eq];omega
 refine NB I.bq O c.sa c.po n.NF c.hd wi hz λh' O' sb=>h _ ?_
 have hd:∃o,h'.get? dx=some o:=let⟨o,_,_,e',_⟩:=O'.ns;⟨o,e'⟩
 refine I.write (x:=a) (e:=dx) (by rw[e];exact ny) (.inr ho) (λb q hb z=>(sb.2 b hb).trans z) hd ?_
 refine⟨by rw[az O.ne];exact ho,?_,O.ne,O'.obj,_,O'.ns,λg=>?_,λg hg=>?_⟩
 ·have:=E2 f y fs;omega
 ·show gB ((dk f y fs).lookup g) (if g=f then some u else mA g)
  rw[E1]
  by_cases q:g=f
  ·rw[if_pos q,if_pos q];exact ry
  ·rw[if_neg q,if_neg q];exact r g
 ·by_cases q:g=f
  ·rw[q];exact(xW f y fs).1
  ·refine(xW f y fs).2 g (wi g λz=>hg ?_)
   show(if g=f then some u else mA g)=none
   rw[if_neg q];exact z
theorem Inv.made(I:Inv X pins σ H s):Inv X pins σ (upd (upd H s.heap.objs.size (.own (s.heap.objs.size+1))) (s.heap.objs.size+1) (.ins C s.heap.objs.size []))
  { s with heap:=(s.heap.push PySem.W.emptyDict).push (PySem.W.instObj C s.heap.objs.size) }:=by
 have e1:(s.heap.push PySem.W.emptyDict).get? s.heap.objs.size=some PySem.W.emptyDict:=fj s.heap rfl
 have e2:((s.heap.push PySem.W.emptyDict).push (PySem.W.instObj C s.heap.objs.size)).get? (s.heap.objs.size+1)=some (PySem.W.instObj C s.heap.objs.size):=by
  have:=fj (s.heap.push PySem.W.emptyDict) (o:=PySem.W.instObj C s.heap.objs.size) rfl
  rwa [D6]at this
 have e3:(s.heap.push PySem.W.emptyDict).Ns s.heap.objs.size (λ_=>none):=⟨PySem.W.emptyDict,#[],_,e1,rfl,(λe he=>absurd he (by simp)),λ_=>rfl⟩
 have I1:=I.laid (a:=s.heap.objs.size) (o:=.own (s.heap.objs.size+1)) (h':=s.heap.push PySem.W.emptyDict) (t':=s.toks) (λb u q=>cY _ q) (bH _) ⟨_,e1⟩
 refine I1.laid (a:=s.heap.objs.size+1) (o:=.ins C s.heap.objs.size []) (t':=s.toks) (λb u q=>cY _ q) (Nat.le_of_eq (D6 _ _)) ?_
 have ne:s.heap.objs.size≠s.heap.objs.size+1:=cM (tW _)
 refine⟨by rw[az ne,bj],ki _,ne,e2,λ_=>none,(Heap.Ns1.of_empty e3).at λo q=>cY _ q,λ_=>ny,λy hy=>absurd rfl hy⟩
theorem NI{prog:Program}{w:World}{env:Env}{e:Expr}{f:Str}{pos:Pos}{s:Shared}{Q:Value->Shared->Prop}(hb:attributeBase e f env (eval e env)=eval e env)
  (h:wpAny (model prog w) A (eval e env) (λo aP=>wpAny (model prog w) A (getAttr o f true) Q E aP) E s):wpAny (model prog w) A (eval (.Attribute e f pos) env) Q E s :=
 Attribute_any_ h (by rw[arm_eval_Attribute,hb])
end
noncomputable def NJ(K:PySem.W.Frag)(ta:TE)(f:Str):TE:=λσ H Q=>ta σ H λx H1=>∃a C dx fs v,x=.ref a/\H1 a=some (.ins C dx fs)/\cJ K C/\bF K C f/\fs.lookup f=some v/\Q v H1
noncomputable def NK(K:PySem.W.Frag)(ta tv:TE)(f:Str):TS:=λD σ H=>tv σ H λy H1=>ta σ H1 λx H2=>∃a C dx fs,x=.ref a/\H2 a=some (.ins C dx fs)/\cJ K C/\bF K C f/\fs.length<1000 /\
 D.nx σ (upd H2 a (.ins C dx (dk f y fs)))
section
variable{X:Cx}{o e value:Expr}{f:Str}{pos pos' kN:Pos}{ta tv:TE}
theorem uC(he:PE X e ta)(hb:attributeBase e f X.env (eval e X.env)=eval e X.env):PE X (.Attribute e f pos) (NJ X.K ta f):=by
 intro pins s σ H Q I h
 refine NI hb (aw (he pins s σ H _ I h) λu s1 ⟨x,H1,I1,rx,a,C,dx,fs,v,ex,ea,c,n,l,q⟩=>?_)
 subst ex
 obtain rfl:u=bb a:=rx
 exact NG I1 ea c n l λu' s2 I2 ru=>⟨v,H1,I2,ru,q⟩
theorem jn(ha:PE X o ta)(hv:PE X value tv)(hs:swapsWith value (some (.Attribute o f pos')) pos.line X.env=pure false):PS X (.Assign [.Attribute o f pos'] value pos) (NK X.K ta tv f):=by
 intro pins s σ H D I h
 refine plainObj_wpAny_Assign_Attribute (aw (hv pins s σ H _ I h) λu s1 ⟨y,H1,I1,ry,q⟩=>aw (ha pins s1 σ H1 _ I1 q) λov s2 ⟨x,H2,I2,rx,a,C,dx,fs,ex,ea,c,n,l,q2⟩=>?_) hs
 subst ex
 obtain rfl:ov=bb a:=rx
 exact NH I2 ea c n l ry λs3 I3=>⟨σ,_,I3,q2⟩
end
section
variable{X:Cx}{pins:List (Addr × Obj)}{σ:St}{H:Hp}{s:Shared}{A:Around}{E:Value->Shared->Prop}{Q:Value->Shared->Prop}{c:Value}{b:Bool}
inductive dZ(K:PySem.W.Frag)(H:Hp):V->Value->Prop where
 | ai:dZ K H .ai (.type "NoneType")
 | bl (x:Bool):dZ K H (.bl x) (.type "bool")
 | int (i:Int):dZ K H (.int i) (.type "int")
 | str (x:Str):dZ K H (.str x) (.type "str")
 | kD (x:UInt64):dZ K H (.kD x) (.type "float")
 | lst {a:Addr} {xs:List V} (e:H a=some (.lst xs)):dZ K H (.ref a) (.type "list")
 | bt {a:Addr} {o:Obj} {xs:List V} (e:H a=some (.bt o (.lst xs))):dZ K H (.ref a) (.type "list")
 | tup {a:Addr} {xs:List V} (e:H a=some (.tup xs)):dZ K H (.ref a) (.type "tuple")
 | dK {a:Addr} {bX:List (Key × V)} (e:H a=some (.dK bX)):dZ K H (.ref a) (.type "dict")
 | dT {a:Addr} {bX:List (List Key × V)} (e:H a=some (.dT bX)):dZ K H (.ref a) (.type "dict")
 | ins {a C dx:Addr} {fs:List (Str × V)} (e:H a=some (.ins C dx fs)) (cl:cJ K C) (ha:PySem.W.findIn K (.ref C) "__class__"=some (some (.builtin "object.__class__")))
   (hn:PySem.W.specialIn K (.builtin "object.__class__") "__get__"=some (some (.builtin "getset_descriptor.__get__"))) (uD:PySem.W.takesIn K (.builtin "object.__class__")=some true)
   (hm:PySem.W.mroIn K C (.type "object")=some true):dZ K H (.ref a) (.ref C)
theorem E3{x:V}{u t:Value}(I:Inv X pins σ H s)(rx:RelV x u)(ty:dZ X.K H x t)(e:PySem.W.kitOne X.K t c=some b)(h:∀tk,Q (.bool b) { s with toks:=tk }) :
  wpAny (model X.prog X.w) A (call (.builtin "isinstance") [u,c]) Q E s:=by
 cases ty with
 | ai=>cases(show u=ke from rx);exact PySem.W.kia_one PySem.W.kitx_none I.bq ny e (λz=>nomatch z) h
 | bl y=>cases(show u=wV y from rx);exact PySem.W.kia_one PySem.W.kitx_bool I.bq ny e (λz=>nomatch z) h
 | int i=>obtain⟨t,q⟩:=(show ∃t,u=qP i t from rx);cases q;exact PySem.W.kia_one PySem.W.kitx_int I.bq ny e (λz=>nomatch z) h
 | str y=>obtain⟨t,q⟩:=(show ∃t,u=Value.str y t from rx);cases q;exact PySem.W.kia_one PySem.W.kitx_str I.bq ny e (λz=>nomatch z) h
 | kD y=>obtain⟨t,q⟩:=(show ∃t,u=Value.float y t from rx);cases q;exact PySem.W.kia_one PySem.W.kitx_float I.bq ny e (λz=>nomatch z) h
 | @lst a xs ea =>
  cases(show u=bb a from rx)
  obtain⟨_,_,n,_,h1⟩:=(show cx X.prog X.w H s.heap a (.lst xs) from I.aq a _ ea)
  exact PySem.W.kia_one PySem.W.kitx_list I.bq ⟨_,h1,rfl⟩ e (λz=>nomatch z) h
 | @bt a ob xs ea =>
  cases(show u=bb a from rx)
  obtain⟨_,_,_,n,_,h1⟩:=(show cx X.prog X.w H s.heap a (.bt ob (.lst xs)) from I.aq a _ ea)
  exact PySem.W.kia_one PySem.W.kitx_list I.bq ⟨_,h1,rfl⟩ e (λz=>nomatch z) h
 | @tup a xs ea =>
  cases(show u=bb a from rx)
  obtain⟨_,_,_,p⟩:=(show cx X.prog X.w H s.heap a (.tup xs) from I.aq a _ ea)
  obtain⟨o,h1,h2,_⟩:=p
  exact PySem.W.kia_one PySem.W.kitx_tuple I.bq ⟨o,h1,h2⟩ e (λz=>nomatch z) h
 | @dK a bX ea =>
  cases(show u=bb a from rx)
  obtain⟨_,_,vs,_,p⟩:=(show cx X.prog X.w H s.heap a (.dK bX) from I.aq a _ ea)
  obtain⟨o,es,ep,h1,h2,_⟩:=p
  exact PySem.W.kia_one PySem.W.kitx_dict I.bq ⟨o,h1,h2.1⟩ e (λz=>nomatch z) h
 | @dT a bX ea =>
  cases(show u=bb a from rx)
  obtain⟨_,_,xs,_,o,es,ep,h1,h2,_⟩:=(show cx X.prog X.w H s.heap a (.dT bX) from I.aq a _ ea)
  exact PySem.W.kia_one PySem.W.kitx_dict I.bq ⟨o,h1,h2.1⟩ e (λz=>nomatch z) h
 | @ins a C dx fs ea cl ha hn uD hm =>
  cases(show u=bb a from rx)
  obtain⟨mA,O,_⟩:=uA I.aq ea
  obtain⟨od,J,_⟩:=O.look
  exact PySem.W.kia_one (PySem.W.kitx_own (cl.get _) cl.hd ha hn uD hm) I.bq J e (λz=>nomatch z) h
end
end L2
namespace L2
open PySem PySem.Spec PyProof.Rows
structure aS(k:Nat)(A:Around):Prop where
 hd:A.handled=none
 dp:A.depth+3*k+5<recursionLimit
 un:A.units+16*k+200<cLine
theorem aS.mono{j k:Nat}{A:Around}(r:aS k A)(h:j<=k):aS j A:=⟨r.hd,by have:=r.dp;omega,by have:=r.un;omega⟩
theorem aS.deeper{k:Nat}{A:Around}(r:aS (k+1) A)(env:Env):aS k (A.deeper env) :=
 ⟨r.hd,by have:=r.dp;show A.depth+1+3*k+5<_;omega,by have:=r.un;show A.units+3+16*k+200<_;omega⟩
theorem aS.in1{k:Nat}{A:Around}(r:aS (k+1) A):aS k A.in1 :=
 ⟨r.hd,by have:=r.dp;show A.depth+3*k+5<_;omega,by have:=r.un;show A.units+1+16*k+200<_;omega⟩
theorem NL{A:Around}{C:Addr}{us:List Value}{kw:List (Str × Value)}:(A.under (.builtin "type.__call__" ⟨.ref C::us,kw⟩)).depth=A.depth+1:=by
 first | rfl | simp[Around.under,Code.weight,Code.isCreation,Code.isGuard,Code.isCaller,Code.frames,Code.isFrame,guardIds]
theorem NM{A:Around}{C:Addr}{us:List Value}{kw:List (Str × Value)}:(A.under (.builtin "type.__call__" ⟨.ref C::us,kw⟩)).units=A.units+1:=by
 first | rfl | simp[Around.under,Code.cUnits,Code.frames,Code.isFrame]
theorem aS.make{k:Nat}{A:Around}(r:aS (k+1) A)(C:Addr)(us:List Value)(kw:List (Str × Value)):aS k (A.under (.builtin "type.__call__" ⟨.ref C::us,kw⟩)) :=
 ⟨r.hd,by have:=r.dp;rw[NL];omega,by have:=r.un;rw[NM];omega⟩
theorem aS.depth{k:Nat}{A:Around}(r:aS k A):A.depth<recursionLimit:=by have:=r.dp;omega
theorem aS.units{k:Nat}{A:Around}(r:aS k A):A.units+64<cLine:=by have:=r.un;omega
noncomputable def NN:TA:=λ_ H Q=>Q [] H
noncomputable def NO(ta:TE)(tr:TA):TA:=λσ H Q=>ta σ H λx H1=>tr σ H1 λxs H2=>Q (x::xs) H2
section
variable{X:Cx}{e:Expr}{es:List Expr}{te:TE}{t:TA}{pos:Pos}
theorem eO:PA X [] NN:=λ_ _ _ _ H Q I h=>Calls.spliced_nil ⟨[],H,I,.nil,h⟩
theorem cN(ha:PE X e te)(hr:PA X es t)(hs:starEach (e::es) X.env=(false,eval e X.env)::starEach es X.env:=by rfl):PA X (e::es) (NO te t):=by
 intro pos pins s σ H Q I h
 rw[hs]
 show wpAny _ _ (spliced ((false,eval e X.env)::backTo pos (starEach es X.env))) _ _ s
 refine Calls.spliced_cons (aw (ha pins s σ H _ I h) λu s1 ⟨x,H1,I1,r1,q1⟩=>?_)
 exact aw (hr pos pins s1 σ H1 _ I1 q1) λus s2 ⟨xs,H2,I2,r2,q2⟩=>⟨x::xs,H2,I2,.cons r1 r2,q2⟩
noncomputable def NP(t:TA):TE:=λσ H Q=>t σ H λxs H1=>xs.length<=sizeLine/\∀p,H1 p=none->Q (.ref p) (upd H1 p (.tup xs))
noncomputable def NQ(t:TA):TE:=λσ H Q=>t σ H λxs H1=>xs.length<=sizeLine/\∀p,H1 p=none->Q (.ref p) (upd H1 p (.lst xs))
theorem NR{x1}(h:PA X es t):PE X (.Tuple es x1 pos) (NP t):=by
 intro pins s σ H Q I hq
 refine wpAny_Tuple_spliced (aw (h pos pins s σ H _ I hq) λus s1 ⟨xs,H1,I1,r,z,q⟩=>⟨by rw[<-r.length];exact z,?_⟩)
 have hf:H1 s1.heap.objs.size=none:=I1.aq.fresh (bH _)
 refine⟨.ref s1.heap.objs.size,upd H1 s1.heap.objs.size (.tup xs),I1.laid (t':=s1.toks) (λb u e=>cY _ e) (bH _) ?_,rfl,q _ hf⟩
 exact⟨z,us,r,⟨_,fj _ rfl,rfl,_,rfl⟩⟩
theorem NS(h:PA X es t):PE X (.List es pos) (NQ t):=by
 intro pins s σ H Q I hq
 refine wpAny_List_spliced (aw (h pos pins s σ H _ I hq) λus s1 ⟨xs,H1,I1,r,z,q⟩=>⟨by rw[<-r.length];exact z,?_⟩)
 have hf:H1 s1.heap.objs.size=none:=I1.aq.fresh (bH _)
 refine⟨.ref s1.heap.objs.size,upd H1 s1.heap.objs.size (.lst xs),I1.laid (t':=s1.toks) (λb u e=>cY _ e) (bH _) ?_,rfl,q _ hf⟩
 exact⟨z,us,0,r,fj _ rfl⟩
end
noncomputable abbrev Sp:=List V->Hp->VK->XK->Prop
noncomputable abbrev cO:=List Env->Hp->Shared->XK->Value->Shared->Prop
structure dH(P:Program)(w:World)(K:PySem.W.Frag)(mg:Str->Option Value)(base:Heap)(A:Around)(outer:List Env)(s:Shared)(H:Hp):Prop where
 frames:A.frames=some outer
 mod:Mod K mg base
 bs:∀b o,base.get? b=some o->s.heap.get? b=some o/\H b=none
 dX:base.objs.size<=s.heap.objs.size
 di:s.heap.FunFrames base outer
 et:∀b∈bY outer,H b=none
 aq:bI P w H s.heap
 bare:AllBare s.gens
noncomputable def CE(outer:List Env)(P:Program)(w:World)(H:Hp)(s:Shared)(Q:VK)(u:Value)(s':Shared):Prop :=
 ∃v H',s'.os=s.os/\AllBare s'.gens/\Un (bY outer) [] H H' s.heap s'.heap/\bI P w H' s'.heap/\RelV v u/\Q v H'
noncomputable def CR(CX:cO)(outer:List Env)(P:Program)(w:World)(H:Hp)(s:Shared)(Q:VK)(E:XK)(r:Result)(s':Shared):Prop :=
 match r with
 | .ok (.ret u)=>CE outer P w H s Q u s'
 | .ok _=>False
 | .error e=>CX outer H s E e s'
structure aI(P:Program)(w:World)(K:PySem.W.Frag)(mg:Str->Option Value)(base:Heap)(CX:cO)(k:Nat)(f:Addr)(fd:FuncData)(ps:List Str)(sp:Sp):Prop where
 len:∀vs H Q E,sp vs H Q E->vs.length=ps.length
 run:∀(A:Around) (outer:List Env) (s:Shared) (H:Hp) (args:Args) (us:List Value) (vs:List V) (Q:VK) (E:XK),aS k A->dH P w K mg base A outer s H->BindsTo s fd args (ps.zip us)->Vals vs us->sp vs H Q E ->
  codeAny (model P w) A (.call (.ref f) args) (CR CX outer P w H s Q E) s
theorem aI.mono{P:Program}{w:World}{K:PySem.W.Frag}{mg:Str->Option Value}{base:Heap}{CX:cO}{j k:Nat}{f:Addr}{fd:FuncData}{ps:List Str}{sp:Sp}(F:aI P w K mg base CX j f fd ps sp)(h:j<=k) :
  aI P w K mg base CX k f fd ps sp:=⟨F.len,λA outer s H args us vs Q E hr=>F.run A outer s H args us vs Q E (hr.mono h)⟩
theorem aI.imp{P:Program}{w:World}{K:PySem.W.Frag}{mg:Str->Option Value}{base:Heap}{CX:cO}{k:Nat}{f:Addr}{fd:FuncData}{ps:List Str}{sp E4:Sp}(F:aI P w K mg base CX k f fd ps sp)
  (h:∀vs H Q E,E4 vs H Q E->sp vs H Q E):aI P w K mg base CX k f fd ps E4 :=
 ⟨λvs H Q E q=>F.len vs H Q E (h _ _ _ _ q),λA outer s H args us vs Q E hr he hb hv hs=>F.run A outer s H args us vs Q E hr he hb hv (h _ _ _ _ hs)⟩
theorem dH.make{P:Program}{w:World}{K:PySem.W.Frag}{mg:Str->Option Value}{base:Heap}{A:Around}{outer:List Env}{s:Shared}{H:Hp}(e:dH P w K mg base A outer s H)(C:Addr)(us:List Value)(kw:List (Str × Value)) :
  dH P w K mg base (A.under (.builtin "type.__call__" ⟨.ref C::us,kw⟩)) outer s H:=⟨by first | exact e.frames | (simpa[Around.under,Code.envs,Code.isFrame,pushEnvs]using e.frames),e.mod,e.bs,e.dX,e.di,e.et,e.aq,e.bare⟩
theorem dH.in1{P:Program}{w:World}{K:PySem.W.Frag}{mg:Str->Option Value}{base:Heap}{A:Around}{outer:List Env}{s:Shared}{H:Hp}(e:dH P w K mg base A outer s H) :
  dH P w K mg base A.in1 outer s H:=⟨e.frames,e.mod,e.bs,e.dX,e.di,e.et,e.aq,e.bare⟩
section
variable{X:Cx}{pins:List (Addr × Obj)}{σ:St}{H:Hp}{s s':Shared}
theorem Inv.kO(I:Inv X pins σ H s):dH X.prog X.w X.K X.mg X.base X.A X.stack s H :=
 ⟨I.ok.frames,I.ok.mod,I.bs,dv I.ok.dX I.sz,I.stack,I.uj,I.aq,I.bare⟩
theorem Inv.after{Q:VK}{u:Value}(I:Inv X pins σ H s)(h:CE X.stack X.prog X.w H s Q u s'):EP X pins σ Q u s':=by
 obtain⟨v,H',os,bare,un,aq,r,q⟩:=h
 obtain⟨hh,g,d,t,NT⟩:=s'
 obtain rfl:NT=s.os:=os
 exact⟨v,H',I.call (h':=hh) (g':=g) (d':=d) (t':=t) (ch:=[]) un aq bare (λb z=>absurd z (by simp)),r,q⟩
end
noncomputable def NU(sp:Sp)(cT:List V)(E:XK)(t:TA):TE:=λσ H Q=>t σ H λvs H1=>sp (vs++cT) H1 Q E
noncomputable def NV(C:Addr)(m:Str)(sp:Sp)(cT:List V)(E:XK)(ta:TE)(t:TA):TE:=λσ H Q=>ta σ H λx H1=>∃a dx fs,x=.ref a/\H1 a=some (.ins C dx fs)/\fs.lookup m=none /\
 t σ H1 λvs H2=>sp (x::(vs++cT)) H2 Q E
noncomputable def NW(C:Addr)(sp:Sp)(cT:List V)(E:XK)(t:TA):TE:=λσ H Q=>t σ H λvs H1=>∀x dx,H1 x=none->H1 dx=none->dx≠x ->
 sp (.ref x::(vs++cT)) (upd (upd H1 dx (.own x)) x (.ins C dx [])) (λv H2=>v=.ai/\Q (.ref x) H2) E
noncomputable def Binds(K:PySem.W.Frag)(fd:FuncData)(ps:List Str)(ds:List Value):Prop :=
 ∀(s:Shared) (us:List Value),K.In s.heap->(us++ds).length=ps.length->BindsTo s fd ⟨us,[]⟩ (ps.zip (us++ds))
theorem Binds.all{K:PySem.W.Frag}{fd:FuncData}{ps:List Str}(h:∀us:List Value,us.length=ps.length->bindArgs fd ⟨us,[]⟩=pure (ps.zip us)):Binds K fd ps []:=λs us _ hl=>by
 rw[fW]at hl ⊢
 exact .of_eq (h us hl)
noncomputable def gG(CX:cO)(X:Cx)(E:XK):Prop:=∀(pins:List (Addr × Obj)) (σ:St) (H:Hp) (s:Shared) (e:Value) (s':Shared),Inv X pins σ H s->CX X.stack H s E e s'->X.xe e s'
section
variable{X:Cx}{CX:cO}{k:Nat}{f C:Addr}{fd:FuncData}{ps:List Str}{sp:Sp}{cT:List V}{ds:List Value}{E:XK}{x m:Str}{p pos apos:Pos}{e o:Expr}{es:List Expr}{ta:TE}{t:TA}
theorem rP{pins:List (Addr × Obj)}{σ:St}{H:Hp}{s:Shared}{Q:VK}{us:List Value}{vs:List V}(F:aI X.prog X.w X.K X.mg X.base CX k f fd ps sp)(hr:aS k X.A)(hb:Binds X.K fd ps ds)(hd:Vals cT ds)(hx:gG CX X E)
  (I:Inv X pins σ H s) (r:Vals vs us) (h:sp (vs++cT) H Q E):wpAny (model X.prog X.w) X.A (call (.ref f) us) (EP X pins σ Q) X.xe s:=by
 have r2:Vals (vs++cT) (us++ds):=r.append hd
 have hl:(us++ds).length=ps.length:=by rw[<-r2.length];exact F.len _ _ _ _ h
 refine wpAny_call (codeAny_mono (F.run X.A X.stack s H ⟨us,[]⟩ (us++ds) (vs++cT) Q E hr I.kO (hb s us I.bq hl) r2 h) λr s' hq=>?_)
 cases r with
 | error e=>exact hx pins σ H s e s' I hq
 | ok fl =>
  cases fl with
  | ret u=>exact I.after hq
  | next=>exact cm hq
  | brk=>exact cm hq
  | cont=>exact cm hq
theorem kP(F:aI X.prog X.w X.K X.mg X.base CX k f fd ps sp)(hr:aS k X.A)(hg:Gl X x)(hm:X.mg x=some (.ref f))(hk:PySem.W.keepIn X.K (.ref f)=true)(hb:Binds X.K fd ps ds)(hd:Vals cT ds)(hx:gG CX X E)
  (ha:PA X (e::es) t) (bZ:(x==("__debug__":Str))=false:=by decide) (he:starEach (e::es) X.env=(false,eval e X.env)::starEach es X.env:=by rfl) (aQ:(backTo pos (starEach es X.env)).any (·.1)=false:=by rfl) :
  PE X (.Call (.Name x p) (e::es) [] pos) (NU sp cT E t):=by
 intro pins s σ H Q I h
 refine wpAny_Call_Name_kw (jl I hg hm ?_ bZ)
 refine PySem.W.callWith_K (h₀:=X.base) I.ok.mod.fY hk (aw (ha pos pins s σ H _ I h) λus s1 ⟨vs,H1,I1,r,q⟩=>⟨I1.bq,?_⟩) he aQ
 exact rP F hr hb hd hx I1 r q
theorem NX{pl:Sem Bool}(he:PE X o ta)(c:cJ X.K C)(hm:Meth X.K C m f)(F:aI X.prog X.w X.K X.mg X.base CX k f fd ps sp)(hr:aS k X.A)(hb:Binds X.K fd ps ds)(hd:Vals cT ds)(hx:gG CX X E)(ha:PA X (e::es) t)
  (bw:starEach (e::es) X.env=(false,eval e X.env)::starEach es X.env:=by rfl) (aQ:(backTo pos (starEach es X.env)).any (·.1)=false:=by rfl)
  (ht:eval (.Call (.Attribute o m apos) (e::es) [] pos) X.env=(do
   let ov<-eval o X.env
   standAt apos.atName
   let (f,first)<-holding [ov] (getMethod ov m pl)
   callWith pos f first (backTo pos (starEach (e::es) X.env)) (backToKw pos (keywordEach [] X.env))):=by rfl) :
  PE X (.Call (.Attribute o m apos) (e::es) [] pos) (NV C m sp cT E ta t):=by
 intro pins s σ H Q I h
 refine PySem.W.methodCall_KW (pl:=pl) (aw (he pins s σ H _ I h) λu s1 ⟨x,H1,I1,rx,a,dx,fs,ex,ea,l,q⟩=>?_) ht
 subst ex
 obtain rfl:u=bb a:=rx
 refine uB I1 ea c hm l ?_
 refine PySem.W.callWith_K (first:=[.ref a]) (h₀:=X.base) I.ok.mod.fY hm.kp (aw (ha pos pins s1 σ H1 _ I1 q) λus s2 ⟨vs,H2,I2,r,q2⟩=>⟨I2.bq,?_⟩) bw aQ
 exact rP (us:=.ref a::us) (vs:=.ref a::vs) F hr hb hd hx I2 (.cons rfl r) q2
structure Mk(K:PySem.W.Frag)(C f:Addr):Prop where
 makes:PySem.W.makesIn K C=true
 init:PySem.W.findIn K (.ref C) "__init__"=some (some (.ref f))
 fn:PySem.W.isFn K (.ref f)=true
 kp:PySem.W.keepIn K (.ref C)=true
theorem NY{pins:List (Addr × Obj)}{σ:St}{H:Hp}{s:Shared}{Q:VK}{us:List Value}{vs:List V}(M:Mk X.K C f)(F:aI X.prog X.w X.K X.mg X.base CX k f fd ps sp)(hr:aS (k+1) X.A)(hb:Binds X.K fd ps ds)(hd:Vals cT ds)
  (hx:gG CX X E) (I:Inv X pins σ H s) (r:Vals vs us)
  (h:∀x dx,H x=none->H dx=none->dx≠x->sp (.ref x::(vs++cT)) (upd (upd H dx (.own x)) x (.ins C dx [])) (λv H2=>v=.ai/\Q (.ref x) H2) E) :
  wpAny (model X.prog X.w) X.A (call (.ref C) us) (EP X pins σ Q) X.xe s:=by
 have hq:=h (s.heap.objs.size+1) s.heap.objs.size (I.aq.fresh (Nat.le_succ _)) (I.aq.fresh (bH _)) (cM (tW _))
 have I2:=Inv.made (C:=C) I
 have r2:Vals (V.ref (s.heap.objs.size+1)::(vs++cT)) (bb (s.heap.objs.size+1)::(us++ds)):=.cons rfl (r.append hd)
 have hl:(bb (s.heap.objs.size+1)::us++ds).length=ps.length:=by
  have e:=r2.length
  rw[F.len _ _ _ _ hq]at e
  exact e.symm
 refine wpAny_call (EZ (f:=f) I.bq M.makes M.init (beq_iff_eq.mp M.fn) (codeAny_mono (F.run _ X.stack _ _ ⟨bb (s.heap.objs.size+1)::us,[]⟩ (bb (s.heap.objs.size+1)::(us++ds)) _ _ E (hr.make C us [])
  (I2.kO.make C us []) (hb _ (bb (s.heap.objs.size+1)::us) I2.bq hl) r2 hq) λr s' eu=>?_))
 cases r with
 | error e=>exact hx pins σ _ _ e s' I2 eu
 | ok fl =>
  cases fl with
  | ret u =>
   obtain⟨v,H',I3,rv,ev,q3⟩:=I2.after eu
   subst ev
   exact⟨rv,⟨V.ref (s.heap.objs.size+1),H',I3,rfl,q3⟩⟩
  | next=>exact cm eu
  | brk=>exact cm eu
  | cont=>exact cm eu
theorem NZ(M:Mk X.K C f)(F:aI X.prog X.w X.K X.mg X.base CX k f fd ps sp)(hr:aS (k+1) X.A)(hg:Gl X x)(hm:X.mg x=some (.ref C))(hb:Binds X.K fd ps ds)(hd:Vals cT ds)(hx:gG CX X E)
  (ha:PA X (e::es) t) (bZ:(x==("__debug__":Str))=false:=by decide) (he:starEach (e::es) X.env=(false,eval e X.env)::starEach es X.env:=by rfl) (aQ:(backTo pos (starEach es X.env)).any (·.1)=false:=by rfl) :
  PE X (.Call (.Name x p) (e::es) [] pos) (NW C sp cT E t):=by
 intro pins s σ H Q I h
 refine wpAny_Call_Name_kw (jl I hg hm ?_ bZ)
 refine PySem.W.callWith_K (h₀:=X.base) I.ok.mod.fY M.kp (aw (ha pos pins s σ H _ I h) λus s1 ⟨vs,H1,I1,r,q⟩=>⟨I1.bq,?_⟩) he aQ
 exact NY M F hr hb hd hx I1 r q
end
section
variable{X:Cx}{CX:cO}{k:Nat}{f C:Addr}{fd:FuncData}{ps ks:List Str}{sp:Sp}{E:XK}{x m:Str}{p pos apos cf6:Pos}{e o:Expr}{es:List Expr}{kws:List Keyword}{te ta:TE}{t tk:TA}{nm:Option Str}
variable{g:List Value->List Value->List Value}{gV:List V->List V->List V}
end
structure bx(N P:List Str)(sc:Scope):Prop where
 kind:sc.kind=.function
 co:sc.isCoroutine=false
 gen:sc.isGenerator=false
 nd:N.Nodup
 pre:N.take P.length=P
 par:∀x∈P,sc.names.lookup x=some .local\/sc.names.lookup x=some .cell
 N0:∀y∈sc.names,y.2≠.free
theorem E5{kindOf:Str->Option NameKind}{x:Str}:∀{binds:List (Str × Value)} {m:Str->Option Value},(∀v,(x,v) ∉ binds)->bindL kindOf binds m x=m x
 | [],_,_=>rfl
 | (n,v)::r,m,h=>by
  unfold bindL
  rw[E5 λw hw=>h w (hG _ hw)]
  split
  ·have:x≠n:=by rintro rfl;exact h v D3
   simp[this]
  ·rfl
theorem E6{kindOf:Str->Option NameKind}{x:Str}:∀{binds:List (Str × Value)} {m:Str->Option Value},(∀v,(x,v) ∉ binds)->bindC kindOf binds m x=m x
 | [],_,_=>rfl
 | (n,v)::r,m,h=>by
  unfold bindC
  rw[E6 λw hw=>h w (hG _ hw)]
  split
  ·rfl
  ·have:x≠n:=by rintro rfl;exact h v D3
   simp[this]
theorem E7{kindOf:Str->Option NameKind}{x:Str}{v:Value}:∀{P:List Str} {vs:List Value} {i:Nat} {m:Str->Option Value},P.Nodup->P[i]?=some x->vs[i]?=some v->kindOf x=some .local ->
  bindL kindOf (P.zip vs) m x=some v
 | [],_,_,_,_,h,_,_=>by simp at h
 | _::_,[],_,_,_,_,h,_=>by simp at h
 | p::P,w::vs,0,m,nd,h1,h2,hk=>by
  simp at h1 h2;subst h1;subst h2
  show bindL kindOf ((p,w)::P.zip vs) m p=_
  unfold bindL
  rw[E5 λv hv=>(je.mp nd).1 (D7 hv).1,if_pos hk]
  simp
 | p::P,w::vs,i+1,m,nd,h1,h2,hk=>by
  show bindL kindOf ((p,w)::P.zip vs) m x=_
  unfold bindL
  exact E7 (i:=i) (je.mp nd).2 (by simpa using h1) (by simpa using h2) hk
theorem E8{kindOf:Str->Option NameKind}{x:Str}{v:Value}:∀{P:List Str} {vs:List Value} {i:Nat} {m:Str->Option Value},P.Nodup->P[i]?=some x->vs[i]?=some v->kindOf x≠some .local ->
  bindC kindOf (P.zip vs) m x=some v
 | [],_,_,_,_,h,_,_=>by simp at h
 | _::_,[],_,_,_,_,h,_=>by simp at h
 | p::P,w::vs,0,m,nd,h1,h2,hk=>by
  simp at h1 h2;subst h1;subst h2
  show bindC kindOf ((p,w)::P.zip vs) m p=_
  unfold bindC
  rw[E6 λv hv=>(je.mp nd).1 (D7 hv).1,if_neg hk]
  simp
 | p::P,w::vs,i+1,m,nd,h1,h2,hk=>by
  show bindC kindOf ((p,w)::P.zip vs) m x=_
  unfold bindC
  exact E8 (i:=i) (je.mp nd).2 (by simpa using h1) (by simpa using h2) hk
noncomputable def start(N:List Str)(vs:List V):St:=vs.map some++aR (N.length-vs.length) none
noncomputable def eP(CX:cO)(P:Program)(w:World)(K:PySem.W.Frag)(mg:Str->Option Value)(base:Heap)(N:List Str)(qual:Str)(scope:Scope)(f:Addr)(cd:Value)(A:Around)(outer:List Env)(s:Shared)(H:Hp)(E:XK):Cx where
 prog:=P
 w:=w
 K:=K
 mg:=mg
 base:=base
 A:=A.deeper (envOfC qual scope s.heap.objs.size f cd)
 N:=N
 bu:=s
 fZ:=H
 env:=envOfC qual scope s.heap.objs.size f cd
 outer:=outer
 stack:=envOfC qual scope s.heap.objs.size f cd::outer
 ex:=[]
 calm:=true
 fn:=λ_=>true
 pn:=[]
 xe:=λe s'=>wpAny (model P w) (A.deeper (envOfC qual scope s.heap.objs.size f cd)) (leaving (envOfC qual scope s.heap.objs.size f cd) e) (λ_ kQ=>CX outer H s E e kQ) (λe' kQ=>CX outer H s E e' kQ) s'
theorem E9{sc:Scope}{n:Nat}{x:Str}(h:sc.names.lookup x=some .cell):∃c,(cellsFrom n sc.names []).lookup x=some c:=by
 have q:=PySem.W.cellsFrom_some sc.names n [] (.inl h)
 exact tX.mp q
theorem N1{CX:cO}{P:Program}{w:World}{K:PySem.W.Frag}{mg:Str->Option Value}{base:Heap}{N ps:List Str}{qual:Str}{scope:Scope}{f:Addr}{cd:Value}{A:Around}{outer:List Env}{s s1:Shared}{H:Hp}{E:XK}{us:List Value}{vs:List V}
  (S:bx N ps scope) (hd:A.handled=none) (e0:dH P w K mg base A outer s H) (hl:vs.length=ps.length) (r:Vals vs us)
  (x:InCallC s s.heap.objs.size (bindL (envOfC qual scope s.heap.objs.size f cd).kindOf (ps.zip us) λ_=>none) (cellsFrom (s.heap.objs.size+1) scope.names []) (bindC (envOfC qual scope s.heap.objs.size f cd).kindOf (ps.zip us) λ_=>none) s1) :
  Inv (eP CX P w K mg base N qual scope f cd A outer s H E) [] (start N vs) H s1:=by
 have aQ:ps.length<=N.length:=by have:=congrArg D8 S.pre;rw[List.length_take]at this;omega
 obtain⟨h1,tk,rfl,hk⟩:=x.done
 have rQ:∀b:Addr,b ∉ (eP CX P w K mg base N qual scope f cd A outer s H E).ex:=λb z=>absurd (show b∈([]:List Addr) from z) (by simp)
 refine⟨⟨e0.mod,S.kind,rfl,rfl,bH _,λy z c h1 h2=>?_,λy hy=>?_,λy c _ h=>?_,λ_=>hd,Around.frames_deeper e0.frames,.inr ⟨rfl,rfl⟩,λb z=>absurd z (rQ b),e0.bs,e0.dX,λb _ _=>rQ b,λb z=>absurd z (rQ b),e0.di,e0.et⟩,
  rfl,e0.bare,Un.kept hk,⟨_,x.toInCall.ns,λi y v h1 h2 h3=>?_⟩,λy c h=>⟨_,x.cell y c h⟩,e0.aq.fresh (bH _),λy c h=>?_,λp hp=>absurd (show p∈([]:List (Addr × Obj)) from hp) (by simp),e0.aq.kept hk,?_⟩
 ·exact name_of_addr x.apart (PySem.mem_of_lookup h1) (PySem.mem_of_lookup h2)
 ·have hy:scope.names.lookup y=some .cell\/scope.names.lookup y=some .free:=hy
  rcases hy with hy | hy
  ·exact E9 hy
  ·exact absurd rfl (S.N0 _ (PySem.mem_of_lookup hy))
 ·exact wW (x.above y c (PySem.mem_of_lookup h))
 ·have hi:i<vs.length:=by
   unfold start at h2
   by_cases hi:i<vs.length
   ·exact hi
   ·rw[wY (by simpa using hi)]at h2
    rw[D9]at h2
    split at h2<;>cases h2
  have ha:vs[i]?=some v:=by
   unfold start at h2
   rw[Ea (by simpa using hi),gy]at h2
   cases e:vs[i]? with
   | none=>rw[e]at h2;cases h2
   | some a=>rw[e]at h2;cases h2;rfl
  obtain⟨u,hu,rv⟩:=r.get ha
  have hp:ps[i]?=some y:=by
   rw[<-S.pre,List.getElem?_take_of_lt (by omega)];exact h1
  have Fb:ps.Nodup:=by rw[<-S.pre];exact S.nd.sublist (List.take_sublist _ _)
  refine⟨u,rv,?_⟩
  rcases S.par y (tY hp)with k | k
  ·exact .inl ⟨k,E7 Fb hp hu k⟩
  ·obtain⟨c,e⟩:=E9 (n:=s.heap.objs.size+1) k
   refine .inr ⟨.inl k,c,e,?_⟩
   have q:=x.cell y c e
   rw[E8 Fb hp hu (by show scope.names.lookup y≠_;rw[k];decide)]at q
   exact q
 ·exact e0.aq.fresh (wW (x.above y c (PySem.mem_of_lookup h)))
 ·unfold start
  show _=N.length
  rw[wZ,nv,List.length_replicate]
  omega
theorem xX{CX:cO}{P:Program}{w:World}{K:PySem.W.Frag}{mg:Str->Option Value}{base:Heap}{k:Nat}{f:Addr}{name qual:Str}{params:Arguments}{body:List Stmt}{scope:Scope}{dV kV doc pm aA ct oc:Value}{an od:Option Addr}
  {gH:Array (Option Value)} {N ps:List Str} {sp:Sp} (lk:K.lookup f=some ⟨oc,od,.func (PySem.W.fnOf name qual params body scope dV kV doc pm an aA ct),gH⟩) (bO:PySem.W.codeIn K aA qual=true) (S:bx N ps scope)
  (len:∀vs H Q E,sp vs H Q E->vs.length=ps.length)
  (eA:∀(A:Around) (outer:List Env) (s:Shared) (H:Hp) (vs:List V) (Q:VK) (E:XK),aS k (A.deeper (envOfC qual scope s.heap.objs.size f aA))->sp vs H Q E ->
   ∃t,PSs (eP CX P w K mg base N qual scope f aA A outer s H E) body t/\t { nx:=λ_ H'=>Q .ai H',rt:=Q } (start N vs) H) :
  aI P w K mg base CX (k+1) f (PySem.W.fnOf name qual params body scope dV kV doc pm an aA ct) ps sp:=by
 refine⟨len,λA outer s H args us vs Q E hr e0 hb r eQ=>?_⟩
 have hl:=len _ _ _ _ eQ
 have KX:K.In s.heap:=e0.mod.fY.keeps λb o e=>(e0.bs b o e).1
 have lim:s.heap.NoLimit:=e0.mod.nolimit.keeps λb o e=>(e0.bs b o e).1
 have eB:∀y∈ps.zip us,scope.names.lookup y.1=some .local\/(scope.names.lookup y.1=some .cell/\((cellsFrom (s.heap.objs.size+1) scope.names []).lookup y.1).isSome=true):=λ⟨n,v⟩ hy=>by
  rcases S.par n (D7 hy).1 with q | q
  ·exact .inl q
  ·exact .inr ⟨q,PySem.W.cellsFrom_some _ _ _ (.inl q)⟩
 refine codeAny_call_function hr.depth (KX _ _ lk) rfl S.co S.gen rfl (PySem.W.codeRec_of KX bO) (hb _ _ _ _ ?_)
 refine wpAny_newFunctionEnv_cells S.kind eB λenv he s1 x=>?_
 subst he
 refine⟨lim.keeps x.toInCall.keep,codeAny_func ?_⟩
 obtain⟨t,ht,hq⟩:=eA A outer s H vs Q E (hr.deeper _) eQ
 have I:Inv (eP CX P w K mg base N qual scope f aA A outer s H E) [] (start N vs) H s1:=N1 S hr.hd e0 hl r x
 refine wpAny_mono (ht [] s1 (start N vs) H _ I hq) (λfl s' hs=>?_) λe s' hs=>hs
 have fin:∀{aj:St} {H':Hp} {v:V} {u:Value},Inv (eP CX P w K mg base N qual scope f aA A outer s H E) [] aj H' s'->RelV v u->Q v H'->CE outer P w H s Q u s' :=
  λ{aj H' v u} J rv q=>⟨v,H',J.os,J.bare,J.base,J.aq,rv,q⟩
 cases fl with
 | ret u =>
  obtain⟨v,aj,H',J,rv,q⟩:=hs
  exact fin J rv q
 | next =>
  obtain⟨aj,H',J,q⟩:=hs
  exact fin (v:=V.ai) (u:=ke) J rfl q
 | brk =>
  obtain⟨_,_,_,q⟩:=hs
  exact cm q
 | cont =>
  obtain⟨_,_,_,q⟩:=hs
  exact cm q
end L2
namespace L2
open PySem PySem.Spec PyProof.Rows
section
variable{X:Cx}{x:Str}{p pos:Pos}{e:Expr}{es:List Expr}{t:TA}{id T:String}{r:List V->Hp->VK->Prop}
noncomputable def xY(r:List V->Hp->VK->Prop)(t:TA):TE:=λσ H Q=>t σ H λvs H1=>r vs H1 Q
theorem uE(hc:eN X (.builtin id) r)(hg:Gl X x)(hm:X.mg x=none)(hv:bootBuiltins x=some (.builtin id))(ha:PA X (e::es) t)(hn:x≠"__name__":=by decide)(bZ:(x==("__debug__":Str))=false:=by decide)
  (he:starEach (e::es) X.env=(false,eval e X.env)::starEach es X.env:=by rfl) (aQ:(backTo pos (starEach es X.env)).any (·.1)=false:=by rfl):PE X (.Call (.Name x p) (e::es) [] pos) (xY r t):=by
 intro pins s σ H Q I h
 refine wpAny_Call_Name_kw (nO I hg hm hv ?_ hn bZ)
 exact PyProof.Rows.callWith_builtin1 (aw (ha pos pins s σ H _ I h) λus s1 ⟨vs,H1,I1,r1,q1⟩=>hc pins s1 σ H1 vs us Q I1 r1 q1) he aQ
theorem N2(hc:eN X (.type T) r)(hg:Gl X x)(hm:X.mg x=none)(hv:bootBuiltins x=some (.type T))(ha:PA X (e::es) t)(hn:x≠"__name__":=by decide)(bZ:(x==("__debug__":Str))=false:=by decide)
  (he:starEach (e::es) X.env=(false,eval e X.env)::starEach es X.env:=by rfl) (aQ:(backTo pos (starEach es X.env)).any (·.1)=false:=by rfl):PE X (.Call (.Name x p) (e::es) [] pos) (xY r t):=by
 intro pins s σ H Q I h
 refine wpAny_Call_Name_kw (nO I hg hm hv ?_ hn bZ)
 exact wX (aw (ha pos pins s σ H _ I h) λus s1 ⟨vs,H1,I1,r1,q1⟩=>hc pins s1 σ H1 vs us Q I1 r1 q1) he aQ
end
end L2
namespace HT
open PySem PyProof.Rows
section
open PySem.SeqAt
open PySem.AutoSeq1 (wpAny_loadPart')
open PySem.MeetsSeq PySem.MeetsSeq2 PySem.MeetsSeq3
end
section
variable{prog:Program}{w:World}{A:Around}{E:Value->Shared->Prop}{s:Shared}
end
end HT
namespace L2
open PySem PySem.Spec PyProof.Rows
noncomputable abbrev TO:=St->Hp->(Option Int->Hp->Prop)->Prop
noncomputable def PO(X:Cx)(e:Option Expr)(t:TO):Prop :=
 ∀(pins:List (Addr × Obj)) (s:Shared) (σ:St) (H:Hp) (Q:Option Int->Hp->Prop),Inv X pins σ H s->t σ H Q ->
  wpAny (model X.prog X.w) X.A (evalPart e X.env) (λu s'=>∃o H',Inv X pins σ H' s'/\IsPart u o/\Q o H') X.xe s
section
variable{X:Cx}{e:Expr}{te:TE}{lo hi:Option Expr}{tl th:TO}{pos p2:Pos}
end
end L2
namespace L2
open PySem PySem.Spec PyProof.Rows
noncomputable def gI(n:Nat)(i:Int):Option Nat:=if 0<=i then(if i<n then some i.toNat else none)else if -(n:Int)<=i then some (i+n).toNat else none
noncomputable def d4{α:Type}(xs:List α)(i:Int):Option α:=(gI xs.length i).bind λj=>xs[j]?
theorem Fc{n:Nat}{i:Int}{j:Nat}(h:gI n i=some j):seqIndex? i n=some j/\j<n/\-(n:Int)<=i/\i<n:=by
 unfold gI at h
 by_cases h0:0<=i
 ·rw[if_pos h0]at h
  by_cases h1:i<n
  ·rw[if_pos h1]at h
   have e:i.toNat=j:=cR h
   exact⟨by rw[seqIndex_of h0 h1,e],by omega,by omega,h1⟩
  ·rw[if_neg h1]at h;cases h
 ·rw[if_neg h0]at h
  by_cases h1:-(n:Int)<=i
  ·rw[if_pos h1]at h
   have e:(i+n).toNat=j:=cR h
   exact⟨by rw[seqIndex_neg (by omega) h1,e],by omega,h1,by omega⟩
  ·rw[if_neg h1]at h;cases h
theorem rR{α:Type}{xs:List α}{i:Int}{v:α}(h:d4 xs i=some v):∃j,seqIndex? i xs.length=some j/\xs[j]?=some v/\j<xs.length/\-(xs.length:Int)<=i/\i<xs.length:=by
 unfold d4 at h
 cases e:gI xs.length i with
 | none=>rw[e]at h;cases h
 | some j =>
  rw[e]at h
  obtain⟨h1,h2,h3,h4⟩:=Fc e
  exact⟨j,h1,h,h2,h3,h4⟩
noncomputable def Fd(b:Expr):Prop:=∀o i,subscripted b false o i=operate [o,i] (getItem o i)
noncomputable def ir(X:Cx)(r:R2):Prop :=
 ∀(value slice:Expr) (pins:List (Addr × Obj)) (s:Shared) (σ:St) (H:Hp) (x y:V) (v u:Value) (Q:VK),Inv X pins σ H s->RelV x v->RelV y u->r x y H Q ->
  subscripted slice false v u=operate [v,u] (getItem v u)->wpAny (model X.prog X.w) X.A (subscriptTail value slice v u) (EP X pins σ Q) X.xe s
noncomputable def jo(X:Cx)(id:String)(r:V->List V->Hp->VK->Prop):Prop :=
 ∀(pins:List (Addr × Obj)) (s:Shared) (σ:St) (H:Hp) (x:V) (xs:List V) (v:Value) (us:List Value) (Q:VK),Inv X pins σ H s->RelV x v->Vals xs us->r x xs H Q ->
  wpAny (model X.prog X.w) X.A (call (.builtin id) (v::us)) (EP X pins σ Q) X.xe s
section
variable{X:Cx}{a b:Expr}{ta tb:TE}{pos:Pos}
theorem ir.or{r r':R2}(h:ir X r)(h':ir X r'):ir X (λx y H Q=>r x y H Q\/r' x y H Q):=by
 intro value slice pins s σ H x y v u Q I rx ry q hs
 rcases q with q | q
 ·exact h value slice pins s σ H x y v u Q I rx ry q hs
 ·exact h' value slice pins s σ H x y v u Q I rx ry q hs
theorem jo.or{id:String}{r r':V->List V->Hp->VK->Prop}(h:jo X id r)(h':jo X id r'):jo X id (λx xs H Q=>r x xs H Q\/r' x xs H Q):=by
 intro pins s σ H x xs v us Q I rx rs q
 rcases q with q | q
 ·exact h pins s σ H x xs v us Q I rx rs q
 ·exact h' pins s σ H x xs v us Q I rx rs q
theorem N3{r:R2}(hr:ir X r)(ha:PE X a ta)(hb:PE X b tb)(hs:Fd b):PE X (.Subscript a b pos) (rM r ta tb):=by
 intro pins s σ H Q I h
 exact Subscript_ (xT ha hb I h λv u s2 x y H2 I2 rx ry q=>hr a b pins s2 σ H2 x y v u Q I2 rx ry q (hs _ _))
noncomputable def Fe(K:PySem.W.Frag):R2:=λx y H Q=>∃p xs i v,x=.ref p/\y=.int i/\bJ K H p xs/\d4 xs i=some v/\Q v H
noncomputable def Ff(K:PySem.W.Frag):R2:=λx y H Q=>∃p xs i v,x=.ref p/\y=.int i/\dY K H p xs/\d4 xs i=some v/\Q v H
noncomputable def Fg:R2:=λx y H Q=>∃z i c,x=.str z/\y=.int i/\z.length<=sizeLine/\d4 z.cps.toList i=some c/\Q (.str ⟨#[c]⟩) H
theorem N4:ir X (Fe X.K):=by
 intro value slice pins s σ H x y v u Q I rx ry h hs
 obtain⟨p,xs,i,z,rfl,rfl,hq,he,q⟩:=h
 cases rx
 obtain⟨t,rfl⟩:=ry
 obtain⟨its,r,pl,hz⟩:=I.list hq
 obtain⟨j,h1,h2,h3,h4,h5⟩:=rR he
 obtain⟨w,ew,aN⟩:=r.get h2
 have hl:=r.length
 have hn:=nV
 have fin:EP X pins σ Q w s:=⟨z,H,I,aN,q⟩
 by_cases h0:0<=i
 ·have hj:i.toNat=j:=by
   rw[seqIndex_of h0 h5]at h1
   exact cR h1
  exact item_listR pl.isList h0 (by omega) (by rw[hj];simpa using ew) fin hs
 ·have hj:(i+(its.toArray.size:Int)).toNat=j:=by
   rw[seqIndex_neg (by omega) h4]at h1
   rw[cZ,<- hl]
   exact cR h1
  exact subscriptTail_builtinR (x:=w) pl.isList.typeIs slot_list_getitem.lookup
   (wpAny_getItem_list_neg (Q:=λr s'=>r=w/\EP X pins σ Q r s') pl.isList (by omega) (by rw[cZ]<;>omega) (by omega) (by rw[hj];simpa using ew) ⟨rfl,fin⟩) hs
theorem N5:ir X (Ff X.K):=by
 intro value slice pins s σ H x y v u Q I rx ry h hs
 obtain⟨p,xs,i,z,rfl,rfl,hq,he,q⟩:=h
 cases rx
 obtain⟨t,rfl⟩:=ry
 obtain⟨its,r,pl,hz⟩:=I.tuple hq
 obtain⟨j,h1,h2,h3,h4,h5⟩:=rR he
 obtain⟨w,ew,aN⟩:=r.get h2
 have hl:=r.length
 have hn:=nV
 have fin:EP X pins σ Q w s:=⟨z,H,I,aN,q⟩
 exact subscriptTail_builtinR (x:=w) pl.typeIs slot_tuple_getitem.lookup
  (getItem_tuple (j:=j) (Q:=λr s'=>r=w/\EP X pins σ Q r s') pl (by omega) (by omega) (by rw[cZ,<- hl];exact h1) (by simpa using ew) ⟨rfl,fin⟩) hs
theorem N6:ir X Fg:=by
 intro value slice pins s σ H x y v u Q I rx ry h hs
 obtain⟨z,i,c,rfl,rfl,hz,he,q⟩:=h
 obtain⟨t,rfl⟩:=rx
 obtain⟨t',rfl⟩:=ry
 obtain⟨j,h1,h2,h3,h4,h5⟩:=rR he
 have hl:z.cps.toList.length=z.length:=by simp[Str.length]
 rw[hl]at h1 h4 h5
 have hn:=nV
 exact tail_any (typeIs_str s z t) slot_str_getitem.lookup (getItem_str (c:=c) (by
  have e1:decide (i < -(2 ^ 63:Int))=false:=decide_eq_false (by omega)
  have e2:decide (i ≥ 2 ^ 63)=false:=decide_eq_false (by omega)
  rw[e1,e2,nz]) (by rw[h1];simpa using h2) ⟨.str ⟨#[c]⟩,H,I.tok _,⟨_,rfl⟩,q⟩) hs
noncomputable def N7(K:PySem.W.Frag):R2:=λx y H Q=>Fe K x y H Q\/Ff K x y H Q\/Fg x y H Q
theorem N8:ir X (N7 X.K):=N4.or (N5.or N6)
theorem N9(its:List Value)(n j:Nat)(u:Value):tZ (·.setIfInBounds j u) { cls:=.type "list",data:=.seq its.toArray n }={ cls:=.type "list",data:=.seq (its.set j u).toArray n }:=by
 simp[tZ]
theorem Inv.lst{pins:List (Addr × Obj)}{σ:St}{H:Hp}{s:Shared}{p:Addr}{xs:List V}(I:Inv X pins σ H s)(h:H p=some (.lst xs)) :
  ∃(its:List Value) (n:Nat),Vals xs its/\s.heap.get? p=some { cls:=.type "list",data:=.seq its.toArray n }/\xs.length<=sizeLine:=by
 obtain⟨z,its,n,r,e⟩:=I.aq p _ h
 exact⟨its,n,r,e,z⟩
theorem Inv.Oa{pins:List (Addr × Obj)}{σ:St}{H:Hp}{s:Shared}{p:Addr}{xs ys:List V}{its its':List Value}{n n':Nat}{f:Obj->Obj}(I:Inv X pins σ H s)(h:H p=some (.lst xs))
  (ho:s.heap.get? p=some { cls:=.type "list",data:=.seq its.toArray n }) (hf:f { cls:=.type "list",data:=.seq its.toArray n }={ cls:=.type "list",data:=.seq its'.toArray n' }) (r:Vals ys its') (hz:ys.length<=sizeLine) (t:Nat) :
  Inv X pins σ (upd H p (.lst ys)) { s with heap:=s.heap.update p f,toks:=t }:=by
 have e:(s.heap.update p f).get? p=some { cls:=.type "list",data:=.seq its'.toArray n' }:=by
  rw[w4 f ho (by rw[hf]<;>rfl),hf]
 refine I.write (x:=p) (e:=p) (by rw[h];trivial) (.inl rfl) (λb u hb q=>(kj _ _ (dD hb)).trans q) ⟨_,e⟩ ?_
 exact⟨hz,its',n',r,e⟩
noncomputable def Ob:V->V->V->Hp->(Hp->Prop)->Prop:=λo i v H Q=>∃p xs k j,o=.ref p/\i=.int k/\H p=some (.lst xs)/\gI xs.length k=some j/\Q (upd H p (.lst (xs.set j v)))
theorem Oc:EM X Ob:=by
 intro pins s σ H o i v ov iv u Q I ro ri rv h
 obtain⟨p,xs,k,j,rfl,rfl,hp,hj,q⟩:=h
 cases ro
 obtain⟨t,rfl⟩:=ri
 obtain⟨its,n,r,ho,hz⟩:=I.lst hp
 obtain⟨h1,h2,h3,h4⟩:=Fc hj
 have hl:=r.length
 have hn:=nV
 have I':Inv X pins σ (upd H p (.lst (xs.set j v))) { s with heap:=s.heap.update p (tZ (·.setIfInBounds j u)) } :=
  I.Oa hp ho (N9 its n j u) (r.set rv j) (by rw[List.length_set];exact hz) s.toks
 by_cases h0:0<=k
 ·have hk:k.toNat=j:=by
   rw[seqIndex_of h0 h4]at h1
   exact cR h1
  exact PySem.W.ki_setAt ho h0 (by omega) (by rw[cZ,<- hl];exact h4) (by rw[hk];exact⟨_,I',q⟩)
 ·have hk:(k+(its.toArray.size:Int)).toNat=j:=by
   rw[seqIndex_neg (by omega) h3]at h1
   rw[cZ,<- hl]
   exact cR h1
  exact PySem.W.ki_setBack ho (by omega) (by rw[cZ,<- hl];exact h3) (by omega) (by rw[hk];exact⟨_,I',q⟩)
theorem Od:eN X (.builtin "len") (λxs H Q=>∃p ys,xs=[.ref p]/\(bJ X.K H p ys\/dY X.K H p ys)/\Q (.int ys.length) H):=by
 intro pins s σ H xs us Q I r h
 obtain⟨p,ys,rfl,hq,q⟩:=h
 obtain⟨u,rfl,rx⟩:=xV r
 cases rx
 have hn:=nV
 rcases hq with hq | hq
 ·obtain⟨its,r',pl,hz⟩:=I.list hq
  have hlen:=r'.length
  exact Calls.call_len_list pl.isList (by simp only[cZ]<;>omega) ⟨.int ys.length,H,I.tok _,⟨s.toks+1,by rw[cZ,hlen]⟩,q⟩
 ·obtain⟨its,r',pl,hz⟩:=I.tuple hq
  have hlen:=r'.length
  exact len_tuple pl (by simp only[cZ]<;>omega) ⟨.int ys.length,H,I.tok _,⟨s.toks+1,by rw[cZ,hlen]⟩,q⟩
theorem Oe:eN X (.builtin "len") (λxs H Q=>∃z,xs=[.str z]/\z.length<=sizeLine/\Q (.int z.length) H):=by
 intro pins s σ H xs us Q I r h
 obtain⟨z,rfl,hz,q⟩:=h
 obtain⟨u,rfl,t,rfl⟩:=xV r
 have hn:=nV
 exact len_str (by omega) ⟨.int z.length,H,I.tok _,⟨_,rfl⟩,q⟩
theorem eN.or{f:Value}{r r':List V->Hp->VK->Prop}(h:eN X f r)(h':eN X f r'):eN X f (λxs H Q=>r xs H Q\/r' xs H Q):=by
 intro pins s σ H xs us Q I rs q
 rcases q with q | q
 ·exact h pins s σ H xs us Q I rs q
 ·exact h' pins s σ H xs us Q I rs q
noncomputable def xZ(K:PySem.W.Frag)(T:String)(x:V)(H:Hp):Prop:=match x with
 | .str _=>T="str"
 | .int _=>T="int"
 | .ref p=>(T="list"/\∃xs,bJ K H p xs)\/(T="tuple"/\∃o,K.lookup p=some o/\o.cls=.type "tuple"/\o.dict=none) \/
   (T="dict"/\((∃bX,H p=some (.dK bX))\/∃bX,H p=some (.dT bX)))\/(T="set"/\∃S n,H p=some (.set S n))
 | _=>False
theorem Fh{pins:List (Addr × Obj)}{σ:St}{H:Hp}{s:Shared}{T:String}{x:V}{v:Value}(I:Inv X pins σ H s)(r:RelV x v)(ty:xZ X.K T x H) :
  s.TypeIs v T/\∀a,v=.ref a->∃ob,s.heap.get? a=some ob/\ob.dict=none:=by
 cases x with
 | str z =>
  obtain⟨t,rfl⟩:=r
  cases(show T="str" from ty)
  exact⟨typeIs_str s z t,λ_ e=>nomatch e⟩
 | int i =>
  obtain⟨t,rfl⟩:=r
  cases(show T="int" from ty)
  exact⟨typeIs_int s i t,λ_ e=>nomatch e⟩
 | ref p =>
  cases r
  rcases ty with⟨rfl,xs,hq⟩ | ⟨rfl,o,hk,hc,hd⟩ | ⟨rfl,hk⟩ | ⟨rfl,S,n,hk⟩
  ·obtain⟨its,_,pl,_⟩:=I.list hq
   refine⟨pl.isList.typeIs,λa e=>?_⟩
   cases e
   obtain⟨o,n,e,c,hd,_⟩:=pl
   exact⟨o,e,hd⟩
  ·refine⟨⟨o,I.bq p o hk,hc⟩,λa e=>?_⟩
   cases e
   exact⟨o,I.bq _ o hk,hd⟩
  ·have z:∃o,s.heap.get? p=some o/\o.ExactDict:=by
    rcases hk with⟨bX,hk⟩ | ⟨bX,hk⟩
    ·obtain⟨_,_,_,_,o,_,_,e,ex,_⟩:=I.aq p _ hk
     exact⟨o,e,ex⟩
    ·obtain⟨_,_,_,_,o,_,_,e,ex,_⟩:=I.aq p _ hk
     exact⟨o,e,ex⟩
   obtain⟨o,e,ex⟩:=z
   refine⟨⟨o,e,ex.1⟩,λa e2=>?_⟩
   cases e2
   exact⟨o,e,ex.2.1⟩
  ·obtain⟨o,_,_,_,e,ex,_⟩:=I.aq p _ hk
   refine⟨⟨o,e,ex.1⟩,λa e2=>?_⟩
   cases e2
   exact⟨o,e,ex.2.1⟩
 | _=>exact cm ty
noncomputable def Fj(K:PySem.W.Frag)(T:String)(r:V->List V->Hp->VK->Prop)(to:TE):TE:=λσ H Q=>to σ H λx H1=>xZ K T x H1/\r x [] H1 Q
noncomputable def Of(K:PySem.W.Frag)(T:String)(r:V->List V->Hp->VK->Prop)(to:TE)(t:TA):TE:=λσ H Q=>to σ H λx H1=>xZ K T x H1/\t σ H1 λxs H2=>r x xs H2 Q
variable{o e:Expr}{es:List Expr}{to:TE}{t:TA}{name:Str}{apos bf:Pos}{T id:String}{r:V->List V->Hp->VK->Prop}
theorem Og(pa:PlainAttrs T)(slot:Slot T name id)(x4:typeOf (.builtin id)=pure (.type "method_descriptor"))(hm:jo X id r)(ho:PE X o to)
  (iu:attributeBase o name X.env (eval o X.env)=eval o X.env:=by rfl) (iw:(apos.endLine==bf.line)=true:=by rfl):PE X (.Call (.Attribute o name apos) [] [] bf) (Fj X.K T r to):=by
 intro pins s σ H Q I h
 refine wpAny_Call_method0_late iu iw (aw (ho pins s σ H _ I h) λv s1 ⟨x,H1,I1,r1,ty,q1⟩=>?_)
 obtain⟨h1,h2⟩:=Fh I1 r1 ty
 exact⟨T,id,pa,slot,x4,h1,h2,Calls.callWith_builtin rfl (PySem.evalArgs_none (hm pins s1 σ H1 x [] v [] Q I1 r1 .nil q1))⟩
theorem Oh(pa:PlainAttrs T)(slot:Slot T name id)(x4:typeOf (.builtin id)=pure (.type "method_descriptor"))(hm:jo X id r)(ho:PE X o to)(ha:PA X (e::es) t)
  (iu:attributeBase o name X.env (eval o X.env)=eval o X.env:=by rfl)
  (x6:((backTo bf (starEach (e::es) X.env)).all (λx=>!x.1)&&(backToKw bf (keywordEach [] X.env)).all (λx=>x.1.isSome)
   && decide ((e::es).length+([]:List Keyword).length+(if([]:List Keyword).isEmpty then 0 else 1)<30))=true:=by rfl)
  (iw:(apos.endLine==bf.line)=true:=by rfl) (hs:starEach (e::es) X.env=(false,eval e X.env)::starEach es X.env:=by rfl) (x8:(backTo bf (starEach es X.env)).any (·.1)=false:=by rfl) :
  PE X (.Call (.Attribute o name apos) (e::es) [] bf) (Of X.K T r to t):=by
 intro pins s σ H Q I h
 refine wpAny_Call_method_late iu x6 iw rfl (aw (ho pins s σ H _ I h) λv s1 ⟨x,H1,I1,r1,ty,q1⟩=>?_)
 obtain⟨h1,h2⟩:=Fh I1 r1 ty
 refine⟨T,id,pa,slot,x4,h1,h2,?_⟩
 have hA:=ha bf pins s1 σ H1 _ I1 q1
 rw[hs]at hA ⊢
 refine Calls.callWith_builtin (by show(false||(backTo bf (starEach es X.env)).any (·.1))=false;rw[x8]<;>rfl) (Calls.evalArgs_plain ?_)
 exact aw hA λus s2 ⟨vs,H2,I2,r2,q2⟩=>hm pins s2 σ H2 x vs v us Q I2 r1 r2 q2
/- xs.append(e),list.index on a cf8 tuple .. are jo facts of 06m -/
end
end L2
namespace L2
open PySem PySem.Spec PyProof.Rows
noncomputable def Oi(X:Cx)(id:String)(r:V->List V->Hp->VK->Prop):Prop :=
 ∀(pins:List (Addr × Obj)) (s:Shared) (σ:St) (H:Hp) (x:V) (xs:List V) (v:Value) (us:List Value) (Q:VK),Inv X pins σ H s->RelV x v->Vals xs us->r x xs H Q ->
  wpAny (model X.prog X.w) X.A (call (.builtin id) (v::us)) (EP X pins σ Q) X.xe s
theorem Vals.one:∀{x:V} {us:List Value},Vals [x] us->∃u,us=[u]/\RelV x u
 | _,_,.cons r .nil=>⟨_,rfl,r⟩
theorem Vals.two:∀{x y:V} {us:List Value},Vals [x,y] us->∃u v,us=[u,v]/\RelV x u/\RelV y v
 | _,_,_,.cons r (.cons q .nil)=>⟨_,_,rfl,r,q⟩
theorem Vals.zero:∀{us:List Value},Vals [] us->us=[]
 | _,.nil=>rfl
theorem Vals.eraseIdx:∀{xs:List V} {us:List Value} (i:Nat),Vals xs us->Vals (xs.eraseIdx i) (us.eraseIdx i)
 | _,_,_,.nil=>.nil
 | _,_,0,.cons _ t=>t
 | _,_,i+1,.cons r t=>.cons r (Vals.eraseIdx i t)
theorem Vals.reverse{xs:List V}{us:List Value}(h:Vals xs us):Vals xs.reverse us.reverse:=by
 induction h with
 | nil=>exact .nil
 | cons r t ih=>rw[List.reverse_cons,List.reverse_cons];exact Vals.append ih (.cons r .nil)
theorem Vals.rep{xs:List V}{us:List Value}(h:Vals xs us):∀k:Nat,Vals (aR k xs).flatten (aR k us).flatten
 | 0=>.nil
 | k+1=>by
  rw[kl,kl,nB,nB]
  exact Vals.append h (Vals.rep h k)
theorem Fl(its:List Value):∀(k:Nat) (acc:List Value),
  List.foldl (λx1 x2=>x1++x2) acc.toArray (aR k its.toArray)=(acc++(aR k its).flatten).toArray
 | 0,acc=>by simp
 | k+1,acc=>by
  have e:acc.toArray++its.toArray=(acc++its).toArray:=by simp
  have e2:(acc++its)++(aR k its).flatten=acc++(aR (k+1) its).flatten:=by
   rw[kl,nB,da]
  rw[<-e2,<- Fl its k (acc++its),<- e,kl,List.foldl_cons]
section
variable{X:Cx}{pins:List (Addr × Obj)}{σ:St}{H:Hp}{s:Shared}{l b:Addr}{xs ys zs:List V}
theorem Inv.Oj{its its':List Value}{n:Nat}{f:Array Value->Array Value}{t':Nat}(I:Inv X pins σ H s)(hH:H l=some (.lst xs))
  (e:s.heap.get? l=some { cls:=.type "list",data:=.seq its.toArray n }) (hf:f its.toArray=its'.toArray) (hv:Vals ys its') (hz:ys.length<=sizeLine) :
  Inv X pins σ (upd H l (.lst ys)) { s with heap:=s.heap.update l (tZ f),toks:=t' }:=by
 have q:=PySem.IsL.update e f
 rw[hf]at q
 refine I.write (x:=l) (e:=l) (by rw[hH];exact trivial) (.inl rfl) (λb' u hb hu=>(kj s.heap (tZ f) (dD hb)).trans hu) ⟨_,q⟩ ?_
 exact⟨hz,its',_,hv,q⟩
theorem Inv.Fm{its:List Value}{t':Nat}(I:Inv X pins σ H s)(hv:Vals ys its)(hz:ys.length<=sizeLine) :
  Inv X pins σ (upd H s.heap.objs.size (.lst ys)) { s with heap:=s.heap.push { cls:=.type "list",data:=.seq its.toArray },toks:=t' } :=
 I.laid (λ_ _ q=>cY _ q) (bH _) ⟨hz,its,0,hv,fj _ rfl⟩
theorem Inv.fresh(I:Inv X pins σ H s):H s.heap.objs.size=none:=I.aq.fresh (bH _)
theorem Inv.uF(I:Inv X pins σ H s)(hH:H l=some (.lst xs)):xs.length<=sizeLine/\∃(its:List Value) (n:Nat),Vals xs its/\xs.length=its.length/\s.heap.get? l=some { cls:=.type "list",data:=.seq its.toArray n }:=by
 obtain⟨z,its,n,r,e⟩:=I.aq l _ hH
 exact⟨z,its,n,r,r.length,e⟩
theorem Ol{n:Nat}(h:n<=sizeLine):Eb n=false:=by
 unfold Eb
 exact decide_eq_false (by omega)
end
section
variable{X:Cx}
noncomputable def Om:V->List V->Hp->VK->Prop:=λx vs H Q=>∃l xs y,x=.ref l/\vs=[y]/\H l=some (.lst xs)/\xs.length<sizeLine/\Q .ai (upd H l (.lst (xs++[y])))
theorem Fo:Oi X "list.append" Om:=by
 intro pins s σ H x vs v us Q I rx rv h
 obtain⟨l,xs,y,rfl,rfl,hH,hz,q⟩:=h
 cases rx
 obtain⟨u,rfl,ru⟩:=rv.one
 obtain⟨z,its,n,r,hl,e⟩:=I.uF hH
 refine call_meets F.slot_list_append ⟨_,e,rfl⟩ F.entry_list_append (F.args_list_append_2 _ _) (PySem.list_append l its.toArray n u (by rw[cZ];omega)) ⟨e,?_⟩
 refine⟨.ai,_,I.Oj (its':=its++[u]) hH e (by simp) (r.append (.cons ru .nil)) ?_,rfl,q⟩
 rw[wZ,List.length_singleton]
 omega
noncomputable def Oo:R2:=λx y H Q=>∃l b xs zs,x=.ref l/\y=.ref b/\H l=some (.lst xs)/\H b=some (.lst zs)/\xs.length+zs.length<=sizeLine/\∀p,H p=none->Q (.ref p) (upd H p (.lst (xs++zs)))
theorem Oq:bM X (binaryOp .Add) Oo:=by
 intro pins s σ H x y v u Q I rx ry h
 obtain⟨l,b,xs,zs,rfl,rfl,hH,hB,hz,q⟩:=h
 cases rx
 cases ry
 obtain⟨z,its,n,r,hl,e⟩:=I.uF hH
 obtain⟨z2,Fp,n2,r2,uG,e2⟩:=I.uF hB
 refine PySem.P.add_list e e2 ?_ (by rw[cZ,cZ];omega)
 have ea:its.toArray++Fp.toArray=(its++Fp).toArray:=by simp
 rw[ea]
 exact⟨.ref _,_,I.Fm (t':=s.toks) (r.append r2) (by rw[wZ];omega),rfl,q _ I.fresh⟩
noncomputable def Ot:R2:=λx y H Q=>∃l k xs,x=.ref l/\y=.int k/\H l=some (.lst xs)/\-(2 ^ 63)<=k/\k<2 ^ 63/\xs.length*k.toNat<=sizeLine /\
 ∀p,H p=none->Q (.ref p) (upd H p (.lst (aR k.toNat xs).flatten))
theorem Ou{α:Type}(xs:List α)(k:Nat):(aR k xs).flatten.length=k*xs.length:=by
 induction k with
 | zero=>simp
 | succ k ih=>rw[kl,nB,wZ,ih,Nat.succ_mul,Nat.add_comm]
theorem Ov:bM X (binaryOp .Mult) Ot:=by
 intro pins s σ H x y v u Q I rx ry h
 obtain⟨l,k,xs,rfl,rfl,hH,h1,h2,hz,q⟩:=h
 cases rx
 obtain⟨t,rfl⟩:=ry
 obtain⟨z,its,n,r,hl,e⟩:=I.uF hH
 have hlen:its.toArray.size*k.toNat<=sizeLine:=by rw[cZ,<- hl];exact hz
 have Ow:¬ its.toArray.size*k.toNat>(2 ^ 63-1)/8:=by
  have:(sizeLine:Nat)<=(2 ^ 63-1)/8:=by decide
  omega
 have Ox:¬ (!Builtin.List.listFitsIndex k)=true:=by
  rw[fitsIndex_both h1 h2]
  exact tV
 have Oy:¬ Eb (its.toArray.size*k.toNat)=true:=by
  rw[Ol hlen]
  exact tV
 have Oz:List.foldl (λx1 x2=>x1++x2) #[] (aR (if its.toArray.isEmpty=true then 0 else k.toNat) its.toArray)=(aR k.toNat its).flatten.toArray:=by
  have f0:∀m:Nat,List.foldl (λx1 x2=>x1++x2) #[] (aR m its.toArray)=(aR m its).flatten.toArray:=λm=>by
   have:=Fl its m []
   rw[km]at this
   exact this
  rw[f0]
  cases its with
  | nil=>simp
  | cons a r'=>rw[if_neg (by simp)]
 refine wpAny_binaryOp_repeat_ref (T:="list") (U:="int") (by decide) ⟨_,e,rfl⟩ (λs'=>typeIs_int s' k t) noFill_list_mul F.fills_int_mul F.slot_int_rmul repeat_list F.slot_int_index.lookup
  (call_meets F.slot_int_rmul (typeIs_int s k t) F.entry_int_rmul (F.args_int_rmul_2 _ _) (int___rmul___int_list k t l its.toArray n)
   ⟨e,rfl,⟨_,e,rfl⟩,call_meets F.slot_list_mul ⟨_,e,rfl⟩ F.entry_list_mul (F.args_list_mul_2 _ _) (AutoListH.list___mul___list_int_3 l its.toArray n k t Ox Ow Oy) ⟨e,?_⟩⟩)
 rw[Oz]
 exact⟨.ref _,_,I.Fm (t':=s.toks) (r.rep k.toNat) (by rw[Ou,hV];exact hz),rfl,q _ I.fresh⟩
end
section
variable{prog:Program}{w:World}{A:Around}{E:Value->Shared->Prop}{s:Shared}
end
section
variable{X:Cx}
end
end L2
namespace Att
open PySem PySem.W PySem.Calls PyProof.Rows
theorem OA{P:Params}{h:Heap}:∀(ns:List Int) (vs:List Value),WellAll P h vs (ns.map WData.int)->IntsAre vs ns:=by
 intro ns
 induction ns with
 | nil =>
  intro vs w
  rw[hW]at w
  cases w
  exact .nil
 | cons n ns ih =>
  intro vs w
  rw[cU]at w
  cases w with
  | cons a b =>
   cases a
   exact .cons _ _ (ih _ b)
theorem OB{l:OpenLaw}{n:Nat}(hn:l.most=some n){P:Params}{h:Heap}{args:List WData}{vals:List Value}
  (uH:l.row.toRowW.claim.pre args=true) (x9:WellAll P h vals args) :
  ∃a vs ns,vals=[bb a]/\args=[WData.list (ns.map WData.int)]/\h.get? a=some { cls:=.type "list",data:=.seq vs.toArray }/\IntsAre vs ns/\ns.length<=n:=by
 have jq:WShape.hasAll [] args [.list .int]=true:=(pre_splitW uH).1
 have hc:l.pre.holds [] { args:=args }=true:=(pre_splitW uH).2
 obtain⟨d,r,rfl,h1,h2⟩:=hasAllW_cons jq
 obtain rfl:=hasAllW_nil h2
 obtain⟨xs,rfl,h3⟩:=hasW_list h1
 obtain⟨ns,rfl⟩:=items_int h3
 have hlen:ns.length<=n:=by
  unfold OpenLaw.pre at hc
  have h4:(WTm.not (.lt (.lit (.int (n:Int))) (.len (.arg 0)))).holds [] { args:=[.list (ns.map .int)] }=true:=by
   have h4:=(holds_andW hc).1
   rw[hn]at h4
   exact h4
  have h5:=condW_of h4 (w_not (w_lt w_lit (w_len_list (w_arg rfl))))
  rw[nv]at h5
  refine Nat.le_of_not_lt λq=>?_
  have q':(n:Int)<((ns.length:Nat):Int):=by omega
  first
   | (rw[decide_eq_true q']at h5;exact absurd h5 (by decide))
   | (simp at h5;omega)
 cases x9 with
 | cons w1 w2 =>
  cases w2
  cases w1 with
  | list ho OC=>exact⟨_,_,ns,rfl,rfl,ho,OA ns _ OC,hlen⟩
theorem OD(l:OpenLaw)(args:List WData):l.row.toRowW.claim.post args (.bool true) args=true :=
 postW_of (r:=l.row.toRowW) (X:=(true==true))
  (show WShape.has [] (.bool true) .bool=true by first | rfl | decide | simp[WShape.has,WShape.arms,WShape.armsAll])
  (show(WTm.eq .res (.lit (.bool true))).value [] { args:=args,res:=some (.bool true),after:=args }=some (.bool (true==true)) from w_eq_bool (w_res rfl) w_lit) rfl
theorem OE{l:OpenLaw}{n:Nat}{q:Program}{loose:List Str}{XP:(Str->Option Value)->Heap->Prop}{YP:World->Heap->Prop}{d:DefRec}
  (hn:l.most=some n) (rS:d.params.defaults=[])
  (call:∀(w:World) (bu aP:Shared) (mg mb:Str->Option Value) (fa:Addr) (o:Obj) (pm cd doc:Value) (a:Addr) (vs:List Value) (ns:List Int),
   Ground q loose [] XP w bu mg mb aP.heap->YP w aP.heap ->
   aP.heap.get? fa=some o->o.data=.func (docDef d.name d.params d.body d.scope pm cd doc)->aP.heap.CodeRec cd d.name->mg d.name=some (.ref fa) ->
   aP.heap.get? a=some { cls:=.type "list",data:=.seq vs.toArray }->IntsAre vs ns->ns.length<=n->aP.gens=#[] ->
   codeAny (model l.prog w) callerA (.call (.ref fa) ⟨[.ref a],[]⟩) (λr s'=>r=.ok (.ret (.bool true))/\OldK aP.heap s'.heap/\s'.os=aP.os/\AllBare s'.gens) aP) :
  WalkO q loose XP YP l.row.toRowW d [] (λf vs=>PySem.call f vs):=by
 intro w bu aP mg mb G Y fa o pm cd doc dV kV ho hd bO hD rT hg args vals as uH cf9 hrd x9 jr
 obtain rfl:dV=.none:=Dflts.none hD rS
 obtain rfl:kV=.none:=Dflts.noKw hD
 obtain⟨a,vs,ns,rfl,rfl,ya,hints,hlen⟩:=OB hn uH x9
 refine enter_call (codeAny_mono (call w bu aP mg mb fa o pm cd doc a vs ns G Y ho (fd_plain hd) bO rT ya hints hlen hg) λr s' hq=>?_)
 obtain⟨rfl,h2,h3,h4⟩:=hq
 exact⟨.inl ⟨.bool true,.bool true,[],rfl,λ_=>rfl,.bool true,OD l _,λ_=>⟨List.Pairwise.nil,λ_ hm=>(nomatch hm)⟩⟩,h2,h3,h4⟩
section
variable{prog:Program}{w:World}{A:Around}{E:Value->Shared->Prop}{s:Shared}{K:Frag}
noncomputable def ca1(h:Heap)(L d:Addr):List (Addr × Obj):=(aT h.objs.size).filterMap λa=>if a=L\/a=d then none else(h.get? a).map λo=>(a,o)
end
end Att
namespace L2
open PySem PySem.Spec PyProof.Rows
theorem Fq:∀{vs:List Value} {ns:List Int},IntsAre vs ns->Vals (ns.map V.int) vs
 | _,_,.nil=>.nil
 | _,_,.cons n t h=>.cons ⟨t,rfl⟩ (Fq h)
end L2
namespace L2
open PySem PySem.Spec PyProof.Rows
end L2
/- THE cg3 cg4 (shape;LID,My.* are cg6):
   My.gq: a structure of Fs addresses cg7 cg8 cg9 names (classes,ch0);My.Txt K t: a structure (Prop) of Fs equations over K;
   My.ch1:{K} {implicit addresses ..} (e1:nsIn K mainGlobals "law"=some (some (.ref f))) (e2:K.lookup f=some ⟨oc,od,.func (fnOf "law" "law" params body scope dV kV doc pm an aA ct),sl⟩) (e3:codeIn K aA "law"=true) ..:∃t,My.Txt K t
(Fs tactic k_is has no namespace: write k_is) -/
namespace L2
open PySem PySem.Spec PyProof.Rows
noncomputable def js(s:Stmt)(j:Nat):Stmt:=match s with
 | .ClassDef _ _ _ body _ _ _ _ _ _ _=>body.getD j (.Pass ⟨0,0,0,0⟩)
 | _=>.Pass ⟨0,0,0,0⟩
noncomputable def bA(s:Stmt):Arguments:=match s with
 | .FunctionDef _ a _ _ _ _ _ _ _ _=>a
 | _=>{ posonlyargs:=[],args:=[],vararg:=none,kwonlyargs:=[],kw_defaults:=[],kwarg:=none,defaults:=[] }
noncomputable def bc(s:Stmt):List Stmt:=match s with
 | .FunctionDef _ _ b _ _ _ _ _ _ _=>b
 | _=>[]
noncomputable def ax(s:Stmt):Scope:=match s with
 | .FunctionDef _ _ _ _ _ _ sc _ _ _=>sc
 | _=>{ kind:=.function,names:=[],isGenerator:=false,isCoroutine:=false }
noncomputable abbrev aV:cO:=λ_ _ _ _ _ _=>False
noncomputable abbrev E0:XK:=λ_ _ _=>False
theorem bB{X:Cx}:gG aV X E0:=λ_ _ _ _ _ _ _ h=>h.elim
structure bg(K:PySem.W.Frag)(x qual:Str)(st:Stmt)(f:Addr)(fd:FuncData):Prop where
 ex:∃(oc:Value) (od:Option Addr) (kV doc pm:Value) (an:Option Addr) (aA ct:Value) (gH:Array (Option Value)),
  fd=PySem.W.fnOf x qual (bA st) (bc st) (ax st) .none kV doc pm an aA ct/\K.lookup f=some ⟨oc,od,.func fd,gH⟩/\PySem.W.codeIn K aA qual=true
 kp:PySem.W.keepIn K (.ref f)=true
section
variable{P:Program}{w:World}{K:PySem.W.Frag}{mg:Str->Option Value}{base:Heap}
theorem bg.ok{x qual:Str}{st:Stmt}{f:Addr}{fd:FuncData}{N ps:List Str}{k:Nat}{sp:Sp}(F:bg K x qual st f fd)(S:bx N ps (ax st))(len:∀vs H Q E,sp vs H Q E->vs.length=ps.length)
  (eA:∀(aA:Value) (A:Around) (outer:List Env) (s:Shared) (H:Hp) (vs:List V) (Q:VK) (E:XK),aS k (A.deeper (envOfC qual (ax st) s.heap.objs.size f aA))->sp vs H Q E ->
   ∃t,PSs (eP aV P w K mg base N qual (ax st) f aA A outer s H E).dq (bc st) t/\t { nx:=λ_ H'=>Q .ai H',rt:=Q } (start N vs) H):aI P w K mg base aV (k+1) f fd ps sp:=by
 obtain⟨oc,od,kV,doc,pm,an,aA,ct,gH,rfl,lk,bO⟩:=F.ex
 refine xX lk bO S len λA outer s H vs Q E hr eQ=>?_
 obtain⟨t,h,q⟩:=eA aA A outer s H vs Q E hr eQ
 exact⟨t,h.dq,q⟩
theorem bg.binds{x qual:Str}{st:Stmt}{f:Addr}{fd:FuncData}{ps:List Str}(F:bg K x qual st f fd)
  (h:∀(kV doc pm:Value) (an:Option Addr) (aA ct:Value) (us:List Value),us.length=ps.length->bindArgs (PySem.W.fnOf x qual (bA st) (bc st) (ax st) .none kV doc pm an aA ct) ⟨us,[]⟩=pure (ps.zip us)):Binds K fd ps []:=by
 obtain⟨oc,od,kV,doc,pm,an,aA,ct,gH,rfl,lk,bO⟩:=F.ex
 exact .all (h kV doc pm an aA ct)
theorem bR{x qual:Str}{st:Stmt}{f:Addr}{oc:Value}{od an:Option Addr}{gH:Array (Option Value)}{kV doc pm aA ct:Value}(l:K.lookup f=some ⟨oc,od,.func (PySem.W.fnOf x qual (bA st) (bc st) (ax st) .none kV doc pm an aA ct),gH⟩)
  (c:PySem.W.codeIn K aA qual=true) (k:PySem.W.keepIn K (.ref f)=true):bg K x qual st f (PySem.W.fnOf x qual (bA st) (bc st) (ax st) .none kV doc pm an aA ct):=⟨⟨oc,od,kV,doc,pm,an,aA,ct,gH,rfl,l,c⟩,k⟩
end
section
variable{X:Cx}
theorem pv(i:Nat){x:Str}{pos:Pos}(hN:X.N[i]?=some x:=by rfl)(hv:ik X.env.scope x:=by first | exact aH rfl | exact cB (aH rfl) | exact cB (cB rfl))(hd:(x==("__debug__":Str))=false:=by decide)
  (bO:(x==("__classdict__":Str))=false:=by decide):PE X (.Name x pos) (EG i):=nN hN hv hd bO
end
theorem jt{A B:Prop}(h:B):if false=true then A else B:=by
 rw[if_neg tV]
 exact h
theorem nW{A B:Prop}(h:A):if true=true then A else B:=by
 rw[if_pos rfl]
 exact h
noncomputable def aa(H H':Hp):Prop:=∀b o,H b=some o->H' b=some o
theorem aa.refl(H:Hp):aa H H:=λ_ _ h=>h
theorem aa.trans{H H1 H2:Hp}(a:aa H H1)(b:aa H1 H2):aa H H2:=λc o h=>b c o (a c o h)
theorem aa.free{H H':Hp}(e:aa H H'){l:Addr}(h:H' l=w5):H l=w5:=by
 cases q:H l with
 | none=>rfl
 | some o =>
  rw[e l o q]at h
  cases h
theorem aa.seq{K:PySem.W.Frag}{H H':Hp}{a:Addr}{xs:List V}(e:aa H H')(h:bJ K H a xs):bJ K H' a xs:=by
 rcases h with (h | ⟨o,h⟩) | h
 ·exact .inl (.inl (e _ _ h))
 ·exact .inl (.inr ⟨o,e _ _ h⟩)
 ·exact .inr h
end L2
namespace Mf
noncomputable def bl(n:Nat):Nat:=if n=0 then 0 else n.log2+1
theorem cK{n m:Nat}:bl n<=m↔n<2 ^ m:=by
 unfold bl
 by_cases h:n=0
 ·simp[h,qS]
 ·rw[if_neg h]
  rw[<-t7 h]
  omega
theorem yb{n m:Nat}:m<bl n↔2 ^ m<=n:=by
 have:=@cK n m
 omega
theorem eR(n:Nat):n<2 ^ bl n:=cK.mp (bH _)
theorem Ft{n:Nat}(h:n≠0):2 ^ (bl n-1)<=n:=by
 have:0<bl n:=by unfold bl;rw[if_neg h];omega
 exact yb.mp (by omega)
theorem d6{n:Nat}(h:n≠0):0<bl n:=by
 unfold bl;rw[if_neg h];omega
theorem iy:bl 0=0:=rfl
theorem nX{n:Nat}(h:n≠0):n.testBit (bl n-1)=true:=by
 have h1:=Ft h
 have h2:=eR n
 have hp:=d6 h
 have e:bl n=(bl n-1)+1:=by omega
 rw[e,kn]at h2
 rw[LK]
 have:n/2 ^ (bl n-1)=1:=by
  apply Nat.div_eq_of_lt_le
  ·omega
  ·omega
 rw[this];rfl
theorem OF{x n:Nat}(h:∀i,n<=i->x.testBit i=false):x<2 ^ n:=by
 apply Nat.lt_pow_two_of_testBit
 intro i hi
 exact h i hi
theorem Fu{x y n:Nat}(hx:x<2 ^ (n+1))(hy:y<2 ^ (n+1))(tx:x.testBit n=true)(ty:y.testBit n=true):x ^^^ y<2 ^ n:=by
 apply OF
 intro i hi
 rw[ia]
 by_cases e:i=n
 ·rw[e,tx,ty];rfl
 ·have fG:n+1<=i:=by omega
  have p:2 ^ (n+1)<=2 ^ i:=t8 (by decide) fG
  rw[w6 (bQ hx p),w6 (bQ hy p)]
  rfl
theorem Fv(x y z:Nat):(x ^^^ y) ^^^ (z ^^^ y)=x ^^^ z:=by
 apply t9;intro i;simp only[ia]
 cases x.testBit i<;>cases y.testBit i<;>cases z.testBit i<;>rfl
theorem Fw(x y z t:Nat):(x ^^^ y) ^^^ (z ^^^ t)=(x ^^^ z) ^^^ (y ^^^ t):=by
 apply t9;intro i;simp only[ia]
 cases x.testBit i<;>cases y.testBit i<;>cases z.testBit i<;>cases t.testBit i<;>rfl
noncomputable def P(a b:Nat):Nat->Nat
 | 0=>0
 | k+1=>P a b k ^^^ (if b.testBit k then a <<< k else 0)
noncomputable def cl(a b:Nat):Nat:=P a b (bl b)
theorem Fx{a b k:Nat}(h:b<2 ^ k):∀j,P a b (k+j)=P a b k
 | 0=>rfl
 | j+1=>by
  show P a b (k+j) ^^^ (if b.testBit (k+j)then a <<< (k+j)else 0)=_
  rw[Fx h j]
  have p:2 ^ k<=2 ^ (k+j):=t8 (by decide) (by omega)
  rw[w6 (bQ h p)]
  simp
theorem nY{a b k:Nat}(h:b<2 ^ k):P a b k=cl a b:=by
 have h1:=cK.mpr h
 have e:k=bl b+(k-bl b):=by omega
 rw[e,Fx (eR b)]
 rfl
theorem Fy(a a' b:Nat):∀k,P (a ^^^ a') b k=P a b k ^^^ P a' b k
 | 0=>(gz 0).symm
 | k+1=>by
  show P (a ^^^ a') b k ^^^ _=(P a b k ^^^ _) ^^^ (P a' b k ^^^ _)
  rw[Fy a a' b k]
  by_cases t:b.testBit k=true
  ·rw[if_pos t,if_pos t,if_pos t,LL]
   ac_rfl
  ·rw[if_neg t,if_neg t,if_neg t]
   simp
theorem Fz(a b b':Nat):∀k,P a (b ^^^ b') k=P a b k ^^^ P a b' k
 | 0=>(gz 0).symm
 | k+1=>by
  show P a (b ^^^ b') k ^^^ _=(P a b k ^^^ _) ^^^ (P a b' k ^^^ _)
  rw[Fz a b b' k,ia]
  cases b.testBit k<;>cases b'.testBit k<;>simp
  ·ac_rfl
  ·ac_rfl
  ·exact(Fv _ _ _).symm
theorem ju(a a' b:Nat):cl (a ^^^ a') b=cl a b ^^^ cl a' b:=Fy a a' b _
theorem nZ{x y n:Nat}(hx:x<2 ^ n)(hy:y<2 ^ n):x ^^^ y<2 ^ n:=Nat.xor_lt_two_pow hx hy
theorem OG(a b b':Nat):cl a (b ^^^ b')=cl a b ^^^ cl a b':=by
 let k:=bl b+bl b'
 have h1:b<2 ^ k:=cK.mp (by omega)
 have h2:b'<2 ^ k:=cK.mp (by omega)
 rw[<-nY (nZ h1 h2),<- nY h1,<- nY h2,Fz]
theorem OH(a:Nat):cl a 0=0:=rfl
theorem FA(b:Nat):∀k,P 0 b k=0
 | 0=>rfl
 | k+1=>by
  show P 0 b k ^^^ _=0
  rw[FA b k];simp
theorem iz(b:Nat):cl 0 b=0:=FA b _
theorem OI(b k:Nat):(b/2).testBit k=b.testBit (k+1):=by
 rw[w9]
theorem FC(a b:Nat):∀k,P a b (k+1)=(if b%2=1 then a else 0) ^^^ P (2*a) (b/2) k
 | 0=>by
  show 0 ^^^ _=_ ^^^ 0
  rw[ib,gz,ua]
  simp
 | k+1=>by
  show P a b (k+1) ^^^ _=_ ^^^ (P (2*a) (b/2) k ^^^ _)
  rw[FC a b k,OI,kq]
  have e:a <<< (k+1)=(2*a) <<< k:=by
   rw[fX,fX,kn]
   rw[hV 2 a,nC,hV 2]
  rw[e]
theorem FD{b k:Nat}(h:b<2 ^ (k+1)):b/2<2 ^ k:=by
 rw[kn]at h;omega
theorem FE(a b:Nat):cl a b=(if b%2=1 then a else 0) ^^^ cl (2*a) (b/2):=by
 have h:b<2 ^ (bl b+1):=Nat.lt_trans (eR b) (by rw[kn];have:=qS (bl b);omega)
 rw[<-nY h,FC,nY (FD h)]
theorem FF(a b:Nat):∀k,P (2*a) b k=2*P a b k
 | 0=>rfl
 | k+1=>by
  show P (2*a) b k ^^^ _=2*(P a b k ^^^ _)
  rw[FF a b k]
  have d:∀x y:Nat,2*(x ^^^ y)=2*x ^^^ 2*y:=by
   intro x y
   have h:=@LL 1 x y
   rw[fX,fX,fX,Nat.pow_one]at h
   rw[hV 2 (x ^^^ y),hV 2 x,hV 2 y]
   exact h
  rw[d]
  by_cases t:b.testBit k=true
  ·rw[if_pos t,if_pos t,fX,fX,nC]
  ·rw[if_neg t,if_neg t]
theorem yc(a b:Nat):cl (2*a) b=2*cl a b:=FF a b _
theorem rV(a c t:Nat)(ht:t<2):cl a (2*c+t)=2*cl a c ^^^ (if t=1 then a else 0):=by
 rw[FE,yc,Ec]
 have e1:(2*c+t)/2=c:=by omega
 have e2:(2*c+t)%2=t:=by omega
 rw[e1,e2]
theorem OJ(a c:Nat):cl a (2*c)=2*cl a c:=by
 have h:=rV a c 0 (by decide)
 simpa using h
theorem FG(c t:Nat)(ht:t<2):2*c ^^^ t=2*c+t:=by
 apply t9
 intro i
 cases i with
 | zero =>
  rw[ia,ua,ua,ua]
  have:t=0\/t=1:=by omega
  rcases this with h | h<;>subst h<;>simp<;>omega
 | succ i =>
  rw[ia,w9,w9,w9]
  have e1:2*c/2=c:=by omega
  have e2:t/2=0:=by omega
  have e3:(2*c+t)/2=c:=by omega
  rw[e1,e2,e3];simp
theorem yd:∀b:Nat,cl 1 b=b:=by
 intro b
 induction b using ub with
 | ind b ih =>
  by_cases h:b=0
  ·subst h;rfl
  ·have e:b=2*(b/2)+b%2:=by omega
   rw[e,rV 1 (b/2) (b%2) (by omega),ih (b/2) (by omega)]
   have:b%2=0\/b%2=1:=by omega
   rcases this with h | h
   ·rw[h];simp
   ·rw[h];rw[if_pos rfl];exact FG _ _ (by decide)
theorem rW:∀b a:Nat,cl a b=cl b a:=by
 intro b
 induction b using ub with
 | ind b ih =>
  intro a
  by_cases h:b=0
  ·subst h;rw[iz];rfl
  ·have e:b=2*(b/2)+b%2:=by omega
   have lt:b%2<2:=by omega
   have e':cl b a=cl (2*(b/2) ^^^ b%2) a:=by rw[FG _ _ lt,<- e]
   rw[e',ju,yc,<- ih (b/2) (by omega) a]
   have OK:cl a b=cl a (2*(b/2)+b%2):=by rw[<-e]
   rw[OK,rV _ _ _ lt]
   have:b%2=0\/b%2=1:=by omega
   rcases this with h | h
   ·rw[h,iz];rfl
   ·rw[h,yd];rfl
theorem ye{a m:Nat}(h:a<2 ^ m)(b:Nat):∀k,P a b (k+1)<2 ^ (m+k)
 | 0=>by
  show 0 ^^^ _<_
  rw[ib,Nat.add_zero]
  by_cases t:b.testBit 0=true
  ·rw[if_pos t];simpa using h
  ·rw[if_neg t];exact qS m
 | k+1=>by
  show P a b (k+1) ^^^ _<_
  have i:=ye h b k
  have p:2 ^ (m+k)<=2 ^ (m+(k+1)):=t8 (by decide) (by omega)
  apply nZ (bQ i p)
  by_cases t:b.testBit (k+1)=true
  ·rw[if_pos t,fX,Nat.pow_add 2 m]
   exact(LM (qS _)).mpr h
  ·rw[if_neg t];exact qS _
theorem OL{a b m n:Nat}(h:a<2 ^ m)(h':b<2 ^ (n+1)):cl a b<2 ^ (m+n):=by
 rw[<-nY h'];exact ye h b n
theorem OM{a b:Nat}(ha:a≠0)(hb:b≠0):2 ^ (bl a-1+(bl b-1))<=cl a b:=by
 have e:bl b=(bl b-1)+1:=by have:=d6 hb;omega
 have ta:=nX ha
 have tb:=nX hb
 apply Nat.ge_two_pow_of_testBit
 unfold cl
 rw[e]
 show(P a b (bl b-1) ^^^ _).testBit _=true
 have e2:bl b-1+1-1=bl b-1:=by omega
 rw[e2,ia,if_pos tb]
 have f:(P a b (bl b-1)).testBit (bl a-1+(bl b-1))=false:=by
  cases q:bl b-1 with
  | zero=>show Nat.testBit 0 _=false;exact Nat.zero_testBit _
  | succ k =>
   apply w6
   have l:=ye (eR a) b k
   have p:=d6 ha
   have e3:bl a-1+(k+1)=bl a+k:=by omega
   rw[e3];exact l
 rw[f,LN]
 have e4:bl a-1+(bl b-1)-(bl b-1)=bl a-1:=by omega
 rw[e4,ta]
 simp
theorem FH{a b:Nat}(ha:a≠0)(hb:b≠0):bl (cl a b)=bl a+bl b-1:=by
 have p1:=d6 ha
 have p2:=d6 hb
 have h1:bl (cl a b)<=bl a+(bl b-1):=cK.mpr (OL (eR a) (by
  have e:bl b-1+1=bl b:=by omega
  rw[e];exact eR b))
 have h2:=yb.mpr (OM ha hb)
 omega
theorem FI(s b:Nat):cl (2 ^ s) b=b <<< s:=by
 induction s with
 | zero=>rw[Nat.pow_zero,yd];rfl
 | succ s ih =>
  rw[kn,hV,yc,ih,fX,fX,kn]
  rw[<-nC,hV 2,nC,hV 2,<- nC,nC]
theorem FJ{a q b r s:Nat}(h:a=cl q b ^^^ r):a=cl (q ^^^ 2 ^ s) b ^^^ (r ^^^ b <<< s):=by
 rw[ju,FI,h,Fv]
theorem yf{b r:Nat}(hb:b≠0)(h:bl b<=bl r):bl (r ^^^ b <<< (bl r-bl b))<bl r:=by
 have p:=d6 hb
 have hr:r≠0:=by
  intro z;rw[z,iy]at h;omega
 have:r ^^^ b <<< (bl r-bl b)<2 ^ (bl r-1):=by
  apply Fu
  ·have e:bl r-1+1=bl r:=by omega
   rw[e];exact eR r
  ·have e:bl r-1+1=bl b+(bl r-bl b):=by omega
   rw[e,fX,Nat.pow_add]
   exact(LM (qS _)).mpr (eR b)
  ·exact nX hr
  ·rw[LN]
   have e:bl r-1-(bl r-bl b)=bl b-1:=by omega
   rw[e,nX hb]
   simp;omega
 have:=cK.mpr this
 omega
theorem ON{x y z:Nat}(h:x ^^^ y=z):x=z ^^^ y:=by
 rw[<-h,kq,xb,gz]
theorem yg{x y:Nat}(h:x ^^^ y=0):x=y:=by
 have:=ON h
 rwa [ib]at this
theorem OO{b q r q' r':Nat}(h:cl q b ^^^ r=cl q' b ^^^ r')(hr:bl r<bl b)(hr':bl r'<bl b):q=q'/\r=r':=by
 have hb:b≠0:=by intro z;rw[z,iy]at hr;omega
 have e:cl (q ^^^ q') b=r ^^^ r':=by
  rw[ju]
  have z:(cl q b ^^^ r) ^^^ (cl q' b ^^^ r')=0:=by rw[h,xb]
  rw[Fw]at z
  exact yg z
 have lt:bl (r ^^^ r')<bl b:=by
  have h1:r<2 ^ (bl b-1):=cK.mp (by omega)
  have h2:r'<2 ^ (bl b-1):=cK.mp (by omega)
  have:=cK.mpr (nZ h1 h2)
  have:=d6 hb
  omega
 have z:q ^^^ q'=0:=by
  apply LO
  intro hq
  have h1:=FH hq hb
  have h2:=d6 hq
  rw[e]at h1
  omega
 have zq:=yg z
 subst zq
 rw[z,iz]at e
 exact⟨rfl,yg e.symm⟩
end Mf
namespace Mf
open PySem PySem.Builtin.Int
theorem OP(x y:Nat):(x ^^^ y)+2*(x &&& y)=x+y:=by
 induction x using ub generalizing y with
 | ind x ih =>
  by_cases h:x=0
  ·subst h;simp
  ·have h1:=ih (x/2) (by omega) (y/2)
   have e1:(x ^^^ y)/2=x/2 ^^^ y/2:=Nat.xor_div_two
   have e2:(x &&& y)/2=x/2 &&& y/2:=Nat.and_div_two
   have t:∀n:Nat,n%2=if n.testBit 0=true then 1 else 0:=by
    intro n
    rw[ua]
    by_cases h:n%2=1
    ·simp[h]
    ·simp[h];omega
   have m1:(x ^^^ y)%2=(x%2+y%2)%2:=by
    rw[t (x ^^^ y),t x,t y,ia]
    cases x.testBit 0<;>cases y.testBit 0<;>rfl
   have m2:(x &&& y)%2=x%2*(y%2):=by
    rw[t (x &&& y),t x,t y,Ee]
    cases x.testBit 0<;>cases y.testBit 0<;>rfl
   have d1:=Nat.div_add_mod (x ^^^ y) 2
   have d2:=Nat.div_add_mod (x &&& y) 2
   rw[e1]at d1
   rw[e2]at d2
   have hx:x%2=0\/x%2=1:=by omega
   have hy:y%2=0\/y%2=1:=by omega
   rcases hx with hx | hx<;>rcases hy with hy | hy<;>rw[hx,hy]at m1 m2<;>omega
theorem FK{x y:Int}(hx:0<=x)(hy:0<=y):jc x y=((x.toNat &&& y.toNat:Nat):Int):=by
 unfold jc
 rw[decide_eq_true hx,decide_eq_true hy]
theorem OQ{x y:Int}(hx:0<=x)(hy:0<=y):Builtin.bitOr x y=((x.toNat ||| y.toNat:Nat):Int):=by
 unfold Builtin.bitOr jc Builtin.bitNot
 rw[decide_eq_false (by omega),decide_eq_false (by omega)]
 show-(-((((- (-x-1)-1).toNat ||| (-(-y-1)-1).toNat:Nat):Int))-1)-1=_
 have e1:(- (-x-1)-1).toNat=x.toNat:=by omega
 have e2:(- (-y-1)-1).toNat=y.toNat:=by omega
 rw[e1,e2]
 omega
theorem OR(x y:Nat):(x ||| y)=(x ^^^ y)+(x &&& y):=by
 have d:(x ^^^ y) &&& (x &&& y)=0:=by
  apply t9;intro i
  simp only[ia,Ee,Nat.zero_testBit]
  cases x.testBit i<;>cases y.testBit i<;>rfl
 have e:(x ||| y)=(x ^^^ y) ^^^ (x &&& y):=by
  apply t9;intro i
  simp only[ia,Ee,Nat.testBit_or]
  cases x.testBit i<;>cases y.testBit i<;>rfl
 have h:=OP (x ^^^ y) (x &&& y)
 rw[d]at h
 rw[e];omega
theorem OS{x y:Int}(hx:0<=x)(hy:0<=y):kh x y=((x.toNat ^^^ y.toNat:Nat):Int):=by
 unfold kh
 rw[OQ hx hy,FK hx hy,OR]
 omega
theorem n5(x y:Nat):kh (x:Int) (y:Int)=((x ^^^ y:Nat):Int):=by
 rw[OS (by omega) (by omega)];rfl
theorem FL(x y:Nat):jc (x:Int) (y:Int)=((x &&& y:Nat):Int):=by
 rw[FK (by omega) (by omega)];rfl
theorem kR(x k:Nat):(x:Int)*2 ^ ((k:Int)).toNat=((x <<< k:Nat):Int):=by
 rw[fX]
 simp
theorem OT(x k:Nat):(x:Int)/2 ^ ((k:Int)).toNat=((x >>> k:Nat):Int):=by
 rw[LP]
 simp
theorem OU(x k:Nat):((x >>> k) &&& 1=1)↔x.testBit k=true:=by
 rw[LK,LP]
 have:(x/2 ^ k) &&& 1=(x/2 ^ k)%2:=Nat.and_two_pow_sub_one_eq_mod _ 1
 rw[this]
 simp
end Mf
namespace Mf
end Mf
namespace Mf
theorem FN(a b:Nat):∀c,cl (cl a b) c=cl a (cl b c):=by
 intro c
 induction c using ub with
 | ind c ih =>
  by_cases h:c=0
  ·subst h;rfl
  ·have e:c=2*(c/2)+c%2:=by omega
   have lt:c%2<2:=by omega
   have i:=ih (c/2) (by omega)
   rw[e,rV _ _ _ lt,rV _ _ _ lt,i,OG,OJ]
   have:c%2=0\/c%2=1:=by omega
   rcases this with h | h
   ·rw[h];rfl
   ·rw[h];rfl
noncomputable def n6:Nat->Nat->Nat->Nat
 | 0,a,_=>a
 | n+1,a,b=>if bl a<bl b then a else n6 n (a ^^^ b <<< (bl a-bl b)) b
noncomputable def md(a b:Nat):Nat:=n6 (bl a+1) a b
theorem FP{b:Nat}(hb:b≠0):∀n a,bl a<n->(∃q,a=cl q b ^^^ n6 n a b)/\bl (n6 n a b)<bl b
 | 0,_,h=>absurd h (by omega)
 | n+1,a,h=>by
  unfold n6
  by_cases l:bl a<bl b
  ·rw[if_pos l]
   exact⟨⟨0,by rw[iz,ib]⟩,l⟩
  ·rw[if_neg l]
   have rX:=yf hb (show bl b<=bl a by omega)
   obtain⟨⟨q,e⟩,l2⟩:=FP hb n (a ^^^ b <<< (bl a-bl b)) (by omega)
   refine⟨⟨q ^^^ 2 ^ (bl a-bl b),?_⟩,l2⟩
   rw[ju,FI]
   have e2:a=(a ^^^ b <<< (bl a-bl b)) ^^^ b <<< (bl a-bl b):=by rw[kq,xb,gz]
   rw[e]at e2
   refine e2.trans ?_
   generalize n6 n _ b=r
   rw[kq,Ec r,<- kq]
theorem rY{b:Nat}(hb:b≠0)(a:Nat):(∃q,a=cl q b ^^^ md a b)/\bl (md a b)<bl b:=FP hb _ a (by omega)
theorem n8{a b q r:Nat}(h:a=cl q b ^^^ r)(hr:bl r<bl b):md a b=r:=by
 have hb:b≠0:=by intro z;rw[z,iy]at hr;omega
 obtain⟨⟨q',e⟩,l⟩:=rY hb a
 exact(OO (e.symm.trans h) l hr).2
theorem OV(q:Nat){b:Nat}(hb:b≠0):md (cl q b) b=0 :=
 n8 (q:=q) (by rw[gz]) (by rw[iy];exact d6 hb)
noncomputable def FQ:Nat->Nat->Nat->Nat
 | 0,a,_=>a
 | n+1,a,b=>if b=0 then a else FQ n b (md a b)
noncomputable def gc(a b:Nat):Nat:=FQ (bl b+1) a b
end Mf
namespace Mf
theorem OW(y:Nat):bl (y/2)=bl y-1:=by
 by_cases h:y=0
 ·subst h;rfl
 ·have p:=d6 h
  have h1:bl (y/2)<=bl y-1:=cK.mpr (FD (by
   have e:bl y-1+1=bl y:=by omega
   rw[e];exact eR y))
  have h2:bl y<=bl (y/2)+1:=cK.mpr (by
   have:=eR (y/2)
   rw[kn];omega)
  omega
theorem OX(x:Nat):bl (2*x)<=bl x+1:=cK.mpr (by
 have:=eR x
 rw[kn];omega)
theorem rZ{x y:Nat}(h:x<=y):bl x<=bl y:=cK.mpr (kr h (eR y))
end Mf
namespace Mf
noncomputable def al(a:Nat):Bool:=decide (2<=a)&&(aT (2 ^ ((bl a-1)/2+1)-2)).all λi=>md a (2+i) != 0
theorem OY{a:Nat}(h:a<2):al a=false:=by
 unfold al;rw[decide_eq_false (by omega)];rfl
theorem OZ{a:Nat}(h:2<=a)(k:∀i,i<2 ^ ((bl a-1)/2+1)-2->md a (2+i)≠0):al a=true:=by
 unfold al
 rw[decide_eq_true h,ie,cV]
 intro i hi
 have:=k i (fg.mp hi)
 simpa using this
theorem O0{a i:Nat}(k:i<2 ^ ((bl a-1)/2+1)-2)(z:md a (2+i)=0):al a=false:=by
 unfold al
 rw[Bool.and_eq_false_iff]
 right
 rw[List.all_eq_false]
 exact⟨i,fg.mpr k,by simp[z]⟩
theorem O1{a:Nat}(h:2<=a){b:Nat}(hb:b<2 ^ ((bl a-1)/2+1)):b<a/\2*bl b<=bl a+1:=by
 have h2:2<=bl a:=by
  have:=yb.mpr (show 2 ^ 1<=a by omega)
  omega
 have l:=cK.mpr hb
 refine⟨bQ hb (dv (t8 (by decide) ?_) (Ft (by omega))),by omega⟩
 omega
end Mf
namespace L2
open PySem PySem.Spec PyProof.Rows Mf
theorem uI:bootBuiltins "len"=some (.builtin "len"):=by decide +kernel
theorem yh:bootBuiltins "isinstance"=some (.builtin "isinstance"):=by decide +kernel
theorem uJ:bootBuiltins "all"=some (.builtin "all"):=by decide +kernel
theorem FR:bootBuiltins "int"=some (.type "int"):=by decide +kernel
theorem FT:bootBuiltins "str"=some (.type "str"):=by decide +kernel
theorem FU:bootBuiltins "bool"=some (.type "bool"):=by decide +kernel
theorem O2:bootBuiltins "ValueError"=some (.type "ValueError"):=by decide +kernel
section
variable{X:Cx}{a b o:Expr}{ta tb to:TE}{pos apos bf:Pos}
theorem FV(i:Int):Builtin.Int.intBits i=bl i.natAbs:=by
 unfold Builtin.Int.intBits bl
 by_cases h:i=0
 ·subst h;rfl
 ·have h':¬ i.natAbs=0:=by omega
  rw[if_neg h',if_neg (by simpa using h)]
noncomputable def FW:V->List V->Hp->VK->Prop:=λx vs H Q=>∃i,x=.int i/\vs=[]/\Q (.int (bl i.natAbs:Nat)) H
theorem O3:jo X "int.bit_length" FW:=by
 intro pins s σ H x xs v us Q I rx rs h
 obtain⟨i,rfl,rfl,q⟩:=h
 obtain⟨t,rfl⟩:=rx
 cases rs
 refine call_int_bit_length ?_
 rw[FV]
 exact⟨.int _,H,I.tok _,⟨_,rfl⟩,q⟩
theorem yi(ho:PE X o to)(iu:attributeBase o "bit_length" X.env (eval o X.env)=eval o X.env:=by rfl)(iw:(apos.endLine==bf.line)=true:=by rfl) :
  PE X (.Call (.Attribute o "bit_length" apos) [] [] bf) (Fj X.K "int" FW to) :=
 Og PySem.F.plainAttrs_int PySem.F.slot_int_bit_length PySem.F.type_int_bit_length O3 ho iu iw
noncomputable def FX(i j:Int):Prop:=0<=j/\((bl i.natAbs:Nat):Int)+j<=134217728
theorem FY:bM X (binaryOp .LShift) (rI FX λi j=>.int (i*2 ^ j.toNat)):=nS λi j _ _ _ _ _ hc q =>
 lshift_int hc.1 (by rw[FV];exact Int.le_trans hc.2 (by decide)) q
theorem FZ{x:Str}{n:String}(hg:Gl X x)(hm:X.mg x=none)(hv:bootBuiltins x=some (.type n))(hn:x≠"__name__":=by decide)(hd:(x==("__debug__":Str))=false:=by decide):PE X (.Name x pos) (tC (.ty n)) :=
 Mo hg hm hv rfl hn hd
noncomputable def O4(K:PySem.W.Frag):List V->Hp->VK->Prop:=λxs H Q=>∃x n t b,xs=[x,.ty n]/\dZ K H x t/\PySem.W.kitOne K t (.type n)=some b/\Q (.bl b) H
theorem O5:eN X (.builtin "isinstance") (O4 X.K):=by
 intro pins s σ H xs us Q I r h
 obtain⟨x,n,t,b,rfl,ty,e,q⟩:=h
 obtain⟨u,v,rfl,ru,rv⟩:=r.two
 cases(show v=Value.type n from rv)
 exact E3 I ru ty e λtk=>⟨.bl b,H,I.tok _,rfl,q⟩
end
theorem O6(b i:Nat):decide (V.int (jc ((b:Int)/2 ^ ((0:Int)+(i:Int)).toNat) 1)=V.int 1)=b.testBit i:=by
 have e:((0:Int)+(i:Int)).toNat=((i:Int)).toNat:=by omega
 rw[e,OT,show(1:Int)=((1:Nat):Int) from rfl,FL,Ef,decide_eq_true_iff,<- OU]
 constructor
 ·intro h;injection h with h;omega
 ·intro h;rw[h]
theorem O7{a b i:Nat}(h:b.testBit i=true):kh ((P a b i:Nat):Int) ((a:Int)*2 ^ ((0:Int)+(i:Int)).toNat)=((P a b (i+1):Nat):Int):=by
 have e:((0:Int)+(i:Int)).toNat=((i:Int)).toNat:=by omega
 rw[e,kR,n5]
 show _=((P a b i ^^^ (if b.testBit i then a <<< i else 0):Nat):Int)
 rw[if_pos h]
theorem O8{a b i:Nat}(h:¬ b.testBit i=true):P a b (i+1)=P a b i:=by
 show P a b i ^^^ (if b.testBit i then a <<< i else 0)=_
 rw[if_neg h,gz]
theorem dI{i j:Int}:decide (V.int i=V.int j)=true↔i=j:=by
 rw[decide_eq_true_iff]
 exact⟨λh=>by injection h,λh=>by rw[h]⟩
end L2
namespace L2
open PySem PySem.Spec PyProof.Rows
section
variable{X:Cx}
end
end L2
namespace L2
open PySem PySem.Spec PyProof.Rows
noncomputable def cn(X:Cx)(scope:Scope)(N:List Str)(cl:List (Str × Addr))(C:Addr)(s:Shared)(H:Hp)(fp:List Addr):Cx where
 prog:=X.prog
 w:=X.w
 K:=X.K
 mg:=X.mg
 base:=X.base
 A:=X.A
 N:=N
 bu:=s
 fZ:=H
 env:=compEnvC scope cl C X.env
 outer:=X.stack
 stack:=X.stack
 ex:=fp
 fn:=λ_=>false
 calm:=X.calm
 pn:=[]
 xe:=λ_ _=>False
noncomputable def iA(X:Cx)(scope:Scope)(cl:List (Str × Addr)):List (Str × Nat)->Prop
 | []=>True
 | (y,i)::r=>(X.N[i]?=some y/\(X.env.scope.names.lookup y=some .cell\/X.env.scope.names.lookup y=some .free)/\((relabel scope X.env).names.lookup y=some .cell\/(relabel scope X.env).names.lookup y=some .free)/\∃c,cl.lookup y=some c/\X.env.cells.lookup y=some c)/\iA X scope cl r
theorem iA.at{X:Cx}{scope:Scope}{cl:List (Str × Addr)}:∀{ar:List (Str × Nat)},iA X scope cl ar->∀p∈ar,X.N[p.2]?=some p.1/\(X.env.scope.names.lookup p.1=some .cell\/X.env.scope.names.lookup p.1=some .free)/\((relabel scope X.env).names.lookup p.1=some .cell\/(relabel scope X.env).names.lookup p.1=some .free)/\∃c,cl.lookup p.1=some c/\X.env.cells.lookup p.1=some c
 | [],_,p,hp=>absurd hp (by simp)
 | (y,i)::r,h,p,hp=>by
  rcases cI.mp hp with e | e
  ·subst e;exact h.1
  ·exact iA.at h.2 p e
noncomputable def iB(Y:Cx)(ifs:List Expr)(t:TT):Prop :=
 ∀(pins:List (Addr × Obj)) (s:Shared) (σ:St) (H:Hp) (Q:Bool->Hp->Prop),Inv Y pins σ H s->t σ H Q ->
  wpAny (model Y.prog Y.w) Y.A (forIn ifs true λc r=>if r=true then do let ok<-isTrue c Y.env (eval c Y.env);pure (xf ok)else pure (xf r)) (TP Y pins σ Q) Y.xe s
noncomputable def O9:TT:=λ_ H Q=>Q true H
theorem Pa{Y:Cx}:iB Y [] O9:=λ_ _ _ H _ I h=>wpAny_tests_nil ⟨H,I,h⟩
theorem Pb{Y:Cx}{c:Expr}{t:TT}(h:PT Y c t):iB Y [c] t:=λpins s σ H Q I q=>wpAny_tests_one (h pins s σ H Q I q)
section
variable{X:Cx}{elt iter:Expr}{x:Str}{px pos:Pos}{ifs:List Expr}{scope:Scope}{cl:List (Str × Addr)}{ar:List (Str × Nat)}{wi:TI}{tt:TT}{te:TE}
theorem Pc{pins:List (Addr × Obj)}{σ:St}{H:Hp}{s:Shared}{fp:List Addr}{C:Addr}(I:Inv X pins σ H s)(eB:scope.kind=.function)(hC:s.heap.objs.size<=C)
  (d7:∀y c,cl.lookup y=some c->X.env.cells.lookup y=some c) (yj:∀y,((relabel scope X.env).names.lookup y=some .cell\/(relabel scope X.env).names.lookup y=some .free)->∃c,cl.lookup y=some c)
  (hf:∀b∈fp,gk X pins H b) (ho:∀b∈fp,∃o,s.heap.get? b=some o/\∀v,o.data≠.cell v) (N:List Str):(cn X scope N cl C s H fp).Ok where
 mod:=I.ok.mod
 kind:=eB
 glob:=I.ok.glob
 blt:=I.ok.blt
 above:=hC
 inj:=λy z c h1 h2=>I.ok.inj y z c (d7 _ _ h1) (d7 _ _ h2)
 has:=yj
 il:=λ_ _ z=>nomatch z
 hd:=I.ok.hd
 frames:=I.ok.frames
 kG:=.inl rfl
 kH:=λb hb=>⟨by
  obtain⟨o,e,_⟩:=ho b hb
  exact cM (bQ (aW e) hC),λy c e z=>(hf b hb).2.2.2.2.1 y c (d7 _ _ e) z⟩
 bs:=I.bs
 dX:=dv I.ok.dX I.sz
 ji:=λb o e hb=>by
  rcases(hf b hb).2.2.2.1 with z | z
  ·exact I.ok.ji b o e z
  ·exact absurd (bQ (aW (I.ok.bs b o e).1) z) (fC _)
 jj:=λb hb z=>(cI.mp (I.rC b z)).elim (hf b hb).2.1 (hf b hb).2.2.1
 di:=I.stack
 et:=I.uj
end
section
variable{prog:Program}{w:World}{A:Around}{R:Result->Shared->Prop}{s:Shared}
theorem Pd{elt target iter:Expr}{ifs:List Expr}{scope:Scope}{pos:Pos}{it acc:Value}{env:Env}(Iv:Nat->Shared->Prop)
  (turn:∀n s,Iv n s->wpAny (model prog w) A (pyNext it) (λr s1=>match r with
   | none=>R (.ok .next) s1
   | some v=>wpAny (model prog w) A (letOwnedTupleGo target it v) (λ_ t1=>wpAny (model prog w) A (assign target env v) (λ_ s2 =>
     wpAny (model prog w) A (forIn ifs true λc r=>if r=true then do let ok<-isTrue c env (eval c env);pure (xf ok)else pure (xf r)) (λok s3 =>
      if ok=true then wpAny (model prog w) A (eval elt env) (λy s4=>wpAny (model prog w) A (call (.builtin "list.append") [acc,y]) (λ_ s5=>∃m,m<n/\Iv m s5) (λ_ _=>False) s4) (λ_ _=>False) s3
      else ∃m,m<n/\Iv m s3) (λ_ _=>False) s2) (λ_ _=>False) t1) (λ_ _=>False) s1) (λ_ _=>False) s)
  (n:Nat) (h:Iv n s):codeAny (model prog w) A (.compLoop (.ListComp elt [⟨target,iter,ifs,0⟩] scope pos) 0 it acc env) R s:=by
 refine codeAny_loop rfl Iv (λn s hI=>?_) n h
 change wpAny _ A (Sem.onRaise (compTurn (.ListComp elt [⟨target,iter,ifs,0⟩] scope pos) 0 it acc env) λx=>do noteFrame x env;theTreesLotGoes x) _ _ s
 refine wpAny_noted (wpAny_mono (E:=λ_ _=>False) ?_ (λ_ _ q=>q) λ_ _ z=>z.elim)
 rw[compTurn_list]
 refine wpAny_bind (wpAny_standAt (wpAny_bind (aw (turn n s hI) λr s1 h1=>?_)))
 cases r with
 | none=>exact wpAny_pure h1
 | some v =>
  refine wpAny_bind (aw h1 λ_ t1 k1=>wpAny_bind (aw k1 λ_ s2 h2=>wpAny_bind (aw h2 λok s3 h3=>?_)))
  cases ok with
  | false=>exact wpAny_pure ⟨rfl,h3⟩
  | true=>exact wpAny_bind (wpAny_bind (aw h3 λy s4 h4=>wpAny_bind (aw h4 λ_ s5 h5=>wpAny_pure (wpAny_pure ⟨rfl,h5⟩))))
end
section
variable{X:Cx}{elt iter:Expr}{x:Str}{px pos:Pos}{ifs:List Expr}{scope:Scope}{cl:List (Str × Addr)}{ar:List (Str × Nat)}{wi:TI}{tt:TT}{te:TE}
end
end L2
namespace L2
open PySem PySem.Spec PyProof.Rows
section
variable{X:Cx}
theorem Pe{bs:List Bool}{us:List Value}(r:Vals (bs.map V.bl) us):bs.length=us.length/\∀(i:Nat) (v:Value),us[i]?=some v->∃b,bs[i]?=some b/\v=.bool b:=by
 have l:=r.length
 rw[nv]at l
 refine⟨l,λi v e=>?_⟩
 have hi:i<us.length:=(kg.mp e).1
 have hb:i<bs.length:=by omega
 obtain⟨u,e2,q⟩:=r.get (i:=i) (x:=V.bl bs[i]) (by rw[gy,dw hb];rfl)
 rw[e]at e2
 cases e2
 exact⟨bs[i],dw hb,q⟩
theorem Pf{s:Shared}{h':Heap}{o:Obj}(hk:∀b x,b ∉ [s.heap.objs.size]->(s.heap.push o).get? b=some x->h'.get? b=some x)(b:Addr)(x:Obj)(e:s.heap.get? b=some x):h'.get? b=some x :=
 hk b x (λhm=>fC _ (by have:=aW e;rw[jf.mp hm]at this;exact this)) (cY _ e)
theorem Pg(bs:List Bool):((aT bs.length).all λi=>(bs[i]?).getD true)=bs.all id:=by
 rw[Ef,cV,cV]
 constructor
 ·intro h b hb
  obtain⟨i,hi,rfl⟩:=LQ hb
  have:=h i (fg.mpr hi)
  rwa [dw hi]at this
 ·intro h i hi
  have fG:=fg.mp hi
  rw[dw fG]
  exact h _ (ud fG)
theorem Ph(hc:X.calm=true):eN X (.builtin "all") (λxs H Q=>∃(p:Addr) (bs:List Bool),xs=[.ref p]/\bJ X.K H p (bs.map V.bl)/\Q (.bl (bs.all id)) H):=by
 intro pins s σ H xs us Q I r h
 obtain⟨p,bs,rfl,hS,q⟩:=h
 obtain⟨u,rfl,ru⟩:=r.one
 cases ru
 obtain⟨its,rv,pl,hz⟩:=I.list hS
 obtain⟨hlen,Pj⟩:=Pe rv
 have hl:=pl.isList
 have eT:p<s.heap.objs.size:=by obtain⟨_,e,_⟩:=hl;exact aW e
 refine call_all_walk (wpAny_pyIter_list hl ?_)
 refine⟨s.heap.objs.size,[s.heap.objs.size,p],[s.heap.objs.size],its.toArray.size,_,_,λi=>(bs[i]?).getD true,rfl,Walks.list (A:=X.A.in1) (I.ok.hd hc) _ p (cM eT) its.toArray,
  ⟨⟨_,fj _ rfl,rfl,rfl⟩,hl.push _⟩,λi v s' Q' E' hP hQ=>?_,λh' tk hk=>?_⟩
 ·obtain⟨b,e,rfl⟩:=Pj i v (by simpa using hP)
  simp only[e,nD]at hQ
  exact wpAny_truthy_bool hQ
 ·have e:((aT its.toArray.size).all λi=>(bs[i]?).getD true)=bs.all id:=by
   rw[cZ,<- hlen];exact Pg bs
  rw[e]
  exact⟨.bl _,H,I.kept (h':=h') (t':=tk) (Pf hk),rfl,q⟩
end
noncomputable def iC(X:Cx):List (Str × Addr)->Prop
 | []=>True
 | (y,c)::r=>X.env.cells.lookup y=some c/\iC X r
theorem iC.all{X:Cx}:∀{cl:List (Str × Addr)},iC X cl->∀y c,cl.lookup y=some c->X.env.cells.lookup y=some c
 | [],_,y,c,h=>by simp at h
 | (z,d)::r,h,y,c,e=>by
  rw[fk]at e
  cases q:y==z with
  | true =>
   rw[q]at e
   cases e
   rw[eq_of_beq q]
   exact h.1
  | false =>
   rw[q]at e
   exact iC.all h.2 y c e
noncomputable def iD(cl:List (Str × Addr)):List (Str × NameKind)->Prop
 | []=>True
 | (y,k)::r=>(k=.local\/k=.globalImplicit\/∃c,cl.lookup y=some c)/\iD cl r
theorem iD.all{cl:List (Str × Addr)}:∀{ns:List (Str × NameKind)},iD cl ns->∀y,(ns.lookup y=some .cell\/ns.lookup y=some .free)->∃c,cl.lookup y=some c
 | [],_,y,h=>by simp at h
 | (z,k)::r,h,y,e=>by
  rw[fk]at e
  cases q:y==z with
  | true =>
   rw[q]at e
   rw[eq_of_beq q]
   rcases h.1 with g | g | g
   ·rw[g]at e;rcases e with e | e<;>cases e
   ·rw[g]at e;rcases e with e | e<;>cases e
   ·exact g
  | false =>
   rw[q]at e
   exact iD.all h.2 y e
section
variable{X:Cx}{elt iter:Expr}{x:Str}{px pos:Pos}{ifs:List Expr}{scope:Scope}{cl:List (Str × Addr)}{wi:TI}{tt:TT}{te:TE}
end
end L2
namespace L2
open PySem PySem.Spec PyProof.Rows Mf
end L2
namespace L2
end L2
namespace L2
open PySem PySem.Spec PyProof.Rows
noncomputable def d8(ar:List (Str × Nat))(n:Nat)(σ:L2.St):St:=(ar.map λp=>(σ[p.2]?).getD none)++aR n none
noncomputable def Ga(J:It)(ar:List (Str × Nat))(n:Nat)(g:TG)(tt:TT)(te:TE)(σ:L2.St)(H1:Hp)(Q:VK):Prop:=∀D,H1 D=none->∃W:Nat->Nat->List V->Hp->Prop,(∃m,W 0 m [] (upd H1 D (.lst []))) /\
 ∀i m acc H2,W i m acc H2->H2 D=some (.lst acc)/\((J.stop i H2/\Q (.ref D) H2)\/(J.go i H2/\∀x H3,J.gj i H2 x H3->H3 D=some (.lst acc)/\g x (d8 ar n σ) H3 λdF H4 =>
  (dF.length=(d8 ar n σ).length/\∀j,j<ar.length->dF[j]?=(d8 ar n σ)[j]?)/\tt dF H4 λb H5=>H5 D=some (.lst acc) /\
  if b=true then te dF H5 λy H6=>H6 D=some (.lst acc)/\acc.length<sizeLine/\∃m',m'<m/\W (i+1) m' (acc++[y]) (upd H6 D (.lst (acc++[y])))else ∃m',m'<m/\W (i+1) m' acc H5))
noncomputable def uK(wi:TI)(ar:List (Str × Nat))(n:Nat)(g:TG)(tt:TT)(te:TE):TE:=λσ H Q=>wi σ H λJ H1=>Ga J ar n g tt te σ H1 Q
section
variable{X:Cx}{elt iter tg:Expr}{pos:Pos}{ifs:List Expr}{scope:Scope}{cl:List (Str × Addr)}{wi:TI}{tt:TT}{te:TE}{g:TG}
theorem Gb(ar:List (Str × Nat))(aX:List Str)(hc:X.calm=true)(hi:PI X tg iter wi)
  (hg:∀C s H fp,PG (cn X scope (ar.map (·.1)++aX) cl C s H fp) tg g)
  (ht:∀C s H fp,iB (cn X scope (ar.map (·.1)++aX) cl C s H fp) ifs tt) (he:∀C s H fp,PE (cn X scope (ar.map (·.1)++aX) cl C s H fp) elt te)
  (iE:closureFor scope X.env=pure cl) (iF:iC X cl) (iG:iD cl (relabel scope X.env).names) (iH:iA X scope cl ar)
  (eM:∀y∈scope.names,y.2≠.cell) (eB:scope.kind=.function) (iJ:∀y∈scope.names,y.2=.local->scope.names.lookup y.1=some .local)
  (hs:∀x,foldedSetIterable iter X.env x=pure x:=by intro _;rfl) {pins:List (Addr × Obj)} {s:Shared} {σ:L2.St} {H:Hp} {Q:VK} {use:Option (Value->Sem Unit)} {bf:Pos} {Rf:Value->Shared->Prop} (I:Inv X pins σ H s) (h:uK wi ar aX.length g tt te σ H Q)
  (Pk:∀(s':Shared) (H':Hp) (C Da:Addr) (m:Str->Option Value),Inv X pins σ H' s'->s'.heap.Ns C m->H' C=none->C≠X.env.locals->X.bu.heap.objs.size<=C->(∀x c,X.env.cells.lookup x=some c->c≠C)->(∀p∈X.pn++pins,p.1≠C)->C ∉ X.fs->Q (.ref Da) H' ->
   compPost (model X.prog X.w) X.A X.xe use Rf (.ref Da) C (.ok .next) s') :
  wpAny (model X.prog X.w) X.A (comprehension (.ListComp elt [⟨tg,iter,ifs,0⟩] scope pos) scope X.env bf (newList []) false (eval iter X.env) use) Rf X.xe s:=by
 have d7:=iF.all
 have yj:=iG.all
 refine wpAny_comprehension_free (use:=use) rfl hs iE eB iJ (aw (hi pins s σ H _ I h) λv s1 h1=>aw h1 λxN s2 h2=>?_)
 obtain⟨it,fp,tn,J,H2,e,I2,T,rL,f2,q⟩:=h2
 subst e
 refine wpAny_newList ?_
 refine wpAny_newFunctionEnv eM (λy hy=>nomatch hy) (λg1 yk uL=>?_) eB
 dsimp only at yk uL ⊢
 have hD:H2 s2.heap.objs.size=none:=I2.aq.fresh (bH _)
 obtain⟨W,⟨m0,w0⟩,turn⟩:=q s2.heap.objs.size hD
 generalize yl:s2.heap.push { cls:=.type "list",data:=.seq ([]:List Value).toArray }=g0 at yk uL ⊢
 have hCs:g0.objs.size=s2.heap.objs.size+1:=by rw[<-yl,D6]
 have Gd:s2.heap.objs.size≠g0.objs.size:=by omega
 have hle:s2.heap.objs.size<=g0.objs.size:=by omega
 have kI:∀b o,s2.heap.get? b=some o->b≠g0.objs.size:=λb o e=>cM (bQ (aW e) hle)
 have old:∀b o,s2.heap.get? b=some o->g1.get? b=some o:=λb o e=>uL.extBut b o (kI b o e) (cY _ (yl ▸ cY _ e))
 have Pl:g1.get? s2.heap.objs.size=some { cls:=.type "list",data:=.seq ([]:List Value).toArray }:=uL.extBut _ _ Gd (cY _ (yl ▸ fj _ rfl))
 have Ge:∀b∈fp,∃o,s2.heap.get? b=some o/\∀v,o.data≠.cell v:=T.obj _ _ rL
 have uM:=Pc (scope:=scope) (cl:=cl) (C:=g0.objs.size) I2 eB hle d7 yj f2 Ge (ar.map (·.1)++aX)
 have I4:Inv (cn X scope (ar.map (·.1)++aX) cl g0.objs.size s2 H2 fp) [] (d8 ar aX.length σ) (upd H2 s2.heap.objs.size (.lst [])) { s2 with heap:=g1,toks:=s2.toks+([]:List (Str × Value)).length }:=by
  refine⟨uM,rfl,I2.bare,Un.laid old (bH _) hD,⟨_,yk,λi y v h1 h2 h3=>?_⟩,λy c e=>?_,?_,λy c e=>?_,λp hp=>absurd hp (by simp[cn]),I2.aq.laid old (bH _) ⟨ki _,[],0,.nil,Pl⟩,by simp[d8,cn]⟩
  ·by_cases ym:i<ar.length
   case neg =>
    have gr:((ar.map λp=>(σ[p.2]?).getD none)++aR aX.length none)[i]?=some (some v):=h2
    rw[wY (by simpa using ym),D9]at gr
    split at gr<;>cases gr
   case pos =>
    have gJ:(ar.map (·.1))[i]?=some y:=by
     have z:(ar.map (·.1)++aX)[i]?=some y:=h1
     rwa [Ea (by simpa using ym)]at z
    have gr:(ar.map λp=>(σ[p.2]?).getD none)[i]?=some (some v):=by
     have z:((ar.map λp=>(σ[p.2]?).getD none)++aR aX.length none)[i]?=some (some v):=h2
     rwa [Ea (by simpa using ym)]at z
    rw[gy]at gJ gr
    cases hj:ar[i]? with
    | none=>rw[hj]at gJ;cases gJ
    | some p =>
     rw[hj]at gJ gr
     have ey:p.1=y:=cR gJ
     have ev:(σ[p.2]?).getD none=some v:=cR gr
     obtain⟨hN,hk,Gf,c,e1,e2⟩:=iH.at p (tY hj)
     obtain⟨m,hn,hl⟩:=I2.loc
     have es:σ[p.2]?=some (some v):=by
      cases z:σ[p.2]? with
      | none=>rw[z]at ev;cases ev
      | some o=>rw[z]at ev;exact congrArg some ev
     obtain⟨u,ru,lk⟩:=hl p.2 p.1 v hN es (hk.elim (λz=>.inr (.inl z)) λz=>.inr (.inr z))
     refine⟨u,ru,?_⟩
     rcases lk with⟨lk,_⟩ | ⟨_,c',e3,ic⟩
     ·rcases hk with hk | hk
      ·have:=hk.symm.trans lk;cases this
      ·have:=hk.symm.trans lk;cases this
     ·rw[e2]at e3
      cases e3
      subst ey
      obtain⟨oc,eL,yn⟩:=ic
      exact .inr ⟨Gf,c,e1,oc,old _ _ eL,yn⟩
  ·obtain⟨v,o,ho,hd⟩:=I2.cell y c (d7 y c e)
   exact⟨v,o,old _ _ ho,hd⟩
  ·show upd H2 _ _ g0.objs.size=none
   rw[az (dD Gd)]
   exact I2.aq.fresh hle
  ·obtain⟨v,o,ho,hd⟩:=I2.cell y c (d7 y c e)
   rw[az (cM (aW ho))]
   exact I2.dj y c (d7 y c e)
 have fin:∀(s':Shared) (H':Hp) (aj:L2.St),Inv (cn X scope (ar.map (·.1)++aX) cl g0.objs.size s2 H2 fp) [] aj H' s'->Q (.ref s2.heap.objs.size) H' ->
   compPost (model X.prog X.w) X.A X.xe use Rf (.ref s2.heap.objs.size) g0.objs.size (.ok .next) s':=by
  intro s' H' aj I' q'
  obtain⟨m,hn,_⟩:=I'.loc
  have u:=I'.base
  have Pm:H' g0.objs.size=none:=I'.free
  have IX:Inv X pins σ H' s':=I2.xC (s':=s') (ch:=fp) I'.os ⟨u.keep,u.slot,u.free,u.there,u.dn,u.dh,u.cS⟩ I'.aq I'.bare λb hb=>by
   obtain⟨_,y1,y2,y3,y4,y5⟩:=f2 b hb
   exact⟨y3,y1,y4,y5⟩
  have Gg:∀b,(∃o,s2.heap.get? b=some o)->b≠g0.objs.size:=λb ⟨o,e⟩=>kI b o e
  refine Pk s' H' g0.objs.size s2.heap.objs.size m IX hn Pm (λz=>?_) (dv I2.sz hle) (λx c e z=>?_) (λp hp z=>?_) (λz=>?_) q'
  ·have h0:X.env.locals<s2.heap.objs.size:=I2.lt
   rw[<-z]at h0
   exact fC _ (bQ h0 hle)
  ·obtain⟨v,o,ho,_⟩:=I2.cell x c e
   exact Gg c ⟨o,ho⟩ z
  ·exact Gg p.1 ⟨_,(I2.pin p hp).1⟩ z
  ·exact I2.EA hle z
 have yo:∀(H':Hp),(∀b∈fp,H' b=none)->∀b∈fp,gk (cn X scope (ar.map (·.1)++aX) cl g0.objs.size s2 H2 fp) [] H' b:=λH' hn b hb =>
  ⟨hn b hb,(uM.kH b hb).1,uM.jj b hb,.inl hb,(uM.kH b hb).2,λp hp=>absurd hp (by simp[cn])⟩
 have loop:codeAny (model X.prog X.w) X.A (.compLoop (.ListComp elt [⟨tg,iter,ifs,0⟩] scope pos) 0 (.ref it) (.ref s2.heap.objs.size) (compEnvC scope cl g0.objs.size X.env))
   (compPost (model X.prog X.w) X.A X.xe use Rf (.ref s2.heap.objs.size) g0.objs.size) { s2 with heap:=g1,toks:=s2.toks+([]:List (Str × Value)).length }:=by
  refine Pd (λn s'=>∃i acc H',Inv (cn X scope (ar.map (·.1)++aX) cl g0.objs.size s2 H2 fp) [] (d8 ar aX.length σ) H' s'/\tn i s'.heap/\(∀b∈fp,H' b=none)/\W i n acc H') ?_ m0
   ⟨0,[],_,I4,T.keep _ _ _ rL λb hb o e=>old b o e,λb hb=>?_,w0⟩
  ·rintro n s' ⟨i,acc,H',I',jm,uN,w'⟩
   obtain⟨yp,⟨stop,qn⟩ | ⟨go,step⟩⟩:=turn i n acc H' w'
   ·refine aw (T.done (cn X scope (ar.map (·.1)++aX) cl g0.objs.size s2 H2 fp) rfl rfl rfl hc i [] s' _ H' (λ_ _=>False) I' (yo H' uN) jm stop) λr t1 zz=>?_
    obtain⟨hr,I1⟩:=zz
    subst hr
    exact fin _ _ _ I1 qn
   ·refine aw (T.item (cn X scope (ar.map (·.1)++aX) cl g0.objs.size s2 H2 fp) rfl rfl rfl hc i [] s' _ H' (λ_ _=>False) I' (yo H' uN) jm go) λr t1 zz=>?_
    obtain⟨u,hr,h4⟩:=zz
    subst hr
    refine aw h4 λ_ t2 zz=>?_
    obtain⟨x5,H5,I5,r5,y5,kK,xQ⟩:=zz
    obtain⟨uO,Pn⟩:=step x5 H5 y5
    have xR:=I5.pinned (yo H5 xQ) (T.obj _ _ kK)
    refine aw (hg _ _ _ _ _ t2 _ H5 x5 u _ xR r5 Pn) λ_ t3 zz=>?_
    obtain⟨uv,H6,I6,⟨Po,Pp⟩,Pq⟩:=zz
    have back:∀(s7:Shared) (H7:Hp) (yq:List V) (m7:Nat),Inv (cn X scope (ar.map (·.1)++aX) cl g0.objs.size s2 H2 fp) ([]++rJ fp t2.heap) uv H7 s7->W (i+1) m7 yq H7 ->
      ∃i acc H',Inv (cn X scope (ar.map (·.1)++aX) cl g0.objs.size s2 H2 fp) [] (d8 ar aX.length σ) H' s7/\tn i s7.heap/\(∀b∈fp,H' b=none)/\W i m7 acc H':=λs7 H7 yq m7 I7 w7 =>
     ⟨i+1,yq,H7,(I7.rK).weak Po.symm λj v z=>by
       by_cases hj:j<ar.length
       ·rw[Pp j hj];exact z
       ·have z':((ar.map λp=>(σ[p.2]?).getD none)++aR aX.length none)[j]?=some (some v):=z
        rw[wY (by simpa using hj),D9]at z'
        split at z'<;>(cases z'),
      T.keep _ _ _ kK λb hb o e=>(I7.pin (b,o) (dm _ (dm _ (uu hb e)))).1,λb hb=>by
       obtain⟨o,e,d⟩:=T.obj _ _ kK b hb
       exact(I7.pin (b,o) (dm _ (dm _ (uu hb e)))).2.1,w7⟩
    refine aw (ht _ _ _ _ _ t3 _ H6 _ I6 Pq) λok t4 zz=>?_
    obtain⟨H7,I7,hD7,q7⟩:=zz
    cases ok with
    | false =>
     obtain⟨m',hm,w7⟩:=(show ∃m',m'<n/\W (i+1) m' acc H7 from q7)
     exact⟨m',hm,back t4 H7 acc m' I7 w7⟩
    | true =>
     refine aw (he _ _ _ _ _ t4 _ H7 _ I7 q7) λy t5 zz=>?_
     obtain⟨v8,H8,I8,r8,Pr,Pt,m',hm,w8⟩:=zz
     exact aw (Fo _ t5 _ H8 (.ref s2.heap.objs.size) [v8] (.ref s2.heap.objs.size) [y] (λ_ H9=>H9=upd H8 s2.heap.objs.size (.lst (acc++[v8]))) I8 rfl (.cons r8 .nil) ⟨_,acc,v8,rfl,rfl,Pr,Pt,rfl⟩) λ_ t6 zz=>by
      obtain⟨_,H9,I9,_,e9⟩:=zz
      subst e9
      exact⟨m',hm,back t6 _ _ m' I9 w8⟩
  ·obtain⟨o,e,_⟩:=Ge b hb
   rw[az (cM (aW e))]
   exact(f2 b hb).1
 exact codeAny_compStart_list loop (T.self _ 0 _ _ _ (T.keep _ _ _ rL λb hb o e=>old b o e) loop)
theorem Pu(ar:List (Str × Nat))(aX:List Str)(hc:X.calm=true)(hi:PI X tg iter wi)
  (hg:∀C s H fp,PG (cn X scope (ar.map (·.1)++aX) cl C s H fp) tg g)
  (ht:∀C s H fp,iB (cn X scope (ar.map (·.1)++aX) cl C s H fp) ifs tt) (he:∀C s H fp,PE (cn X scope (ar.map (·.1)++aX) cl C s H fp) elt te)
  (iE:closureFor scope X.env=pure cl) (iF:iC X cl) (iG:iD cl (relabel scope X.env).names) (iH:iA X scope cl ar)
  (eM:∀y∈scope.names,y.2≠.cell) (eB:scope.kind=.function) (iJ:∀y∈scope.names,y.2=.local->scope.names.lookup y.1=some .local)
  (hs:∀x,foldedSetIterable iter X.env x=pure x:=by intro _;rfl):PE X (.ListComp elt [⟨tg,iter,ifs,0⟩] scope pos) (uK wi ar aX.length g tt te):=by
 intro pins s σ H Q I h
 rw[eval_ListComp]
 refine Gb ar aX hc hi hg ht he iE iF iG iH eM eB iJ hs I h λs' H' C Da m IX hn hC hL h1 h2 h3 h4 q'=>?_
 exact⟨m,hn,λh' sb=>⟨.ref Da,H',IX.turned (t':=s'.toks) (λb o hb e=>sb.extBut b o hb e) hC hL (.inr h1) h2 h3,rfl,q'⟩⟩
theorem Pw{i:Nat}{x:Str}{pos' apos:Pos}(hN:X.N.Nodup)(jv:X.N[i]?=some x)(hx:Loc X.env.scope x)(hf:X.fn x=true\/X.env.scope.names.lookup x=some .local)(ar:List (Str × Nat))(aX:List Str)(hc:X.calm=true)(hi:PI X tg iter wi)
  (hg:∀C s H fp,PG (cn X scope (ar.map (·.1)++aX) cl C s H fp) tg g)
  (ht:∀C s H fp,iB (cn X scope (ar.map (·.1)++aX) cl C s H fp) ifs tt) (he:∀C s H fp,PE (cn X scope (ar.map (·.1)++aX) cl C s H fp) elt te)
  (iE:closureFor scope X.env=pure cl) (iF:iC X cl) (iG:iD cl (relabel scope X.env).names) (iH:iA X scope cl ar)
  (eM:∀y∈scope.names,y.2≠.cell) (eB:scope.kind=.function) (iJ:∀y∈scope.names,y.2=.local->scope.names.lookup y.1=some .local)
  (r6:swapsWith (.ListComp elt [⟨tg,iter,ifs,0⟩] scope pos) (some (.Name x pos')) apos.line X.env=pure true) (hs:∀x,foldedSetIterable iter X.env x=pure x:=by intro _;rfl):PS X (.Assign [.Name x pos'] (.ListComp elt [⟨tg,iter,ifs,0⟩] scope pos) apos) (xK (uK wi ar aX.length g tt te) (uq i)):=by
 intro pins s σ H D I h
 rw[exec_Assign_Name_used x pos' _ apos r6]
 refine wpAny_bind (wpAny_standAt (wpAny_bind ?_))
 have hh:uK wi ar aX.length g tt te σ H λv H1=>D.nx (σ.set i (some v)) H1:=h
 show wpAny _ _ (comprehension (.ListComp elt [⟨tg,iter,ifs,0⟩] scope pos) scope X.env (firstIterPos [⟨tg,iter,ifs,0⟩] pos) (newList []) false (eval iter X.env) (some (assign (.Name x pos') X.env)) >>= λ_=>pure ()) _ _ _
 refine wpAny_bind (Gb (use:=some (assign (.Name x pos') X.env)) (pos:=pos) ar aX hc hi hg ht he iE iF iG iH eM eB iJ hs I hh λs' H' C Da m IX hn hC hL h1 h2 h3 h4 q'=>?_)
 obtain⟨oC,es,ep,Px,Gh,cy⟩:=id hn
 have IP:Inv X (pins++[(C,oC)]) σ H' s':=⟨IX.ok,IX.os,IX.bare,IX.base,IX.loc,IX.cell,IX.free,IX.dj,λp hp=>by
  rcases dW.mp hp with z | z
  ·exact IX.pin p (fh _ z)
  ·rcases dW.mp z with z | z
   ·exact IX.pin p (dm _ z)
   ·obtain rfl:=jf.mp z
    exact⟨Px,hC,hL,h4,λv w=>by rw[Gh]at w;cases w⟩,IX.aq,IX.len⟩
 refine aw (ur (X:=X) hN jv hx hf _ s' σ H' (.ref Da) (.ref Da) (λfq H2=>fq=σ.set i (some (.ref Da))/\H2=H') IP rfl ⟨rfl,rfl⟩) λ_ s2 zz=>?_
 obtain⟨fq,H2,I2,e1,e2⟩:=zz
 subst e1 e2
 have pC:=I2.pin (C,oC) (dm _ (dm _ (by simp)))
 refine⟨m,⟨oC,es,ep,pC.1,Gh,cy⟩,λh' sb=>wpAny_pure (wpAny_pure ?_)⟩
 exact⟨σ.set i (some (.ref Da)),H2,(I2.rK).turned (t':=s2.toks) (λb o hb e=>sb.extBut b o hb e) hC hL (.inr h1) h2 h3,q'⟩
end
end L2
namespace L2
open PySem PySem.Spec PyProof.Rows
section
variable{X:Cx}{tg:Expr}
end
end L2
namespace L2
open PySem PySem.Spec PyProof.Rows
noncomputable def yr(h:Heap)(a T:Addr)(cls fl:Value):Prop :=
 ∃oe vs oT ts,h.get? a=some oe/\oe.cls=cls/\oe.dict=none/\oe.data=.fields vs/\vs[1]?=some (.ref T)/\T≠a/\h.get? T=some oT/\oT.data=.fields ts/\ts[3]?=some fl
noncomputable abbrev dM(h:Heap)(a T:Addr)(cls:Value):Prop:=yr h a T cls .none
theorem Py(o:Obj)(f:Array Value->Array Value):(o.mapFields f).dict=o.dict:=by
 obtain⟨c,d,dt,sl⟩:=o
 cases dt<;>rfl
section
variable{M:Model}{A:Around}{E:Value->Shared->Prop}{s:Shared}{base:Heap}{env:Env}{outer:List Env}{L a T:Addr}{cls:Value}{oe:Obj}{vs:Array Value}{Q:Unit->Shared->Prop}
structure Ent(fs:List Addr)(h h':Heap)(a T:Addr)(oe:Obj)(L:Addr):Prop where
 new:h.get? T=none
 ne:T≠a
 keep:∀b o,b≠a->b ∉ fs->h.get? b=some o->h'.get? b=some o
 slot:∀b o,b≠a->h.get? b=some o->∃sl,h'.get? b=some { o with slots:=sl }
 exc:h'.get? a=some (oe.mapFields λz=>z.setIfInBounds 1 (.ref T))
 ent:∃oT ts,h'.get? T=some oT/\oT.data=.fields ts/\ts[3]?=some (rawInt L)
theorem Gi{head:Value}{Pz:Bool}(cL:A.frames=some (env::outer))(hl:s.heap.FunFrames base (env::outer))(hf:env.frame=some L)(he:s.heap.get? a=some oe)(hd:oe.data=.fields vs)(gF:1<vs.size)
  (na:a ∉ (env::outer).filterMap (·.frame)) (k:∀h' T',Ent ((env::outer).filterMap (·.frame)) s.heap h' a T' oe L->Q () { s with heap:=h' }) :
  wpAny M A (do let x<-frameOf env;let pl<-entryPlaceOf L Pz;let b<-EntryCells.newEntry head x .none (rawInt L) .none pl;setField (.ref a) 1 b) Q E s:=by
 refine wpAny_bind (wpAny_frameOf_fun cL hl hf λg1 so=>wpAny_bind (wpAny_entryPlaceOf λpl ip=>?_))
 unfold EntryCells.newEntry newFields
 have e1:g1.get? a=some oe:=(so.2.1 a na).trans he
 refine wpAny_bind (wpAny_newObj_type ?_ (ip.sizeOk5 _ _ _ _ _))
 generalize Gj:({ cls:=.type "traceback",dict:=none,data:=.fields ([head,bb L,.none,rawInt L,.none]++(if pl.isEmpty then aR 6 ke else pl)).toArray }:Obj)=te
 have e2:(g1.push te).get? a=some oe:=cY te e1
 have PB:te.data=.fields ([head,bb L,.none,rawInt L,.none]++(if pl.isEmpty then aR 6 ke else pl)).toArray:=by rw[<-Gj]
 have nf:te.isFreed=false:=by rw[<-Gj];rfl
 refine wpAny_setField e2 hd gF ?_
 have d3:=xg hd λz=>z.setIfInBounds 1 (bb g1.objs.size)
 have nT:g1.objs.size≠a:=Nat.ne_of_gt (aW e1)
 refine k _ g1.objs.size ⟨?_,nT,λb o hb hz q=>?_,λb o hb q=>?_,w4 _ e2 (Eg d3),⟨te,_,?_,PB,?_⟩⟩
 ·cases q:s.heap.get? g1.objs.size with
  | none=>rfl
  | some o=>obtain⟨sl,z⟩:=so.2.2 _ _ q;exact absurd (aW z) (fC _)
 ·rw[kj _ _ (dD hb)]
  exact cY te ((so.2.1 b hz).trans q)
 ·obtain⟨sl,z⟩:=so.2.2 b o q
  refine⟨sl,?_⟩
  rw[kj _ _ (dD hb)]
  exact cY te z
 ·rw[kj _ _ (dD nT)]
  exact fj g1 nf
 ·first | (simp;done) | (rcases ip with rfl | ⟨_,_,_,_,_,_,_,rfl⟩<;>simp)
structure Gk(fs Z:List Addr)(h h':Heap)(a T:Addr)(cls:Value):Prop where
 new:h.get? T=none
 keep:∀b o,b ∉ Z->b ∉ fs->h.get? b=some o->h'.get? b=some o
 slot:∀b o,b ∉ Z->h.get? b=some o->∃sl,h'.get? b=some { o with slots:=sl }
 n9:dM h' a T cls
theorem yt{fl:Value}(tr:yr s.heap a T cls fl)(k:∀h',(∀b o,b≠T->s.heap.get? b=some o->h'.get? b=some o)->dM h' a T cls->Q () { s with heap:=h' }):wpAny M A (setFlight (.ref a) none) Q E s:=by
 obtain⟨oe,vs,oT,ts,h1,h2,h3,h4,h5,h6,h7,h8,h9⟩:=tr
 have sz:3<ts.size:=(Eh.mp h9).1
 unfold setFlight
 refine wpAny_bind (wpAny_field h1 h4 h5 ?_)
 rw[if_pos (by simp)]
 refine wpAny_setField h7 h8 sz (k _ (λb o hb q=>(kj _ _ (dD hb)).trans q) ?_)
 have d:=xg h8 λz=>z.setIfInBounds 3 ((none:Option Addr).elim ke λf=>rawInt f)
 exact⟨oe,vs,_,_,(kj _ _ h6).trans h1,h2,h3,h4,h5,h6,w4 _ h7 (Eg d),d,by simp[sz]⟩
theorem Ent.fin{fs:List Addr}{h h':Heap}{a T L:Addr}{oe:Obj}{vs:Array Value}(e:Ent fs h h' a T oe L)(hd:oe.data=.fields vs)(gF:1<vs.size)(PC:oe.dict=none):yr h' a T oe.cls (rawInt L):=by
 obtain⟨oT,ts,e1,e2,e3⟩:=e.ent
 exact⟨_,_,oT,ts,e.exc,Obj.cls_mapFields _ _,by rw[Py];exact PC,xg hd _,by simp[gF],e.ne,e1,e2,e3⟩
theorem Gm(cL:A.frames=some (env::outer))(hl:s.heap.FunFrames base (env::outer))(hf:env.frame=some L)(na:a ∉ (env::outer).filterMap (·.frame))(tr:dM s.heap a T cls)
  (k:∀h' T',Gk ((env::outer).filterMap (·.frame)) [a,T] s.heap h' a T' cls->Q () { s with heap:=h' }):wpAny M A (noteFrame (.ref a) env) (λ_ fo=>wpAny M A (setFlight (.ref a) none) Q E fo) E s:=by
 obtain⟨oe,vs,oT,ts,h1,h2,h3,h4,h5,h6,h7,h8,h9⟩:=tr
 have s1:1<vs.size:=(Eh.mp h5).1
 have s3:3<ts.size:=(Eh.mp h9).1
 unfold noteFrame
 simp only[hf]
 refine wpAny_bind (wpAny_field h1 h4 h5 ?_)
 rw[if_pos (by simp)]
 refine wpAny_bind (wpAny_field h7 h8 h9 ?_)
 rw[if_neg (by simp[rawInt])]
 refine wpAny_bind (wpAny_setField h7 h8 s3 ?_)
 generalize hg:s.heap.update T (Obj.mapFields λz=>z.setIfInBounds 3 ke)=g
 have kS:∀b,b≠T->g.get? b=s.heap.get? b:=λb hb=>by rw[<-hg];exact kj _ _ (dD hb)
 have bT:∀b o,s.heap.get? b=some o->(∀ws,o.data≠.fields ws)->b≠T:=λb o q hn z=>by subst z;rw[h7]at q;cases q;exact hn ts h8
 have gT:∃PD,g.get? T=some PD:=⟨_,by rw[<-hg];exact w4 _ h7 (Eg (xg h8 _))⟩
 refine Gi (s:={ s with heap:=g }) cL (hl.of_keeps λb o q hn=>⟨o,(kS b (bT b o q hn)).trans q,rfl⟩) hf ((kS a (dD h6)).trans h1) h4 s1 na λh' T' en=>?_
 have PF:T'≠T:=λz=>by subst z;obtain⟨o,q⟩:=gT;rw[en.new]at q;cases q
 refine yt (s:={ s with heap:=h' }) (h2 ▸ en.fin h4 s1 h3) λyu kp yv=>?_
 refine k yu T' ⟨(kS T' PF).symm.trans en.new,λb o hz hb q=>?_,λb o hz q=>?_,yv⟩
 ·have z1:b≠a:=λz=>hz (by simp[z])
  have z2:b≠T:=λz=>hz (by simp[z])
  have z3:b≠T':=λz=>by have:=en.new;rw[<-z,kS b z2,q]at this;cases this
  exact kp b o z3 (en.keep b o z1 hb ((kS b z2).trans q))
 ·have z1:b≠a:=λz=>hz (by simp[z])
  have z2:b≠T:=λz=>hz (by simp[z])
  have z3:b≠T':=λz=>by have:=en.new;rw[<-z,kS b z2,q]at this;cases this
  obtain⟨sl,r⟩:=en.slot b o z1 ((kS b z2).trans q)
  exact⟨sl,kp b _ z3 r⟩
theorem PH{h1:Heap}{args:List Value}(cL:A.frames=some (env::outer))(hl:s.heap.FunFrames base (env::outer))(hf:env.frame=some L)(hx:Ei s.heap h1 a cls args)
  (k:∀h' T',Gk ((env::outer).filterMap (·.frame)) [] s.heap h' a T' cls->Q () { s with heap:=h' }):wpAny M A (noteFrame (.ref a) env) (λ_ fo=>wpAny M A (setFlight (.ref a) none) Q E fo) E { s with heap:=h1 }:=by
 obtain⟨t,e1,_,_⟩:=hx.there
 have na:a ∉ (env::outer).filterMap (·.frame):=λhb=>by obtain⟨_,o,ho,_⟩:=hl.mem hb;rw[hx.new]at ho;cases ho
 unfold noteFrame
 simp only[hf]
 refine wpAny_bind (wpAny_field (s:={ s with heap:=h1 }) e1 rfl (x:=.none) (by rfl) ?_)
 rw[if_neg (by decide)]
 refine Gi (s:={ s with heap:=h1 }) cL (hl.of_keeps λb o q _=>⟨o,hx.keeps b o q,rfl⟩) hf e1 rfl (by simp) na λh' T' en=>?_
 refine yt (s:={ s with heap:=h' }) (en.fin rfl (by simp) rfl) λyu kp yv=>?_
 have ba:∀b o,s.heap.get? b=some o->b≠a:=λb o q z=>by rw[z,hx.new]at q;cases q
 have bT:∀b o,s.heap.get? b=some o->b≠T':=λb o q z=>by have:=hx.keeps b o q;rw[z,en.new]at this;cases this
 refine k yu T' ⟨?_,λb o _ hb q=>kp b o (bT b o q) (en.keep b o (ba b o q) hb (hx.keeps b o q)),λb o _ q=>?_,yv⟩
 ·cases q:s.heap.get? T' with
  | none=>rfl
  | some o=>exact absurd rfl (bT T' o q)
 ·obtain⟨sl,r⟩:=en.slot b o (ba b o q) (hx.keeps b o q)
  exact⟨sl,kp b _ (bT b o q) r⟩
end
end L2
namespace L2
open PySem PySem.Spec PyProof.Rows
theorem cx.there{P:Program}{w:World}{H:Hp}{h:Heap}{a:Addr}{o:HO}(x:cx P w H h a o):∃u,h.get? a=some u:=by
 cases o with
 | lst xs=>obtain⟨_,_,_,_,e⟩:=x;exact⟨_,e⟩
 | tup xs=>obtain⟨_,_,_,o,e,_⟩:=x;exact⟨o,e⟩
 | dK bX=>obtain⟨_,_,_,_,o,_,_,e,_⟩:=x;exact⟨_,e⟩
 | dT bX=>obtain⟨_,_,_,_,o,_,_,e,_⟩:=x;exact⟨_,e⟩
 | set S n=>obtain⟨o,_,_,_,e,_⟩:=x;exact⟨_,e⟩
 | ins C dx fs=>obtain⟨_,_,_,e,_⟩:=x;exact⟨_,e⟩
 | own y=>exact x
 | xd fs=>obtain⟨_,⟨_,_,_,e,_⟩,_⟩:=x;exact⟨_,e⟩
 | rA lo hi=>obtain⟨_,_,_,e⟩:=x;exact⟨_,e⟩
 | bt ob u=>obtain⟨e,_⟩:=x;exact⟨_,e⟩
 | bS ps=>exact⟨_,show h.get? a=some _ from x.1⟩
 | met f y=>exact⟨_,show h.get? a=some _ from x⟩
 | ext φ=>obtain⟨_,e,_⟩:=x;exact e
theorem bI.none{P:Program}{w:World}{H:Hp}{h:Heap}{a:Addr}(x:bI P w H h)(e:h.get? a=.none):H a=.none:=by
 cases q:H a with
 | none=>rfl
 | some u=>obtain⟨o,z⟩:=(x a u q).there;rw[e]at z;cases z
structure Apart(X:Cx)(pins:List (Addr × Obj))(H:Hp)(b:Addr):Prop where
 old:X.bu.heap.get? b=none
 free:H b=none
 loc:b≠X.env.locals
 cell:∀x c,X.env.cells.lookup x=some c->c≠b
 pin:∀p∈X.pn++pins,p.1≠b
 fr:b ∉ bY X.stack
section
variable{X:Cx}{pins:List (Addr × Obj)}{σ:St}{H H':Hp}{s:Shared}{a T b:Addr}{cls:Value}{M:Model}{Q:Unit->Shared->Prop}{E:Value->Shared->Prop}{h':Heap}
theorem PK(I:Inv X pins σ H s)(hb:b∈bY X.stack):∃o,s.heap.get? b=some o/\∀vs,o.data≠.fields vs:=(I.stack.mem hb).2
theorem Inv.old(I:Inv X pins σ H s)(hex:X.ex=[])(e:s.heap.get? b=none):X.bu.heap.get? b=none:=by
 cases q:X.bu.heap.get? b with
 | none=>rfl
 | some o=>obtain⟨o',z⟩:=I.base.there b o q (by rw[hex];simp);rw[e]at z;cases z
theorem Inv.apart(I:Inv X pins σ H s)(hex:X.ex=[])(e:s.heap.get? b=none)(n:H' b=none):Apart X pins H' b where
 old:=I.old hex e
 free:=n
 loc:=λz=>by obtain⟨m,⟨o,_,_,ho,_⟩,_⟩:=I.loc;rw[z,ho]at e;cases e
 cell:=λx c hc z=>by obtain⟨v,o,ho,_⟩:=I.cell x c hc;rw[z,e]at ho;cases ho
 pin:=λp hp z=>by have:=(I.pin p hp).1;rw[z,e]at this;cases this
 fr:=λhb=>by obtain⟨o,ho,_⟩:=PK I hb;rw[e]at ho;cases ho
theorem Gn(I:Inv X pins σ H s)(bw:X.stack=X.env::X.outer)(hex:X.ex=[])(hf:X.env.frame=some X.env.locals)(Z:List Addr)(hZ:∀b∈Z,X.bu.heap.get? b=none/\H b=none)
  (keep:∀b o,b ∉ Z->b ∉ bY X.stack->s.heap.get? b=some o->h'.get? b=some o) (slots:∀b o,b ∉ Z->s.heap.get? b=some o->∃sl,h'.get? b=some { o with slots:=sl }) :
  Un (bY X.outer) [] X.fZ H X.bu.heap h'/\bI X.prog X.w H h':=by
 have kT:∀b o,X.bu.heap.get? b=some o->b ∉ Z:=λb o e z=>by rw[(hZ b z).1]at e;cases e
 have sub:∀b,b∈bY X.stack->b=X.env.locals\/b∈bY X.outer:=λb hb=>by
  rw[bw]at hb
  unfold bY at hb
  rw[nu,hf]at hb
  exact cI.mp hb
 have sup:∀b,b∈bY X.outer->b∈bY X.stack:=λb hb=>by
  rw[bw]
  unfold bY
  rw[nu,hf]
  exact hG _ hb
 have nL:∀b o,X.bu.heap.get? b=some o->b≠X.env.locals:=λb o e=>cM (bQ (aW e) I.ok.above)
 have nx:∀b:Addr,b ∉ X.ex:=λb=>by rw[hex];simp
 refine⟨⟨λb o e n hb _=>?_,λb o e n hb _=>?_,λb o e n _=>I.base.free b o e n (nx b),λb o e _=>?_,I.base.dn,I.base.dh,I.base.cS⟩,λb ob e=>?_⟩
 ·exact keep b o (kT b o e) (λz=>(sub b z).elim (nL b o e) hb) (I.base.keep b o e n hb (nx b))
 ·obtain⟨sl,e1⟩:=I.base.slot b o e n hb (nx b)
  exact(slots b _ (kT b o e) e1).imp λsl h=>h
 ·obtain⟨o',e1⟩:=I.base.there b o e (nx b)
  exact(slots b o' (kT b o e) e1).elim λsl q=>⟨_,q⟩
 ·refine(I.aq b ob e).eK (λc u hc q=>keep c u (λz=>?_) (λz=>?_) q) (λ_ q=>q) (λ_ _ q=>q) λ_ _ q=>q
  ·have n:=(hZ c z).2
   rcases hc with rfl | hc
   ·rw[n]at e;cases e
   ·rw[n]at hc;cases hc
  ·have n:=I.uj c z
   rcases hc with rfl | hc
   ·rw[n]at e;cases e
   ·rw[n]at hc;cases hc
structure Gp(X:Cx)(H:Hp)(h':Heap)(a T:Addr)(cls:Value):Prop where
 un:Un (bY X.outer) [] X.fZ H X.bu.heap h'
 aq:bI X.prog X.w H h'
 n9:dM h' a T cls
 a0:X.bu.heap.get? a=none
 a1:H a=none
 t0:X.bu.heap.get? T=none
 t1:H T=none
theorem PL(I:Inv X pins σ H s)(bw:X.stack=X.env::X.outer)(hex:X.ex=[])(hf:X.env.frame=some X.env.locals)(tr:dM s.heap a T cls)(pa:Apart X pins H a)(pT:Apart X pins H T)
  (hQ:∀h' T',Gp X H h' a T' cls->Q () { s with heap:=h' }):wpAny M X.A (leaving X.env (.ref a)) Q E s:=by
 have hZ:∀b∈[a,T],X.bu.heap.get? b=none/\H b=none:=λb hb=>by
  rcases cI.mp hb with rfl | hb
  ·exact⟨pa.old,pa.free⟩
  ·rw[jf.mp hb];exact⟨pT.old,pT.free⟩
 have na:a ∉ (X.env::X.outer).filterMap (·.frame):=by have:=pa.fr;rw[bw]at this;exact this
 refine wpAny_bind (Gm (base:=X.base) (by rw[I.ok.frames,bw]) (bw ▸ I.stack) hf na tr λh' T' st=>?_)
 have kp:∀b o,b ∉ [a,T]->b ∉ bY X.stack->s.heap.get? b=some o->h'.get? b=some o:=λb o hz hb q=>st.keep b o hz (by rw[bw]at hb;exact hb) q
 obtain⟨un,aq⟩:=Gn (h':=h') I bw hex hf [a,T] hZ kp st.slot
 exact hQ h' T' ⟨un,aq,st.n9,pa.old,pa.free,I.old hex st.new,I.aq.none st.new⟩
theorem PM{h1:Heap}{args:List Value}(I:Inv X pins σ H s)(bw:X.stack=X.env::X.outer)(hex:X.ex=[])(hf:X.env.frame=some X.env.locals)(hx:Ei s.heap h1 a cls args)
  (hQ:∀h' T',Gp X H h' a T' cls->Q () { s with heap:=h' }):wpAny M X.A (leaving X.env (.ref a)) Q E { s with heap:=h1 }:=by
 refine wpAny_bind (PH (base:=X.base) (by rw[I.ok.frames,bw]) (bw ▸ I.stack) hf hx λh' T' st=>?_)
 have kp:∀b o,b ∉ ([]:List Addr)->b ∉ bY X.stack->s.heap.get? b=some o->h'.get? b=some o:=λb o hz hb q=>st.keep b o hz (by rw[bw]at hb;exact hb) q
 obtain⟨un,aq⟩:=Gn (h':=h') I bw hex hf [] (λb hb=>absurd hb (by simp)) kp st.slot
 exact hQ h' T' ⟨un,aq,st.n9,I.old hex hx.new,I.aq.none hx.new,I.old hex st.new,I.aq.none st.new⟩
end
noncomputable def d9(P:Program)(w:World):cO:=λouter H s E e s'=>∃a T cls H',e=.ref a/\s'.os=s.os/\AllBare s'.gens/\Un (bY outer) [] H H' s.heap s'.heap/\bI P w H' s'.heap/\dM s'.heap a T cls /\
 s.heap.get? a=none/\H' a=none/\s.heap.get? T=none/\H' T=none/\E cls none H'
section
variable{X:Cx}{pins:List (Addr × Obj)}{σ:St}{H H':Hp}{s:Shared}{a T b:Addr}{cls:Value}{M:Model}{Q:Unit->Shared->Prop}{E:Value->Shared->Prop}{h':Heap}
theorem Inv.Gq(I:Inv X pins σ H s)(hex:X.ex=[])(Z:List Addr)(hZ:∀b∈Z,Apart X pins H b)
  (keep:∀b o,b ∉ Z->b ∉ bY X.stack->s.heap.get? b=some o->h'.get? b=some o) (slots:∀b o,b ∉ Z->s.heap.get? b=some o->∃sl,h'.get? b=some { o with slots:=sl }) (g':Array GenState) (t':Nat) (d':Drawn) (hg:AllBare g') :
  Inv X pins σ H { s with heap:=h',gens:=g',toks:=t',drawn:=d' }:=by
 have nx:∀b:Addr,b ∉ X.ex:=λb=>by rw[hex];simp
 have any:=slots
 have kT:∀b o,X.bu.heap.get? b=some o->b ∉ Z:=λb o e z=>by rw[(hZ b z).old]at e;cases e
 have nL:∀b o,X.bu.heap.get? b=some o->b≠X.env.locals:=λb o e=>cM (bQ (aW e) I.ok.above)
 have cz:∀x c,X.env.cells.lookup x=some c->c ∉ Z:=λx c e z=>(hZ c z).cell x c e rfl
 have cellK:∀x c,X.env.cells.lookup x=some c->∀v,s.heap.IsCell c v->h'.IsCell c v:=λx c e v zz=>by
  obtain⟨o,ho,hd⟩:=zz
  obtain⟨sl,q⟩:=any c o (cz x c e) ho
  exact⟨_,q,hd⟩
 have Gr:∀b,b ∉ X.fs->b≠X.env.locals->b ∉ bY X.stack:=λb h1 h2 h3=>(cI.mp (I.rC b h3)).elim h2 h1
 refine⟨I.ok,I.os,hg,⟨λb o e n hb hx=>?_,λb o e n hb hx=>?_,I.base.free,λb o e hx=>?_,I.base.dn,I.base.dh,I.base.cS⟩,?_,λx c e=>?_,I.free,I.dj,λp hp=>?_,λb ob e=>?_,I.len⟩
 ·exact keep b o (kT b o e) (Gr b hb (nL b o e)) (I.base.keep b o e n hb hx)
 ·obtain⟨sl,e1⟩:=I.base.slot b o e n hb hx
  obtain⟨kF,e2⟩:=any b _ (kT b o e) e1
  exact⟨kF,e2⟩
 ·obtain⟨o',e1⟩:=I.base.there b o e hx
  obtain⟨sl,e2⟩:=any b o' (kT b o e) e1
  exact⟨_,e2⟩
 ·obtain⟨m,hn,hl⟩:=I.loc
  obtain⟨o,es,ep,ho,hd,r⟩:=id hn
  obtain⟨sl,q⟩:=slots _ o (λz=>(hZ _ z).loc rfl) ho
  refine⟨m,⟨_,es,ep,q,hd,r⟩,λi x v e1 e2 e3=>?_⟩
  obtain⟨u,r,l⟩:=hl i x v e1 e2 e3
  refine⟨u,r,?_⟩
  rcases l with l | ⟨k,c,e,z⟩
  ·exact .inl l
  ·exact .inr ⟨k,c,e,cellK x c e _ z⟩
 ·obtain⟨v,z⟩:=I.cell x c e
  exact⟨v,cellK x c e v z⟩
 ·obtain⟨e,n,ne,nf,d⟩:=I.pin p hp
  exact⟨keep p.1 p.2 (λz=>(hZ _ z).pin p hp rfl) (Gr _ nf ne) e,n,ne,nf,d⟩
 ·refine(I.aq b ob e).eK (λc u hc q=>keep c u (λz=>?_) (λz=>?_) q) (λ_ q=>q) (λ_ _ q=>q) λ_ _ q=>q
  ·have n:=(hZ c z).free
   rcases hc with rfl | hc
   ·rw[n]at e;cases e
   ·rw[n]at hc;cases hc
  ·have n:=I.uj c z
   rcases hc with rfl | hc
   ·rw[n]at e;cases e
   ·rw[n]at hc;cases hc
theorem PN(pa:Apart X pins H a)(pT:Apart X pins H T):∀b∈[a,T],Apart X pins H b:=λb hb=>by
 rcases cI.mp hb with rfl | hb
 ·exact pa
 ·rw[jf.mp hb];exact pT
theorem PQ(I:Inv X pins σ H s)(bw:X.stack=X.env::X.outer)(hex:X.ex=[])(hf:X.env.frame=some X.env.locals)(tr:dM s.heap a T cls)(pa:Apart X pins H a)(pT:Apart X pins H T)
  (hQ:∀h' T',Inv X pins σ H { s with heap:=h' }->dM h' a T' cls->Apart X pins H T'->Q () { s with heap:=h' }) :
  wpAny M X.A (noteFrame (.ref a) X.env) (λ_ fo=>wpAny M X.A (setFlight (.ref a) none) Q E fo) E s:=by
 have na:a ∉ (X.env::X.outer).filterMap (·.frame):=by have:=pa.fr;rw[bw]at this;exact this
 refine Gm (base:=X.base) (by rw[I.ok.frames,bw]) (bw ▸ I.stack) hf na tr λh' T' st=>?_
 exact hQ h' T' (I.Gq hex [a,T] (PN pa pT) (λb o hz hb q=>st.keep b o hz (by rw[bw]at hb;exact hb) q) st.slot s.gens s.toks s.drawn I.bare) st.n9 (I.apart hex st.new (I.aq.none st.new))
theorem PR{A:Around}(I:Inv X pins σ H s)(hex:X.ex=[])(tr:dM s.heap a T cls)(pT:Apart X pins H T)
  (hQ:∀h',Inv X pins σ H { s with heap:=h' }->dM h' a T cls->Q () { s with heap:=h' }):wpAny M A (setFlight (.ref a) none) Q E s:=by
 refine yt tr λh' kp yw=>hQ h' (I.Gq hex [T] (λb hb=>by rw[jf.mp hb];exact pT) (λb o hz _ q=>kp b o (by simpa using hz) q) (λb o hz q=>⟨o.slots,kp b o (by simpa using hz) q⟩) s.gens s.toks s.drawn I.bare) yw
theorem PU{A:Around}{i:Nat}{n:Str}{pos:Pos}(I:Inv X pins σ H s)(hN:X.N.Nodup)(hi:X.N[i]?=some n)(hl:X.env.kindOf n=some .local)
  (hQ:∀s',Inv X pins (σ.set i none) H s'->Q () s'):wpAny M A (do bindName X.env n .none;unbindBehindTheSuite X.env n pos) Q E s:=by
 obtain⟨m,hn,PV⟩:=id I.loc
 have fF:=I.fF
 refine PySem.wpAny_nameGoes_keeps hl hn (by rw[I.ok.kind];rfl) λh' v xB hs=>hQ _ ?_
 obtain⟨oL,_,_,EE,_⟩:=id hn
 refine⟨I.ok,I.os,I.bare,⟨λb o e n' hb hx=>?_,λb o e n' hb hx=>?_,I.base.free,λb o e hx=>?_,I.base.dn,I.base.dh,I.base.cS⟩,⟨_,xB,λj y w e1 e2 e3=>?_⟩,λy c e=>?_,I.free,I.dj,λp hp=>?_,λb ob e=>?_,by simpa using I.len⟩
 ·exact(hs.2 b (cM (bQ (aW e) I.ok.above))).trans (I.base.keep b o e n' hb hx)
 ·obtain⟨sl,e1⟩:=I.base.slot b o e n' hb hx
  exact⟨sl,(hs.2 b (cM (bQ (aW e) I.ok.above))).trans e1⟩
 ·obtain⟨o',e1⟩:=I.base.there b o e hx
  exact⟨o',(hs.2 b (cM (bQ (aW e) I.ok.above))).trans e1⟩
 ·by_cases hj:j=i
  ·subst hj
   rw[List.getElem?_set_self']at e2
   cases q:σ[j]?<;>rw[q]at e2<;>cases e2
  ·rw[qR (dD hj)]at e2
   obtain⟨u',r',q⟩:=PV j y w e1 e2 e3
   refine⟨u',r',?_⟩
   rcases q with⟨k,e⟩ | ⟨k,c,e,z⟩
   ·refine .inl ⟨k,?_⟩
    have:y≠n:=λe=>hj (xA hN e1 (e ▸ hi))
    simp[this,e]
   ·exact .inr ⟨k,c,e,z.sameBut hs (fF y c e)⟩
 ·obtain⟨w',z⟩:=I.cell y c e
  exact⟨w',z.sameBut hs (fF y c e)⟩
 ·obtain⟨e,n',ne,nf,d⟩:=I.pin p hp
  exact⟨(hs.2 p.1 ne).trans e,n',ne,nf,d⟩
 ·refine(I.aq b ob e).eK (λc w' hc q=>(hs.2 c ?_).trans q) (λ_ q=>q) (λ_ _ q=>q) λ_ _ q=>q
  rintro rfl
  rcases hc with rfl | hc
  ·rw[I.free]at e;cases e
  ·rw[I.free]at hc;cases hc
end
end L2
namespace L2
open PySem PySem.W PySem.Spec PySem.Calls PyProof.Rows
section
variable{prog:Program}{w:World}{A:Around}{E:Value->Shared->Prop}{s:Shared}{K:Frag}{x D:Addr}{ox:Obj}{jw:Option Obj}
theorem PY{tk:Tok}{Q:Fin->Shared->Prop}(X:K.In s.heap)(I:PySem.W.InstAt s.heap x ox D jw)(hf:findObj K D jw "__class__"=some (.bind (.builtin "getset_descriptor.__get__") (.builtin "object.__class__")))(hm:mroIn K D (.type "object")=some true)
  (hq:Q (.done (.ret (.ref D))) s):wpAny (model prog w) A (Builtin.«object.__getattribute__» ⟨[.ref x,.str "__class__" tk],[]⟩) Q E s:=by
 have cg:=λ(R:Result->Shared->Prop) (hR:R (.ok (.ret (.ref D))) s) (A:Around)=>PySem.W.class_get (prog:=prog) (w:=w) (A:=A) (R:=R) (tp:=.ref D) X I hm hR
 obtain⟨hh,g,d,t,os⟩:=s
 have L0:=I.type (M:=model prog w)
 have L1:=looks_find (M:=model prog w) X I hf
 unfold Builtin.«object.__getattribute__»
 repeat (any_goals (first | assumption | refine wpAny_bind (L0.at ?_) | refine wpAny_bind (L1.at ?_) | wp_step))
 exact cg _ (wpAny_pure hq) _
theorem PZ{M:Model}{Gs:Value}{Q:Unit->Shared->Prop}(X:K.In s.heap)(I:PySem.W.InstAt s.heap x ox D jw)(hb:mroIn K D (.type "BaseException")=some true)(hq:Q () s) :
  wpAny M A (checkBuiltinCall "BaseException.__getattribute__" ⟨[.ref x,Gs],[]⟩) Q E s:=by
 obtain⟨hh,g,d,t,os⟩:=s
 have L0:=I.type (M:=M)
 have L1:=looks_mroIn (M:=M) X hb
 have hk:builtinKind "BaseException.__getattribute__"=some .slot:=by decide +kernel
 have P0:splitId "BaseException.__getattribute__"=some ("BaseException","__getattribute__"):=by decide +kernel
 have ha:=F.args_bexc_ga (.ref x) Gs
 simp only[checkBuiltinCall,hk,P0]
 refine wpAny_bind ?_
 ·unfold isInstance
  repeat (first | refine wpAny_bind (L0.at ?_) | refine wpAny_bind (L1.at ?_) | refine L1.at ?_ | wp_step)
  exact hq
theorem P1{tk:Tok}{R:Result->Shared->Prop}(X:K.In s.heap)(I:PySem.W.InstAt s.heap x ox D jw)(hf:findObj K D jw "__class__"=some (.bind (.builtin "getset_descriptor.__get__") (.builtin "object.__class__")))(hm:mroIn K D (.type "object")=some true)(hb:mroIn K D (.type "BaseException")=some true)
  (hq:R (.ok (.ret (.ref D))) s):codeAny (model prog w) A (.call (.builtin "BaseException.__getattribute__") ⟨[.ref x,.str "__class__" tk],[]⟩) R s :=
 codeAny_call_builtin (by decide +kernel) F.entry_bexc_ga (PZ X I hb (PY X I hf hm hq))
end
end L2
namespace L2
open PySem PySem.W PySem.Spec PySem.Calls PyProof.Rows
section
variable{prog:Program}{w:World}{A:Around}{E:Value->Shared->Prop}{s:Shared}{K:Frag}{x D:Addr}{ox:Obj}{jw:Option Obj}
theorem P2{Q:Option Value->Shared->Prop}(X:K.In s.heap)(I:PySem.W.InstAt s.heap x ox D jw)(P4:findIn K (.ref D) "__getattribute__"=some (some (.builtin "BaseException.__getattribute__")))(P5:findIn K (.ref D) "__getattr__"=some none)
  (hf:findObj K D jw "__class__"=some (.bind (.builtin "getset_descriptor.__get__") (.builtin "object.__class__"))) (hm:mroIn K D (.type "object")=some true) (hb:mroIn K D (.type "BaseException")=some true)
  (h:Q (some (.ref D)) { s with toks:=s.toks+1 }):wpAny (model prog w) A (getAttr? (.ref x) "__class__") Q E s:=by
 have xc:=λ(R:Result->Shared->Prop) (tk:Tok) (hR:R (.ok (.ret (.ref D))) { s with toks:=s.toks+1 }) (A:Around)=>P1 (prog:=prog) (w:=w) (A:=A) (R:=R) (tk:=tk) (s:={ s with toks:=s.toks+1 }) X I hf hm hb hR
 obtain⟨hh,g,d,t,os⟩:=s
 have L0:=I.type (M:=model prog w)
 have L1:=looks_findIn (M:=model prog w) X P4
 have L2:=looks_findIn (M:=model prog w) X P5
 have f3:=(F.excAttr_ValueError).ga.bind (.ref x)
 have dr:(xh "BaseException.__getattribute__"==xh "object.__getattribute__")=false:=by decide +kernel
 have cF:(onTheHeap (bb D)&&xh "BaseException.__getattribute__"==xh "object.__getattribute__")=false:=by rw[dr];rfl
 unfold getAttr? getAttrBy? getAttrBy
 refine wpAny_bind (wpAny_mkText (wpAny_bind (wpAny_attempt (wpAny_holding (wpAny_bind (L0.at (wpAny_bind (L1.at ?_))))))))
 dsimp only
 rw[cF]
 simp only[jg,if_false]
 unfold getAttrByItsOwn
 repeat (any_goals (first | assumption | refine wpAny_bind (L0.at ?_) | refine wpAny_bind (L2.at ?_) | wp_step))
 refine xc _ t ?_ _
 show wpAny _ _ (handedOut (.ref D)) _ _ _
 exact handed_on rfl (wpAny_pure h)
structure oa(K:Frag)(C:Addr):Prop where
 cls:(clsIn K C).isSome=true
 ga:findIn K (.ref C) "__getattribute__"=some (some (.builtin "BaseException.__getattribute__"))
 gt:findIn K (.ref C) "__getattr__"=some none
 ca:findIn K (.ref C) "__class__"=some (some (.builtin "object.__class__"))
 hn:specialIn K (.builtin "object.__class__") "__get__"=some (some (.builtin "getset_descriptor.__get__"))
 tk:takesIn K (.builtin "object.__class__")=some true
 mo:mroIn K C (.type "object")=some true
 mb:mroIn K C (.type "BaseException")=some true
noncomputable def gK(a C:Addr)(h:Heap):Prop:=∃o,h.get? a=some o/\o.cls=.ref C/\notCls o=true/\o.dict=none
theorem P6{K:Frag}{C:Addr}{name:Str}{a g:Value}(hc:(clsIn K C).isSome=true)(ha:findIn K (.ref C) name=some (some a))(hg:specialIn K a "__get__"=some (some g))(ht:takesIn K a=some true):findObj K C none name=some (.bind g a):=by
 obtain⟨cd,hc⟩:=tX.mp hc
 unfold findObj
 rw[hc,LR,ha,LR]
 simp[hg,ht]
theorem Gu{a C:Addr}{h:Heap}(p:gK a C h):∃ox,PySem.W.InstAt h a ox C none:=by
 obtain⟨o,h1,h2,h3,h4⟩:=p
 exact⟨o,h1,h2,h3,by rw[h4];trivial⟩
theorem P7{a C:Addr}(c:oa K C):KitX K (.ref a) (.ref C) (gK a C) where
 ty:=λ_ _ _ p=>let⟨_,I⟩:=Gu p;I.type
 it:=λ_ _ X _=>by
  obtain⟨P8,iq⟩:=tX.mp c.cls
  unfold clsIn at iq
  split at iq
  ·rename_i c' d' P9 kF ho
   intro A' Q' E' s' k q
   unfold isType loadHead
   exact wpAny_bind (wpAny_loadPart (k _ _ (X _ _ ho)) (wpAny_pure q))
  ·cases iq
 ne:=λh tp dd its n sl X Qa=>by
  obtain⟨P8,iq⟩:=tX.mp c.cls
  refine Bool.eq_false_iff.mpr λq=>?_
  have e:C=tp:=Value.ref.inj (beq_iff_eq.mp q)
  subst e
  unfold clsIn at iq
  split at iq
  ·rename_i c' d' P9 kF ho
   have z:=(X _ _ ho).symm.trans Qa
   cases z
  ·cases iq
 ca:=λX p k=>let⟨_,I⟩:=Gu p;P2 X I c.ga c.gt (P6 c.cls c.ca c.hn c.tk) c.mo c.mb k
end
end L2
namespace L2
open PySem PySem.Spec PyProof.Rows
section
variable{X:Cx}{pins:List (Addr × Obj)}{σ:St}{H:Hp}{s:Shared}{h':Heap}{its:List Addr}{T:Addr}{o:HO}{t':Nat}
theorem Inv.Gv(I:Inv X pins σ H s)(k:∀b o,b ∉ its->s.heap.get? b=some o->h'.get? b=some o)(hf:∀b∈its,gk X pins H b):Inv X pins σ H { s with heap:=h',toks:=t' }:=by
 have jk:∀b u,H b=some u->b ∉ its:=λb u e z=>by have:=(hf b z).1;rw[this]at e;cases e
 refine I.step (g':=s.gens) (d':=s.drawn) (ch:=its) (λb hb=>?_) (λb o _ _ hc e _=>k b o hc e) (λb o _ _ hc e _=>⟨o.slots,k b o hc e⟩) (λ_ _ _ _ n=>n)
  (λb o hc e=>⟨o,k b o hc e⟩) (λ_ _ e=>e) (λ_ _ _ e=>e) (λb ps e=>⟨#[],by rw[e];simp⟩) (λm hm=>?_) (λb u e=>?_) I.bare
 ·obtain⟨_,h1,_,h2,h3,h4⟩:=hf b hb
  exact⟨h2,h1,h3,h4⟩
 ·obtain⟨o,es,ep,ho,r⟩:=hm
  exact⟨o,es,ep,k _ o (λz=>(hf _ z).2.1 rfl) ho,r⟩
 ·refine(I.aq b u e).eK (λc v hc q=>k c v ?_ q) (λ_ q=>q) (λ_ _ q=>q) λ_ _ q=>q
  rcases hc with z | z
  ·rw[z];exact jk b u e
  ·exact jk c _ z
theorem Inv.Qb(I:Inv X pins σ H s)(k:∀b o,b ∉ its->s.heap.get? b=some o->h'.get? b=some o)(hf:∀b∈its,gk X pins H b)(hT:s.heap.objs.size<=T)(new:cx X.prog X.w (upd H T o) h' T o) :
  Inv X pins σ (upd H T o) { s with heap:=h',toks:=t' }:=by
 have jk:∀b u,H b=some u->b ∉ its:=λb u e z=>by have:=(hf b z).1;rw[this]at e;cases e
 have fT:H T=none:=I.aq.fresh hT
 have neT:∀b u,H b=some u->b≠T:=λb u e z=>by rw[z,fT]at e;cases e
 have Qc:∀b u,s.heap.get? b=some u->b≠T:=λb u e z=>absurd (bQ (aW e) hT) (by rw[z];exact fC _)
 refine I.step (g':=s.gens) (d':=s.drawn) (ch:=its) (λb hb=>?_) (λb o _ _ hc e _=>k b o hc e) (λb o _ _ hc e _=>⟨o.slots,k b o hc e⟩) (λb u _ e n=>by rw[az (Qc b u e)];exact n)
  (λb o hc e=>⟨o,k b o hc e⟩) (λb _ e=>by rw[az (neT b _ e)];exact e) (λb _ _ e=>by rw[az (neT b _ e)];exact e) (λb ps e=>⟨#[],by rw[az (neT b _ e),e];simp⟩) (λm hm=>?_) (λb u e=>?_) I.bare
 ·obtain⟨_,h1,_,h2,h3,h4⟩:=hf b hb
  exact⟨h2,h1,h3,h4⟩
 ·obtain⟨o,es,ep,ho,r⟩:=hm
  exact⟨o,es,ep,k _ o (λz=>(hf _ z).2.1 rfl) ho,r⟩
 ·by_cases hb:b=T
  ·subst hb;rw[bj]at e;cases e;exact new
  ·rw[az hb]at e
   refine(I.aq b u e).eK (λc v hc q=>k c v ?_ q) (λc q=>by rw[az (neT c _ q)];exact q) (λc _ q=>by rw[az (neT c _ q)];exact q) λc _ q=>by rw[az (neT c _ q)];exact q
   rcases hc with z | z
   ·rw[z];exact jk b u e
   ·exact jk c _ z
noncomputable def yx(K:PySem.W.Frag)(a:Addr):It :=
 ⟨λi H=>∃xs x,bJ K H a xs/\xs[i]?=some x,
  λi H v H'=>∃T x,v=.ref T/\H T=none/\H'=upd H T (.tup [.int i,x])/\∀xs,bJ K H a xs->xs[i]?=some x,
  λi H=>∃xs,bJ K H a xs/\xs.length<=i⟩
theorem Qe{P:Program}{w:World}{K:PySem.W.Frag}{elts:List Expr}{k:Nat}{pos:Pos}(a z it:Addr)(fH:z≠it) :
  Turn P w K (.Tuple elts k pos) (yx K a) [z,it] z (λi h=>(∃old,IsEnum h z it i old)/\h.IsListIter it a i):=by
 refine⟨by simp,λi h st c hc=>?_,λi h h' st kk=>?_,?_,?_,λ_ _ _ _ _ st h=>by obtain⟨⟨old,e⟩,_⟩:=st;exact wpAny_pyIter_enum e h⟩
 ·obtain⟨⟨old,hz⟩,⟨o1,e1,c1,d1⟩⟩:=st
  simp only[cI,qT,or_false]at hc
  rcases hc with rfl | rfl
  ·exact⟨_,hz,λv q=>by cases q⟩
  ·exact⟨_,e1,λv q=>by rw[d1]at q;cases q⟩
 ·obtain⟨⟨old,hz⟩,h1⟩:=st
  exact⟨⟨old,kk _ (by simp) _ hz⟩,h1.at λo e=>kk _ (by simp) o e⟩
 ·intro X hP hw hK hc i pins s σ H E I hf st hg
  subst hP hw hK
  obtain⟨xs,x,hx,ex⟩:=hg
  obtain⟨⟨old,hz⟩,h1⟩:=st
  obtain⟨as,ra,pa,_⟩:=I.list hx
  obtain⟨ux,Qf,rx⟩:=ra.get ex
  refine wpAny_pyNext_enum_item hz h1 pa.isList (x:=ux) (by simpa using Qf) fH λh' z' gJ T' sz kk=>?_
  have fT:H s.heap.objs.size=none:=I.aq.fresh (bH _)
  have I1:Inv X pins σ (upd H s.heap.objs.size (.tup [.int i,x])) { s with heap:=h',toks:=s.toks+1 }:=I.Qb (its:=[z,it]) (λc o hc e=>kk c o (λq=>hc (by simp[q])) (λq=>hc (by simp[q])) e)
   (λc hc=>hf c hc) (bH _) ⟨by show 2<=sizeLine;decide,[.int i s.toks,ux],.cons ⟨_,rfl⟩ (.cons rx .nil),⟨_,T',rfl,_,rfl⟩⟩
  have nT:∀c∈[z,it],c≠s.heap.objs.size:=λc hc q=>by
   have:∃o,s.heap.get? c=some o:=by
    simp only[cI,qT,or_false]at hc
    rcases hc with rfl | rfl
    ·exact⟨_,hz⟩
    ·obtain⟨o,e,_⟩:=h1;exact⟨o,e⟩
   obtain⟨o,e⟩:=this
   exact absurd (aW e) (by rw[q];exact fC _)
  refine⟨_,rfl,wpAny_letOwnedTupleGo_enum z' λQg Qh sb=>?_⟩
  have Qi:∀c∈[z],gk X pins (upd H s.heap.objs.size (.tup [.int i,x])) c:=λc hc=>by
   have e:c=z:=by simpa using hc
   subst e
   obtain⟨f0,fr⟩:=hf c (by simp)
   exact⟨by rw[az (nT c (by simp))];exact f0,fr⟩
  have I2:=Inv.Gv (h':=Qg) (its:=[z]) (t':=s.toks+1) I1 (λc o hc e=>sb.extBut _ _ (λq=>hc (by simp[q])) e) Qi
  refine⟨.ref s.heap.objs.size,_,I2,rfl,⟨_,x,rfl,fT,rfl,λxs' cW=>by rw[I.EJ cW hx];exact ex⟩,⟨⟨ux,by simpa using Qh⟩,gJ.extBut sb.extBut (dD fH)⟩,λc hc=>?_⟩
  rw[az (nT c hc)]
  exact(hf c hc).1
 ·intro X hP hw hK hc i pins s σ H E I hf st hg
  subst hP hw hK
  obtain⟨xs,hx,hl⟩:=hg
  obtain⟨⟨old,hz⟩,h1⟩:=st
  obtain⟨as,ra,pa,_⟩:=I.list hx
  have la:=ra.length
  refine wpAny_pyNext_enum_end (I.ok.hd hc) hz h1 pa.isList (by simp;omega) λh' kk=>⟨rfl,?_⟩
  exact I.Gv (its:=[it]) (t':=s.toks) (λc o hc e=>kk c o (λq=>hc (by simp[q])) e) (λc hc=>hf c (by simp at hc ⊢;simp[hc]))
end
section
variable{X:Cx}{a b:Expr}{ta:TA}{p pos kN:Pos}{elts:List Expr}{x1:Nat}
noncomputable def Qj(K:PySem.W.Frag)(ta:TA):TI:=λσ H R=>ta σ H λvs H1=>∃a,vs=[.ref a]/\(∃xs,bJ K H1 a xs)/\R (yx K a) H1
theorem Qk:bootBuiltins "enumerate"=some (.type "enumerate"):=by decide +kernel
theorem Ql(hg:Gl X "enumerate")(hm:X.mg "enumerate"=none)(ha:PA X [a] ta)(hs:starEach [a] X.env=[(false,eval a X.env)]:=by rfl) :
  PI X (.Tuple elts x1 kN) (.Call (.Name "enumerate" p) [a] [] pos) (Qj X.K ta):=by
 intro pins s σ H R I h
 refine Call_ (nO I hg hm Qk (wX (aw (ha pos pins s σ H _ I h) λus s1 ⟨vs,H1,I1,r1,q1⟩=>?_) hs rfl))
 obtain⟨a,e,⟨xs,hx⟩,q⟩:=q1
 subst e
 cases r1 with
 | cons r rr =>
  cases rr
  cases r
  obtain⟨as,ra,pa,_⟩:=I1.list hx
  refine call_enumerate_list pa.isList λh' hz h1 sz kk=>wpAny_pyIter_enum hz ?_
  refine⟨_,[s1.heap.objs.size+1,s1.heap.objs.size],_,_,H1,rfl,I1.kept (t':=s1.toks) kk,Qe a (s1.heap.objs.size+1) s1.heap.objs.size (Nat.succ_ne_self _),⟨⟨_,hz⟩,h1⟩,λc hc=>?_,q⟩
  have hle:s1.heap.objs.size<=c:=by
   simp only[cI,qT,or_false]at hc
   rcases hc with rfl | rfl<;>omega
  exact I1.xM hle (I1.aq.fresh hle)
end
end L2
namespace L2
open PySem PySem.Spec PyProof.Rows PySem.W PySem.Calls
section
variable{X:Cx}
end
end L2
namespace L3
open PySem L2
noncomputable def eU:HO->Bool
 | .bS _=>false
 | _=>true
structure aa(H H':Hp):Prop where
 get:∀b o,H b=some o->(h:eU o=true:=by rfl)->H' b=some o
 tb:∀b ps,H b=some (.bS ps)->∃more,H' b=some (.bS (ps++more))
noncomputable instance {H H':Hp}:CoeFun (aa H H') λ_=>∀b o,H b=some o->(h:eU o=true:=by rfl)->H' b=some o:=⟨λs=>@aa.get _ _ s⟩
theorem yy{o:HO}(h:eU o=false):∃ps,o=.bS ps:=by
 cases o with
 | bS ps=>exact⟨ps,rfl⟩
 | _=>cases h
theorem aa.of{H H':Hp}(h:∀b o,H b=some o->H' b=some o):aa H H':=⟨λb o e _=>h b o e,λb ps e=>⟨#[],by rw[h b _ e];simp⟩⟩
theorem aa.refl(H:Hp):aa H H:=.of λ_ _ h=>h
theorem aa.trans{H H1 H2:Hp}(a:aa H H1)(b:aa H1 H2):aa H H2 :=
 ⟨λc o h n=>b.get c o (a.get c o h n) n,λc ps h=>by
  obtain⟨m1,e1⟩:=a.tb c ps h
  obtain⟨m2,e2⟩:=b.tb c _ e1
  exact⟨m1++m2,by rw[e2,qQ]⟩⟩
theorem aa.any{H H':Hp}(e:aa H H'){l:Addr}{o:HO}(h:H l=some o):∃o',H' l=some o':=by
 cases n:eU o with
 | true=>exact⟨o,e.get l o h n⟩
 | false =>
  obtain⟨ps,rfl⟩:=yy n
  obtain⟨m,q⟩:=e.tb l ps h
  exact⟨_,q⟩
theorem aa.free{H H':Hp}(e:aa H H'){l:Addr}(h:H' l=w5):H l=w5:=by
 cases q:H l with
 | none=>rfl
 | some o =>
  obtain⟨o',z⟩:=e.any q
  rw[z]at h
  cases h
theorem aa.seq{K:PySem.W.Frag}{H H':Hp}{a:Addr}{xs:List V}(e:aa H H')(h:bJ K H a xs):bJ K H' a xs:=by
 rcases h with (h | ⟨o,h⟩) | h
 ·exact .inl (.inl (e _ _ h))
 ·exact .inl (.inr ⟨o,e _ _ h⟩)
 ·exact .inr h
inductive og where
 | ext (φ:Addr->Heap->Prop)
 | lam (of oc:Obj) (c k:Addr)
noncomputable instance:Coe (Addr->Heap->Prop) og:=⟨.ext⟩
noncomputable def yz(H:Hp)(k:Addr):Prop:=∃ψ,H k=some (.ext ψ)/\∀h,ψ h->∃q,h.CodeRec (.ref k) q
noncomputable def fv(of oc:Obj)(c p:Addr):Heap->Prop:=λh=>h.get? p=some of/\h.get? c=some oc
structure eC(H:Hp)(p:Addr)(of oc:Obj)(c k:Addr):Prop where
 fn:H p=some (.ext (fv of oc c p))
 cell:H c=some (.own p)
 yA:yz H k
noncomputable def jx(H:Hp)(p:Addr):og->Prop
 | .ext φ=>H p=some (.ext (φ p))
 | .lam of oc c k=>eC H p of oc c k
theorem jx.mono{H H':Hp}{p:Addr}:∀{z:og},jx H p z->(∀a o,H a=some o->(∀ws,o≠.lst ws)->eU o=true->H' a=some o)->jx H' p z
 | .ext φ,x,k=>k _ _ x (λws q=>by cases q) rfl
 | .lam of oc c k',x,k=>⟨k _ _ x.fn (λws q=>by cases q) rfl,k _ _ x.cell (λws q=>by cases q) rfl,let⟨ψ,e,h⟩:=x.yA;⟨ψ,k _ _ e (λws q=>by cases q) rfl,h⟩⟩
inductive D where
 | ai | bl (b:Bool) | int (i:Int) | str (x:Str)
 | lst (o:Bool) (xs:List D)
 | tup (xs:List D)
 | obj (C:Addr) (ns:List Str) (xs:List D)
 | fz (xs:List D)
 | aL (z:og)
 deriving Inhabited
noncomputable def D.pl:D->Bool
 | .lst o xs=>!o&&r9 xs
 | .tup xs=>r9 xs
 | _=>true
where r9:List D->Bool
 | []=>true
 | d::ds=>d.pl&&r9 ds
noncomputable def D.fr:D->Bool
 | .lst o xs=>o&&se xs
 | .tup xs=>se xs
 | .obj _ _ _=>false
 | .fz _=>false
 | _=>true
where se:List D->Bool
 | []=>true
 | d::ds=>d.fr&&se ds
noncomputable def D.sh:D->D
 | .lst _ xs=>.lst false (sg xs)
 | .tup xs=>.tup (sg xs)
 | d=>d
where sg:List D->List D
 | []=>[]
 | d::ds=>d.sh::sg ds
theorem Gw(ds:List D):D.pl.r9 ds=ds.all D.pl:=by induction ds with | nil=>rfl | cons d ds ih=>simp[D.pl.r9,ih]
theorem Gx(ds:List D):D.fr.se ds=ds.all D.fr:=by induction ds with | nil=>rfl | cons d ds ih=>simp[D.fr.se,ih]
theorem Gy(ds:List D):D.sh.sg ds=ds.map D.sh:=by induction ds with | nil=>rfl | cons d ds ih=>simp[D.sh.sg,ih]
theorem fI(o:Bool)(xs:List D):(D.lst o xs).pl=(!o&&xs.all D.pl):=by simp[D.pl,Gw]
theorem gL(xs:List D):(D.tup xs).pl=xs.all D.pl:=by simp[D.pl,Gw]
theorem fw(o:Bool)(xs:List D):(D.lst o xs).fr=(o&&xs.all D.fr):=by simp[D.fr,Gx]
theorem jy(xs:List D):(D.tup xs).fr=xs.all D.fr:=by simp[D.fr,Gx]
theorem eD(o:Bool)(xs:List D):(D.lst o xs).sh=.lst false (xs.map D.sh):=by simp[D.sh,Gy]
theorem gM(xs:List D):(D.tup xs).sh=.tup (xs.map D.sh):=by simp[D.sh,Gy]
inductive R(F H:Hp):List D->List V->List Addr->Prop
 | nil:R F H [] [] []
 | ai {ds vs B}:R F H ds vs B->R F H (.ai::ds) (.ai::vs) B
 | bl {b ds vs B}:R F H ds vs B->R F H (.bl b::ds) (.bl b::vs) B
 | int {i ds vs B}:R F H ds vs B->R F H (.int i::ds) (.int i::vs) B
 | str {x ds vs B}:R F H ds vs B->R F H (.str x::ds) (.str x::vs) B
 | shr {p ws xs ds vs B}:F p=some (.lst ws)->R F H xs ws []->R F H ds vs B->R F H (.lst false xs::ds) (.ref p::vs) B
 | own {p ws xs A ds vs B}:H p=some (.lst ws)->F p=none->R F H xs ws A->R F H ds vs B->R F H (.lst true xs::ds) (.ref p::vs) (p::(A++B))
 | tup {p ws xs A ds vs B}:H p=some (.tup ws)->R F H xs ws A->R F H ds vs B->R F H (.tup xs::ds) (.ref p::vs) (A++B)
 | obj {p C dx ns ws xs ds vs B}:H p=some (.ins C dx (ns.zip ws))->ns.length=ws.length->R F H xs ws []->R F H ds vs B->R F H (.obj C ns xs::ds) (.ref p::vs) B
 | fz {p o ws xs ds vs B}:F p=some (.bt o (.lst ws))->R F H xs ws []->R F H ds vs B->R F H (.fz xs::ds) (.ref p::vs) B
 | aL {p z ds vs B}:jx H p z->R F H ds vs B->R F H (.aL z::ds) (.ref p::vs) B
inductive S(F H:Hp):List D->List V->Prop
 | nil:S F H [] []
 | ai {ds vs}:S F H ds vs->S F H (.ai::ds) (.ai::vs)
 | bl {b ds vs}:S F H ds vs->S F H (.bl b::ds) (.bl b::vs)
 | int {i ds vs}:S F H ds vs->S F H (.int i::ds) (.int i::vs)
 | str {x ds vs}:S F H ds vs->S F H (.str x::ds) (.str x::vs)
 | shr {p ws xs ds vs}:F p=some (.lst ws)->R F H xs ws []->S F H ds vs->S F H (.lst false xs::ds) (.ref p::vs)
 | own {p ws xs ds vs}:H p=some (.lst ws)->S F H xs ws->S F H ds vs->S F H (.lst true xs::ds) (.ref p::vs)
 | tup {p ws xs ds vs}:H p=some (.tup ws)->S F H xs ws->S F H ds vs->S F H (.tup xs::ds) (.ref p::vs)
 | obj {p C dx ns ws xs ds vs}:H p=some (.ins C dx (ns.zip ws))->ns.length=ws.length->R F H xs ws []->S F H ds vs->S F H (.obj C ns xs::ds) (.ref p::vs)
 | fz {p o ws xs ds vs}:F p=some (.bt o (.lst ws))->R F H xs ws []->S F H ds vs->S F H (.fz xs::ds) (.ref p::vs)
 | aL {p z ds vs}:jx H p z->S F H ds vs->S F H (.aL z::ds) (.ref p::vs)
section
variable{F F' H H':Hp}{d:D}{ds es:List D}{v:V}{vs ws:List V}{A B:List Addr}
theorem R.length(r:R F H ds vs A):ds.length=vs.length:=by
 induction r<;>simp_all
theorem S.length(r:S F H ds vs):ds.length=vs.length:=by
 induction r<;>simp_all
theorem R.cons(r:R F H [d] [v] A)(q:R F H ds vs B):R F H (d::ds) (v::vs) (A++B):=by
 cases r with
 | ai r=>cases r;exact .ai q
 | bl r=>cases r;exact .bl q
 | int r=>cases r;exact .int q
 | str r=>cases r;exact .str q
 | shr h x r=>cases r;exact .shr h x q
 | own h f x r=>cases r;simpa using R.own h f x q
 | tup h x r=>cases r;simpa using R.tup h x q
 | obj h l x r=>cases r;exact .obj h l x q
 | fz h x r=>cases r;exact .fz h x q
 | aL h r=>cases r;exact .aL h q
theorem R.cq(r:R F H (d::ds) vs A):∃v bN A1 A2,vs=v::bN/\A=A1++A2/\R F H [d] [v] A1/\R F H ds bN A2:=by
 cases r with
 | ai r=>exact⟨_,_,[],_,rfl,rfl,.ai .nil,r⟩
 | bl r=>exact⟨_,_,[],_,rfl,rfl,.bl .nil,r⟩
 | int r=>exact⟨_,_,[],_,rfl,rfl,.int .nil,r⟩
 | str r=>exact⟨_,_,[],_,rfl,rfl,.str .nil,r⟩
 | shr h x r=>exact⟨_,_,[],_,rfl,rfl,.shr h x .nil,r⟩
 | @own p _ _ A1 _ _ B1 h f x r=>exact⟨_,_,p::A1,B1,rfl,rfl,by simpa using R.own h f x .nil,r⟩
 | @tup p _ _ A1 _ _ B1 h x r=>exact⟨_,_,A1,B1,rfl,rfl,by simpa using R.tup h x .nil,r⟩
 | obj h l x r=>exact⟨_,_,[],_,rfl,rfl,.obj h l x .nil,r⟩
 | fz h x r=>exact⟨_,_,[],_,rfl,rfl,.fz h x .nil,r⟩
 | aL h r=>exact⟨_,_,[],_,rfl,rfl,.aL h .nil,r⟩
theorem S.cons(r:S F H [d] [v])(q:S F H ds vs):S F H (d::ds) (v::vs):=by
 cases r with
 | ai r=>exact .ai q
 | bl r=>exact .bl q
 | int r=>exact .int q
 | str r=>exact .str q
 | shr h x r=>exact .shr h x q
 | own h x r=>exact .own h x q
 | tup h x r=>exact .tup h x q
 | obj h l x r=>exact .obj h l x q
 | fz h x r=>exact .fz h x q
 | aL h r=>exact .aL h q
theorem S.cq(r:S F H (d::ds) vs):∃v bN,vs=v::bN/\S F H [d] [v]/\S F H ds bN:=by
 cases r with
 | ai r=>exact⟨_,_,rfl,.ai .nil,r⟩
 | bl r=>exact⟨_,_,rfl,.bl .nil,r⟩
 | int r=>exact⟨_,_,rfl,.int .nil,r⟩
 | str r=>exact⟨_,_,rfl,.str .nil,r⟩
 | shr h x r=>exact⟨_,_,rfl,.shr h x .nil,r⟩
 | own h x r=>exact⟨_,_,rfl,.own h x .nil,r⟩
 | tup h x r=>exact⟨_,_,rfl,.tup h x .nil,r⟩
 | obj h l x r=>exact⟨_,_,rfl,.obj h l x .nil,r⟩
 | fz h x r=>exact⟨_,_,rfl,.fz h x .nil,r⟩
 | aL h r=>exact⟨_,_,rfl,.aL h .nil,r⟩
theorem R.append:∀{ds:List D} {vs:List V} {A:List Addr},R F H ds vs A->R F H es ws B->R F H (ds++es) (vs++ws) (A++B)
 | [],_,_,r,q=>by cases r;exact q
 | d::ds,_,_,r,q=>by
  obtain⟨v,bN,A1,A2,rfl,rfl,h1,h2⟩:=r.cq
  simpa using h1.cons (R.append h2 q)
theorem S.append:∀{ds:List D} {vs:List V},S F H ds vs->S F H es ws->S F H (ds++es) (vs++ws)
 | [],_,r,q=>by cases r;exact q
 | d::ds,_,r,q=>by
  obtain⟨v,bN,rfl,h1,h2⟩:=r.cq
  exact h1.cons (S.append h2 q)
theorem R.split:∀{ds:List D} {vs:List V} {A:List Addr},R F H (ds++es) vs A->∃v1 v2 A1 A2,vs=v1++v2/\A=A1++A2/\R F H ds v1 A1/\R F H es v2 A2
 | [],vs,A,r=>⟨[],vs,[],A,rfl,rfl,.nil,r⟩
 | d::ds,_,_,r=>by
  obtain⟨v,bN,A1,A2,rfl,rfl,h1,h2⟩:=R.cq (ds:=ds++es) r
  obtain⟨v1,v2,B1,B2,rfl,rfl,h3,h4⟩:=R.split (ds:=ds) h2
  exact⟨v::v1,v2,A1++B1,B2,rfl,by simp,h1.cons h3,h4⟩
theorem R.get:∀{ds:List D} {vs:List V} {A:List Addr} {i:Nat},R F H ds vs A->ds[i]?=some d->∃v A1,vs[i]?=some v/\R F H [d] [v] A1/\A1 ⊆ A
 | [],_,_,_,_,e=>by simp at e
 | d'::ds,_,_,i,r,e=>by
  obtain⟨v,bN,A1,A2,rfl,rfl,h1,h2⟩:=r.cq
  cases i with
  | zero=>simp at e;subst e;exact⟨v,A1,rfl,h1,by simp⟩
  | succ i =>
   obtain⟨w,B1,e2,q,sb⟩:=R.get (ds:=ds) (i:=i) h2 (by simpa using e)
   exact⟨w,B1,by simpa using e2,q,λx hx=>dm _ (sb hx)⟩
theorem S.get:∀{ds:List D} {vs:List V} {i:Nat},S F H ds vs->ds[i]?=some d->∃v,vs[i]?=some v/\S F H [d] [v]
 | [],_,_,_,e=>by simp at e
 | d'::ds,_,i,r,e=>by
  obtain⟨v,bN,rfl,h1,h2⟩:=r.cq
  cases i with
  | zero=>simp at e;subst e;exact⟨v,rfl,h1⟩
  | succ i =>
   obtain⟨w,e2,q⟩:=S.get (ds:=ds) (i:=i) h2 (by simpa using e)
   exact⟨w,by simpa using e2,q⟩
theorem S.get':∀{ds:List D} {vs:List V} {i:Nat},S F H ds vs->vs[i]?=some v->∃d,ds[i]?=some d/\S F H [d] [v]
 | [],_,_,r,e=>by cases r;simp at e
 | d'::ds,_,i,r,e=>by
  obtain⟨v,bN,rfl,h1,h2⟩:=r.cq
  cases i with
  | zero=>simp at e;subst e;exact⟨d',rfl,h1⟩
  | succ i =>
   obtain⟨w,e2,q⟩:=S.get' (ds:=ds) (i:=i) h2 (by simpa using e)
   exact⟨w,by simpa using e2,q⟩
theorem S.take:∀{ds:List D} {vs:List V} (n:Nat),S F H ds vs->S F H (ds.take n) (vs.take n)
 | _,_,0,r=>by simpa using S.nil
 | [],_,n+1,r=>by cases r;exact .nil
 | d::ds,_,n+1,r=>by
  obtain⟨v,bN,rfl,h1,h2⟩:=r.cq
  exact h1.cons (S.take n h2)
theorem S.drop:∀{ds:List D} {vs:List V} (n:Nat),S F H ds vs->S F H (ds.drop n) (vs.drop n)
 | _,_,0,r=>by simpa using r
 | [],_,n+1,r=>by cases r;exact .nil
 | d::ds,_,n+1,r=>by
  obtain⟨v,bN,rfl,h1,h2⟩:=r.cq
  exact S.drop n h2
theorem kU{p:Addr}{o:HO}(h:Rd F p o)(s:aa F F')(n:eU o=true:=by rfl):Rd F' p o:=by
 rcases h with h | ⟨u,h⟩
 ·exact .inl (s.get _ _ h n)
 ·exact .inr ⟨u,s _ _ h⟩
theorem R.s(r:R F H ds vs A):S F H ds vs:=by
 induction r with
 | nil=>exact .nil
 | ai _ ih=>exact .ai ih
 | bl _ ih=>exact .bl ih
 | int _ ih=>exact .int ih
 | str _ ih=>exact .str ih
 | shr h x _ _ ih=>exact .shr h x ih
 | own h f _ _ i1 i2=>exact .own h i1 i2
 | tup h _ _ i1 i2=>exact .tup h i1 i2
 | obj h l x _ _ ih=>exact .obj h l x ih
 | fz h x _ _ ih=>exact .fz h x ih
 | aL h _ ih=>exact .aL h ih
structure eV(W:List Addr)(H H':Hp):Prop where
 get:∀a o,H a=some o->a ∉ W->(h:eU o=true:=by rfl)->H' a=some o
noncomputable instance {W:List Addr} {H H':Hp}:CoeFun (eV W H H') λ_=>∀a o,H a=some o->a ∉ W->(h:eU o=true:=by rfl)->H' a=some o:=⟨λs=>@eV.get _ _ _ s⟩
noncomputable def fJ(W:List Addr)(H:Hp):Prop:=∀a∈W,∃ws,H a=some (.lst ws)
theorem R.keep{W:List Addr}(hf:aa F F')(hb:eV W H H')(hl:fJ W H)(r:R F H ds vs A)(hn:∀a∈A,F' a=none)(hd:∀a∈A,a ∉ W):R F' H' ds vs A:=by
 induction r with
 | nil=>exact .nil
 | ai _ ih=>exact .ai (ih hn hd)
 | bl _ ih=>exact .bl (ih hn hd)
 | int _ ih=>exact .int (ih hn hd)
 | str _ ih=>exact .str (ih hn hd)
 | shr h x _ i1 ih=>exact .shr (hf _ _ h) (i1 (by simp) (by simp)) (ih hn hd)
 | own h f _ _ i1 i2 =>
  refine .own (hb _ _ h (hd _ (by simp))) (hn _ (by simp)) (i1 (λa ha=>hn a ?_) λa ha=>hd a ?_) (i2 (λa ha=>hn a ?_) λa ha=>hd a ?_)<;>simp[ha]
 | @tup p ws _ _ _ _ _ h _ _ i1 i2 =>
  refine .tup (hb _ _ h λz=>?_) (i1 (λa ha=>hn a ?_) λa ha=>hd a ?_) (i2 (λa ha=>hn a ?_) λa ha=>hd a ?_)<;>try simp[ha]
  obtain⟨q,e⟩:=hl _ z
  rw[h]at e;cases e
 | obj h l x _ i1 ih =>
  refine .obj (hb _ _ h λz=>?_) l (i1 (by simp) (by simp)) (ih hn hd)
  obtain⟨q,e⟩:=hl _ z
  rw[h]at e;cases e
 | fz h x _ i1 ih=>exact .fz (hf _ _ h) (i1 (by simp) (by simp)) (ih hn hd)
 | aL h _ ih =>
  exact .aL (h.mono λa o e n t=>hb.get a o e (λz=>by
   obtain⟨q,e'⟩:=hl _ z
   rw[e]at e';cases e';exact n _ rfl) t) (ih hn hd)
theorem eV.same(h:aa H H'):eV [] H H':=⟨λa o e _ n=>h.get a o e n⟩
theorem fJ.nil:fJ [] H:=λa h=>absurd h (by simp)
theorem R.grow(hf:aa F F')(hb:aa H H')(r:R F H ds vs A)(hn:∀a∈A,F' a=none):R F' H' ds vs A :=
 r.keep hf (eV.same hb) fJ.nil hn (by simp)
theorem R.shared(hf:aa F F')(hb:aa H H')(r:R F H ds vs []):R F' H' ds vs []:=r.grow hf hb (by simp)
theorem S.mono(hf:aa F F')(hb:aa H H')(r:S F H ds vs):S F' H' ds vs:=by
 induction r with
 | nil=>exact .nil
 | ai _ ih=>exact .ai ih
 | bl _ ih=>exact .bl ih
 | int _ ih=>exact .int ih
 | str _ ih=>exact .str ih
 | shr h x _ ih=>exact .shr (hf _ _ h) (x.shared hf hb) ih
 | own h _ _ i1 i2=>exact .own (hb _ _ h) i1 i2
 | tup h _ _ i1 i2=>exact .tup (hb _ _ h) i1 i2
 | obj h l x _ ih=>exact .obj (hb _ _ h) l (x.shared hf hb) ih
 | fz h x _ ih=>exact .fz (hf _ _ h) (x.shared hf hb) ih
 | aL h _ ih=>exact .aL (h.mono λa o e _ t=>hb.get a o e t) ih
theorem S.r(s:S F H ds vs)(p:ds.all D.pl=true):R F H ds vs []:=by
 induction s with
 | nil=>exact .nil
 | ai _ ih=>exact .ai (ih (by simpa[D.pl]using p))
 | bl _ ih=>exact .bl (ih (by simpa[D.pl]using p))
 | int _ ih=>exact .int (ih (by simpa[D.pl]using p))
 | str _ ih=>exact .str (ih (by simpa[D.pl]using p))
 | shr h x _ ih=>exact .shr h x (ih (by simp[fI]at p;simpa using p.2))
 | own h _ _ i1 i2=>simp[fI]at p
 | tup h _ _ i1 i2 =>
  rw[de,gL,cC]at p
  simpa using R.tup h (i1 p.1) (i2 p.2)
 | obj h l x _ ih=>exact .obj h l x (ih (by simpa[D.pl]using p))
 | fz h x _ ih=>exact .fz h x (ih (by simpa[D.pl]using p))
 | aL h _ ih=>exact .aL h (ih (by simpa[D.pl]using p))
theorem R.pl(r:R F H ds vs []):ds.all D.pl=true:=by
 generalize e:([]:List Addr)=A at r
 induction r with
 | nil=>rfl
 | ai _ ih=>simp[D.pl];simpa using ih e
 | bl _ ih=>simp[D.pl];simpa using ih e
 | int _ ih=>simp[D.pl];simpa using ih e
 | str _ ih=>simp[D.pl];simpa using ih e
 | shr h x _ i1 ih=>simp only[de,fI,i1 rfl,ih e];rfl
 | own h f _ _ i1 i2=>cases e
 | tup h _ _ i1 i2 =>
  obtain⟨e1,e2⟩:=xi.mp e.symm
  simp only[de,gL,i1 e1.symm,i2 e2.symm];rfl
 | obj h l x _ i1 ih=>simp[D.pl];simpa using ih e
 | fz h x _ i1 ih=>simp[D.pl];simpa using ih e
 | aL h _ ih=>simp[D.pl];simpa using ih e
theorem D.uP:∀{d:D},d.pl=true->d.sh=d
 | .ai,_=>rfl
 | .bl _,_=>rfl
 | .int _,_=>rfl
 | .str _,_=>rfl
 | .obj _ _ _,_=>rfl
 | .fz _,_=>rfl
 | .aL _,_=>rfl
 | .lst o xs,h=>by
  rw[fI,cC]at h
  have:∀(l:List D),(∀x∈l,x∈xs)->l.all D.pl=true->l.map D.sh=l:=by
   intro l hl hp
   induction l with
   | nil=>rfl
   | cons x l ih =>
    simp only[de,cC]at hp
    have hx:x∈xs:=hl x (by simp)
    rw[cU,D.uP hp.1,ih (λy hy=>hl y (by simp[hy])) hp.2]
  rw[eD,this xs (λ_ h=>h) h.2]
  cases o<;>simp_all
 | .tup xs,h=>by
  rw[gL]at h
  have:∀(l:List D),(∀x∈l,x∈xs)->l.all D.pl=true->l.map D.sh=l:=by
   intro l hl hp
   induction l with
   | nil=>rfl
   | cons x l ih =>
    simp only[de,cC]at hp
    have hx:x∈xs:=hl x (by simp)
    rw[cU,D.uP hp.1,ih (λy hy=>hl y (by simp[hy])) hp.2]
  rw[gM,this xs (λ_ h=>h) h]
termination_by d=>sizeOf d
theorem iK{l:List D}(h:l.all D.pl=true):l.map D.sh=l:=by
 induction l with
 | nil=>rfl
 | cons x l ih =>
  simp only[de,cC]at h
  rw[cU,D.uP h.1,ih h.2]
theorem S.frozen(e:aa F H)(s:S F H ds vs):R H H (ds.map D.sh) vs []:=by
 induction s with
 | nil=>exact .nil
 | ai _ ih=>exact .ai ih
 | bl _ ih=>exact .bl ih
 | int _ ih=>exact .int ih
 | str _ ih=>exact .str ih
 | shr h x _ ih =>
  rw[cU,eD,iK x.pl]
  exact .shr (e _ _ h) (x.shared e (aa.refl _)) ih
 | own h _ _ i1 i2=>rw[cU,eD];exact .shr h i1 i2
 | tup h _ _ i1 i2=>rw[cU,gM];simpa using R.tup h i1 i2
 | obj h l x _ ih=>exact .obj h l (x.shared e (aa.refl _)) ih
 | fz h x _ ih=>exact .fz (e _ _ h) (x.shared e (aa.refl _)) ih
 | aL h _ ih=>exact .aL h ih
noncomputable def bt(F H:Hp)(A:List Addr):Hp:=λa=>if a∈A then H a else F a
theorem oh(e:aa F H):aa F (bt F H A):=⟨λa o h n=>by unfold bt;split;exact e.get _ _ h n;exact h,λa ps h=>by unfold bt;split;exact e.tb _ _ h;exact⟨#[],by rw[h];simp⟩⟩
theorem Qm(e:aa F H):aa (bt F H A) H:=⟨λa o h n=>by unfold bt at h;split at h;exact h;exact e.get _ _ h n,λa ps h=>by unfold bt at h;split at h;exact⟨#[],by rw[h];simp⟩;exact e.tb _ _ h⟩
theorem Gz{a:Addr}(h:a ∉ A):bt F H A a=F a:=by unfold bt;rw[if_neg h]
theorem Qn{a:Addr}(h:a∈A):bt F H A a=H a:=by unfold bt;rw[if_pos h]
theorem R.bt(e:aa F H)(r:R F H ds vs A):∀A',A ⊆ A'->R (L3.bt F H A') H (ds.map D.sh) vs []:=by
 induction r with
 | nil=>exact λ_ _=>.nil
 | ai _ ih=>exact λA' h=>.ai (ih A' h)
 | bl _ ih=>exact λA' h=>.bl (ih A' h)
 | int _ ih=>exact λA' h=>.int (ih A' h)
 | str _ ih=>exact λA' h=>.str (ih A' h)
 | shr h x _ i1 ih =>
  intro A' hA
  rw[cU,eD,iK x.pl]
  exact .shr (oh e _ _ h) (x.shared (oh e) (aa.refl _)) (ih A' hA)
 | own h f _ _ i1 i2 =>
  intro A' hA
  rw[cU,eD]
  exact .shr ((Qn (hA (by simp))).trans h) (i1 A' λa ha=>hA (by simp[ha])) (i2 A' λa ha=>hA (by simp[ha]))
 | tup h _ _ i1 i2 =>
  intro A' hA
  rw[cU,gM]
  simpa using R.tup h (i1 A' λa ha=>hA (by simp[ha])) (i2 A' λa ha=>hA (by simp[ha]))
 | obj h l x _ i1 ih=>exact λA' hA=>.obj h l (x.shared (oh e) (aa.refl _)) (ih A' hA)
 | fz h x _ i1 ih=>exact λA' hA=>.fz (oh e _ _ h) (x.shared (oh e) (aa.refl _)) (ih A' hA)
 | aL h _ ih=>exact λA' hA=>.aL h (ih A' hA)
theorem R.lists(r:R F H ds vs A):∀a∈A,(∃ws,H a=some (.lst ws))/\F a=none:=by
 induction r with
 | nil=>simp
 | ai _ ih=>exact ih
 | bl _ ih=>exact ih
 | int _ ih=>exact ih
 | str _ ih=>exact ih
 | shr h x _ i1 ih=>exact ih
 | own h f _ _ i1 i2 =>
  intro a ha
  rcases cI.mp ha with rfl | ha
  ·exact⟨⟨_,h⟩,f⟩
  ·exact(dW.mp ha).elim (i1 a) (i2 a)
 | tup h _ _ i1 i2=>exact λa ha=>(dW.mp ha).elim (i1 a) (i2 a)
 | obj h l x _ i1 ih=>exact ih
 | fz h x _ i1 ih=>exact ih
 | aL h _ ih=>exact ih
theorem R.uQ(r:R F H ds vs A)(hd:ds.all D.fr=true)(e:aa F' F):R F' H ds vs A:=by
 induction r with
 | nil=>exact .nil
 | ai _ ih=>exact .ai (ih (by simpa[D.fr]using hd))
 | bl _ ih=>exact .bl (ih (by simpa[D.fr]using hd))
 | int _ ih=>exact .int (ih (by simpa[D.fr]using hd))
 | str _ ih=>exact .str (ih (by simpa[D.fr]using hd))
 | shr h x _ i1 ih=>simp[fw]at hd
 | own h f _ _ i1 i2 =>
  rw[de,fw,cC,ie]at hd
  exact .own h (e.free f) (i1 hd.1) (i2 hd.2)
 | tup h _ _ i1 i2 =>
  rw[de,jy,cC]at hd
  exact .tup h (i1 hd.1) (i2 hd.2)
 | obj h l x _ i1 ih=>simp[D.fr]at hd
 | fz h x _ i1 ih=>simp[D.fr]at hd
 | aL h _ ih=>exact .aL h (ih (by simpa[D.fr]using hd))
theorem R.inj(r:R F H ds vs A):∀{B:List Addr},R F H ds vs B->A=B:=by
 induction r with
 | nil=>intro B q;cases q;rfl
 | ai _ ih=>intro B q;cases q with | ai q=>exact ih q
 | bl _ ih=>intro B q;cases q with | bl q=>exact ih q
 | int _ ih=>intro B q;cases q with | int q=>exact ih q
 | str _ ih=>intro B q;cases q with | str q=>exact ih q
 | shr h x _ i1 ih=>intro B q;cases q with | shr _ _ q=>exact ih q
 | own h f _ _ i1 i2 =>
  intro B q
  cases q with
  | own h' f' x' q =>
   rw[h]at h';cases h'
   rw[i1 x',i2 q]
 | tup h _ _ i1 i2 =>
  intro B q
  cases q with
  | tup h' x' q =>
   rw[h]at h';cases h'
   rw[i1 x',i2 q]
 | obj h l x _ i1 ih=>intro B q;cases q with | obj _ _ _ q=>exact ih q
 | fz h x _ i1 ih=>intro B q;cases q with | fz _ _ q=>exact ih q
 | aL h _ ih=>intro B q;cases q with | aL _ q=>exact ih q
theorem R.perm{ps qs:List (D × V)}(hp:ps.Perm qs):∀{A:List Addr},R F H (ps.map (·.1)) (ps.map (·.2)) A->∃A',R F H (qs.map (·.1)) (qs.map (·.2)) A'/\A.Perm A':=by
 induction hp with
 | nil=>exact λr=>⟨_,r,.refl _⟩
 | cons x _ ih =>
  intro A r
  obtain⟨v,bN,A1,A2,e,rfl,h1,h2⟩:=R.cq r
  obtain⟨rfl,rfl⟩:=nE e
  obtain⟨A',r',p⟩:=ih h2
  exact⟨A1++A',h1.cons r',p.append_left _⟩
 | swap x y l =>
  intro A r
  obtain⟨v,bN,A1,A2,e,rfl,h1,h2⟩:=R.cq r
  obtain⟨rfl,rfl⟩:=nE e
  obtain⟨v2,GA,B1,B2,e,rfl,h3,h4⟩:=R.cq h2
  obtain⟨rfl,rfl⟩:=nE e
  exact⟨B1++(A1++B2),h3.cons (h1.cons h4),by rw[<-da,<- da];exact ku.append_right _⟩
 | trans _ _ i1 i2 =>
  intro A r
  obtain⟨A',r',p⟩:=i1 r
  obtain⟨A2,r2,p2⟩:=i2 r'
  exact⟨A2,r2,p.trans p2⟩
noncomputable def Full(F H:Hp):Prop:=∀a o,H a=some o->(∀ws,o≠.lst ws)->F a=some o
theorem Full.refl(H:Hp):Full H H:=λ_ _ h _=>h
theorem R.full(hF:Full F H)(hs:aa F H')(r:R F H ds vs A)(e:A=[]):R F H' ds vs []:=by
 induction r with
 | nil=>exact .nil
 | ai _ ih=>exact .ai (ih e)
 | bl _ ih=>exact .bl (ih e)
 | int _ ih=>exact .int (ih e)
 | str _ ih=>exact .str (ih e)
 | shr h x _ i1 ih=>exact .shr h (i1 rfl) (ih e)
 | own h f _ _ i1 i2=>cases e
 | tup h _ _ i1 i2 =>
  obtain⟨e1,e2⟩:=xi.mp e
  exact R.tup (A:=[]) (B:=[]) (hs _ _ (hF _ _ h (by intro ws z;cases z))) (i1 e1) (i2 e2)
 | obj h l x _ i1 ih=>exact .obj (hs _ _ (hF _ _ h (by intro ws z;cases z))) l (i1 rfl) (ih e)
 | fz h x _ i1 ih=>exact .fz h (i1 rfl) (ih e)
 | aL h _ ih=>exact .aL (h.mono λa o e n t=>hs.get a o (hF a o e n) t) (ih e)
open Classical in
noncomputable def snap(F H:Hp):Hp:=λa=>if(∃o,H a=some o/\∀ws,o≠.lst ws)then H a else F a
theorem yB:Full (snap F H) H:=λa o h n=>by unfold snap;rw[if_pos ⟨o,h,n⟩];exact h
theorem si(e:aa F H):aa F (snap F H):=⟨λa o h n=>by
 unfold snap;split
 ·exact e.get a o h n
 ·exact h,λa ps h=>by
 unfold snap;split
 ·exact e.tb a ps h
 ·exact⟨#[],by rw[h];simp⟩⟩
theorem Qo(e:aa F H):aa (snap F H) H:=⟨λa o h n=>by
 unfold snap at h;split at h
 ·exact h
 ·exact e.get a o h n,λa ps h=>by
 unfold snap at h;split at h
 ·exact⟨#[],by rw[h];simp⟩
 ·exact e.tb a ps h⟩
theorem Qp(e:aa F H){a:Addr}{ws:List V}(h:snap F H a=some (.lst ws)):F a=some (.lst ws):=by
 unfold snap at h;split at h
 ·rename_i z
  obtain⟨o,h1,h2⟩:=z
  rw[h]at h1;exact absurd (cR h1).symm (h2 ws)
 ·exact h
theorem Qq{a:Addr}{ws:List V}(h:H a=some (.lst ws))(n:F a=none):snap F H a=none:=by
 unfold snap;split
 ·rename_i z
  obtain⟨o,h1,h2⟩:=z
  rw[h]at h1;exact absurd (cR h1).symm (h2 ws)
 ·exact n
end
end L3
namespace L3
open PySem L2
noncomputable abbrev Dl:=List (Option D)
inductive RS(F H:Hp):Dl->St->List Addr->Prop
 | nil:RS F H [] [] []
 | ai {δ σ o C}:RS F H δ σ C->RS F H (none::δ) (o::σ) C
 | dy {d v A δ σ C}:R F H [d] [v] A->RS F H δ σ C->RS F H (some d::δ) (some v::σ) (A++C)
theorem eW{A B:List Addr}:(A++B).Nodup↔A.Nodup/\B.Nodup/\∀a∈A,a ∉ B:=by
 rw[List.nodup_append]
 constructor
 ·rintro⟨h1,h2,h3⟩;exact⟨h1,h2,λa ha hb=>h3 a ha a hb rfl⟩
 ·rintro⟨h1,h2,h3⟩;exact⟨h1,h2,λa ha b hb e=>h3 a ha (e ▸ hb)⟩
section
variable{F F' H H':Hp}{d:D}{v:V}{δ:Dl}{σ:St}{A C:List Addr}{i:Nat}
theorem RS.length(r:RS F H δ σ C):δ.length=σ.length:=by induction r<;>simp_all
theorem RS.pick:∀{δ:Dl} {σ:St} {C:List Addr} {i:Nat},RS F H δ σ C->δ[i]?=some (some d)->∃v A C',σ[i]?=some (some v)/\R F H [d] [v] A/\RS F H (δ.set i none) σ C'/\C.Perm (A++C')
 | _,_,_,_,.nil,e=>by simp at e
 | _,_,_,i,.ai r,e=>by
  cases i with
  | zero=>simp at e
  | succ i =>
   obtain⟨v,A,C',e1,h1,h2,p⟩:=RS.pick r (by simpa using e)
   exact⟨v,A,C',by simpa using e1,h1,.ai h2,p⟩
 | _,_,_,i,.dy (A:=A0) (C:=C0) h r,e=>by
  cases i with
  | zero =>
   simp at e;subst e
   exact⟨_,A0,C0,rfl,h,.ai r,.refl _⟩
  | succ i =>
   obtain⟨v,A,C',e1,h1,h2,p⟩:=RS.pick r (by simpa using e)
   refine⟨v,A,A0++C',by simpa using e1,h1,.dy h h2,(p.append_left A0).trans ?_⟩
   rw[<-da,<- da]
   exact ku.append_right _
theorem RS.fill:∀{δ:Dl} {σ:St} {C:List Addr} {i:Nat},RS F H δ σ C->δ[i]?=some none->σ[i]?=some (some v)->R F H [d] [v] A->∃C',RS F H (δ.set i (some d)) σ C'/\C'.Perm (A++C)
 | _,_,_,_,.nil,e,_,_=>by simp at e
 | _,_,_,i,.ai r,e,e2,h=>by
  cases i with
  | zero=>simp at e2;subst e2;exact⟨_,.dy h r,.refl _⟩
  | succ i =>
   obtain⟨C',h1,p⟩:=RS.fill r (by simpa using e) (by simpa using e2) h
   exact⟨C',.ai h1,p⟩
 | _,_,_,i,.dy (A:=A0) (C:=C0) h0 r,e,e2,h=>by
  cases i with
  | zero=>simp at e
  | succ i =>
   obtain⟨C',h1,p⟩:=RS.fill r (by simpa using e) (by simpa using e2) h
   refine⟨A0++C',.dy h0 h1,(p.append_left A0).trans ?_⟩
   rw[<-da,<- da]
   exact ku.append_right _
theorem RS.drop:∀{δ:Dl} {σ:St} {C:List Addr} (i:Nat),RS F H δ σ C->∃C',RS F H (δ.set i none) σ C'/\C'.Sublist C
 | _,_,_,_,.nil=>⟨_,.nil,.refl _⟩
 | _,_,_,i,.ai r=>by
  cases i with
  | zero=>exact⟨_,.ai r,.refl _⟩
  | succ i=>obtain⟨C',h,s⟩:=RS.drop i r;exact⟨C',.ai h,s⟩
 | _,_,_,i,.dy (A:=A0) h0 r=>by
  cases i with
  | zero=>exact⟨_,.ai r,List.sublist_append_right _ _⟩
  | succ i=>obtain⟨C',h,s⟩:=RS.drop i r;exact⟨_,.dy h0 h,(Ej A0).append s⟩
theorem RS.oi:∀{δ:Dl} {σ:St} {C:List Addr} {i:Nat} (o:Option V),RS F H δ σ C->(δ[i]?=some none\/δ[i]?=none)->RS F H δ (σ.set i o) C
 | _,_,_,_,_,.nil,_=>.nil
 | _,_,_,i,_,.ai r,e=>by
  cases i with
  | zero=>exact .ai r
  | succ i=>exact .ai (RS.oi _ r (by simpa using e))
 | _,_,_,i,_,.dy h0 r,e=>by
  cases i with
  | zero=>simp at e
  | succ i=>exact .dy h0 (RS.oi _ r (by simpa using e))
theorem RS.keep{W:List Addr}(hf:aa F F')(hb:eV W H H')(hl:fJ W H)(r:RS F H δ σ C)(hn:∀a∈C,F' a=none)(hd:∀a∈C,a ∉ W):RS F' H' δ σ C:=by
 induction r with
 | nil=>exact .nil
 | ai _ ih=>exact .ai (ih hn hd)
 | dy h _ ih=>exact .dy (h.keep hf hb hl (λa ha=>hn a (by simp[ha])) λa ha=>hd a (by simp[ha])) (ih (λa ha=>hn a (by simp[ha])) λa ha=>hd a (by simp[ha]))
theorem RS.lists(r:RS F H δ σ C):∀a∈C,(∃ws,H a=some (.lst ws))/\F a=none:=by
 induction r with
 | nil=>simp
 | ai _ ih=>exact ih
 | dy h _ ih=>exact λa ha=>(dW.mp ha).elim (h.lists a) (ih a)
theorem RS.none_of:∀{δ:Dl} {σ:St} {C:List Addr} {aj:St},RS F H δ σ C->aj.length=σ.length->RS F H (aj.map λ_=>none) aj []
 | _,_,_,[],_,_=>.nil
 | _,_,_,o::aj,.nil,e=>by simp at e
 | _,_,_,o::aj,.ai r,e=>.ai (RS.none_of r (by simpa using e))
 | _,_,_,o::aj,.dy _ r,e=>.ai (RS.none_of r (by simpa using e))
end
structure Bs where
 H0:Hp
 F0:Hp
structure ag(B:Bs)(F H:Hp)(σ:St)(δ:Dl)(ts:List (D × V)):Prop where
 ext:aa F H
 b1:aa B.H0 H
 b2:aa B.F0 F
 b3:∀a ws,F a=some (.lst ws)->B.F0 a=some (.lst ws)\/B.H0 a=none
 own:∃A C,R F H (ts.map (·.1)) (ts.map (·.2)) A/\RS F H δ σ C/\(A++C).Nodup/\∀a∈A++C,B.H0 a=none
section
variable{B:Bs}{F F' H H':Hp}{d:D}{v:V}{δ:Dl}{σ:St}{ts ps:List (D × V)}{A C W:List Addr}{i:Nat}{p:Addr}{xs ys:List D}{vs ws:List V}
theorem ag.look(c:ag B F H σ δ ts)(e:δ[i]?=some (some d)):∃v,σ[i]?=some (some v)/\S F H [d] [v]:=by
 obtain⟨A,C,r,s,nd,fr⟩:=c.own
 obtain⟨v,A',C',e1,h1,h2,p⟩:=s.pick e
 exact⟨v,e1,h1.s⟩
theorem ag.len(c:ag B F H σ δ ts):δ.length=σ.length:=let⟨_,_,_,s,_⟩:=c.own;s.length
theorem ag.grow(c:ag B F H σ δ ts)(h:aa H H'):ag B F H' σ δ ts:=by
 obtain⟨A,C,r,s,nd,fr⟩:=c.own
 exact⟨c.ext.trans h,c.b1.trans h,c.b2,c.b3,A,C,r.grow (aa.refl _) h λa ha=>(r.lists a ha).2,s.keep (aa.refl _) (eV.same h) fJ.nil (λa ha=>(s.lists a ha).2) (by simp),nd,fr⟩
theorem ag.pop(c:ag B F H σ δ ((d,v)::ts)):ag B F H σ δ ts:=by
 obtain⟨A,C,r,s,nd,fr⟩:=c.own
 obtain⟨w,bN,A1,A2,e,rfl,h1,h2⟩:=R.cq r
 obtain⟨rfl,rfl⟩:=nE e
 refine⟨c.ext,c.b1,c.b2,c.b3,A2,C,h2,s,?_,λa ha=>fr a (by simp at ha ⊢;exact .inr ha)⟩
 rw[da]at nd
 exact(eW.mp nd).2.1
theorem ag.top(c:ag B F H σ δ ((d,v)::ts)):S F H [d] [v]:=by
 obtain⟨A,C,r,s,nd,fr⟩:=c.own
 obtain⟨w,bN,A1,A2,e,rfl,h1,h2⟩:=R.cq r
 obtain⟨rfl,rfl⟩:=nE e
 exact h1.s
theorem ag.pushS(c:ag B F H σ δ ts)(s:S F H [d] [v])(pl:d.pl=true):ag B F H σ δ ((d,v)::ts):=by
 obtain⟨A,C,r,q,nd,fr⟩:=c.own
 exact⟨c.ext,c.b1,c.b2,c.b3,A,C,(s.r (by simp[pl])).cons r,q,nd,fr⟩
theorem aa.upd{o:HO}(h:H p=none):aa H (upd H p o):=.of λb u e=>by rw[az (cE e h)];exact e
theorem ag.pack(c:ag B F H σ δ (ps++ts))(hs:aa H H')(k:∀A1,R F H' (ps.map (·.1)) (ps.map (·.2)) A1->A1.Nodup->∃A',R F H' [d] [v] A'/\A'.Nodup/\∀a∈A',a∈A1\/H a=none):ag B F H' σ δ ((d,v)::ts):=by
 obtain⟨A,C,r,s,nd,fr⟩:=c.own
 rw[ue,ue]at r
 obtain⟨v1,v2,A1,A2,e,rfl,h1,h2⟩:=R.split r
 have l1:(ps.map (·.2)).length=v1.length:=by rw[<-h1.length];simp
 obtain⟨rfl,rfl⟩:=Ek e l1
 rw[da]at nd fr
 obtain⟨n1,n2,n3⟩:=eW.mp nd
 have g1:=h1.grow (aa.refl F) hs λa ha=>(h1.lists a ha).2
 have g2:=h2.grow (aa.refl F) hs λa ha=>(h2.lists a ha).2
 have gs:=s.keep (aa.refl F) (eV.same hs) fJ.nil (λa ha=>(s.lists a ha).2) (by simp)
 obtain⟨A',r',yC,sub⟩:=k A1 g1 n1
 refine⟨c.ext.trans hs,c.b1.trans hs,c.b2,c.b3,A'++A2,C,r'.cons g2,gs,?_,?_⟩
 ·rw[da]
  refine eW.mpr ⟨yC,n2,λa ha hb=>?_⟩
  rcases sub a ha with z | z
  ·exact n3 a z hb
  ·rcases dW.mp hb with y | y
   ·obtain⟨⟨_,q⟩,_⟩:=h2.lists a y;rw[z]at q;cases q
   ·obtain⟨⟨_,q⟩,_⟩:=s.lists a y;rw[z]at q;cases q
 ·intro a ha
  rw[da]at ha
  rcases dW.mp ha with y | y
  ·rcases sub a y with z | z
   ·exact fr a (by simp[z])
   ·exact c.b1.free z
  ·exact fr a (dm _ y)
theorem ag.uR(c:ag B F H σ δ ts)(hs:aa H H')(r:R F H' [d] [v] A)(nd:A.Nodup)(fr:∀a∈A,H a=none):ag B F H' σ δ ((d,v)::ts) :=
 ag.pack (ps:=[]) c hs λ_ _ _=>⟨A,r,nd,λa ha=>.inr (fr a ha)⟩
theorem ag.yD(c:ag B F H σ δ ts)(hp:H p=none)(s:S F H xs vs)(pl:xs.all D.pl=true):ag B F (upd H p (.lst vs)) σ δ ((.lst true xs,.ref p)::ts) :=
 c.uR (aa.upd hp) (A:=[p]) (by simpa using R.own bj (c.ext.free hp) ((s.r pl).shared (aa.refl _) (aa.upd hp)) .nil) (by simp) (by simp[hp])
theorem ag.Qr(c:ag B F H σ δ (ps++ts))(hp:H p=none):ag B F (upd H p (.lst (ps.map (·.2)))) σ δ ((.lst true (ps.map (·.1)),.ref p)::ts):=by
 refine c.pack (aa.upd hp) λA1 r nd=>⟨p::A1,by simpa using R.own bj (c.ext.free hp) r .nil,je.mpr ⟨λh=>?_,nd⟩,λa ha=>?_⟩
 ·obtain⟨A,C,r0,_,_,_⟩:=c.own
  rw[ue,ue]at r0
  obtain⟨v1,v2,B1,B2,e,rfl,h1,h2⟩:=R.split r0
  have l1:(ps.map (·.2)).length=v1.length:=by rw[<-h1.length];simp
  obtain⟨rfl,rfl⟩:=Ek e l1
  have g1:=h1.grow (aa.refl F) (aa.upd (o:=.lst (ps.map (·.2))) hp) λa ha=>(h1.lists a ha).2
  have:A1=B1:=R.inj r g1
  subst this
  obtain⟨⟨_,q⟩,_⟩:=h1.lists p h
  rw[hp]at q;cases q
 ·rcases cI.mp ha with rfl | h
  ·exact .inr hp
  ·exact .inl h
theorem ag.Qs(c:ag B F H σ δ (ps++ts))(hp:H p=none):ag B F (upd H p (.tup (ps.map (·.2)))) σ δ ((.tup (ps.map (·.1)),.ref p)::ts) :=
 c.pack (aa.upd hp) λA1 r nd=>⟨A1,by simpa using R.tup (F:=F) bj r .nil,nd,λa ha=>.inl ha⟩
theorem ag.perm(c:ag B F H σ δ ps)(h:ps.Perm ts):ag B F H σ δ ts:=by
 obtain⟨A,C,r,s,nd,fr⟩:=c.own
 obtain⟨A',r',p⟩:=r.perm h
 have pp:=p.append_right C
 exact⟨c.ext,c.b1,c.b2,c.b3,A',C,r',s,pp.nodup_iff.mp nd,λa ha=>fr a (pp.mem_iff.mpr ha)⟩
theorem ag.move(c:ag B F H σ δ ts)(e:δ[i]?=some (some d)):∃v,σ[i]?=some (some v)/\ag B F H σ (δ.set i none) ((d,v)::ts):=by
 obtain⟨A,C,r,s,nd,fr⟩:=c.own
 obtain⟨v,A',C',e1,h1,h2,p⟩:=s.pick e
 have pp:(A++C).Perm ((A'++A)++C'):=by
  refine(p.append_left A).trans ?_
  rw[<-da]
  exact ku.append_right _
 exact⟨v,e1,c.ext,c.b1,c.b2,c.b3,A'++A,C',h1.cons r,h2,pp.nodup_iff.mp nd,λa ha=>fr a (pp.mem_iff.mpr ha)⟩
theorem ag.forget(c:ag B F H σ δ ts)(i:Nat):ag B F H σ (δ.set i none) ts:=by
 obtain⟨A,C,r,s,nd,fr⟩:=c.own
 obtain⟨C',h,sb⟩:=s.drop i
 exact⟨c.ext,c.b1,c.b2,c.b3,A,C',r,h,nd.sublist ((Ej A).append sb),λa ha=>fr a (((Ej A).append sb).subset ha)⟩
theorem ag.fill(c:ag B F H σ δ ((d,v)::ts))(e:δ[i]?=some none)(e2:σ[i]?=some (some v)):ag B F H σ (δ.set i (some d)) ts:=by
 obtain⟨A,C,r,s,nd,fr⟩:=c.own
 obtain⟨w,bN,A1,A2,e',rfl,h1,h2⟩:=R.cq r
 obtain⟨rfl,rfl⟩:=nE e'
 obtain⟨C',s',p⟩:=s.fill e e2 h1
 have pp:((A1++A2)++C).Perm (A2++C'):=by
  refine((ku (l₁:=A1) (l₂:=A2)).append_right C).trans ?_
  rw[da]
  exact(p.symm).append_left A2
 exact⟨c.ext,c.b1,c.b2,c.b3,A2,C',h2,s',pp.nodup_iff.mp nd,λa ha=>fr a (pp.mem_iff.mpr ha)⟩
theorem ag.oi(c:ag B F H σ δ ts)(o:Option V)(e:δ[i]?=some none\/δ[i]?=none):ag B F H (σ.set i o) δ ts:=by
 obtain⟨A,C,r,s,nd,fr⟩:=c.own
 exact⟨c.ext,c.b1,c.b2,c.b3,A,C,r,s.oi o e,nd,fr⟩
theorem ag.store(c:ag B F H σ δ ((d,v)::ts))(i:Nat):ag B F H (σ.set i (some v)) (δ.set i (some d)) ts:=by
 by_cases hi:i<δ.length
 ·have c1:=c.forget i
  have hs:i<σ.length:=by rw[<-c.len];exact hi
  have e:(δ.set i none)[i]?=some none:=by simp[hi]
  have c2:=(c1.oi (some v) (.inl e)).fill (i:=i) e (by simp[hs])
  rwa [List.set_set]at c2
 ·have hs:¬ i<σ.length:=by rw[<-c.len];exact hi
  rw[LS (by omega),LS (by omega)]
  exact c.pop
theorem ag.mut(c:ag B F H σ δ (ps++ts))(e:δ[i]?=some (some (.lst true xs)))(e2:σ[i]?=some (some (.ref p)))
  (k:∀ws A1 A2,H p=some (.lst ws)->R F H xs ws A1->R F H (ps.map (·.1)) (ps.map (·.2)) A2->(A1++A2).Nodup->∃A',R F H ys vs A'/\A'.Nodup/\∀a∈A',a∈A1++A2) :
  ag B F (upd H p (.lst vs)) σ (δ.set i (some (.lst true ys))) ts:=by
 have hi:i<δ.length:=(kg.mp e).1
 obtain⟨v,e3,c1⟩:=c.move e
 rw[e2]at e3;cases e3
 obtain⟨A,C,r,s,nd,fr⟩:=c1.own
 have r':R F H (([.lst true xs]++ps.map (·.1))++ts.map (·.1)) ((.ref p::ps.map (·.2))++ts.map (·.2)) A:=by simpa using r
 obtain⟨v1,v2,A1,A2,e4,rfl,h1,h2⟩:=R.split r'
 have l1:(V.ref p::ps.map (·.2)).length=v1.length:=by rw[<-h1.length];simp
 obtain⟨rfl,rfl⟩:=Ek e4 l1
 cases h1 with
 | @own _ yE _ B1 _ _ B2 hH hF hx hr =>
  rw[da]at nd fr
  obtain⟨n1,n2,n3⟩:=eW.mp nd
  obtain⟨m1,m2⟩:=je.mp n1
  obtain⟨A',ra,Qt,sub⟩:=k yE B1 B2 hH hx hr m2
  have pA:p ∉ A':=λz=>m1 (sub _ z)
  have pR:p ∉ A2++C:=λz=>n3 p (by simp) z
  have but:eV [p] H (upd H p (.lst vs)):=⟨λa o q z _=>by rw[az (by simpa using z)];exact q⟩
  have hl:fJ [p] H:=λa ha=>by rw[jf.mp ha];exact⟨_,hH⟩
  have g1:=ra.keep (aa.refl F) but hl (λa ha=>(ra.lists a ha).2) λa ha z=>pA (by rw[<-jf.mp z];exact ha)
  have g2:=h2.keep (aa.refl F) but hl (λa ha=>(h2.lists a ha).2) λa ha z=>pR (by rw[<-jf.mp z];exact fh _ ha)
  have gs:=s.keep (aa.refl F) but hl (λa ha=>(s.lists a ha).2) λa ha z=>pR (by rw[<-jf.mp z];exact dm _ ha)
  have fp:B.H0 p=none:=fr p (by simp)
  have b1:aa B.H0 (upd H p (.lst vs)):=⟨λa o q n=>by
   rw[az (λz=>by rw[z,fp]at q;cases q)]
   exact c1.b1.get a o q n,λa ps q=>by
   rw[az (λz=>by rw[z,fp]at q;cases q)]
   exact c1.b1.tb a ps q⟩
  have ext:aa F (upd H p (.lst vs)):=⟨λa o q n=>by
   rw[az (λz=>by rw[z,hF]at q;cases q)]
   exact c1.ext.get a o q n,λa ps q=>by
   rw[az (λz=>by rw[z,hF]at q;cases q)]
   exact c1.ext.tb a ps q⟩
  have c2:ag B F (upd H p (.lst vs)) σ (δ.set i none) ((.lst true ys,.ref p)::ts):=by
   refine⟨ext,b1,c1.b2,c1.b3,(p::A')++A2,C,R.cons (by simpa using R.own bj hF g1 .nil) g2,gs,?_,?_⟩
   ·rw[da]
    refine eW.mpr ⟨je.mpr ⟨pA,Qt⟩,n2,λa ha hb=>?_⟩
    rcases cI.mp ha with rfl | ha
    ·exact pR hb
    ·exact n3 a (hG _ (sub a ha)) hb
   ·intro a ha
    rw[da]at ha
    rcases dW.mp ha with z | z
    ·rcases cI.mp z with rfl | z
     ·exact fp
     ·exact fr a (fh _ (hG _ (sub a z)))
    ·exact fr a (dm _ z)
  have c3:=c2.fill (i:=i) (by simp[hi]) e2
  rwa [List.set_set]at c3
theorem ag.rebase(c:ag B F H σ δ ts):ag ⟨B.H0,F⟩ F H σ δ ts:=⟨c.ext,c.b1,aa.refl _,λ_ _ q=>.inl q,c.own⟩
theorem ag.Qu{F1:Hp}(c:ag ⟨B.H0,F1⟩ F H σ δ ts)(h:aa B.F0 F1)(h3:∀a ws,F1 a=some (.lst ws)->B.F0 a=some (.lst ws)\/B.H0 a=none):ag B F H σ δ ts :=
 ⟨c.ext,c.b1,h.trans c.b2,λa o q=>(c.b3 a o q).elim (h3 a o) .inr,c.own⟩
theorem ag.only(c:ag B F H σ δ ts){aj:St}{ae:Dl}(h:RS F H ae aj []):ag B F H aj ae ts:=by
 obtain⟨A,C,r,s,nd,fr⟩:=c.own
 exact⟨c.ext,c.b1,c.b2,c.b3,A,[],r,h,by simpa using(eW.mp nd).1,λa ha=>fr a (by simp at ha;simp[ha])⟩
theorem ag.call(c:ag B F H σ δ ts)(hs:aa H H')(hf:aa F F')(he:aa F' H')(h3:∀a ws,F' a=some (.lst ws)->F a=some (.lst ws)\/H a=none)(r:R F' H' [d] [v] A)(nd:A.Nodup)(fr:∀a∈A,H a=none) :
  ag B F' H' σ δ ((d,v)::ts):=by
 obtain⟨A0,C,r0,s,Qv,Qw⟩:=c.own
 have no:∀a,(∃ws,H a=some (.lst ws))/\F a=none->F' a=none:=λa zz=>by
  obtain⟨⟨ws,e⟩,n⟩:=zz
  cases q:F' a with
  | none=>rfl
  | some o =>
   have q2:H' a=some o:=by
    cases n:eU o with
    | true=>exact he.get a o q n
    | false =>
     obtain⟨ps,rfl⟩:=yy n
     obtain⟨m,z⟩:=he.tb a ps q
     rw[hs a _ e]at z
     cases z
   rw[hs a _ e]at q2
   cases q2
   rcases h3 a ws q with z | z
   ·rw[n]at z;cases z
   ·rw[e]at z;cases z
 refine⟨he,c.b1.trans hs,c.b2.trans hf,λa o q=>(h3 a o q).elim (c.b3 a o) λz=>.inr (c.b1.free z),A++A0,C,R.cons r (r0.grow hf hs λa ha=>no a (r0.lists a ha)),
  s.keep hf (eV.same hs) fJ.nil (λa ha=>no a (s.lists a ha)) (by simp),?_,?_⟩
 ·rw[da]
  refine eW.mpr ⟨nd,Qv,λa ha hb=>?_⟩
  have z:=fr a ha
  rcases dW.mp hb with y | y
  ·obtain⟨⟨_,q⟩,_⟩:=r0.lists a y;rw[z]at q;cases q
  ·obtain⟨⟨_,q⟩,_⟩:=s.lists a y;rw[z]at q;cases q
 ·intro a ha
  rw[da]at ha
  rcases dW.mp ha with y | y
  ·exact c.b1.free (fr a y)
  ·exact Qw a y
theorem ag.GB(c:ag B F H σ δ ((d,v)::ts)):ag B F H (some v::σ) (some d::δ) ts:=by
 obtain⟨A,C,r,s,nd,fr⟩:=c.own
 obtain⟨w,bN,A1,A2,e',rfl,h1,h2⟩:=R.cq r
 obtain⟨rfl,rfl⟩:=nE e'
 have pp:((A1++A2)++C).Perm (A2++(A1++C)):=by
  rw[<-da];exact ku.append_right C
 exact⟨c.ext,c.b1,c.b2,c.b3,A2,A1++C,h2,.dy h1 s,pp.nodup_iff.mp nd,λa ha=>fr a (pp.mem_iff.mpr ha)⟩
theorem ag.Qx{w:V}(c:ag B F H (some w::σ) (some d::δ) ts):ag B F H σ δ ((d,w)::ts):=by
 obtain⟨A,C,r,s,nd,fr⟩:=c.own
 cases s with
 | @dy _ _ A1 _ _ C1 h1 s =>
  have pp:(A++(A1++C1)).Perm ((A1++A)++C1):=by
   rw[<-da];exact ku.append_right C1
  exact⟨c.ext,c.b1,c.b2,c.b3,A1++A,C1,R.cons h1 r,s,pp.nodup_iff.mp nd,λa ha=>fr a (pp.mem_iff.mpr ha)⟩
theorem ag.Qy(c:ag B F H σ δ ((d,v)::(.lst true xs,.ref p)::ts))(hp:H p=some (.lst ws)):ag B F (upd H p (.lst (ws++[v]))) σ δ ((.lst true (xs++[d]),.ref p)::ts):=by
 have c1:=(c.perm (List.Perm.swap _ _ _)).GB
 refine(ag.mut (ps:=[(d,v)]) (i:=0) (ys:=xs++[d]) (vs:=ws++[v]) c1 rfl rfl λdz A1 A2 h r1 r2 nd=>?_).Qx
 rw[hp]at h;cases h
 exact⟨A1++A2,r1.append r2,nd,λa ha=>ha⟩
theorem ag.app(c:ag B F H σ δ ((d,v)::ts))(e:δ[i]?=some (some (.lst true xs)))(e2:σ[i]?=some (some (.ref p)))(hp:H p=some (.lst ws)) :
  ag B F (upd H p (.lst (ws++[v]))) σ (δ.set i (some (.lst true (xs++[d])))) ts :=
 ag.mut (ps:=[(d,v)]) c e e2 λdz A1 A2 h r1 r2 nd=>by
  rw[hp]at h;cases h
  exact⟨A1++A2,r1.append r2,nd,λa ha=>ha⟩
theorem R.GC:∀{xs:List D} {ws:List V} {A1 A2:List Addr} (j:Nat),R F H xs ws A1->R F H [d] [v] A2->(A1++A2).Nodup->∃A',R F H (xs.set j d) (ws.set j v) A'/\A'.Nodup/\∀a∈A',a∈A1++A2
 | [],_,A1,A2,j,r,q,nd=>by cases r;exact⟨[],.nil,by simp,by simp⟩
 | x::xs,_,A1,A2,j,r,q,nd=>by
  obtain⟨w,dz,B1,B2,rfl,rfl,h1,h2⟩:=r.cq
  rw[da]at nd
  obtain⟨n1,n2,n3⟩:=eW.mp nd
  cases j with
  | zero =>
   refine⟨A2++B2,q.cons h2,(ku (l₁:=B2) (l₂:=A2)).nodup_iff.mp n2,λa ha=>?_⟩
   simp only[dW]at ha ⊢
   rcases ha with z | z
   ·exact .inr z
   ·exact .inl (.inr z)
  | succ j =>
   obtain⟨A',r',yC,sub⟩:=R.GC j h2 q n2
   refine⟨B1++A',h1.cons r',eW.mpr ⟨n1,yC,λa ha hb=>n3 a ha (sub a hb)⟩,λa ha=>?_⟩
   rcases dW.mp ha with z | z
   ·simp[z]
   ·have:=sub a z
    simp only[dW]at this ⊢
    rcases this with z | z
    ·exact .inl (.inr z)
    ·exact .inr z
theorem ag.Qz(c:ag B F H σ δ ((d,v)::ts))(e:δ[i]?=some (some (.lst true xs)))(e2:σ[i]?=some (some (.ref p)))(hp:H p=some (.lst ws))(j:Nat) :
  ag B F (upd H p (.lst (ws.set j v))) σ (δ.set i (some (.lst true (xs.set j d)))) ts :=
 ag.mut (ps:=[(d,v)]) c e e2 λdz A1 A2 h r1 r2 nd=>by
  rw[hp]at h;cases h
  exact r1.GC j r2 nd
theorem ag.ownAt(c:ag B F H σ δ ts)(e:δ[i]?=some (some (.lst true xs))):∃p ws,σ[i]?=some (some (.ref p))/\H p=some (.lst ws)/\xs.length=ws.length:=by
 obtain⟨v,e1,s⟩:=c.look e
 cases s with
 | own h x _=>exact⟨_,_,e1,h,x.length⟩
theorem RS.start{ds:List D}{vs:List V}(r:R F H ds vs [])(n:Nat):RS F H (ds.map some++aR n none) (vs.map some++aR n none) []:=by
 have z:∀n,RS F H (aR n none) (aR n none) []:=λn=>by
  induction n with
  | zero=>exact .nil
  | succ n ih=>exact .ai ih
 have:∀(ds:List D) (vs:List V),R F H ds vs []->RS F H (ds.map some++aR n none) (vs.map some++aR n none) []:=by
  intro ds
  induction ds with
  | nil=>intro vs r;cases r;exact z n
  | cons d ds ih =>
   intro vs r
   obtain⟨v,bN,A1,A2,rfl,e,h1,h2⟩:=r.cq
   obtain⟨rfl,rfl⟩:=xi.mp e.symm
   exact .dy (A:=[]) h1 (ih _ h2)
 exact this ds vs r
theorem ag.start{ds:List D}{vs:List V}(e:aa F H)(r:R F H ds vs [])(n:Nat):ag ⟨H,F⟩ F H (vs.map some++aR n none) (ds.map some++aR n none) [] :=
 ⟨e,aa.refl _,aa.refl _,λ_ _ q=>.inl q,[],[],.nil,RS.start r n,by simp,by simp⟩
theorem ag.snap(c:ag B F H σ δ ts):ag B (L3.snap F H) H σ δ ts:=by
 obtain⟨A,C,r,s,nd,fr⟩:=c.own
 have no:∀a,(∃ws,H a=some (.lst ws))/\F a=none->L3.snap F H a=none:=λa ⟨⟨ws,e⟩,n⟩=>Qq e n
 exact⟨Qo c.ext,c.b1,c.b2.trans (si c.ext),λa ws q=>c.b3 a ws (Qp c.ext q),A,C,r.grow (si c.ext) (aa.refl _) λa ha=>no a (r.lists a ha),
  s.keep (si c.ext) (eV.same (aa.refl _)) fJ.nil (λa ha=>no a (s.lists a ha)) (by simp),nd,fr⟩
end
end L3
namespace L3
open PySem L2 PySem.Spec PyProof.Rows
noncomputable abbrev au:=Dl->(D->Dl->Prop)->Prop
noncomputable abbrev dN:=Dl->(Bool->Dl->Prop)->Prop
noncomputable abbrev br:=Dl->(List D->Dl->Prop)->Prop
structure kW where
 nx:Dl->Prop
 rt:D->Prop
 bk:Dl->Prop:=λ_=>False
 ct:Dl->Prop:=λ_=>False
 xc:Addr->Dl->Prop:=λ_ _=>False
 xr:Addr->Dl->Prop:=λ_ _=>False
noncomputable abbrev bG:=kW->Dl->Prop
noncomputable def lE(t:au):TE:=λσ H Q=>∃B F δ ts Qd,ag B F H σ δ ts/\t δ Qd/\∀d ae v F' H',Qd d ae->aa F F'->aa H H'->ag B F' H' σ ae ((d,v)::ts)->Q v H'
noncomputable def lB(t:au):TE:=λσ H Q=>∃B F δ ts Qd,ag B F H σ δ ts/\t δ Qd/\∀d ae v F' H',Qd d ae->aa F F'->aa H H'->ag B F' H' σ ae ts->S F' H' [d] [v]->Q v H'
noncomputable def lT(t:dN):TT:=λσ H Q=>∃B F δ ts Qd,ag B F H σ δ ts/\t δ Qd/\∀b ae F' H',Qd b ae->aa F F'->aa H H'->ag B F' H' σ ae ts->Q b H'
noncomputable def lA(t:br):TA:=λσ H Q=>∃B F δ ts Qd,ag B F H σ δ ts/\t δ Qd/\∀ds ae vs F' H',Qd ds ae->aa F F'->aa H H'->ag B F' H' σ ae ts->S F' H' ds vs->Q vs H'
noncomputable def lO(t:br):TA:=λσ H Q=>∃B F δ ts Qd,ag B F H σ δ ts/\t δ Qd/\∀(ps:List (D × V)) ae F' H',Qd (ps.map (·.1)) ae->aa F F'->aa H H'->ag B F' H' σ ae (ps++ts)->Q (ps.map (·.2)) H'
noncomputable def XL(X:Cx)(B:Bs)(Dd:kW):Prop :=
 (∀C ae pins aj F' H' s' a T,Dd.xc C ae->ag B F' H' aj ae []->Inv X pins aj H' s'->dM s'.heap a T (.ref C)->Apart X pins H' a->Apart X pins H' T->X.xe (.ref a) s') /\
 (∀C ae pins aj F' H' s' h' e vs,Dd.xr C ae->ag B F' H' aj ae []->Inv X pins aj H' s'->Ei s'.heap h' e (.ref C) vs->X.xe (.ref e) { s' with heap:=h' })
theorem XL.none{X:Cx}{B:Bs}{Dd:kW}(h1:∀C δ,¬ Dd.xc C δ)(h2:∀C δ,¬ Dd.xr C δ):XL X B Dd:=⟨λC δ _ _ _ _ _ _ _ h=>absurd h (h1 C δ),λC δ _ _ _ _ _ _ _ _ h=>absurd h (h2 C δ)⟩
noncomputable def lS(X:Cx)(t:bG):TS:=λD σ H=>∃B F δ Dd,ag B F H σ δ []/\t Dd δ/\(∀ae aj F' H',Dd.nx ae->ag B F' H' aj ae []->D.nx aj H')/\(∀d v ae aj F' H',Dd.rt d->ag B F' H' aj ae [(d,v)]->D.rt v H') /\
 (∀ae aj F' H',Dd.bk ae->ag B F' H' aj ae []->D.bk aj H')/\(∀ae aj F' H',Dd.ct ae->ag B F' H' aj ae []->D.ct aj H')/\XL X B Dd
section
variable{X:Cx}{e a b c:Expr}{es:List Expr}{pos:Pos}{st:Stmt}{nR:List Stmt}
theorem cj{t t':TE}(h:PE X e t)(m:∀σ H Q,t' σ H Q->t σ H Q):PE X e t':=λpins s σ H Q I q=>h pins s σ H Q I (m σ H Q q)
theorem yF{t t':TT}(h:PT X e t)(m:∀σ H Q,t' σ H Q->t σ H Q):PT X e t':=λpins s σ H Q I q=>h pins s σ H Q I (m σ H Q q)
theorem QB{t t':TT}(h:PW X e t)(m:∀σ H Q,t' σ H Q->t σ H Q):PW X e t':=λwh pins s σ H Q I q=>h wh pins s σ H Q I (m σ H Q q)
theorem sj{t t':TA}(h:PA X es t)(m:∀σ H Q,t' σ H Q->t σ H Q):PA X es t':=λp pins s σ H Q I q=>h p pins s σ H Q I (m σ H Q q)
theorem iL{t t':TS}(h:PS X st t)(m:∀D σ H,t' D σ H->t D σ H):PS X st t':=λpins s σ H D I q=>h pins s σ H D I (m D σ H q)
theorem yG{t t':TS}(h:PSs X nR t)(m:∀D σ H,t' D σ H->t D σ H):PSs X nR t':=λpins s σ H D I q=>h pins s σ H D I (m D σ H q)
variable{t u ta tb tc:au}
theorem af(h:PE X e (lE t)):PE X e (lB t):=cj h λσ H Q ⟨B,F,δ,ts,Qd,c,q,k⟩=>⟨B,F,δ,ts,Qd,c,q,λd ae v F' H' hd sf sh c'=>k d ae v F' H' hd sf sh c'.pop c'.top⟩
noncomputable def jz(t:au):au:=λδ Q=>t δ λd ae=>d.pl=true/\Q d ae
theorem eE(h:PE X e (lB t)):PE X e (lE (jz t)):=cj h λσ H Q ⟨B,F,δ,ts,Qd,c,q,k⟩=>⟨B,F,δ,ts,_,c,q,λd ae v F' H' hd sf sh c' s=>k d ae v F' H' hd.2 sf sh (c'.pushS s hd.1)⟩
noncomputable def iM(i:Nat):au:=λδ Q=>match δ[i]? with
 | some (some d)=>Q d δ
 | _=>False
noncomputable def iN(i:Nat):au:=λδ Q=>match δ[i]? with
 | some (some d)=>Q d (δ.set i none)
 | _=>False
theorem QC{i:Nat}{δ:Dl}{Q:D->Dl->Prop}(h:iM i δ Q):∃d,δ[i]?=some (some d)/\Q d δ:=by
 unfold iM at h
 split at h
 ·rename_i d e;exact⟨d,e,h⟩
 ·exact h.elim
theorem QD{i:Nat}{δ:Dl}{Q:D->Dl->Prop}(h:iN i δ Q):∃d,δ[i]?=some (some d)/\Q d (δ.set i none):=by
 unfold iN at h
 split at h
 ·rename_i d e;exact⟨d,e,h⟩
 ·exact h.elim
noncomputable def dC(d:D):au:=λδ Q=>Q d δ
theorem bv(i:Nat){x:Str}(hN:X.N[i]?=some x:=by rfl)(hv:ik X.env.scope x:=by first | exact aH rfl | exact cB (aH rfl) | exact cB (cB rfl))(hd:(x==("__debug__":Str))=false:=by decide)
  (bO:(x==("__classdict__":Str))=false:=by decide):PE X (.Name x pos) (lB (iM i)):=cj (nN hN hv hd bO) λσ H Q ⟨B,F,δ,ts,Qd,c,q,k⟩=>by
 obtain⟨d,e,q⟩:=QC q
 obtain⟨v,e1,s⟩:=c.look e
 exact⟨v,e1,k d δ v F H q (aa.refl _) (aa.refl _) c s⟩
theorem em(i:Nat){x:Str}(hN:X.N[i]?=some x:=by rfl)(hv:ik X.env.scope x:=by first | exact aH rfl | exact cB (aH rfl) | exact cB (cB rfl))(hd:(x==("__debug__":Str))=false:=by decide)
  (bO:(x==("__classdict__":Str))=false:=by decide):PE X (.Name x pos) (lE (iN i)):=cj (nN hN hv hd bO) λσ H Q ⟨B,F,δ,ts,Qd,c,q,k⟩=>by
 obtain⟨d,e,q⟩:=QD q
 obtain⟨v,e1,c'⟩:=c.move e
 exact⟨v,e1,k d _ v F H q (aa.refl _) (aa.refl _) c'⟩
theorem uS{B:Bs}{F H:Hp}{σ:L2.St}{δ:Dl}{ts:List (D × V)}{Qd:D->Dl->Prop}{Q:VK}{d:D}{v:V}(c:ag B F H σ δ ts)(q:Qd d δ)(s:S F H [d] [v])(p:d.pl=true)
  (k:∀d ae v F' H',Qd d ae->aa F F'->aa H H'->ag B F' H' σ ae ((d,v)::ts)->Q v H'):Q v H:=k d δ v F H q (aa.refl _) (aa.refl _) (c.pushS s p)
theorem ao{i j}:PE X (.Constant (.int i) j pos) (lE (dC (.int i))):=cj rG λσ H Q ⟨B,F,δ,ts,Qd,c,q,k⟩=>uS c q (.int .nil) rfl k
theorem dA{i j}:PE X (.Constant (.bool i) j pos) (lE (dC (.bl i))):=cj Ml λσ H Q ⟨B,F,δ,ts,Qd,c,q,k⟩=>uS c q (.bl .nil) rfl k
theorem GD{j}:PE X (.Constant .none j pos) (lE (dC .ai)):=cj Mm λσ H Q ⟨B,F,δ,ts,Qd,c,q,k⟩=>uS c q (.ai .nil) rfl k
theorem jA{x j}:PE X (.Constant (.str x) j pos) (lE (dC (.str x))):=cj Mn λσ H Q ⟨B,F,δ,ts,Qd,c,q,k⟩=>uS c q (.str .nil) rfl k
noncomputable abbrev bK:=D->D->(D->Prop)->Prop
noncomputable def uT(r:R2)(rd:bK):Prop:=∀{B:Bs} {F H:Hp} {σ:L2.St} {δ:Dl} {ts:List (D × V)} {x y:D} {v w:V} {Q:VK} {Qd:D->Prop},ag B F H σ δ ts->S F H [x] [v]->S F H [y] [w]->rd x y Qd ->
 (∀d z H',Qd d->aa H H'->ag B F H' σ δ ((d,z)::ts)->Q z H')->r v w H Q
noncomputable def aY(X:Cx)(f:Value->Value->Sem Value)(rd:bK):Prop:=∃r,bM X f r/\uT r rd
theorem aY.or{f:Value->Value->Sem Value}{r1 r2:bK}(h1:aY X f r1)(h2:aY X f r2):aY X f λx y Q=>r1 x y Q\/r2 x y Q:=by
 obtain⟨q1,a1,b1⟩:=h1
 obtain⟨q2,a2,b2⟩:=h2
 refine⟨_,a1.or a2,λ{B F H σ δ ts x y v w Q Qd} c sx sy h k=>?_⟩
 rcases h with h | h
 ·exact .inl (b1 c sx sy h k)
 ·exact .inr (b2 c sx sy h k)
theorem aY.imp{f:Value->Value->Sem Value}{r1 r2:bK}(h1:aY X f r1)(h:∀x y Q,r2 x y Q->r1 x y Q):aY X f r2:=by
 obtain⟨q1,a1,b1⟩:=h1
 exact⟨q1,a1,λ{B F H σ δ ts x y v w Q Qd} c sx sy h2 k=>b1 c sx sy (h _ _ _ h2) k⟩
noncomputable def gO(rd:bK)(ta tb:au):au:=λδ Q=>ta δ λx ah=>tb ah λy aC=>rd x y λd=>Q d aC
theorem yH{r:R2}{rd:bK}(hl:uT r rd):∀σ H Q,lE (gO rd ta tb) σ H Q->rM r (lB ta) (lB tb) σ H Q:=λσ H Q ⟨B,F,δ,ts,Qd,c,q,k⟩ =>
 ⟨B,F,δ,ts,_,c,q,λx ah v F1 H1 q1 f1 h1 c1 s1=>⟨B,F1,ah,ts,_,c1,q1,λy aC w F2 H2 q2 f2 h2 c2 s2 =>
  hl c2 (s1.mono f2 h2) s2 q2 λd z H' hd hs c3=>k d aC z F2 H' hd (f1.trans f2) ((h1.trans h2).trans hs) c3⟩⟩
theorem aM{op:Operator}{rd:bK}(ho:aY X (binaryOp op) rd)(ha:PE X a (lB ta))(hb:PE X b (lB tb)):PE X (.BinOp a op b pos) (lE (gO rd ta tb)):=by
 obtain⟨r,h1,h2⟩:=ho
 exact cj (uw h1 ha hb) (yH h2)
theorem gP{op:CmpOp}{rd:bK}(ho:aY X (compareOp op) rd)(ha:PE X a (lB ta))(hb:PE X b (lB tb))(hm:behindInMarks op b=false):PE X (.Compare a [op] [b] pos) (lE (gO rd ta tb)):=by
 obtain⟨r,h1,h2⟩:=ho
 exact cj (Nq h1 ha hb hm) (yH h2)
noncomputable def dT(t:au):dN:=λδ Q=>t δ λd ae=>∃k,d=.bl k/\Q k ae
theorem QE{te:TE}(h:∀σ H Q,lE t σ H Q->te σ H Q):∀σ H Q,lT (dT t) σ H Q->EX te σ H Q:=λσ H Q zz=>by
 obtain⟨B,F,δ,ts,Qd,c,q,k⟩:=zz
 refine h σ H _ ⟨B,F,δ,ts,_,c,q,λd ae v F' H' hd sf sh c'=>?_⟩
 obtain⟨b,rfl,qb⟩:=hd
 have s:=c'.top
 cases s with
 | bl _=>exact⟨b,rfl,k b ae F' H' qb sf sh c'.pop⟩
theorem cu{op:CmpOp}{rd:bK}(ho:aY X (compareOp op) rd)(ha:PE X a (lB ta))(hb:PE X b (lB tb))(hm:behindInMarks op b=false):PT X (.Compare a [op] [b] pos) (lT (dT (gO rd ta tb))):=by
 obtain⟨r,h1,h2⟩:=ho
 exact yF (Nr h1 ha hb hm) (QE (yH h2))
noncomputable def jB(r r':bK)(ta tb tc:au):au:=λδ Q=>ta δ λx ah=>tb ah λy aC=>r x y λd=>∃k,d=.bl k/\if k=true then tc aC λz iO=>r' y z λd'=>Q d' iO else Q (.bl false) aC
theorem fK(h:PE X e (lB t))(he:∀whole,isTrue e X.env whole=(do let v<-whole;standAt e.pos;holding [v] (truthy v)):=by intro _;rfl):PT X e (lT (dT t)) :=
 yF (xD h he) λσ H Q ⟨B,F,δ,ts,Qd,c,q,k⟩=>⟨B,F,δ,ts,_,c,q,λd ae v F' H' hd sf sh c' s=>by
  obtain⟨b,rfl,qb⟩:=hd
  cases s with
  | bl _=>exact⟨b,rfl,k b ae F' H' qb sf sh c'⟩⟩
variable{tA tB:dN}{cy:List Expr}
noncomputable def kX(t u:dN):dN:=λδ Q=>t δ λc ah=>if c=true then Q true ah else u ah Q
noncomputable def kY(t:dN):dN:=λδ Q=>t δ λc ah=>Q (!c) ah
theorem oj(ha:PT X a (lT tA))(hb:PW X (.BoolOp .Or (b::cy) pos) (lT tB)):PW X (.BoolOp .Or (a::b::cy) pos) (lT (kX tA tB)) :=
 QB (Mr ha hb) λσ H Q ⟨B,F,δ,ts,Qd,c,q,k⟩=>⟨B,F,δ,ts,_,c,q,λb ah F1 H1 q1 f1 h1 c1=>by
  cases b with
  | true=>exact nW (k true ah F1 H1 (by simpa using q1) f1 h1 c1)
  | false=>exact jt ⟨B,F1,ah,ts,Qd,c1,by simpa using q1,λb ae F' H' hd sf sh c'=>k b ae F' H' hd (f1.trans sf) (h1.trans sh) c'⟩⟩
theorem kZ(ha:PT X a (lT tA)):PT X (.UnaryOp .Not a pos) (lT (kY tA)) :=
 yF (xF ha) λσ H Q ⟨B,F,δ,ts,Qd,c,q,k⟩=>⟨B,F,δ,ts,_,c,q,λb ah F1 H1 q1 f1 h1 c1=>k _ ah F1 H1 q1 f1 h1 c1⟩
noncomputable def lb(ta tb:au):au:=λδ Q=>ta δ λx ah=>∃c,x=.bl c/\if c=true then tb ah Q else Q (.bl false) ah
noncomputable def lh(ta:au):au:=λδ Q=>ta δ λx ah=>∃c,x=.bl c/\Q (.bl (!c)) ah
theorem eX(ha:PE X a (lB ta))(hb:PE X (.BoolOp .And (b::cy) pos) (lE tb)):PE X (.BoolOp .And (a::b::cy) pos) (lE (lb ta tb)) :=
 cj (Mu ha hb) λσ H Q ⟨B,F,δ,ts,Qd,c,q,k⟩=>⟨B,F,δ,ts,_,c,q,λd ah v F1 H1 q1 f1 h1 c1 s1=>by
  obtain⟨b,rfl,qb⟩:=q1
  cases s1 with
  | bl _ =>
   refine⟨b,rfl,?_⟩
   cases b with
   | true=>exact nW ⟨B,F1,ah,ts,Qd,c1,by simpa using qb,λd ae v F' H' hd sf sh c'=>k d ae v F' H' hd (f1.trans sf) (h1.trans sh) c'⟩
   | false=>exact jt (k _ ah _ F1 H1 (by simpa using qb) f1 h1 (c1.pushS (.bl .nil) rfl))⟩
theorem yI(ha:PE X a (lB ta)):PE X (.UnaryOp .Not a pos) (lE (lh ta)) :=
 cj (Mv ha) λσ H Q ⟨B,F,δ,ts,Qd,c,q,k⟩=>⟨B,F,δ,ts,_,c,q,λd ah v F1 H1 q1 f1 h1 c1 s1=>by
  obtain⟨b,rfl,qb⟩:=q1
  cases s1 with
  | bl _=>exact⟨b,rfl,k _ ah _ F1 H1 qb f1 h1 (c1.pushS (.bl .nil) rfl)⟩⟩
noncomputable def jC:br:=λδ Q=>Q [] δ
noncomputable def jD(t:au)(r:br):br:=λδ Q=>t δ λd ah=>r ah λds aC=>Q (d::ds) aC
theorem aK:PA X [] (lA jC):=sj eO λσ H Q ⟨B,F,δ,ts,Qd,c,q,k⟩=>k [] δ [] F H q (aa.refl _) (aa.refl _) c .nil
variable{tr:br}
theorem av(ha:PE X e (lB t))(hr:PA X es (lA tr))(hs:starEach (e::es) X.env=(false,eval e X.env)::starEach es X.env:=by rfl):PA X (e::es) (lA (jD t tr)) :=
 sj (cN ha hr hs) λσ H Q ⟨B,F,δ,ts,Qd,c,q,k⟩=>⟨B,F,δ,ts,_,c,q,λd ah v F1 H1 q1 f1 h1 c1 s1=>⟨B,F1,ah,ts,_,c1,q1,λds aC vs F2 H2 q2 f2 h2 c2 s2 =>
  k (d::ds) aC (v::vs) F2 H2 q2 (f1.trans f2) (h1.trans h2) c2 ((s1.mono f2 h2).cons s2)⟩⟩
theorem fL:PA X [] (lO jC):=sj eO λσ H Q ⟨B,F,δ,ts,Qd,c,q,k⟩=>k [] δ F H q (aa.refl _) (aa.refl _) c
theorem bU(ha:PE X e (lE t))(hr:PA X es (lO tr))(hs:starEach (e::es) X.env=(false,eval e X.env)::starEach es X.env:=by rfl):PA X (e::es) (lO (jD t tr)) :=
 sj (cN ha hr hs) λσ H Q ⟨B,F,δ,ts,Qd,c,q,k⟩=>⟨B,F,δ,ts,_,c,q,λd ah v F1 H1 q1 f1 h1 c1=>⟨B,F1,ah,(d,v)::ts,_,c1,q1,λps aC F2 H2 q2 f2 h2 c2 =>
  k ((d,v)::ps) aC F2 H2 q2 (f1.trans f2) (h1.trans h2) (c2.perm (List.perm_middle))⟩⟩
noncomputable def lj(t:br):au:=λδ Q=>t δ λds ae=>ds.length<=sizeLine/\Q (.lst true ds) ae
noncomputable def lr(t:br):au:=λδ Q=>t δ λds ae=>ds.length<=sizeLine/\Q (.tup ds) ae
theorem jE(h:PA X es (lO tr)):PE X (.List es pos) (lE (lj tr)) :=
 cj (NS h) λσ H Q ⟨B,F,δ,ts,Qd,c,q,k⟩=>⟨B,F,δ,ts,_,c,q,λps ah F1 H1 q1 f1 h1 c1=>⟨by simpa using q1.1,λp hp=>k _ ah _ F1 _ q1.2 f1 (h1.trans (aa.upd hp)) (c1.Qr hp)⟩⟩
theorem uU{x1}(h:PA X es (lO tr)):PE X (.Tuple es x1 pos) (lE (lr tr)) :=
 cj (NR h) λσ H Q ⟨B,F,δ,ts,Qd,c,q,k⟩=>⟨B,F,δ,ts,_,c,q,λps ah F1 H1 q1 f1 h1 c1=>⟨by simpa using q1.1,λp hp=>k _ ah _ F1 _ q1.2 f1 (h1.trans (aa.upd hp)) (c1.Qs hp)⟩⟩
end
end L3
namespace L3
open PySem L2 PySem.Spec PyProof.Rows
noncomputable abbrev bC:=List D->(D->Prop)->Prop
noncomputable def bL(sp:bC):Sp:=λvs H Q _=>∃F ds Qd,aa F H/\R F H ds vs []/\sp ds Qd/\∀d v F' H' A,Qd d->aa H H'->aa F F'->aa F' H'->(∀a ws,F' a=some (.lst ws)->F a=some (.lst ws)\/H a=none)->R F' H' [d] [v] A->A.Nodup->(∀a∈A,H a=none)->Q v H'
noncomputable def jF(sp:bC)(t:br):au:=λδ Q=>t δ λds ae=>sp (ds.map D.sh) λd=>(ds.all D.pl||d.fr)=true/\Q d ae
theorem sk{B:Bs}{F H:Hp}{σ:L2.St}{δ:Dl}{ts:List (D × V)}{Qd:D->Prop}{Q:VK}{E:XK}{ds:List D}{vs:List V}{sp:bC}(c:ag B F H σ δ ts)(s:S F H ds vs)(q:sp (ds.map D.sh) λd=>(ds.all D.pl||d.fr)=true/\Qd d)
  (k:∀d v F' H',Qd d->aa F F'->aa H H'->ag B F' H' σ δ ((d,v)::ts)->Q v H'):bL sp vs H Q E:=by
 by_cases hp:ds.all D.pl=true
 ·rw[iK hp]at q
  exact⟨F,ds,_,c.ext,s.r hp,q,λd v F' H' A hd hs hf he h3 r nd fr=>k d v F' H' hd.2 hf hs (c.call hs hf he h3 r nd fr)⟩
 ·refine⟨H,ds.map D.sh,_,aa.refl _,s.frozen c.ext,q,λd v F' H' A hd hs hf he h3 r nd fr=>?_⟩
  have cL:d.fr=true:=by
   have:=hd.1
   rw[El]at this
   exact this.resolve_left hp
  exact k d v F H' hd.2 (aa.refl _) hs (c.uR hs (r.uQ (by simp[cL]) (c.ext.trans hf)) nd fr)
section
variable{X:Cx}{CX:cO}{n:Nat}{f:Addr}{fd:FuncData}{ps:List Str}{sp:bC}{E:XK}{x:Str}{p pos:Pos}{e:Expr}{es:List Expr}{t:br}
theorem ck(F:aI X.prog X.w X.K X.mg X.base CX n f fd ps (bL sp))(hr:aS n X.A)(hg:Gl X x)(hm:X.mg x=some (.ref f))(hk:PySem.W.keepIn X.K (.ref f)=true)(hb:Binds X.K fd ps [])(hx:gG CX X E)
  (ha:PA X (e::es) (lA t)) (bZ:(x==("__debug__":Str))=false:=by decide) (he:starEach (e::es) X.env=(false,eval e X.env)::starEach es X.env:=by rfl) (aQ:(backTo pos (starEach es X.env)).any (·.1)=false:=by rfl) :
  PE X (.Call (.Name x p) (e::es) [] pos) (lE (jF sp t)) :=
 cj (kP F hr hg hm hk hb .nil hx ha bZ he aQ) λσ H Q ⟨B,F,δ,ts,Qd,c,q,k⟩=>⟨B,F,δ,ts,_,c,q,λds ah vs F1 H1 q1 f1 h1 c1 s1=>by
  show bL sp (vs++[]) H1 Q E
  rw[fW]
  exact sk c1 s1 q1 λd v F' H' hd hf hs c'=>k d ah v F' H' hd (f1.trans hf) (h1.trans hs) c'⟩
end
noncomputable def fM(N:List Str)(ds:List D):Dl:=ds.map some++aR (N.length-ds.length) none
section
variable{P:Program}{w:World}{K:PySem.W.Frag}{mg:Str->Option Value}{base:Heap}
theorem cP{x qual:Str}{st:Stmt}{f:Addr}{fd:FuncData}{N ps:List Str}{k:Nat}{sp:bC}(F:bg K x qual st f fd)(S:bx N ps (ax st))(len:∀ds Q,sp ds Q->ds.length=ps.length)
  (eA:∀(aA:Value) (A:Around) (outer:List Env) (s:Shared) (H:Hp) (E:XK),aS k (A.deeper (envOfC qual (ax st) s.heap.objs.size f aA)) ->
   ∃t:bG,PSs (eP aV P w K mg base N qual (ax st) f aA A outer s H E).dq (bc st) (lS (eP aV P w K mg base N qual (ax st) f aA A outer s H E).dq t)/\∀ds Q,sp ds Q->t { nx:=λ_=>Q .ai,rt:=Q } (fM N ds)):aI P w K mg base aV (k+1) f fd ps (bL sp):=by
 refine F.ok S (λvs H Q E ⟨F,ds,Qd,e,r,h,_⟩=>by rw[<-r.length];exact len ds Qd h) λaA A outer s H vs Q E hr zz=>?_
 obtain⟨F,ds,Qd,e,r,h,k⟩:=zz
 obtain⟨t,ht,hq⟩:=eA aA A outer s H E hr
 have fin:∀d v ae aj F' H',Qd d->ag ⟨H,F⟩ F' H' aj ae [(d,v)]->Q v H':=λd v ae aj F' H' hd c=>by
  obtain⟨A,C,r',s',nd,fr⟩:=c.own
  exact k d v F' H' A hd c.b1 c.b2 c.ext c.b3 r' (eW.mp nd).1 λa ha=>fr a (fh _ ha)
 have e1:L2.start N vs=vs.map some++aR (N.length-ds.length) none:=by unfold L2.start;rw[r.length]
 refine⟨_,ht,⟨H,F⟩,F,fM N ds,_,?_,hq ds Qd h,λae aj F' H' hd c=>fin .ai .ai ae aj F' H' hd (c.pushS (.ai .nil) rfl),fin,λ_ _ _ _ z=>z.elim,λ_ _ _ _ z=>z.elim,XL.none (λ_ _ z=>z) λ_ _ z=>z⟩
 rw[e1]
 exact ag.start e r _
end
section
variable{X:Cx}{e a b c:Expr}{es:List Expr}{pos:Pos}{st:Stmt}{nR cy:List Stmt}{t u:bG}{te:au}{tt:dN}
noncomputable def lu:bG:=λD δ=>D.nx δ
noncomputable def GF(t u:bG):bG:=λD δ=>t { D with nx:=u D } δ
theorem aF{t u:bG}{En:kW}{δ:Dl}(h:∀U:Dl->Prop,(∀ae,u En ae->U ae)->t { En with nx:=U } δ):GF t u En δ:=h (u En) λ_ z=>z
theorem cG:PSs X [] (lS X lu):=yG um λD σ H ⟨B,F,δ,Dd,c,q,k1,_⟩=>k1 δ σ F H q c
theorem aG(h1:PS X st (lS X t))(h2:PSs X cy (lS X u)):PSs X (st::cy) (lS X (GF t u)) :=
 yG (gh h1 h2) λD σ H ⟨B,F,δ,Dd,c,q,k1,k2,k3,k4⟩=>⟨B,F,δ,{ Dd with nx:=u Dd },c,q,λae aj F' H' hq c'=>⟨B,F',ae,Dd,c',hq,k1,k2,k3,k4⟩,k2,k3,k4⟩
theorem aJ(h1:PS X st (lS X t)):PSs X [st] (lS X t):=nQ h1
theorem GG:PSs X nR (lS X λ_ _=>False):=yG ME λD σ H ⟨_,_,_,_,_,q,_⟩=>q.elim
noncomputable def jG(i:Nat)(t:au):bG:=λD δ=>t δ λd ae=>D.nx (ae.set i (some d))
theorem bh{i:Nat}{x:Str}{pos':Pos}(hN:X.N.Nodup)(hi:X.N[i]?=some x)(hx:Loc X.env.scope x)(he:PE X e (lE te))(hs:swapsWith e (some (.Name x pos')) pos.line X.env=pure false:=by rfl)
  (hf:X.fn x=true\/X.env.scope.names.lookup x=some .local:=by first | exact .inl rfl | exact .inr rfl | assumption):PS X (.Assign [.Name x pos'] e pos) (lS X (jG i te)) :=
 iL (EO hN hi hx he hs hf) λD σ H ⟨B,F,δ,Dd,c,q,k1,k2,k3,k4⟩=>⟨B,F,δ,[],_,c,q,λd ae v F' H' hd sf sh c'=>k1 _ _ F' H' hd (c'.store i)⟩
noncomputable def ly(t:au):bG:=λD δ=>t δ λd _=>D.rt d
theorem aZ(he:PE X e (lE te)):PS X (.Return (some e) pos) (lS X (ly te)) :=
 iL (MC he) λD σ H ⟨B,F,δ,Dd,c,q,k1,k2,k3,k4⟩=>⟨B,F,δ,[],_,c,q,λd ae v F' H' hd sf sh c'=>k2 d v ae σ F' H' hd c'⟩
noncomputable def lz(tc:dN)(t u:bG):bG:=λD δ=>tc δ λb ae=>if b=true then t D ae else u D ae
theorem cH{l r:List Stmt}(hc:PT X c (lT tt))(ha:PSs X l (lS X t))(hb:PSs X r (lS X u)):PS X (.If c l r pos) (lS X (lz tt t u)) :=
 iL (xH hc ha hb) λD σ H ⟨B,F,δ,Dd,c,q,k⟩=>⟨B,F,δ,[],_,c,q,λb ae F' H' hq sf sh c'=>by
  cases b with
  | true=>exact nW ⟨B,F',ae,Dd,c',by simpa using hq,k⟩
  | false=>exact jt ⟨B,F',ae,Dd,c',by simpa using hq,k⟩⟩
noncomputable def lC(i:Nat)(rd:bK)(t:au):bG:=λD δ=>∃x,δ[i]?=some (some x)/\t δ λy ah=>rd x y λz=>D.nx (ah.set i (some z))
theorem uV{i:Nat}{x:Str}{op:Operator}{rd:bK}{pos':Pos}(hN:X.N.Nodup)(hi:X.N[i]?=some x)(hx:Loc X.env.scope x)(he:PE X e (lB te))(ho:aY X (inplaceOp op) rd)
  (hf:X.fn x=true\/X.env.scope.names.lookup x=some .local:=by first | exact .inl rfl | exact .inr rfl | assumption):PS X (.AugAssign (.Name x pos') op e pos) (lS X (lC i rd te)):=by
 obtain⟨r,h1,h2⟩:=ho
 refine iL (MQ hN hi hx he (ti:=r) h1 hf) λD σ H zz=>?_
 obtain⟨B,F,δ,Dd,c,⟨d0,e0,q⟩,k1,k2,k3,k4⟩:=zz
 obtain⟨v0,e1,s0⟩:=c.look e0
 exact⟨v0,e1,B,F,δ,[],_,c,q,λd ae v F' H' hd sf sh c' s=>h2 c' (s0.mono sf sh) s hd λz w H2 hz h3 c3=>k1 _ _ F' H2 hz (c3.store i)⟩
noncomputable def lD(tc:dN)(tb:bG):bG:=λD δ=>∃W:Nat->Dl->Prop,(∃m,W m δ)/\∀m δ,W m δ->tc δ λb ae=>if b=true then tb { D with nx:=λae=>∃m',m'<m/\W m' ae,ct:=λae=>∃m',m'<m/\W m' ae,bk:=D.nx } ae else D.nx ae
theorem om{body:List Stmt}(hp:PassesOwn (model X.prog X.w) X.A X.env X.xe)(hc:PT X c (lT tt))(hb:PSs X body (lS X t)):PS X (.While c body [] pos) (lS X (lD tt t)) :=
 iL (MU hp hc hb) λD σ H zz=>by
  obtain⟨B,F,δ,Dd,c,⟨W,⟨m0,w0⟩,hw⟩,k1,k2,k3,k4⟩:=zz
  refine⟨λm σ H=>∃F δ,ag B F H σ δ []/\W m δ,⟨m0,F,δ,c,w0⟩,λm σ H ⟨F,δ,c,w⟩=>⟨B,F,δ,[],_,c,hw m δ w,λb ae F' H' hq sf sh c'=>?_⟩⟩
  cases b with
  | true =>
   refine nW ⟨λaj H'=>∃m',m'<m/\∃F δ,ag B F H' aj δ []/\W m' δ,λaj H' z=>z,B,F',ae,{ Dd with nx:=λae=>∃m',m'<m/\W m' ae,ct:=λae=>∃m',m'<m/\W m' ae,bk:=Dd.nx },c',by simpa using hq,λaC fq F2 H2 ⟨m',hm,w2⟩ c2=>⟨m',hm,F2,aC,c2,w2⟩,k2,λaC fq F2 H2 z c2=>k1 aC fq F2 H2 z c2,λaC fq F2 H2 ⟨m',hm,w2⟩ c2=>⟨m',hm,F2,aC,c2,w2⟩,k4.2⟩
  | false=>exact jt (k1 ae σ F' H' (by simpa using hq) c')
end
structure JD(J:It)(F:Hp)(xs:List D):Prop where
 go:∀i H,aa F H->i<xs.length->J.go i H
 gj:∀i H x H',aa F H->i<xs.length->J.gj i H x H'->∃d,xs[i]?=some d/\aa H H'/\R F H' [d] [x] []
 stop:∀i H,aa F H->xs.length<=i->J.stop i H
noncomputable abbrev gu:=Dl->(Bool->List D->Dl->Prop)->Prop
noncomputable def lI(t:gu):TI:=λσ H Rr=>∃B F δ ts Qd,ag B F H σ δ ts/\t δ Qd/\∀g xs ae J F' H',Qd g xs ae->aa F F'->aa H H'->ag B F' H' σ ae ts->JD J H' (xs.map D.sh)->(g=true->xs.all D.pl=true/\JD J F' xs)->Rr J H'
noncomputable abbrev eF:=D->Dl->(Dl->Prop)->Prop
noncomputable def lG(m:Nat)(t:eF):TG:=λv σ H Q=>∃B F δ ts d Qd,ag B F H σ δ ((d,v)::ts)/\t d δ Qd/\∀ae aj,Qd ae->aj.length=σ.length->(∀j,j<m->aj[j]?=σ[j]?)->ag B F H aj ae ts->Q aj H
noncomputable def gQ:D->Option (List D)
 | .lst _ xs=>some xs
 | .fz xs=>some xs
 | _=>none
section
variable{B:Bs}{F H F1:Hp}{σ:L2.St}{δ:Dl}{ts:List (D × V)}
end
section
variable{X:Cx}{e a b c tg l iter:Expr}{es:List Expr}{pos:Pos}{t u:bG}{te:au}{tt:dN}{ta:br}{m:Nat}
theorem uW{w w':TI}(h:PI X tg iter w)(m:∀σ H Q,w' σ H Q->w σ H Q):PI X tg iter w':=λpins s σ H Q I q=>h pins s σ H Q I (m σ H Q q)
theorem GH{w w':TG}(h:PG X tg w)(m:∀v σ H Q,w' v σ H Q->w v σ H Q):PG X tg w':=λpins s σ H v u Q I r q=>h pins s σ H v u Q I r (m v σ H Q q)
noncomputable def gN(i:Nat):eF:=λd δ Q=>Q (δ.set i (some d))
theorem gR{i:Nat}{x:Str}(hN:X.N.Nodup)(hi:X.N[i]?=some x)(hx:Loc X.env.scope x)(hm:m<=i:=by decide)(hf:X.fn x=true\/X.env.scope.names.lookup x=some .local:=by first | exact .inl rfl | exact .inr rfl | assumption):PG X (.Name x pos) (lG m (gN i)) :=
 GH (ur hN hi hx hf) λv σ H Q ⟨B,F,δ,ts,d,Qd,c,q,k⟩=>k _ _ q (by simp) (λj hj=>by rw[qR (by omega)]) (c.store i)
theorem sq{K:PySem.W.Frag}{F H:Hp}{p:Addr}{xs:List D}{ws:List V}(hp:Rd F p (.lst ws))(r:R F H xs ws [])(hF:Full F H):JD (xO K p) F xs where
 go:=λi H' hs hi=>by
  have l:=r.length
  have fG:i<ws.length:=by omega
  exact⟨ws,ws[i],.inl (kU hp hs),dw fG⟩
 gj:=λi H' x H2 hs hi zz=>by
  obtain⟨e,y⟩:=zz
  subst e
  have hx:=y ws (.inl (kU hp hs))
  obtain⟨v,A1,e2,r1,sub⟩:=(r.full hF hs rfl).get (dw hi)
  rw[hx]at e2;cases e2
  have:A1=[]:=LU.mpr λa ha=>by simpa using sub ha
  subst this
  exact⟨_,dw hi,aa.refl _,r1⟩
 stop:=λi H' hs hi=>⟨ws,.inl (kU hp hs),by have:=r.length;omega⟩
theorem uX{F:Hp}(lo:Int)(n:Nat):JD (rH lo n) F ((aT n).map λ(k:Nat)=>D.int (lo+(k:Int))) where
 go:=λi H' hs hi=>by
  have fG:i<n:=by simpa using hi
  exact fG
 gj:=λi H' x H2 hs hi zz=>by
  obtain⟨e,y⟩:=zz
  subst e y
  have fG:i<n:=by simpa using hi
  exact⟨.int (lo+i),by simp[xj fG],aa.refl _,.int .nil⟩
 stop:=λi H' hs hi=>by
  have fG:n<=i:=by simpa using hi
  exact fG
noncomputable def lF(t:au):gu:=λδ Q=>t δ λd ae=>∃xs,gQ d=some xs/\Q d.pl xs ae
theorem QF(h:PE X l (lB te)):PI X tg l (lI (lF te)) :=
 uW (MY h) λσ H Q ⟨B,F,δ,ts,Qd,c,q,k⟩=>⟨B,F,δ,ts,_,c,q,λd ah v F1 H1 hd f1 h1 c1 s=>by
  obtain⟨xs,e,hq⟩:=hd
  have c3:=c1.snap
  have e2:=c1.ext
  have sn:=si e2
  cases s with
  | @shr p ws ys _ _ hp r _ =>
   obtain rfl:=cR e
   refine⟨p,rfl,⟨ws,bJ.of (e2 _ _ hp)⟩,k _ _ ah _ _ H1 hq (f1.trans sn) h1 c3 ?_ λ_=>⟨r.pl,sq (.inl (sn _ _ hp)) (r.shared sn (aa.refl _)) yB⟩⟩
   rw[iK r.pl]
   exact sq (.inl (e2 _ _ hp)) (r.shared e2 (aa.refl _)) (Full.refl _)
  | @own p ws ys _ _ hp r _ =>
   obtain rfl:=cR e
   refine⟨p,rfl,⟨ws,bJ.of hp⟩,k _ _ ah _ _ H1 hq (f1.trans sn) h1 c3 (sq (.inl hp) (r.frozen e2) (Full.refl _)) λz=>by simp[fI]at z⟩
  | @fz p o ws ys _ _ hp r _ =>
   obtain rfl:=cR e
   refine⟨p,rfl,⟨ws,.inl (.inr ⟨o,e2 _ _ hp⟩)⟩,k _ _ ah _ _ H1 hq (f1.trans sn) h1 c3 ?_ λ_=>⟨r.pl,sq (.inr ⟨o,sn _ _ hp⟩) (r.shared sn (aa.refl _)) yB⟩⟩
   rw[iK r.pl]
   exact sq (.inr ⟨o,e2 _ _ hp⟩) (r.shared e2 (aa.refl _)) (Full.refl _)
  | ai _=>cases e
  | bl _=>cases e
  | int _=>cases e
  | str _=>cases e
  | tup _ _ _=>cases e
  | obj _ _ _ _=>cases e
  | aL _ _=>cases e⟩
theorem lH(f:Nat->Int)(l:List Nat):(l.map λk=>D.int (f k)).map D.sh=l.map λk=>D.int (f k):=by simp[D.sh]
theorem GI(f:Nat->Int)(l:List Nat):(l.map λk=>D.int (f k)).all D.pl=true:=by simp[D.pl]
noncomputable def lK(t:br):gu:=λδ Q=>t δ λds ae=>∃j:Int,ds=[.int j]/\(-(2 ^ 62)<=j/\j<2 ^ 62)/\Q true ((aT j.toNat).map λ(k:Nat)=>D.int (0+(k:Int))) ae
theorem GJ{p:Pos}(hg:Gl X "range")(hm:X.mg "range"=none)(ha:PA X [a] (lA ta))(hs:starEach [a] X.env=[(false,eval a X.env)]:=by rfl):PI X tg (.Call (.Name "range" p) [a] [] pos) (lI (lK ta)) :=
 uW (M1 hg hm ha hs) λσ H Q ⟨B,F,δ,ts,Qd,c,q,k⟩=>⟨B,F,δ,ts,_,c,q,λds ah vs F1 H1 hd f1 h1 c1 s=>by
  obtain⟨j,rfl,⟨b1,b2⟩,hq⟩:=hd
  cases s with
  | int s =>
   cases s
   refine⟨j,rfl,b1,b2,k true _ ah _ _ H1 hq f1 h1 c1 ?_ λ_=>⟨GI _ _,uX 0 _⟩⟩
   rw[lH]
   exact uX 0 _⟩
noncomputable def lL(t:br):gu:=λδ Q=>t δ λds ae=>∃i j:Int,ds=[.int i,.int j]/\(-(2 ^ 62)<=i/\i<2 ^ 62/\-(2 ^ 62)<=j/\j<2 ^ 62)/\Q true ((aT (j-i).toNat).map λ(k:Nat)=>D.int (i+(k:Int))) ae
theorem lM{p:Pos}(hg:Gl X "range")(hm:X.mg "range"=none)(ha:PA X [a,b] (lA ta))(hs:starEach [a,b] X.env=[(false,eval a X.env),(false,eval b X.env)]:=by rfl)(dG:starEach [b] X.env=[(false,eval b X.env)]:=by rfl) :
  PI X tg (.Call (.Name "range" p) [a,b] [] pos) (lI (lL ta)) :=
 uW (M3 hg hm ha hs dG) λσ H Q ⟨B,F,δ,ts,Qd,c,q,k⟩=>⟨B,F,δ,ts,_,c,q,λds ah vs F1 H1 hd f1 h1 c1 s=>by
  obtain⟨i,j,rfl,bd,hq⟩:=hd
  cases s with
  | int s =>
   cases s with
   | int s =>
    cases s
    refine⟨i,j,rfl,bd,k true _ ah _ _ H1 hq f1 h1 c1 ?_ λ_=>⟨GI _ _,uX i _⟩⟩
    rw[lH]
    exact uX i _⟩
noncomputable def jH(xs:List D)(g:eF)(tb:bG):bG:=λEn ah=>∃Iv:Nat->Dl->Prop,Iv 0 ah /\
 (∀i d ae,xs[i]?=some d->Iv i ae->g d ae λaC=>tb { En with nx:=Iv (i+1),ct:=Iv (i+1),bk:=En.nx } aC)/\∀ae,Iv xs.length ae->En.nx ae
theorem jH.mk{xs:List D}{g:eF}{tb:bG}{En:kW}{δ:Dl}(Iv:Nat->Dl->Prop)(h0:Iv 0 δ)(ht:∀i d ae,xs[i]?=some d->Iv i ae->g d ae λaC=>tb { En with nx:=Iv (i+1),ct:=Iv (i+1),bk:=En.nx } aC)
  (hf:∀ae,Iv xs.length ae->En.nx ae):jH xs g tb En δ:=⟨Iv,h0,ht,hf⟩
noncomputable def lN(ti:gu)(g:eF)(tb:bG):bG:=λEn δ=>ti δ λsh xs ah=>sh=true/\jH xs g tb En ah
theorem sr{ti:gu}{g:eF}{body:List Stmt}(hp:PassesOwn (model X.prog X.w) X.A X.env X.xe)(hc:X.calm=true)(hi:PI X tg iter (lI ti))(hg:PG X tg (lG 0 g))(hb:PSs X body (lS X t))
  (hs:∀x,foldedSetIterable iter X.env x=pure x:=by intro _;rfl):PS X (.For tg iter body [] pos) (lS X (lN ti g t)) :=
 iL (M6 hp hc hi hg hb hs) λEn σ H ⟨B,F,δ,Dd,c,q,k1,k2,k3,k4⟩=>⟨B,F,δ,[],_,c,q,λsh xs ah J F1 H1 hq f1 h1 c1 _ jd=>by
  obtain⟨jq,Iv,i0,turn,fin⟩:=hq
  obtain⟨aQ,jd⟩:=jd jq
  have un:∀{F' H':Hp} {aj:L2.St} {ae:Dl} {ts:List (D × V)},ag ⟨B.H0,F1⟩ F' H' aj ae ts->ag B F' H' aj ae ts:=λc'=>c'.Qu c1.b2 c1.b3
  refine⟨λi m σ H=>m=xs.length-i/\i<=xs.length/\∃F δ,ag ⟨B.H0,F1⟩ F H σ δ []/\Iv i δ,⟨_,rfl,ki _,F1,ah,c1.rebase,i0⟩,?_⟩
  rintro i m fq H2 ⟨rfl,hi,F2,aC,c2,iv⟩
  have s2:aa F1 H2:=c2.b2.trans c2.ext
  by_cases eT:i<xs.length
  ·refine .inr ⟨jd.go i H2 s2 eT,λaj H'=>∃F δ,ag ⟨B.H0,F1⟩ F H' aj δ []/\Iv (i+1) δ,λaj H' z=>⟨xs.length-(i+1),by omega,rfl,eT,z⟩,λx H3 y=>?_⟩
   obtain⟨d,e,s3,r⟩:=jd.gj i H2 x H3 s2 eT y
   have c3:=(c2.grow s3).pushS (d:=d) (v:=x) ((r.s).mono c2.b2 (aa.refl _)) (by have:=r.pl;simpa using this)
   refine⟨⟨B.H0,F1⟩,F2,aC,[],d,_,c3,turn i d aC e iv,λae aj hq _ _ c4=>?_⟩
   exact⟨⟨B.H0,F1⟩,F2,ae,_,c4,hq,λfx iP F5 H5 h5 c5=>⟨F5,fx,c5,h5⟩,λd5 v5 fx iP F5 H5 h5 c5=>k2 d5 v5 fx iP F5 H5 h5 (un c5),λfx iP F5 H5 h5 c5=>k1 fx iP F5 H5 h5 (un c5),λfx iP F5 H5 h5 c5=>⟨F5,fx,c5,h5⟩,⟨λC fx pins iP F5 H5 s5 a T h5 c5=>k4.2.1 C fx pins iP F5 H5 s5 a T h5 (un c5),λC fx pins iP F5 H5 s5 h' e vs h5 c5=>k4.2.2 C fx pins iP F5 H5 s5 h' e vs h5 (un c5)⟩⟩
  ·have e:i=xs.length:=by omega
   subst e
   exact .inl ⟨jd.stop _ H2 s2 (bH _),k1 aC fq F2 H2 (fin aC iv) (un c2)⟩⟩
end
end L3
namespace L3
open PySem L2 PySem.Spec PyProof.Rows
noncomputable def eY(δ:Dl)(q:Str × Nat):Option D:=(δ[q.2]?).getD none
noncomputable def eZ(δ:Dl)(q:Str × Nat):Bool:=match eY δ q with
 | some d=>d.pl
 | none=>true
noncomputable def dB(ar:List (Str × Nat))(n:Nat)(δ:Dl):Dl:=(ar.map λq=>(eY δ q).map D.sh)++aR n none
noncomputable def uY(sh:Bool)(xs:List D)(ar:List (Str × Nat))(n:Nat)(g:eF)(tt:dN)(te:au)(ah:Dl)(Q:D->Dl->Prop):Prop:=∃(p:D->Bool) (f:D->D),
 (∀x∈xs.map D.sh,g x (dB ar n ah) λaC=>tt aC λb iO=>b=p x/\(p x=true->te iO λd _=>d=f x)) /\
 ((sh&&ar.all (eZ ah))=true\/∀x∈xs.map D.sh,p x=true->(f x).fr=true)/\xs.length<=sizeLine/\Q (.lst true (((xs.map D.sh).filter p).map f)) ah
noncomputable def jI(ti:gu)(ar:List (Str × Nat))(n:Nat)(g:eF)(tt:dN)(te:au):au:=λδ Q=>ti δ λsh xs ah=>uY sh xs ar n g tt te ah Q
noncomputable def iQ:dN:=λδ Q=>Q true δ
theorem QG{sh:Bool}{xs:List D}{ar:List (Str × Nat)}{n m:Nat}{te:au}{ah:Dl}{Q:D->Dl->Prop}(f:D->D)(hx:∀x∈xs.map D.sh,te ((dB ar n ah).set m (some x)) λd _=>d=f x)
  (cL:(sh&&ar.all (eZ ah))=true\/∀x∈xs.map D.sh,(f x).fr=true) (hl:xs.length<=sizeLine) (hq:Q (.lst true ((xs.map D.sh).map f)) ah):uY sh xs ar n (gN m) iQ te ah Q :=
 ⟨λ_=>true,f,λx h=>⟨rfl,λ_=>hx x h⟩,cL.imp id λh x hx _=>h x hx,hl,by rw[List.filter_eq_self.mpr (λ_ _=>rfl)];exact hq⟩
section
variable{B:Bs}{F H:Hp}{σ:L2.St}{δ:Dl}{ts:List (D × V)}
theorem GK(c:ag B F H σ δ ts)(n:Nat):∀(ar:List (Str × Nat)),ar.all (eZ δ)=true->RS F H (dB ar n δ) (d8 ar n σ) []
 | [],_=>by
  have z:∀n,RS F H (aR n none) (aR n none) []:=λn=>by
   induction n with
   | zero=>exact .nil
   | succ n ih=>exact .ai ih
  exact z n
 | q::r,h=>by
  rw[de,cC]at h
  have ih:=GK c n r h.2
  show RS F H ((eY δ q).map D.sh::dB r n δ) ((σ[q.2]?).getD none::d8 r n σ) []
  cases e:eY δ q with
  | none=>exact .ai ih
  | some d =>
   have e2:δ[q.2]?=some (some d):=by
    unfold eY at e
    cases z:δ[q.2]? with
    | none=>rw[z]at e;cases e
    | some o=>rw[z]at e;exact congrArg some e
   have hp:d.pl=true:=by have:=h.1;unfold eZ at this;rw[e]at this;exact this
   obtain⟨v,e3,s⟩:=c.look e2
   rw[e3]
   show RS F H (some d.sh::_) (some v::_) []
   rw[D.uP hp]
   exact .dy (A:=[]) (s.r (by simp[hp])) ih
theorem GL(c:ag B F H σ δ ts)(n:Nat):∀(ar:List (Str × Nat)),RS H H (dB ar n δ) (d8 ar n σ) []
 | []=>by
  have z:∀n,RS H H (aR n none) (aR n none) []:=λn=>by
   induction n with
   | zero=>exact .nil
   | succ n ih=>exact .ai ih
  exact z n
 | q::r=>by
  have ih:=GL c n r
  show RS H H ((eY δ q).map D.sh::dB r n δ) ((σ[q.2]?).getD none::d8 r n σ) []
  cases e:eY δ q with
  | none=>exact .ai ih
  | some d =>
   have e2:δ[q.2]?=some (some d):=by
    unfold eY at e
    cases z:δ[q.2]? with
    | none=>rw[z]at e;cases e
    | some o=>rw[z]at e;exact congrArg some e
   obtain⟨v,e3,s⟩:=c.look e2
   rw[e3]
   exact .dy (A:=[]) (s.frozen c.ext) ih
theorem GN{α:Type}(xs:List α)(p:α->Bool)(i:Nat)(x:α)(h:xs[i]?=some x):(xs.take (i+1)).filter p=(xs.take i).filter p++(if p x=true then [x]else []):=by
 rw[List.take_add_one,h,List.filter_append]
 simp only[Option.toList_some]
 by_cases hp:p x=true<;>simp[hp]
end
section
variable{X:Cx}{elt iter tg:Expr}{pos:Pos}{ifs:List Expr}{scope:Scope}{cl:List (Str × Addr)}{ti:gu}{tt:dN}{te:au}{g:eF}
theorem GO{B:Bs}{F1 H1:Hp}{σ:L2.St}{ah:Dl}{ts:List (D × V)}{J:It}{Qd:D->Dl->Prop}{Q:VK}{xs:List D}{sh:Bool}{ar:List (Str × Nat)}{n:Nat}(c1:ag B F1 H1 σ ah ts)
  (lP:JD J H1 (xs.map D.sh)) (su:sh=true->xs.all D.pl=true/\JD J F1 xs) (p:D->Bool) (f:D->D)
  (hx:∀x∈xs.map D.sh,g x (dB ar n ah) λaC=>tt aC λb iO=>b=p x/\(p x=true->te iO λd _=>d=f x))
  (cL:(sh&&ar.all (eZ ah))=true\/∀x∈xs.map D.sh,p x=true->(f x).fr=true) (hlen:xs.length<=sizeLine) (hq:Qd (.lst true (((xs.map D.sh).filter p).map f)) ah)
  (k:∀d ae v F' H',Qd d ae->aa F1 F'->aa H1 H'->ag B F' H' σ ae ((d,v)::ts)->Q v H'):Ga J ar n (lG ar.length g) (lT tt) (lE te) σ H1 Q:=by
 intro Dp hD
 have cD:ag B F1 (upd H1 Dp (.lst [])) σ ah ((.lst true [],.ref Dp)::ts):=c1.yD hD .nil rfl
 refine⟨λi m acc H2=>m=xs.length-i/\i<=xs.length/\H2 Dp=some (.lst acc)/\aa H1 H2/\acc.length<=i/\∃F2,aa F1 F2 /\
  ag B F2 H2 σ ah ((.lst true ((((xs.map D.sh).take i).filter p).map f),.ref Dp)::ts),⟨xs.length,rfl,ki _,bj,aa.upd hD,bH _,F1,aa.refl _,by simpa using cD⟩,?_⟩
 rintro i m acc H2 ⟨rfl,hi,yp,sA,QH,F2,gS,c2⟩
 refine⟨yp,?_⟩
 by_cases eT:i<xs.length
 case neg =>
  have e:i=xs.length:=by omega
  subst e
  refine .inl ⟨lP.stop _ H2 sA (by simp),k _ ah _ F2 H2 ?_ gS sA c2⟩
  have:(xs.map D.sh).take xs.length=xs.map D.sh:=by rw[List.take_of_length_le (by simp)]
  rw[this]
  exact hq
 case pos =>
  refine .inr ⟨lP.go i H2 sA (by simpa using eT),λx H3 y=>?_⟩
  obtain⟨d0,e0,yJ,r0⟩:=lP.gj i H2 x H3 sA (by simpa using eT) y
  have GP:d0∈xs.map D.sh:=tY e0
  have GQ:H3 Dp=some (.lst acc):=yJ _ _ yp
  have c3:=c2.grow yJ
  have yK:=sA.trans yJ
  refine⟨GQ,?_⟩
  have yL:=hx d0 GP
  have turn:∀Fi,aa Fi H3->RS Fi H3 (dB ar n ah) (d8 ar n σ) []->S Fi H3 [d0] [x]->d0.pl=true ->
    (∀d v F' H' A,d=f d0->p d0=true->aa H3 H'->aa Fi F'->aa F' H'->(∀a ws,F' a=some (.lst ws)->Fi a=some (.lst ws)\/H3 a=none)->R F' H' [d] [v] A->A.Nodup->(∀a∈A,H3 a=none) ->
     ∃F4,aa F2 F4/\ag B F4 H' σ ah ((d,v)::(.lst true ((((xs.map D.sh).take i).filter p).map f),.ref Dp)::ts)) ->
    lG ar.length g x (d8 ar n σ) H3 λdF H4 =>
     (dF.length=(d8 ar n σ).length/\∀j,j<ar.length->dF[j]?=(d8 ar n σ)[j]?)/\lT tt dF H4 λb H5=>H5 Dp=some (.lst acc) /\
     if b=true then lE te dF H5 λy H6=>H6 Dp=some (.lst acc)/\acc.length<sizeLine/\∃m',m'<xs.length-i /\
      (m'=xs.length-(i+1)/\i+1<=xs.length/\upd H6 Dp (.lst (acc++[y])) Dp=some (.lst (acc++[y]))/\aa H1 (upd H6 Dp (.lst (acc++[y])))/\(acc++[y]).length<=i+1/\∃F2,aa F1 F2 /\
       ag B F2 (upd H6 Dp (.lst (acc++[y]))) σ ah ((.lst true ((((xs.map D.sh).take (i+1)).filter p).map f),.ref Dp)::ts))
     else ∃m',m'<xs.length-i/\(m'=xs.length-(i+1)/\i+1<=xs.length/\H5 Dp=some (.lst acc)/\aa H1 H5/\acc.length<=i+1/\∃F2,aa F1 F2 /\
       ag B F2 H5 σ ah ((.lst true ((((xs.map D.sh).take (i+1)).filter p).map f),.ref Dp)::ts)):=by
   intro Fi QI QJ hS aQ back
   have ci:ag ⟨H3,Fi⟩ Fi H3 (d8 ar n σ) (dB ar n ah) []:=⟨QI,aa.refl _,aa.refl _,λ_ _ q=>.inl q,[],[],.nil,QJ,by simp,by simp⟩
   refine⟨⟨H3,Fi⟩,Fi,dB ar n ah,[],d0,_,ci.pushS hS aQ,yL,λae dF QK l1 k1 c4=>⟨⟨l1,k1⟩,⟨H3,Fi⟩,Fi,ae,[],_,c4,QK,λb fx F5 H5 hb f5 h5 c5=>?_⟩⟩
   obtain⟨hb,ht⟩:=hb
   have uO:H5 Dp=some (.lst acc):=h5 _ _ GQ
   refine⟨uO,?_⟩
   by_cases hp:p d0=true
   ·rw[hb,hp]
    refine nW ⟨⟨H3,Fi⟩,F5,fx,[],_,c5,ht hp,λd δ6 v F6 H6 hd f6 h6 c6=>?_⟩
    have GR:H6 Dp=some (.lst acc):=h6 _ _ uO
    obtain⟨A,C,r,s,nd,fr⟩:=c6.own
    obtain⟨F4,gU,c7⟩:=back d v F6 H6 A hd hp c6.b1 c6.b2 c6.ext c6.b3 r (eW.mp nd).1 λa ha=>fr a (fh _ ha)
    have c8:=c7.Qy GR
    refine⟨GR,by omega,xs.length-(i+1),by omega,rfl,eT,bj,?_,by simpa using QH,F4,gS.trans gU,?_⟩
    ·have GS:=yK.trans c6.b1
     exact⟨λa o q n=>by rw[az (cE q hD)];exact GS.get a o q n,λa ps q=>by rw[az (cE q hD)];exact GS.tb a ps q⟩
    ·have e9:(((xs.map D.sh).take (i+1)).filter p).map f=(((xs.map D.sh).take i).filter p).map f++[d]:=by
      rw[GN _ p i d0 e0,hp,hd];simp
     rw[e9]
     exact c8
   ·have GU:p d0=false:=by simpa using hp
    rw[hb,GU]
    refine jt ⟨xs.length-(i+1),by omega,rfl,eT,uO,yK.trans h5,by omega,F2,gS,?_⟩
    have e9:(((xs.map D.sh).take (i+1)).filter p).map f=(((xs.map D.sh).take i).filter p).map f:=by
     rw[GN _ p i d0 e0,GU];simp
    rw[e9]
    exact c3.grow h5
  by_cases hA:(sh&&ar.all (eZ ah))=true
  ·rw[cC]at hA
   obtain⟨aQ,jd⟩:=su hA.1
   have jq:=iK aQ
   rw[jq]at e0
   obtain⟨d1,e1,_,r1⟩:=jd.gj i H2 x H3 (gS.trans c2.ext) eT y
   rw[e0]at e1;cases e1
   have QL:d0.pl=true:=by have:=r1.pl;simpa using this
   refine turn F2 c3.ext (GK c3 n ar hA.2) ((r1.s).mono gS (aa.refl _)) QL λd v F' H' A hd hp hs hf he h3 r nd fr=>⟨F',hf,c3.call hs hf he h3 r nd fr⟩
  ·have QM:=cL.resolve_left hA
   refine turn H3 (aa.refl _) (GL c3 n ar) ((r0.shared yK (aa.refl _)).s) (by have:=r0.pl;simpa using this) λd v F' H' A hd hp hs hf he h3 r nd fr=>⟨F2,aa.refl _,?_⟩
   exact c3.uR hs (r.uQ (by rw[hd];simp[QM d0 GP hp]) (c3.ext.trans hf)) nd fr
theorem sC(ar:List (Str × Nat))(aX:List Str)(hc:X.calm=true)(hi:PI X tg iter (lI ti))
  (hg:∀C s H fp,PG (cn X scope (ar.map (·.1)++aX) cl C s H fp) tg (lG ar.length g))
  (ht:∀C s H fp,iB (cn X scope (ar.map (·.1)++aX) cl C s H fp) ifs (lT tt)) (he:∀C s H fp,PE (cn X scope (ar.map (·.1)++aX) cl C s H fp) elt (lE te))
  (iE:closureFor scope X.env=pure cl) (iF:iC X cl) (iG:iD cl (relabel scope X.env).names) (iH:iA X scope cl ar)
  (eM:∀y∈scope.names,y.2≠.cell) (eB:scope.kind=.function) (iJ:∀y∈scope.names,y.2=.local->scope.names.lookup y.1=some .local)
  (hs:∀x,foldedSetIterable iter X.env x=pure x:=by intro _;rfl):PE X (.ListComp elt [⟨tg,iter,ifs,0⟩] scope pos) (lE (jI ti ar aX.length g tt te)) :=
 cj (Pu ar aX hc hi hg ht he iE iF iG iH eM eB iJ hs) λσ H Q ⟨B,F,δ,ts,Qd,c,q,k⟩=>⟨B,F,δ,ts,_,c,q,λsh xs ah J F1 H1 hq f1 h1 c1 lP su=>by
  obtain⟨p,f,hx,cL,hlen,hQ⟩:=hq
  exact GO c1 lP su p f hx cL hlen hQ λd ae v F' H' hd hf hs c'=>k d ae v F' H' hd (f1.trans hf) (h1.trans hs) c'⟩
theorem QN{i:Nat}{x:Str}{pos' apos:Pos}(hN:X.N.Nodup)(jv:X.N[i]?=some x)(hx:L2.Loc X.env.scope x)(ar:List (Str × Nat))(aX:List Str)(hc:X.calm=true)(hi:PI X tg iter (lI ti))
  (hg:∀C s H fp,PG (cn X scope (ar.map (·.1)++aX) cl C s H fp) tg (lG ar.length g))
  (ht:∀C s H fp,iB (cn X scope (ar.map (·.1)++aX) cl C s H fp) ifs (lT tt)) (he:∀C s H fp,PE (cn X scope (ar.map (·.1)++aX) cl C s H fp) elt (lE te))
  (iE:closureFor scope X.env=pure cl) (iF:iC X cl) (iG:iD cl (relabel scope X.env).names) (iH:iA X scope cl ar)
  (eM:∀y∈scope.names,y.2≠.cell) (eB:scope.kind=.function) (iJ:∀y∈scope.names,y.2=.local->scope.names.lookup y.1=some .local)
  (r6:swapsWith (.ListComp elt [⟨tg,iter,ifs,0⟩] scope pos) (some (.Name x pos')) apos.line X.env=pure true:=by rfl) (hf:X.fn x=true\/X.env.scope.names.lookup x=some .local:=by first | exact .inl rfl | exact .inr rfl)
  (hs:∀x,foldedSetIterable iter X.env x=pure x:=by intro _;rfl):PS X (.Assign [.Name x pos'] (.ListComp elt [⟨tg,iter,ifs,0⟩] scope pos) apos) (lS X (jG i (jI ti ar aX.length g tt te))) :=
 iL (Pw hN jv hx hf ar aX hc hi hg ht he iE iF iG iH eM eB iJ r6 hs) λEn σ H ⟨B,F,δ,Dd,c,q,k1,k2,k3,k4⟩=>⟨B,F,δ,[],_,c,q,λsh xs ah J F1 H1 hq f1 h1 c1 lP su=>by
  obtain⟨p,f,hx,cL,hlen,hQ⟩:=hq
  exact GO (Qd:=λd ae=>Dd.nx (ae.set i (some d))) c1 lP su p f hx cL hlen hQ λd ae v F' H' hd hf hs c'=>k1 _ _ F' H' hd (c'.store i)⟩
theorem uZ{Y:Cx}:iB Y [] (lT iQ):=λ_ _ _ H _ I ⟨B,F,δ,ts,Qd,c,q,k⟩=>Pa _ _ _ H _ I (k true δ F H q (aa.refl _) (aa.refl _) c)
theorem GV{Y:Cx}{c:Expr}(h:PT Y c (lT tt)):iB Y [c] (lT tt):=Pb h
end
end L3
namespace L3
open PySem L2 PySem.Spec PyProof.Rows
section
variable{X:Cx}{F H:Hp}{v w:V}
noncomputable def l2(rd:bK):R2:=λv w H Q=>∃B F σ δ ts x y Qd,ag B F H σ δ ts/\S F H [x] [v]/\S F H [y] [w]/\rd x y Qd/\∀d z H',Qd d->aa H H'->ag B F H' σ δ ((d,z)::ts)->Q z H'
theorem aY.of{f:Value->Value->Sem Value}{rd:bK}(h:bM X f (l2 rd)):aY X f rd:=⟨_,h,λ{B F H σ δ ts x y v w Q Qd} c sx sy q k=>⟨B,F,σ,δ,ts,x,y,Qd,c,sx,sy,q,k⟩⟩
theorem oo{f:Value->Value->Sem Value}{C:Int->Int->Prop}{g:Int->Int->V}{gd:Int->Int->D}(ho:bM X f (rI C g))(hg:∀i j F H,S F H [gd i j] [g i j])(hp:∀i j,(gd i j).pl=true):aY X f λx y Q=>∃i j,x=.int i/\y=.int j/\C i j/\Q (gd i j) :=
 ⟨_,ho,λ{B F H σ δ ts x y v w Q Qd} c sx sy h k=>by
  obtain⟨i,j,rfl,rfl,hc,q⟩:=h
  cases sx;cases sy
  exact⟨i,j,rfl,rfl,hc,k _ _ _ q (aa.refl _) (c.pushS (hg i j F H) (hp i j))⟩⟩
theorem gW{f:Value->Value->Sem Value}{g:Int->Int->V}{gd:Int->Int->D}(ho:bM X f (fu g))(hg:∀i j F H,S F H [gd i j] [g i j])(hp:∀i j,(gd i j).pl=true):aY X f λx y Q=>∃i j,x=.int i/\y=.int j/\Q (gd i j) :=
 ⟨_,ho,λ{B F H σ δ ts x y v w Q Qd} c sx sy h k=>by
  obtain⟨i,j,rfl,rfl,q⟩:=h
  cases sx;cases sy
  exact⟨i,j,rfl,rfl,k _ _ _ q (aa.refl _) (c.pushS (hg i j F H) (hp i j))⟩⟩
theorem fy{o:Bool}{xs:List D}(s:S F H [.lst o xs] [v])(e:aa F H):∃p ws,v=.ref p/\H p=some (.lst ws)/\S F H xs ws:=by
 cases s with
 | shr h r _=>exact⟨_,_,rfl,e _ _ h,r.s⟩
 | own h r _=>exact⟨_,_,rfl,h,r⟩
theorem fN{xs:List D}(s:S F H [.tup xs] [v]):∃p ws,v=.ref p/\H p=some (.tup ws)/\S F H xs ws:=by
 cases s with
 | tup h r _=>exact⟨_,_,rfl,h,r⟩
theorem sD{d:D}{xs:List D}(s:S F H [d] [v])(e:aa F H)(h:gQ d=some xs):∃p ws,v=.ref p/\Rd H p (.lst ws)/\S F H xs ws:=by
 cases s with
 | shr h' r _=>cases h;exact⟨_,_,rfl,.inl (e _ _ h'),r.s⟩
 | own h' r _=>cases h;exact⟨_,_,rfl,.inl h',r⟩
 | fz h' r _=>cases h;exact⟨_,_,rfl,.inr ⟨_,e _ _ h'⟩,r.s⟩
 | ai _=>cases h
 | bl _=>cases h
 | int _=>cases h
 | str _=>cases h
 | tup _ _ _=>cases h
 | obj _ _ _ _=>cases h
 | aL _ _=>cases h
theorem S.rep{xs:List D}{ws:List V}(s:S F H xs ws):∀k:Nat,S F H (aR k xs).flatten (aR k ws).flatten
 | 0=>by simpa using S.nil
 | k+1=>by
  rw[kl,kl,nB,nB]
  exact s.append (S.rep s k)
noncomputable def jJ:bK:=λx y Q=>match x,y with
 | .int i,.int j=>Q (.int (i+j))
 | .str a,.str b=>a.length+b.length<=sizeLine/\Q (.str (a++b))
 | .lst _ xs,.lst _ ys=>(xs.length+ys.length<=sizeLine/\xs.all D.pl=true/\ys.all D.pl=true)/\Q (.lst true (xs++ys))
 | _,_=>False
theorem QO:aY X (binaryOp .Add) λx y Q=>∃o xs o' ys,x=.lst o xs/\y=.lst o' ys/\(xs.length+ys.length<=sizeLine/\xs.all D.pl=true/\ys.all D.pl=true)/\Q (.lst true (xs++ys)) :=
 ⟨_,Oq,λ{B F H σ δ ts x y v w Q Qd} c sx sy h k=>by
  obtain⟨o,xs,o',ys,rfl,rfl,⟨hz,h1,h2⟩,q⟩:=h
  obtain⟨p,ws,rfl,e1,s1⟩:=fy sx c.ext
  obtain⟨p',dz,rfl,e2,s2⟩:=fy sy c.ext
  refine⟨p,p',ws,dz,rfl,rfl,e1,e2,by rw[<-s1.length,<- s2.length];exact hz,λr hr=>?_⟩
  exact k _ _ _ q (aa.upd hr) (c.yD hr (s1.append s2) (by simp[h1,h2]))⟩
theorem QP:aY X (binaryOp .Add) λx y Q=>∃i j,x=.str i/\y=.str j/\i.length+j.length<=sizeLine/\Q (.str (i++j)) :=
 ⟨_,Nu,λ{B F H σ δ ts x y v w Q Qd} c sx sy h k=>by
  obtain⟨i,j,rfl,rfl,hz,q⟩:=h
  cases sx;cases sy
  exact⟨i,j,rfl,rfl,hz,k _ _ _ q (aa.refl _) (c.pushS (.str .nil) rfl)⟩⟩
theorem iR:aY X (binaryOp .Add) jJ:=((gW (gd:=λi j=>.int (i+j)) Na (λ_ _ _ _=>.int .nil) λ_ _=>rfl).or (QP.or QO)).imp λx y Q h=>by
 unfold jJ at h
 split at h
 ·exact .inl ⟨_,_,rfl,rfl,h⟩
 ·exact .inr (.inl ⟨_,_,rfl,rfl,h.1,h.2⟩)
 ·exact .inr (.inr ⟨_,_,_,_,rfl,rfl,h.1,h.2⟩)
 ·exact h.elim
noncomputable def iI(C:Int->Int->Prop)(g:Int->Int->D):bK:=λx y Q=>match x,y with
 | .int i,.int j=>C i j/\Q (g i j)
 | _,_=>False
noncomputable def dO(g:Int->Int->D):bK:=λx y Q=>match x,y with
 | .int i,.int j=>Q (g i j)
 | _,_=>False
theorem sE{f:Value->Value->Sem Value}{C:Int->Int->Prop}{g:Int->Int->D}(h:aY X f λx y Q=>∃i j,x=.int i/\y=.int j/\C i j/\Q (g i j)):aY X f (iI C g):=h.imp λx y Q h=>by
 unfold iI at h
 split at h
 ·exact⟨_,_,rfl,rfl,h.1,h.2⟩
 ·exact h.elim
theorem iS{f:Value->Value->Sem Value}{g:Int->Int->D}(h:aY X f λx y Q=>∃i j,x=.int i/\y=.int j/\Q (g i j)):aY X f (dO g):=h.imp λx y Q h=>by
 unfold dO at h
 split at h
 ·exact⟨_,_,rfl,rfl,h⟩
 ·exact h.elim
noncomputable def lQ:bK:=dO λi j=>.int (i-j)
theorem e5:aY X (binaryOp .Sub) lQ:=iS (gW xU (λ_ _ _ _=>.int .nil) λ_ _=>rfl)
noncomputable def yM(_ j:Int):Prop:=0<j/\j.natAbs.log2<9000
theorem u3{i j:Int}(h1:0<j)(h2:j<1073741824):yM i j:=⟨h1,by
 have h:j.natAbs<2 ^ 30:=by omega
 have:=(t7 (show j.natAbs≠0 by omega)).mpr h
 omega⟩
theorem QQ:bM X (binaryOp .FloorDiv) (rI yM λi j=>.int (i/j)):=nS λi j _ _ _ _ _ hc q =>
 floordiv_int (show j≠0 by have:=hc.1;omega) (by rw[LJ i (by have:=hc.1;omega)];exact q) (.inl (PyProof.noPylong_of_log2 hc.2))
noncomputable def lR:bK:=iI yM λi j=>.int (i/j)
theorem u4:aY X (binaryOp .FloorDiv) lR:=sE (oo QQ (λ_ _ _ _=>.int .nil) λ_ _=>rfl)
noncomputable def lU:bK:=iI (λ_ j=>0<j) λi j=>.int (i%j)
theorem e7:aY X (binaryOp .Mod) lU:=sE (oo Nb (λ_ _ _ _=>.int .nil) λ_ _=>rfl)
noncomputable def lV:bK:=iI EW λi j=>.int (i ^ j.toNat)
theorem yN:aY X (binaryOp .Pow) lV:=sE (oo Nc (λ_ _ _ _=>.int .nil) λ_ _=>rfl)
noncomputable def lW:bK:=iI FX λi j=>.int (i*2 ^ j.toNat)
theorem lY:aY X (binaryOp .LShift) lW:=sE (oo FY (λ_ _ _ _=>.int .nil) λ_ _=>rfl)
noncomputable def lZ:bK:=iI (λ_ j=>0<=j) λi j=>.int (i/2 ^ j.toNat)
theorem GW:aY X (binaryOp .RShift) lZ:=sE (oo Nd (λ_ _ _ _=>.int .nil) λ_ _=>rfl)
noncomputable def me:bK:=dO λi j=>.int (jc i j)
theorem GX:aY X (binaryOp .BitAnd) me:=iS (gW Nf (λ_ _ _ _=>.int .nil) λ_ _=>rfl)
noncomputable def mf:bK:=dO λi j=>.int (kh i j)
theorem yO:aY X (binaryOp .BitXor) mf:=iS (gW Ng (λ_ _ _ _=>.int .nil) λ_ _=>rfl)
theorem QR:bM X (binaryOp .Mult) (rI IntMulOk λi j=>.int (i*j)):=nS λ_ _ _ _ _ _ _ hc q=>mul_int q hc
noncomputable def jK:bK:=λx y Q=>match x,y with
 | .int i,.int j=>IntMulOk i j/\Q (.int (i*j))
 | .lst _ xs,.int k=>(-(2 ^ 63)<=k/\k<2 ^ 63/\xs.length*k.toNat<=sizeLine/\xs.all D.pl=true)/\Q (.lst true (aR k.toNat xs).flatten)
 | _,_=>False
theorem QS:aY X (binaryOp .Mult) λx y Q=>∃o xs k,x=.lst o xs/\y=.int k/\(-(2 ^ 63)<=k/\k<2 ^ 63/\xs.length*k.toNat<=sizeLine/\xs.all D.pl=true)/\Q (.lst true (aR k.toNat xs).flatten) :=
 ⟨_,Ov,λ{B F H σ δ ts x y v w Q Qd} c sx sy h k=>by
  obtain⟨o,xs,n,rfl,rfl,⟨b1,b2,hz,h1⟩,q⟩:=h
  obtain⟨p,ws,rfl,e1,s1⟩:=fy sx c.ext
  cases sy
  refine⟨p,n,ws,rfl,rfl,e1,b1,b2,by rw[<-s1.length];exact hz,λr hr=>?_⟩
  refine k _ _ _ q (aa.upd hr) (c.yD hr (s1.rep _) ?_)
  rw[cV]
  intro x hx
  obtain⟨l,hl,GY⟩:=List.mem_flatten.mp hx
  rw[(LV.mp hl).2]at GY
  exact cV.mp h1 x GY⟩
theorem u5:aY X (binaryOp .Mult) jK:=((oo (gd:=λi j=>.int (i*j)) QR (λ_ _ _ _=>.int .nil) λ_ _=>rfl).or QS).imp λx y Q h=>by
 unfold jK at h
 split at h
 ·exact .inl ⟨_,_,rfl,rfl,h.1,h.2⟩
 ·exact .inr ⟨_,_,_,rfl,rfl,h.1,h.2⟩
 ·exact h.elim
theorem QT:aY X (inplaceOp .Add) (dO λi j=>.int (i+j)):=iS (gW Nh (λ_ _ _ _=>.int .nil) λ_ _=>rfl)
theorem yP:aY X (inplaceOp .BitXor) (dO λi j=>.int (kh i j)):=iS (gW Ni (λ_ _ _ _=>.int .nil) λ_ _=>rfl)
noncomputable def mh:bK:=dO λi j=>.bl (decide (i<j))
noncomputable def mi:bK:=dO λi j=>.bl (decide (i<=j))
noncomputable def mj:bK:=dO λi j=>.bl (decide (j<i))
noncomputable def mm:bK:=dO λi j=>.bl (decide (j<=i))
theorem jL:aY X (compareOp .Lt) mh:=iS (gW Nl (λ_ _ _ _=>.bl .nil) λ_ _=>rfl)
theorem iT:aY X (compareOp .LtE) mi:=iS (gW Nm (λ_ _ _ _=>.bl .nil) λ_ _=>rfl)
theorem QU:aY X (compareOp .Gt) mj:=iS (gW Nn (λ_ _ _ _=>.bl .nil) λ_ _=>rfl)
theorem yQ:aY X (compareOp .GtE) mm:=iS (gW Np (λ_ _ _ _=>.bl .nil) λ_ _=>rfl)
noncomputable def oq:D->Bool
 | .ai=>true
 | _=>false
noncomputable def bD:D->D->Bool
 | .ai,.ai=>true
 | .bl a,.bl b=>a==b
 | .bl a,.int b=>(if a then 1 else 0)==b
 | .int a,.bl b=>a==(if b then 1 else 0)
 | .int a,.int b=>a==b
 | .str a,.str b=>a==b
 | .lst _ xs,.lst _ ys=>fO xs ys
 | .tup xs,.tup ys=>fO xs ys
 | _,_=>false
where fO:List D->List D->Bool
 | [],[]=>true
 | x::xs,y::ys=>bD x y&&fO xs ys
 | _,_=>false
noncomputable def ay:Nat->D->Bool
 | _,.ai=>true
 | _,.bl _=>true
 | _,.int _=>true
 | _,.str _=>true
 | n+1,.lst _ xs=>xs.all (ay n)
 | n+1,.tup xs=>xs.all (ay n)
 | _,_=>false
theorem yR:∀(xs ys:List D),xs.length=ys.length->bD.fO xs ys=(aT xs.length).all λj=>bD (xs.getD j .ai) (ys.getD j .ai)
 | [],[],_=>rfl
 | x::xs,y::ys,h=>by
  rw[fU,List.range_succ_eq_map,de,qU]
  show(bD x y&&bD.fO xs ys)=_
  rw[yR xs ys (by simpa using h)]
  rfl
theorem yS:∀(xs ys:List D),xs.length≠ys.length->bD.fO xs ys=false
 | [],[],h=>absurd rfl h
 | [],_::_,_=>rfl
 | _::_,[],_=>rfl
 | x::xs,y::ys,h=>by
  show(bD x y&&bD.fO xs ys)=false
  rw[yS xs ys (by simpa using h),xk]
noncomputable def QV:V->D
 | .bl b=>.bl b
 | .int i=>.int i
 | .str z=>.str z
 | _=>.ai
theorem GZ{x:D}{v:V}(h:ay 0 x=true)(s:S F H [x] [v]):x=QV v:=by
 cases s with
 | ai _=>rfl
 | bl _=>rfl
 | int _=>rfl
 | str _=>rfl
 | _=>cases h
theorem QW{x:D}(h:ay 0 x=true):bD x x=true:=by
 cases x with
 | ai=>rfl
 | bl b=>exact beq_self_eq_true b
 | int i=>exact beq_self_eq_true i
 | str z=>exact beq_self_eq_true z
 | _=>cases h
theorem G0:∀(n:Nat) {xs ys:List D} {vs:List V},xs.all (ay n)=true->ys.all (ay n)=true->S F H xs vs->S F H ys vs->aa F H->bD.fO xs ys=true:=by
 intro n
 induction n with
 | zero =>
  intro xs
  induction xs with
  | nil=>intro ys vs _ _ s1 s2 _;cases s1;cases s2;rfl
  | cons x xs ih =>
   intro ys vs h1 h2 s1 s2 e
   obtain⟨v,bN,rfl,q1,r1⟩:=s1.cq
   cases ys with
   | nil=>cases s2
   | cons y ys =>
    obtain⟨v',GA,ee,q2,r2⟩:=s2.cq
    cases ee
    rw[de,cC]at h1 h2
    show(bD x y&&bD.fO xs ys)=true
    rw[ih h1.2 h2.2 r1 r2 e,jh]
    have e1:=GZ h1.1 q1
    have e2:=GZ h2.1 q2
    rw[e2,<- e1]
    exact QW h1.1
 | succ n G1 =>
  intro xs
  induction xs with
  | nil=>intro ys vs _ _ s1 s2 _;cases s1;cases s2;rfl
  | cons x xs ih =>
   intro ys vs h1 h2 s1 s2 e
   obtain⟨v,bN,rfl,q1,r1⟩:=s1.cq
   cases ys with
   | nil=>cases s2
   | cons y ys =>
    obtain⟨v',GA,ee,q2,r2⟩:=s2.cq
    cases ee
    rw[de,cC]at h1 h2
    show(bD x y&&bD.fO xs ys)=true
    rw[ih h1.2 h2.2 r1 r2 e,jh]
    cases x with
    | lst o1 a1 =>
     obtain⟨p,ws,rfl,e1,t1⟩:=fy q1 e
     cases y with
     | lst o2 a2 =>
      obtain⟨p2,yT,ev,e2,t2⟩:=fy q2 e
      cases ev
      rw[e1]at e2;cases e2
      exact G1 h1.1 h2.1 t1 t2 e
     | tup a2=>obtain⟨p2,yT,ev,e2,t2⟩:=fN q2;cases ev;rw[e1]at e2;cases e2
     | _=>first | (cases q2;done) | (exact absurd h2.1 (by simp[ay]))
    | tup a1 =>
     obtain⟨p,ws,rfl,e1,t1⟩:=fN q1
     cases y with
     | tup a2 =>
      obtain⟨p2,yT,ev,e2,t2⟩:=fN q2
      cases ev
      rw[e1]at e2;cases e2
      exact G1 h1.1 h2.1 t1 t2 e
     | lst o2 a2=>obtain⟨p2,yT,ev,e2,t2⟩:=fy q2 e;cases ev;rw[e1]at e2;cases e2
     | _=>first | (cases q2;done) | (exact absurd h2.1 (by simp[ay]))
    | ai=>cases q1;cases q2;simp[bD]
    | bl _=>cases q1;cases q2;simp[bD]
    | int _=>cases q1;cases q2;simp[bD]
    | str _=>cases q1;cases q2;simp[bD]
    | obj _ _ _=>exact absurd h1.1 (by simp[ay])
    | fz _=>exact absurd h1.1 (by simp[ay])
    | aL _=>exact absurd h1.1 (by simp[ay])
end
end L3
namespace L3
open PySem L2 PySem.Spec PyProof.Rows
structure QX(A:Around)(s:Shared)(u w:Value)(b:Bool):Prop where
 rc:SeqAt.RcAt A s u w b
 ne:SeqAt.RcNeAt A s u w (!b)
 eq:SeqAt.EqAt A s u w b
section
variable{X:Cx}{F H:Hp}{v w:V}
theorem G2{xs:List V}{us:List Value}(r:Vals xs us){j:Nat}(h:j<us.toArray.size):∃x,xs[j]?=some x/\RelV x us.toArray[j]:=by
 have l:=r.length
 have hj:j<xs.length:=by rw[l];simpa using h
 obtain⟨u,e,q⟩:=r.get (dw hj)
 obtain⟨_,z⟩:=kg.mp e
 refine⟨_,dw hj,?_⟩
 have:us.toArray[j]=u:=by simpa using z
 rw[this];exact q
theorem G3{xs:List D}{j:Nat}{d:D}(h:xs[j]?=some d):xs.getD j .ai=d:=by rw[fE,h];rfl
theorem G4{pins:List (Addr × Obj)}{σ:L2.St}{s:Shared}(I:Inv X pins σ H s)(e:aa F H):∀(n:Nat) (x y:D) (v w:V) (u u':Value) (A:Around),ay n x=true->ay n y=true->S F H [x] [v]->S F H [y] [w]->RelV v u->RelV w u' ->
  A.units+n<cLine->QX A s u u' (bD x y):=by
 intro n
 induction n with
 | zero =>
  intro x y v w u u' A hx hy sx sy rv aN hu
  cases sx with
  | ai _ =>
   cases rv
   cases sy with
   | ai _=>cases aN;exact⟨.none_none,.none_none,.same _⟩
   | bl _=>cases aN;exact⟨.none_bool _,.none_bool _,.none_bool _⟩
   | int _=>obtain⟨t,rfl⟩:=aN;exact⟨.none_int _ _,.none_int _ _,.none_int _ _⟩
   | str _=>obtain⟨t,rfl⟩:=aN;exact⟨.none_str _ _,.none_str _ _,.none_str _ _⟩
   | _=>simp[ay]at hy
  | bl _ =>
   cases rv
   cases sy with
   | ai _=>cases aN;exact⟨.bool_none _,.bool_none _,.bool_none _⟩
   | bl _=>cases aN;exact⟨.bool_bool _ _,.bool_bool _ _,.bool_bool _ _⟩
   | int _=>obtain⟨t,rfl⟩:=aN;exact⟨.bool_int _ _ _,.bool_int _ _ _,.bool_int _ _ _⟩
   | str _=>obtain⟨t,rfl⟩:=aN;exact⟨.bool_str _ _ _,.bool_str _ _ _,.bool_str _ _ _⟩
   | _=>simp[ay]at hy
  | int _ =>
   obtain⟨t0,rfl⟩:=rv
   cases sy with
   | ai _=>cases aN;exact⟨.int_none _ _,.int_none _ _,.int_none _ _⟩
   | bl _=>cases aN;exact⟨.int_bool _ _ _,.int_bool _ _ _,.int_bool _ _ _⟩
   | int _=>obtain⟨t,rfl⟩:=aN;exact⟨.int_int _ _ _ _,.int_int _ _ _ _,.int_int _ _ _ _⟩
   | str _=>obtain⟨t,rfl⟩:=aN;exact⟨.int_str _ _ _ _,.int_str _ _ _ _,.int_str _ _ _ _⟩
   | _=>simp[ay]at hy
  | str _ =>
   obtain⟨t0,rfl⟩:=rv
   cases sy with
   | ai _=>cases aN;exact⟨.str_none _ _,.str_none _ _,.str_none _ _⟩
   | bl _=>cases aN;exact⟨.str_bool _ _ _,.str_bool _ _ _,.str_bool _ _ _⟩
   | int _=>obtain⟨t,rfl⟩:=aN;exact⟨.str_int _ _ _ _,.str_int _ _ _ _,.str_int _ _ _ _⟩
   | str _=>obtain⟨t,rfl⟩:=aN;exact⟨.str_str _ _ _ _,.str_str _ _ _ _,.str_str _ _ _ _⟩
   | _=>simp[ay]at hy
  | _=>simp[ay]at hx
 | succ n ih =>
  intro x y v w u u' A hx hy sx sy rv aN hu
  have aO:A.units<cLine:=by omega
  have QY:A.in1.units+n<cLine:=by show A.units+1+n<cLine;omega
  have items:∀{xs ys:List D} {vs ws:List V} {us ot:List Value},xs.all (ay n)=true->ys.all (ay n)=true->S F H xs vs->S F H ys ws->Vals vs us->Vals ws ot ->
    ∀j (h1:j<us.toArray.size) (h2:j<ot.toArray.size),SeqAt.EqAt A.in1 s us.toArray[j] ot.toArray[j] (bD (xs.getD j .ai) (ys.getD j .ai)):=by
   intro xs ys vs ws us ot hx hy sx sy r1 r2 j h1 h2
   obtain⟨a,e1,q1⟩:=G2 r1 h1
   obtain⟨b,e2,q2⟩:=G2 r2 h2
   obtain⟨d1,g1,t1⟩:=sx.get' e1
   obtain⟨d2,g2,t2⟩:=sy.get' e2
   rw[G3 g1,G3 g2]
   exact(ih d1 d2 a b _ _ A.in1 (cV.mp hx d1 (tY g1)) (cV.mp hy d2 (tY g2)) t1 t2 q1 q2 QY).eq
  have low:∀x:D,(ay 0 x=true)\/(∃o xs,x=.lst o xs)\/(∃xs,x=.tup xs)\/ay (n+1) x=false:=by
   intro x;cases x<;>simp[ay]
  cases x with
  | lst o xs =>
   obtain⟨p,ws,rfl,e1,t1⟩:=fy sx e
   cases rv
   obtain⟨its,r1,p1,z1⟩:=I.list (bJ.of (K:=X.K) e1)
   have l1:=r1.length
   cases y with
   | lst o' ys =>
    obtain⟨p',dz,rfl,e2,t2⟩:=fy sy e
    cases aN
    obtain⟨dP,r2,p2,z2⟩:=I.list (bJ.of (K:=X.K) e2)
    have l2:=r2.length
    have k1:=t1.length
    have k2:=t2.length
    by_cases hl:xs.length=ys.length
    ·have gF:its.toArray.size=dP.toArray.size:=by simp;omega
     have ev:(aT its.toArray.size).all (λj=>bD (xs.getD j .ai) (ys.getD j .ai))=bD (.lst o xs) (.lst o' ys):=by
      show _=bD.fO xs ys
      rw[yR xs ys hl,cZ,<- l1,<- k1]
     have a:=SeqAt.RcAt.lists (e:=λj=>bD (xs.getD j .ai) (ys.getD j .ai)) p1.isList p2.isList gF aO (items hx hy t1 t2 r1 r2)
     have b:=SeqAt.RcNeAt.lists (e:=λj=>bD (xs.getD j .ai) (ys.getD j .ai)) p1.isList p2.isList gF aO (items hx hy t1 t2 r1 r2)
     rw[ev]at a b
     refine⟨a,b,?_⟩
     by_cases mq:p=p'
     ·subst mq
      rw[e1]at e2;cases e2
      have:bD (.lst o xs) (.lst o' ys)=true:=G0 n hx hy t1 t2 e
      rw[this]
      exact .same _
     ·exact .of_refs mq a
    ·have gF:(its.toArray.size != dP.toArray.size)=true:=by simp;omega
     have ev:bD (.lst o xs) (.lst o' ys)=false:=yS xs ys hl
     rw[ev]
     have a:=SeqAt.RcAt.lists_lengths p1.isList p2.isList gF aO
     refine⟨a,SeqAt.RcNeAt.lists_lengths p1.isList p2.isList gF aO,.of_refs (λmq=>?_) a⟩
     subst mq
     rw[e1]at e2;cases e2
     omega
   | tup ys =>
    obtain⟨p',dz,rfl,e2,t2⟩:=fN sy
    cases aN
    obtain⟨dP,r2,p2,z2⟩:=I.tuple (dY.of (K:=X.K) e2)
    exact⟨.list_tuple p1.isList p2 aO,.list_tuple p1.isList p2 aO,.list_tuple p1.isList p2 aO⟩
   | ai=>cases sy;cases aN;exact⟨.list_none p1.isList aO,.list_none p1.isList aO,.list_none p1.isList aO⟩
   | bl _=>cases sy;cases aN;exact⟨.list_bool _ p1.isList aO,.list_bool _ p1.isList aO,.list_bool _ p1.isList aO⟩
   | int _=>cases sy;obtain⟨t,rfl⟩:=aN;exact⟨.list_int _ _ p1.isList aO,.list_int _ _ p1.isList aO,.list_int _ _ p1.isList aO⟩
   | str _=>cases sy;obtain⟨t,rfl⟩:=aN;exact⟨.list_str _ _ p1.isList aO,.list_str _ _ p1.isList aO,.list_str _ _ p1.isList aO⟩
   | obj _ _ _=>simp[ay]at hy
   | fz _=>simp[ay]at hy
   | aL _=>simp[ay]at hy
  | tup xs =>
   obtain⟨p,ws,rfl,e1,t1⟩:=fN sx
   cases rv
   obtain⟨its,r1,p1,z1⟩:=I.tuple (dY.of (K:=X.K) e1)
   have l1:=r1.length
   cases y with
   | tup ys =>
    obtain⟨p',dz,rfl,e2,t2⟩:=fN sy
    cases aN
    obtain⟨dP,r2,p2,z2⟩:=I.tuple (dY.of (K:=X.K) e2)
    have l2:=r2.length
    have k1:=t1.length
    have k2:=t2.length
    have ev:((aT (min its.toArray.size dP.toArray.size)).all (λj=>bD (xs.getD j .ai) (ys.getD j .ai))&&its.toArray.size==dP.toArray.size)=bD (.tup xs) (.tup ys):=by
     show _=bD.fO xs ys
     by_cases hl:xs.length=ys.length
     ·have e3:its.length=dP.length:=by omega
      rw[yR xs ys hl,cZ,cZ,<- e3,Nat.min_self,<- l1,<- k1];simp
     ·have e3:(its.length==dP.length)=false:=by simp;omega
      rw[yS xs ys hl,cZ,cZ,e3,xk]
    have a:=SeqAt.RcAt.tuples (e:=λj=>bD (xs.getD j .ai) (ys.getD j .ai)) p1 p2 aO (items hx hy t1 t2 r1 r2)
    have b:=SeqAt.RcNeAt.tuples (e:=λj=>bD (xs.getD j .ai) (ys.getD j .ai)) p1 p2 aO (items hx hy t1 t2 r1 r2)
    rw[ev]at a b
    refine⟨a,b,?_⟩
    by_cases mq:p=p'
    ·subst mq
     rw[e1]at e2;cases e2
     have:bD (.tup xs) (.tup ys)=true:=G0 n hx hy t1 t2 e
     rw[this]
     exact .same _
    ·exact .of_refs mq a
   | lst o' ys =>
    obtain⟨p',dz,rfl,e2,t2⟩:=fy sy e
    cases aN
    obtain⟨dP,r2,p2,z2⟩:=I.list (bJ.of (K:=X.K) e2)
    exact⟨.tuple_list p1 p2.isList aO,.tuple_list p1 p2.isList aO,.tuple_list p1 p2.isList aO⟩
   | ai=>cases sy;cases aN;exact⟨.tuple_none p1 aO,.tuple_none p1 aO,.tuple_none p1 aO⟩
   | bl _=>cases sy;cases aN;exact⟨.tuple_bool _ p1 aO,.tuple_bool _ p1 aO,.tuple_bool _ p1 aO⟩
   | int _=>cases sy;obtain⟨t,rfl⟩:=aN;exact⟨.tuple_int _ _ p1 aO,.tuple_int _ _ p1 aO,.tuple_int _ _ p1 aO⟩
   | str _=>cases sy;obtain⟨t,rfl⟩:=aN;exact⟨.tuple_str _ _ p1 aO,.tuple_str _ _ p1 aO,.tuple_str _ _ p1 aO⟩
   | obj _ _ _=>simp[ay]at hy
   | fz _=>simp[ay]at hy
   | aL _=>simp[ay]at hy
  | ai =>
   cases sx;cases rv
   cases y with
   | lst o' ys =>
    obtain⟨p',dz,rfl,e2,t2⟩:=fy sy e;cases aN
    obtain⟨dP,r2,p2,z2⟩:=I.list (bJ.of (K:=X.K) e2)
    exact⟨.none_list p2.isList aO,.none_list p2.isList aO,.none_list p2.isList aO⟩
   | tup ys =>
    obtain⟨p',dz,rfl,e2,t2⟩:=fN sy;cases aN
    obtain⟨dP,r2,p2,z2⟩:=I.tuple (dY.of (K:=X.K) e2)
    exact⟨.none_tuple p2 aO,.none_tuple p2 aO,.none_tuple p2 aO⟩
   | ai=>exact ih _ _ _ _ _ _ A (by simp[ay]) (by simp[ay]) (.ai .nil) sy rfl aN (by omega)
   | bl _=>exact ih _ _ _ _ _ _ A (by simp[ay]) (by simp[ay]) (.ai .nil) sy rfl aN (by omega)
   | int _=>exact ih _ _ _ _ _ _ A (by simp[ay]) (by simp[ay]) (.ai .nil) sy rfl aN (by omega)
   | str _=>exact ih _ _ _ _ _ _ A (by simp[ay]) (by simp[ay]) (.ai .nil) sy rfl aN (by omega)
   | obj _ _ _=>simp[ay]at hy
   | fz _=>simp[ay]at hy
   | aL _=>simp[ay]at hy
  | bl b =>
   cases sx;cases rv
   cases y with
   | lst o' ys =>
    obtain⟨p',dz,rfl,e2,t2⟩:=fy sy e;cases aN
    obtain⟨dP,r2,p2,z2⟩:=I.list (bJ.of (K:=X.K) e2)
    exact⟨.bool_list _ p2.isList aO,.bool_list _ p2.isList aO,.bool_list _ p2.isList aO⟩
   | tup ys =>
    obtain⟨p',dz,rfl,e2,t2⟩:=fN sy;cases aN
    obtain⟨dP,r2,p2,z2⟩:=I.tuple (dY.of (K:=X.K) e2)
    exact⟨.bool_tuple _ p2 aO,.bool_tuple _ p2 aO,.bool_tuple _ p2 aO⟩
   | ai=>exact ih _ _ _ _ _ _ A (by simp[ay]) (by simp[ay]) (.bl .nil) sy rfl aN (by omega)
   | bl _=>exact ih _ _ _ _ _ _ A (by simp[ay]) (by simp[ay]) (.bl .nil) sy rfl aN (by omega)
   | int _=>exact ih _ _ _ _ _ _ A (by simp[ay]) (by simp[ay]) (.bl .nil) sy rfl aN (by omega)
   | str _=>exact ih _ _ _ _ _ _ A (by simp[ay]) (by simp[ay]) (.bl .nil) sy rfl aN (by omega)
   | obj _ _ _=>simp[ay]at hy
   | fz _=>simp[ay]at hy
   | aL _=>simp[ay]at hy
  | int b =>
   cases sx
   cases y with
   | lst o' ys =>
    obtain⟨t0,rfl⟩:=rv
    obtain⟨p',dz,rfl,e2,t2⟩:=fy sy e;cases aN
    obtain⟨dP,r2,p2,z2⟩:=I.list (bJ.of (K:=X.K) e2)
    exact⟨.int_list _ _ p2.isList aO,.int_list _ _ p2.isList aO,.int_list _ _ p2.isList aO⟩
   | tup ys =>
    obtain⟨t0,rfl⟩:=rv
    obtain⟨p',dz,rfl,e2,t2⟩:=fN sy;cases aN
    obtain⟨dP,r2,p2,z2⟩:=I.tuple (dY.of (K:=X.K) e2)
    exact⟨.int_tuple _ _ p2 aO,.int_tuple _ _ p2 aO,.int_tuple _ _ p2 aO⟩
   | ai=>exact ih _ _ _ _ _ _ A (by simp[ay]) (by simp[ay]) (.int .nil) sy rv aN (by omega)
   | bl _=>exact ih _ _ _ _ _ _ A (by simp[ay]) (by simp[ay]) (.int .nil) sy rv aN (by omega)
   | int _=>exact ih _ _ _ _ _ _ A (by simp[ay]) (by simp[ay]) (.int .nil) sy rv aN (by omega)
   | str _=>exact ih _ _ _ _ _ _ A (by simp[ay]) (by simp[ay]) (.int .nil) sy rv aN (by omega)
   | obj _ _ _=>simp[ay]at hy
   | fz _=>simp[ay]at hy
   | aL _=>simp[ay]at hy
  | str b =>
   cases sx
   cases y with
   | lst o' ys =>
    obtain⟨t0,rfl⟩:=rv
    obtain⟨p',dz,rfl,e2,t2⟩:=fy sy e;cases aN
    obtain⟨dP,r2,p2,z2⟩:=I.list (bJ.of (K:=X.K) e2)
    exact⟨.str_list _ _ p2.isList aO,.str_list _ _ p2.isList aO,.str_list _ _ p2.isList aO⟩
   | tup ys =>
    obtain⟨t0,rfl⟩:=rv
    obtain⟨p',dz,rfl,e2,t2⟩:=fN sy;cases aN
    obtain⟨dP,r2,p2,z2⟩:=I.tuple (dY.of (K:=X.K) e2)
    exact⟨.str_tuple _ _ p2 aO,.str_tuple _ _ p2 aO,.str_tuple _ _ p2 aO⟩
   | ai=>exact ih _ _ _ _ _ _ A (by simp[ay]) (by simp[ay]) (.str .nil) sy rv aN (by omega)
   | bl _=>exact ih _ _ _ _ _ _ A (by simp[ay]) (by simp[ay]) (.str .nil) sy rv aN (by omega)
   | int _=>exact ih _ _ _ _ _ _ A (by simp[ay]) (by simp[ay]) (.str .nil) sy rv aN (by omega)
   | str _=>exact ih _ _ _ _ _ _ A (by simp[ay]) (by simp[ay]) (.str .nil) sy rv aN (by omega)
   | obj _ _ _=>simp[ay]at hy
   | fz _=>simp[ay]at hy
   | aL _=>simp[ay]at hy
  | obj _ _ _=>simp[ay]at hx
  | fz _=>simp[ay]at hx
  | aL _=>simp[ay]at hx
noncomputable def mr:bK:=λx y Q=>(ay 6 x=true/\ay 6 y=true)/\Q (.bl (bD x y))
noncomputable def mv:bK:=λx y Q=>(ay 6 x=true/\ay 6 y=true)/\Q (.bl (!bD x y))
theorem eG(hu:X.A.units+6<cLine):aY X (compareOp .Eq) mr:=aY.of λpins s σ H v w u u' Q I rv aN zz=>by
 obtain⟨B,F,aj,δ,ts,x,y,Qd,c,sx,sy,⟨⟨hx,hy⟩,q⟩,k⟩:=zz
 exact(G4 I c.ext 6 x y v w u u' X.A hx hy sx sy rv aN hu).rc _ _ _ _ ⟨.bl _,H,I,rfl,k _ _ _ q (aa.refl _) (c.pushS (.bl .nil) rfl)⟩
theorem gv(hu:X.A.units+6<cLine):aY X (compareOp .NotEq) mv:=aY.of λpins s σ H v w u u' Q I rv aN zz=>by
 obtain⟨B,F,aj,δ,ts,x,y,Qd,c,sx,sy,⟨⟨hx,hy⟩,q⟩,k⟩:=zz
 exact(G4 I c.ext 6 x y v w u u' X.A hx hy sx sy rv aN hu).ne _ _ _ _ ⟨.bl _,H,I,rfl,k _ _ _ q (aa.refl _) (c.pushS (.bl .nil) rfl)⟩
end
end L3
namespace L3
open PySem L2 PySem.Spec PyProof.Rows
section
variable{X:Cx}{F H:Hp}{v w:V}{e a b c o:Expr}{es:List Expr}{pos p p2 apos bf:Pos}{t ta tb tc te:au}{tr:br}{x:Str}
theorem QZ{r r':R2}{rd sF:bK}(hl:uT r rd)(xy:uT r' sF):∀σ H Q,lE (jB rd sF ta tb tc) σ H Q->EY r r' (lB ta) (lB tb) (lB tc) σ H Q:=λσ H Q ⟨B,F,δ,ts,Qd,c,q,k⟩ =>
 ⟨B,F,δ,ts,_,c,q,λx ah v F1 H1 q1 f1 h1 c1 s1=>⟨B,F1,ah,ts,_,c1,q1,λy aC w F2 H2 q2 f2 h2 c2 s2=>by
  refine hl c2 (s1.mono f2 h2) s2 q2 λd z H' hd hs c3=>?_
  obtain⟨b,rfl,qb⟩:=hd
  have st:=c3.top
  cases st with
  | bl _ =>
   refine⟨b,rfl,?_⟩
   cases b with
   | true =>
    refine nW ⟨B,F2,aC,ts,_,c3.pop,by simpa using qb,λz iO w3 F3 H3 q3 f3 h3 c4 s3=>?_⟩
    exact xy c4 (s2.mono f3 (hs.trans h3)) s3 q3 λd z H' hd Q0 c5=>k d iO z F3 H' hd ((f1.trans f2).trans f3) ((((h1.trans h2).trans hs).trans h3).trans Q0) c5
   | false=>exact jt (k _ aC _ F2 H' (by simpa using qb) (f1.trans f2) ((h1.trans h2).trans hs) (c3.pop.pushS (.bl .nil) rfl))⟩⟩
theorem sG{op kL:CmpOp}{rd sF:bK}(ho:aY X (compareOp op) rd)(gb:aY X (compareOp kL) sF)(ha:PE X a (lB ta))(hb:PE X b (lB tb))(hc:PE X c (lB tc))
  (hm:lastMarks [op,kL] [b,c]=false:=by with_unfolding_all rfl):PE X (.Compare a [op,kL] [b,c] pos) (lE (jB rd sF ta tb tc)):=by
 obtain⟨r,h1,h2⟩:=ho
 obtain⟨r',gJ,gr⟩:=gb
 exact cj (Nt h1 gJ ha hb hc hm) (QZ h2 gr)
noncomputable def mw(t:au):au:=λδ Q=>t δ λd ae=>match d with
 | .int i=>Q (.int (-i)) ae
 | _=>False
theorem Q3(ha:PE X a (lB ta)):PE X (.UnaryOp .USub a pos) (lE (mw ta)):=cj (M8 Nk ha) λσ H Q ⟨B,F,δ,ts,Qd,c,q,k⟩=>⟨B,F,δ,ts,_,c,q,λd ah v F1 H1 q1 f1 h1 c1 s1=>by
 cases s1 with
 | int _=>exact⟨_,rfl,k _ ah _ F1 H1 q1 f1 h1 (c1.pushS (.int .nil) rfl)⟩
 | _=>exact q1.elim⟩
noncomputable abbrev gX:=List D->(D->Prop)->Prop
noncomputable def lc(rd:gX):List V->Hp->VK->Prop:=λvs H Q=>∃B F σ δ ts ds Qd,ag B F H σ δ ts/\S F H ds vs/\rd ds Qd/\∀d z H',Qd d->aa H H'->ag B F H' σ δ ((d,z)::ts)->Q z H'
noncomputable def gY(X:Cx)(f:Value)(rd:gX):Prop:=eN X f (lc rd)
theorem gY.of{f:Value}{r:List V->Hp->VK->Prop}{rd:gX}(h:eN X f r)(m:∀vs H Q,lc rd vs H Q->r vs H Q):gY X f rd:=λpins s σ H xs us Q I r q=>h pins s σ H xs us Q I r (m xs H Q q)
noncomputable def iU(rd:gX)(t:br):au:=λδ Q=>t δ λds ae=>rd ds λd=>Q d ae
theorem G5{rd:gX}:∀σ H Q,lE (iU rd tr) σ H Q->xY (lc rd) (lA tr) σ H Q:=λσ H Q ⟨B,F,δ,ts,Qd,c,q,k⟩=>⟨B,F,δ,ts,_,c,q,λds ah vs F1 H1 q1 f1 h1 c1 s1 =>
 ⟨B,F1,σ,ah,ts,ds,_,c1,s1,q1,λd z H' hd hs c'=>k d ah z F1 H' hd f1 (h1.trans hs) c'⟩⟩
theorem jM{id:String}{rd:gX}(hc:gY X (.builtin id) rd)(hg:Gl X x)(hm:X.mg x=none)(hv:bootBuiltins x=some (.builtin id))(ha:PA X (e::es) (lA tr))(hn:x≠"__name__":=by decide)(bZ:(x==("__debug__":Str))=false:=by decide)
  (he:starEach (e::es) X.env=(false,eval e X.env)::starEach es X.env:=by rfl) (aQ:(backTo pos (starEach es X.env)).any (·.1)=false:=by rfl):PE X (.Call (.Name x p) (e::es) [] pos) (lE (iU rd tr)) :=
 cj (uE hc hg hm hv ha hn bZ he aQ) G5
theorem G6{T:String}{rd:gX}(hc:gY X (.type T) rd)(hg:Gl X x)(hm:X.mg x=none)(hv:bootBuiltins x=some (.type T))(ha:PA X (e::es) (lA tr))(hn:x≠"__name__":=by decide)(bZ:(x==("__debug__":Str))=false:=by decide)
  (he:starEach (e::es) X.env=(false,eval e X.env)::starEach es X.env:=by rfl) (aQ:(backTo pos (starEach es X.env)).any (·.1)=false:=by rfl):PE X (.Call (.Name x p) (e::es) [] pos) (lE (iU rd tr)) :=
 cj (N2 hc hg hm hv ha hn bZ he aQ) G5
theorem ou{d:D}{vs:List V}(s:S F H [d] vs):∃v,vs=[v]/\S F H [d] [v]:=by
 obtain⟨v,bN,rfl,h1,h2⟩:=s.cq
 cases h2
 exact⟨v,rfl,h1⟩
theorem sH{K:PySem.W.Frag}{p:Addr}{ws:List V}(h:Rd H p (.lst ws)):bJ K H p ws:=.inl h
noncomputable def jN:gX:=λds Q=>match ds with
 | [.lst _ xs]=>Q (.int xs.length)
 | [.fz xs]=>Q (.int xs.length)
 | [.tup xs]=>Q (.int xs.length)
 | [.str z]=>z.length<=sizeLine/\Q (.int z.length)
 | _=>False
theorem u6:gY X (.builtin "len") jN:=gY.of (Od.or Oe) λvs H Q zz=>by
 obtain⟨B,F,σ,δ,ts,ds,Qd,c,s,q,k⟩:=zz
 unfold jN at q
 split at q
 ·obtain⟨v,rfl,s1⟩:=ou s
  obtain⟨p,ws,rfl,h,t⟩:=sD s1 c.ext rfl
  refine .inl ⟨p,ws,rfl,.inl (sH h),?_⟩
  rw[<-t.length]
  exact k _ _ _ q (aa.refl _) (c.pushS (.int .nil) rfl)
 ·obtain⟨v,rfl,s1⟩:=ou s
  obtain⟨p,ws,rfl,h,t⟩:=sD s1 c.ext rfl
  refine .inl ⟨p,ws,rfl,.inl (sH h),?_⟩
  rw[<-t.length]
  exact k _ _ _ q (aa.refl _) (c.pushS (.int .nil) rfl)
 ·obtain⟨v,rfl,s1⟩:=ou s
  obtain⟨p,ws,rfl,h,t⟩:=fN s1
  refine .inl ⟨p,ws,rfl,.inr (dY.of h),?_⟩
  rw[<-t.length]
  exact k _ _ _ q (aa.refl _) (c.pushS (.int .nil) rfl)
 ·obtain⟨v,rfl,s1⟩:=ou s
  cases s1
  exact .inr ⟨_,rfl,q.1,k _ _ _ q.2 (aa.refl _) (c.pushS (.int .nil) rfl)⟩
 ·exact q.elim
noncomputable def ow(bs:List Bool):List D:=bs.map D.bl
theorem G7:∀{bs:List Bool} {ws:List V},S F H (ow bs) ws->ws=bs.map V.bl
 | [],_,s=>by cases s;rfl
 | b::bs,_,s=>by
  cases s with
  | bl s=>rw[G7 s];rfl
noncomputable def jO:gX:=λds Q=>match ds with
 | [.lst _ xs]=>∃bs,xs=ow bs/\Q (.bl (bs.all id))
 | _=>False
theorem u7(hc:X.calm=true):gY X (.builtin "all") jO:=gY.of (Ph hc) λvs H Q zz=>by
 obtain⟨B,F,σ,δ,ts,ds,Qd,c,s,q,k⟩:=zz
 unfold jO at q
 split at q
 ·obtain⟨v,rfl,s1⟩:=ou s
  obtain⟨bs,rfl,q⟩:=q
  obtain⟨p,ws,rfl,h,t⟩:=sD s1 c.ext rfl
  rw[G7 t]at h
  exact⟨p,bs,rfl,sH h,k _ _ _ q (aa.refl _) (c.pushS (.bl .nil) rfl)⟩
 ·exact q.elim
noncomputable def u9:D->Option String
 | .int _=>some "int"
 | .bl _=>some "bool"
 | .ai=>some "NoneType"
 | .str _=>some "str"
 | .lst _ _=>some "list"
 | .fz _=>some "list"
 | .tup _=>some "tuple"
 | _=>none
noncomputable def yU(k n:String):Option Bool:=([("int","int",true),("int","bool",false),("int","list",false),("int","tuple",false),("int","str",false),("bool","int",true),("bool","bool",true),("bool","list",false),("bool","tuple",false),("bool","str",false),
 ("NoneType","int",false),("NoneType","bool",false),("NoneType","list",false),("NoneType","tuple",false),("NoneType","str",false),("str","int",false),("str","bool",false),("str","list",false),("str","tuple",false),("str","str",true),
 ("list","int",false),("list","bool",false),("list","list",true),("list","tuple",false),("list","str",false),("tuple","int",false),("tuple","bool",false),("tuple","list",false),("tuple","tuple",true),("tuple","str",false)].find? λz=>z.1==k&&z.2.1==n).map (·.2.2)
noncomputable def gZ(n:String)(d:D):Option Bool:=(u9 d).bind λk=>yU k n
theorem Q4{K:PySem.W.Frag}{k n:String}{r:Bool}(h:yU k n=some r):PySem.W.kitOne K (.type k) (.type n)=some r:=by
 unfold yU at h
 obtain⟨z,hz,rfl⟩:=Em.mp h
 have hm:=List.mem_of_find?_eq_some hz
 have hp:=List.find?_some hz
 rw[cC,beq_iff_eq,beq_iff_eq]at hp
 obtain⟨rfl,rfl⟩:=hp
 simp only[cI,qT,or_false]at hm
 repeat' (rcases hm with hm | hm)
 all_goals rfl
theorem iV{K:PySem.W.Frag}{d:D}(s:S F H [d] [v])(e:aa F H){k:String}(h:u9 d=some k):dZ K H v (.type k):=by
 cases s with
 | int _=>cases h;exact .int _
 | bl _=>cases h;exact .bl _
 | ai _=>cases h;exact .ai
 | str _=>cases h;exact .str _
 | shr h' _ _=>cases h;exact .lst (e _ _ h')
 | own h' _ _=>cases h;exact .lst h'
 | fz h' _ _=>cases h;exact .bt (e _ _ h')
 | tup h' _ _=>cases h;exact .tup h'
 | obj _ _ _ _=>cases h
 | aL _ _=>cases h
theorem Q5{K:PySem.W.Frag}{d:D}(s:S F H [d] [v])(e:aa F H){n:String}{r:Bool}(h:gZ n d=some r):∃t,dZ K H v t/\PySem.W.kitOne K t (.type n)=some r:=by
 unfold gZ at h
 cases hk:u9 d with
 | none=>rw[hk]at h;cases h
 | some k=>rw[hk]at h;exact⟨_,iV s e hk,Q4 h⟩
noncomputable def mx(n:String)(t:au):au:=λδ Q=>t δ λd ae=>∃r,gZ n d=some r/\Q (.bl r) ae
theorem va{n:String}{y:Str}{q:Pos}(hg:Gl X "isinstance")(hm:X.mg "isinstance"=none)(my:Gl X y)(jP:X.mg y=none)(yV:bootBuiltins y=some (.type n))(ha:PE X a (lB ta))
  (hn:y≠"__name__":=by decide) (hd:(y==("__debug__":Str))=false:=by decide)
  (hs:starEach [a,.Name y q] X.env=(false,eval a X.env)::starEach [.Name y q] X.env:=by rfl) (dG:starEach [.Name y q] X.env=(false,eval (.Name y q) X.env)::starEach [] X.env:=by rfl) (aQ:(backTo pos (starEach [.Name y q] X.env)).any (·.1)=false:=by rfl) :
  PE X (.Call (.Name "isinstance" p) [a,.Name y q] [] pos) (lE (mx n ta)) :=
 cj (uE O5 hg hm yh (cN ha (cN (FZ my jP yV hn hd) eO dG) hs) (by decide) (by decide) hs aQ) λσ H Q ⟨B,F,δ,ts,Qd,c,q,k⟩=>⟨B,F,δ,ts,_,c,q,λd ah v F1 H1 q1 f1 h1 c1 s1=>by
  obtain⟨r,e,qr⟩:=q1
  obtain⟨t,h2,h3⟩:=Q5 (K:=X.K) s1 c1.ext e
  exact⟨v,n,t,r,rfl,h2,h3,k _ ah _ F1 H1 qr f1 h1 (c1.pushS (.bl .nil) rfl)⟩⟩
theorem yW{xs:List D}{ws:List V}{i:Int}{d:D}(s:S F H xs ws)(h:d4 xs i=some d):∃v,d4 ws i=some v/\S F H [d] [v]:=by
 unfold d4 at h ⊢
 rw[<-s.length]
 cases e:gI xs.length i with
 | none=>rw[e]at h;cases h
 | some j =>
  rw[e]at h
  exact s.get h
noncomputable def jQ(x y:D)(Q:D->Prop):Prop:=match x,y with
 | .lst _ xs,.int i=>∃d,d4 xs i=some d/\Q d
 | .fz xs,.int i=>∃d,d4 xs i=some d/\Q d
 | .tup xs,.int i=>∃d,d4 xs i=some d/\Q d
 | .str z,.int i=>z.length<=sizeLine/\∃ch,d4 z.cps.toList i=some ch/\Q (.str ⟨#[ch]⟩)
 | _,_=>False
noncomputable def mz(ta tb:au):au:=λδ Q=>ta δ λx ah=>tb ah λy aC=>jQ x y λd=>Q d aC
theorem bV(ha:PE X a (lB ta))(hb:PE X b (lB tb))(hs:Fd b):PE X (.Subscript a b pos) (lB (mz ta tb)) :=
 cj (N3 N8 ha hb hs) λσ H Q ⟨B,F,δ,ts,Qd,c,q,k⟩=>⟨B,F,δ,ts,_,c,q,λx ah v F1 H1 q1 f1 h1 c1 s1=>⟨B,F1,ah,ts,_,c1,q1,λy aC w F2 H2 q2 f2 h2 c2 s2=>by
  have vb:=s1.mono f2 h2
  have fin:∀d z,Qd d aC->S F2 H2 [d] [z]->Q z H2:=λd z hd s=>k d aC z F2 H2 hd (f1.trans f2) (h1.trans h2) c2 s
  unfold jQ at q2
  split at q2
  ·obtain⟨d,ed,qd⟩:=q2
   cases s2
   obtain⟨p,ws,rfl,h,t⟩:=sD vb c2.ext rfl
   obtain⟨z,ez,sz⟩:=yW t ed
   exact .inl ⟨p,ws,_,z,rfl,rfl,sH h,ez,fin d z qd sz⟩
  ·obtain⟨d,ed,qd⟩:=q2
   cases s2
   obtain⟨p,ws,rfl,h,t⟩:=sD vb c2.ext rfl
   obtain⟨z,ez,sz⟩:=yW t ed
   exact .inl ⟨p,ws,_,z,rfl,rfl,sH h,ez,fin d z qd sz⟩
  ·obtain⟨d,ed,qd⟩:=q2
   cases s2
   obtain⟨p,ws,rfl,h,t⟩:=fN vb
   obtain⟨z,ez,sz⟩:=yW t ed
   exact .inr (.inl ⟨p,ws,_,z,rfl,rfl,dY.of h,ez,fin d z qd sz⟩)
  ·obtain⟨hz,ch,ec,qc⟩:=q2
   cases vb
   cases s2
   exact .inr (.inr ⟨_,_,ch,rfl,rfl,hz,ec,fin _ _ qc (.str .nil)⟩)
  ·exact q2.elim⟩⟩
noncomputable abbrev Q6:=Dl->(Option Int->Dl->Prop)->Prop
noncomputable def mB(t:au):au:=λδ Q=>t δ λd ae=>match d with
 | .int i=>Q (.int (Mf.bl i.natAbs:Nat)) ae
 | _=>False
theorem e8(ho:PE X o (lB t))(iu:attributeBase o "bit_length" X.env (eval o X.env)=eval o X.env:=by rfl)(iw:(apos.endLine==bf.line)=true:=by rfl):PE X (.Call (.Attribute o "bit_length" apos) [] [] bf) (lE (mB t)) :=
 cj (yi ho iu iw) λσ H Q ⟨B,F,δ,ts,Qd,c,q,k⟩=>⟨B,F,δ,ts,_,c,q,λd ah v F1 H1 q1 f1 h1 c1 s1=>by
  cases s1 with
  | int _=>exact⟨rfl,_,rfl,rfl,k _ ah _ F1 H1 q1 f1 h1 (c1.pushS (.int .nil) rfl)⟩
  | _=>exact q1.elim⟩
end
end L3
namespace L3
open PySem L2 PySem.Spec PyProof.Rows
section
variable{X:Cx}{F H:Hp}{v w:V}{e a b c o tg:Expr}{es:List Expr}{pos p p2 apos bf pos':Pos}{t ta tb tc te ti:au}{tr:br}{x:Str}{i:Nat}
noncomputable def mC(i:Nat)(t:au):bG:=λD δ=>(∃xs,δ[i]?=some (some (.lst true xs)))/\t δ λd ae=>∃xs,ae[i]?=some (some (.lst true xs))/\xs.length<sizeLine/\D.nx (ae.set i (some (.lst true (xs++[d]))))
theorem G8(hN:X.N[i]?=some x)(hv:ik X.env.scope x)(he:PE X e (lE t))(hd:(x==("__debug__":Str))=false:=by decide)(bO:(x==("__classdict__":Str))=false:=by decide)
  (iu:attributeBase (.Name x p) "append" X.env (eval (.Name x p) X.env)=eval (.Name x p) X.env:=by rfl)
  (x6:((backTo bf (starEach [e] X.env)).all (λx=>!x.1)&&(backToKw bf (keywordEach [] X.env)).all (λx=>x.1.isSome)
   && decide ([e].length+([]:List Keyword).length+(if([]:List Keyword).isEmpty then 0 else 1)<30))=true:=by rfl)
  (iw:(apos.endLine==bf.line)=true:=by rfl) (hs:starEach [e] X.env=(false,eval e X.env)::starEach [] X.env:=by rfl) (x8:(backTo bf (starEach [] X.env)).any (·.1)=false:=by rfl)
  (r6:swapsWith (.Call (.Attribute (.Name x p) "append" apos) [e] [] bf) none pos.line X.env=pure false:=by rfl) :
  PS X (.Expr (.Call (.Attribute (.Name x p) "append" apos) [e] [] bf) pos) (lS X (mC i t)) :=
 iL (xG (Oh PySem.F.plainAttrs_list PySem.F.slot_list_append PySem.F.type_list_append Fo (nN hN hv hd bO) (cN he eO hs) iu x6 iw hs x8) r6) λEn σ H zz=>by
  obtain⟨B,F,δ,Dd,c,⟨⟨ys,ey⟩,q⟩,k1,k2,k3,k4⟩:=zz
  obtain⟨p0,yE,g1,g2,g3⟩:=c.ownAt ey
  refine⟨.ref p0,g1,.inl ⟨rfl,_,bJ.of g2⟩,B,F,δ,[],_,c,q,λd ae v F' H' hd sf sh c'=>?_⟩
  obtain⟨xs,ex,hl,hn⟩:=hd
  obtain⟨p1,ws,r1,r2,r3⟩:=c'.ownAt ex
  rw[g1]at r1;cases r1
  exact⟨p0,ws,v,rfl,rfl,r2,by omega,k1 _ _ F' _ hn (c'.app ex g1 r2)⟩
noncomputable def mD(i:Nat)(te ti:au):bG:=λD δ=>te δ λd ah=>∃ys,ah[i]?=some (some (.lst true ys))/\jz ti ah λk aC=>match k with
 | .int n=>∃xs j,aC[i]?=some (some (.lst true xs))/\gI xs.length n=some j/\D.nx (aC.set i (some (.lst true (xs.set j d))))
 | _=>False
theorem Q7(hN:X.N[i]?=some x)(hv:ik X.env.scope x)(he:PE X e (lE te))(hi:PE X b (lB ti))(hd:(x==("__debug__":Str))=false:=by decide)(bO:(x==("__classdict__":Str))=false:=by decide)
  (ha:∀v,assign (.Subscript (.Name x p) b pos') X.env v=(do
   let ov<-holding [v] (eval (.Name x p) X.env)
   let iv<-holding [v,ov] (eval b X.env)
   standAt pos'
   holding [v,ov,iv] (setItem ov iv v)
   release [v,ov,iv] []):=by intro _;rfl)
  (hs:swapsWithSole [.Subscript (.Name x p) b pos'] e pos.line X.env=pure false:=by rfl) (hw:swappedStores [.Subscript (.Name x p) b pos'] e X.env=pure none:=by rfl)
  (h1:(assignEach [.Subscript (.Name x p) b pos'] X.env).map (·.2)=[assign (.Subscript (.Name x p) b pos') X.env]:=by rfl) :
  PS X (.Assign [.Subscript (.Name x p) b pos'] e pos) (lS X (mD i te ti)) :=
 iL (MN he (MM (nN hN hv hd bO) (eE hi) Oc ha) hs hw h1) λEn σ H ⟨B,F,δ,Dd,c,q,k1,k2,k3,k4⟩=>⟨B,F,δ,[],_,c,q,λd ah v F1 H1 hq f1 h1 c1=>by
  obtain⟨ys,ey,hq⟩:=hq
  obtain⟨p0,yE,g1,g2,g3⟩:=c1.ownAt ey
  refine⟨.ref p0,g1,B,F1,ah,[(d,v)],_,c1,hq,λkd aC kv F2 H2 hk f2 h2 c2=>?_⟩
  have st:=c2.top
  split at hk
  ·obtain⟨xs,j,ex,ej,hn⟩:=hk
   cases st
   have c3:=c2.pop
   obtain⟨p1,ws,r1,r2,r3⟩:=c3.ownAt ex
   rw[g1]at r1;cases r1
   exact⟨p0,ws,_,j,rfl,rfl,r2,by rw[<-r3];exact ej,k1 _ _ F2 _ hn (c3.Qz ex g1 r2 j)⟩
  ·exact hk.elim⟩
end
end L3
namespace L3
open PySem L2 PySem.Spec PyProof.Rows
theorem cA{A:Around}{k:Nat}(hr:aS k A):A.units+6<cLine:=by have:=hr.un;omega
noncomputable def aE(ns:List Int):List D:=ns.map D.int
noncomputable def yX(o:Obj):Bool:=match o.cls with
 | .type n=>n != "list"
 | _=>true
noncomputable def G9:bC:=λds Q=>∃ns:List Int,ds=[.fz (aE ns)]/\ns.length<=63/\Q (.bl true)
theorem gw{F H:Hp}:∀ns:List Int,R F H (aE ns) (ns.map V.int) []
 | []=>.nil
 | n::ns=>.int (gw ns)
theorem Q8{K:PySem.W.Frag}{a:Addr}{o:Obj}(h:K.lookup a=some o):(a,o)∈K:=by
 induction K with
 | nil=>cases h
 | cons p K ih =>
  obtain⟨b,u⟩:=p
  rw[fk]at h
  split at h
  ·rename_i z
   have:a=b:=by simpa using z
   cases h;subst this;simp
  ·exact hG _ (ih h)
end L3
namespace L3
open PySem L2 PySem.Spec PyProof.Rows
section
variable{B:Bs}{F H:Hp}{σ:L2.St}{δ:Dl}{ts ps:List (D × V)}{i k:Nat}{p q:Addr}{l1 l2 ys Q9:List D}{ws ot:List V}
end
section
variable{X:Cx}{F H:Hp}{e b:Expr}{pos p pr apos bf vd:Pos}{t ti te:au}{x y:Str}{i j:Nat}
end
end L3
namespace L3
open PySem L2 PySem.Spec PyProof.Rows
theorem oy(i:Int):(D.int i).pl=true:=rfl
theorem oz(i:Bool):(D.bl i).pl=true:=rfl
theorem oA(i:Str):(D.str i).pl=true:=rfl
theorem oB:D.ai.pl=true:=rfl
theorem oE(xs:List D):(D.fz xs).pl=true:=rfl
theorem oF(C:Addr)(ns:List Str)(xs:List D):(D.obj C ns xs).pl=true:=rfl
theorem oG(i:Int):(D.int i).fr=true:=rfl
theorem oH(i:Bool):(D.bl i).fr=true:=rfl
theorem oI(i:Str):(D.str i).fr=true:=rfl
theorem oJ:D.ai.fr=true:=rfl
theorem jR(i:Int):(D.int i).sh=.int i:=rfl
theorem oK(i:Bool):(D.bl i).sh=.bl i:=rfl
theorem oM(i:Str):(D.str i).sh=.str i:=rfl
theorem oN:D.ai.sh=.ai:=rfl
theorem oO(xs:List D):(D.fz xs).sh=.fz xs:=rfl
theorem oQ(C:Addr)(ns:List Str)(xs:List D):(D.obj C ns xs).sh=.obj C ns xs:=rfl
theorem oR{α:Type}(n:Nat)(x:α):(aR n [x]).flatten=aR n x:=by
 induction n with
 | zero=>rfl
 | succ n ih=>rw[kl,nB,ih];rfl
theorem iW(ns:List Int):(aE ns).length=ns.length:=by simp[aE]
theorem oS(ns:List Int):(aE ns).all D.pl=true:=by simp[aE,D.pl]
theorem mE(ns:List Int):(aE ns).all D.fr=true:=by simp[aE,D.fr]
theorem iX(ns:List Int):(aE ns).map D.sh=aE ns:=by simp[aE,D.sh]
theorem mF(a b:List Int):aE a++aE b=aE (a++b):=by simp[aE]
theorem oU(n:Nat)(i:Int):aR n (D.int i)=aE (aR n i):=by simp[aE]
theorem oV(n:Nat)(i:Int):ay n (.int i)=true:=by cases n<;>rfl
theorem oW(n:Nat)(i:Str):ay n (.str i)=true:=by cases n<;>rfl
theorem eH(i j:Int):bD (.int i) (.int j)=decide (i=j):=by
 show(i==j)=_
 rw[Bool.beq_eq_decide_eq]
theorem Ra{ns:List Int}{k:Nat}(h:k<ns.length):(aE ns)[k]?=some (.int ns[k]):=by simp[aE,h]
theorem mG{ns:List Int}{k:Int}(h0:0<=k)(h:k<ns.length):d4 (aE ns) k=some (.int (ns.getD k.toNat 0)):=by
 unfold d4 gI
 rw[if_pos h0,iW,if_pos h]
 show(aE ns)[k.toNat]?=_
 have hk:k.toNat<ns.length:=by omega
 rw[Ra hk,fE,dw hk];rfl
theorem oX(i:Int):gZ "int" (.int i)=some true:=by rfl
theorem oY(i:Int):gZ "bool" (.int i)=some false:=by rfl
theorem oZ(i:Int):gZ "list" (.int i)=some false:=by rfl
theorem o3(o:Bool)(xs:List D):gZ "list" (.lst o xs)=some true:=by rfl
theorem o4:gZ "int" .ai=some false:=by rfl
theorem o5(x:Str):gZ "str" (.str x)=some true:=by rfl
theorem o6(xs:List D):gZ "tuple" (.tup xs)=some true:=by rfl
theorem sL:sizeLine=16777216:=rfl
theorem o7{p:Prop}[Decidable p]:(decide p=true)=p:=by simp
end L3
namespace L2
open PySem PySem.Spec PyProof.Rows
section
variable{X:Cx}{e:Expr}{te:TE}{lo hi:Option Expr}{st:Expr}{tl th ts:TO}{pos p2:Pos}
noncomputable def yY{α:Type}(xs:List α)(lo hi st:Option Int):List α:=(sliceRange (sliceBounds lo hi st xs.length).1 (sliceBounds lo hi st xs.length).2.1 (sliceBounds lo hi st xs.length).2.2).filterMap (xs[·]?)
end
end L2
namespace L3
open PySem L2 PySem.Spec PyProof.Rows
section
variable{X:Cx}{F H:Hp}{e:Expr}{t:au}{lo hi:Option Expr}{st:Expr}{tl th td:Q6}{pos p2:Pos}
theorem Ha:∀{a:List Int} {ws:List V},S F H (aE a) ws->ws=a.map V.int
 | [],_,s=>by cases s;rfl
 | b::bs,_,s=>by
  cases s with
  | int s=>rw[Ha s];rfl
theorem S.yZ{xs:List D}{ws:List V}(s:S F H xs ws):∀ix:List Nat,S F H (ix.filterMap (xs[·]?)) (ix.filterMap (ws[·]?))
 | []=>.nil
 | i::ix=>by
  rw[nu,nu]
  cases e:xs[i]? with
  | none =>
   have:ws[i]?=none:=by
    have:=s.length
    rw[D1]at e ⊢
    omega
   rw[this];exact S.yZ s ix
  | some x =>
   obtain⟨u,e2,q⟩:=s.get e
   rw[e2]
   exact q.cons (S.yZ s ix)
theorem S.pick{xs:List D}{ws:List V}(s:S F H xs ws)(l u d:Option Int):S F H (yY xs l u d) (yY ws l u d):=by
 unfold yY;rw[<-s.length];exact s.yZ _
noncomputable def y0:Expr->Option Int
 | .Constant (.int i) _ _=>some i
 | _=>none
noncomputable def ve:List Expr->Option (List Int)
 | []=>some []
 | e::es=>(y0 e).bind λi=>(ve es).map (i :: ·)
theorem Rb{e:Expr}{i:Int}(h:y0 e=some i):∃a b,e=.Constant (.int i) a b:=by
 cases e with
 | Constant c a b =>
  cases c with
  | int j=>cases h;exact⟨_,_,rfl⟩
  | _=>cases h
 | _=>cases h
noncomputable def Rc(ns:List Int):br:=λδ Q=>Q (aE ns) δ
theorem Hb:∀(es:List Expr) (ns:List Int),ve es=some ns->PA X es (lO (Rc ns))
 | [],ns,h=>by cases h;exact fL
 | e::es,ns,h=>by
  obtain⟨i,hi,h2⟩:=Option.bind_eq_some_iff.mp (show(y0 e).bind (λi=>(ve es).map (i :: ·))=some ns from h)
  obtain⟨ms,hm,rfl⟩:=Em.mp h2
  obtain⟨a,b,rfl⟩:=Rb hi
  exact sj (bU (ao (i:=i)) (Hb es ms hm)) λ_ _ _ q=>q
noncomputable def mH(ns:List Int):au:=λδ Q=>ns.length<=sizeLine/\Q (.lst true (aE ns)) δ
theorem Hc{es:List Expr}{ns:List Int}(h:ve es=some ns):PE X (.List es pos) (lE (mH ns)) :=
 cj (jE (Hb es ns h)) λ_ _ _ ⟨B,F,δ,ts,Qd,c,q,k⟩=>⟨B,F,δ,ts,Qd,c,by
  show(aE ns).length<=sizeLine/\_
  rw[iW];exact q,k⟩
noncomputable def tab(f:Nat->Int)(n:Nat):List Int:=(aT n).map f
theorem Hd{n:Nat}{g:eF}{tb:bG}{En:kW}{δ:Dl}(Iv:Nat->Dl->Prop)(h0:Iv 0 δ)(ht:∀k ae,k<n->Iv k ae->g (.int k) ae λaC=>tb { En with nx:=Iv (k+1),ct:=Iv (k+1),bk:=En.nx } aC)
  (hf:∀ae,Iv n ae->En.nx ae):jH (List.map (λ(k:Nat)=>D.int (0+(k:Int))) (aT (n:Int).toNat)) g tb En δ:=by
 rw[xm]
 refine jH.mk Iv h0 (λi d ae hd iv=>?_) λae iv=>hf ae (by simpa using iv)
 rw[gy]at hd
 obtain⟨k,hk,rfl⟩:=Em.mp hd
 have hi:i<n:=by have:=(kg.mp hk).1;simpa using this
 rw[xj hi]at hk
 cases hk
 rw[Eo]
 exact ht i ae hi iv
theorem rR{xs:List D}{k:Int}{d:D}(h0:0<=k)(h:xs[k.toNat]?=some d):d4 xs k=some d:=by
 unfold d4 gI
 have hk:k.toNat<xs.length:=(kg.mp h).1
 rw[if_pos h0,if_pos (by omega)]
 exact h
end
end L3
namespace L3
open PySem L2 PySem.Spec PyProof.Rows
noncomputable abbrev fb:=List D->(D->Prop)->(Addr->Prop)->Prop
noncomputable def fA(sp:fb):Sp:=λvs H Q E=>∃F ds Qd Ed,aa F H/\R F H ds vs []/\sp ds Qd Ed/\(∀d v F' H' A,Qd d->aa H H'->aa F F'->aa F' H'->(∀a ws,F' a=some (.lst ws)->F a=some (.lst ws)\/H a=none)->R F' H' [d] [v] A->A.Nodup->(∀a∈A,H a=none)->Q v H') /\
 ∀C H',Ed C->aa H H'->E (.ref C) none H'
section
variable{P:Program}{w:World}{K:PySem.W.Frag}{mg:Str->Option Value}{base:Heap}
theorem sI{x qual:Str}{st:Stmt}{f:Addr}{fd:FuncData}{N ps:List Str}{k:Nat}{sp:fb}(F:bg K x qual st f fd)(S:bx N ps (ax st))(len:∀ds Q E,sp ds Q E->ds.length=ps.length)
  (eA:∀(aA:Value) (A:Around) (outer:List Env) (s:Shared) (H:Hp) (E:XK),aS k (A.deeper (envOfC qual (ax st) s.heap.objs.size f aA)) ->
   ∃t:bG,PSs (eP (d9 P w) P w K mg base N qual (ax st) f aA A outer s H E) (bc st) (lS (eP (d9 P w) P w K mg base N qual (ax st) f aA A outer s H E) t) /\
    ∀ds Q Ex,sp ds Q Ex->t { nx:=λ_=>Q .ai,rt:=Q,xc:=λC _=>Ex C,xr:=λC _=>Ex C } (fM N ds)):aI P w K mg base (d9 P w) (k+1) f fd ps (fA sp):=by
 obtain⟨oc,od,kV,doc,pm,an,aA,ct,gH,rfl,lk,bO⟩:=F.ex
 refine xX lk bO S (λvs H Q E ⟨F,ds,Qd,Ed,e,r,h,_⟩=>by rw[<-r.length];exact len ds Qd Ed h) λA outer s H vs Q E hr zz=>?_
 obtain⟨F,ds,Qd,Ed,e,r,h,k,kx⟩:=zz
 obtain⟨t,ht,hq⟩:=eA aA A outer s H E hr
 have fin:∀d v ae aj F' H',Qd d->ag ⟨H,F⟩ F' H' aj ae [(d,v)]->Q v H':=λd v ae aj F' H' hd c=>by
  obtain⟨A,C,r',s',nd,fr⟩:=c.own
  exact k d v F' H' A hd c.b1 c.b2 c.ext c.b3 r' (eW.mp nd).1 λa ha=>fr a (fh _ ha)
 have e1:L2.start N vs=vs.map some++aR (N.length-ds.length) none:=by unfold L2.start;rw[r.length]
 refine⟨_,ht,⟨H,F⟩,F,fM N ds,_,?_,hq ds Qd Ed h,λae aj F' H' hd c=>fin .ai .ai ae aj F' H' hd (c.pushS (.ai .nil) rfl),fin,λ_ _ _ _ z=>z.elim,λ_ _ _ _ z=>z.elim,λC ae pins aj F' H' s' a T hx c I tr pa pT=>?_,λC ae pins aj F' H' s' h' e vs hx c I hm=>?_⟩
 ·rw[e1]
  exact ag.start e r _
 ·exact PL I rfl rfl rfl tr pa pT λh' T' g=>⟨a,T',.ref C,H',rfl,I.os,I.bare,g.un,g.aq,g.n9,g.a0,g.a1,g.t0,g.t1,kx C H' hx c.b1⟩
 ·exact PM I rfl rfl rfl hm λh' T' g=>⟨e,T',.ref C,H',rfl,I.os,I.bare,g.un,g.aq,g.n9,g.a0,g.a1,g.t0,g.t1,kx C H' hx c.b1⟩
end
noncomputable abbrev He:=L2.St->Hp->VK->(Value->Hp->Prop)->Prop
noncomputable def PX(X:Cx)(e:Expr)(t:He):Prop:=∀(pins:List (Addr × Obj)) (s:Shared) (σ:L2.St) (H:Hp) (Q:VK) (Z:Value->Hp->Prop),Inv X pins σ H s ->
 (∀a T cls H' s',Inv X pins σ H' s'->dM s'.heap a T cls->Apart X pins H' a->Apart X pins H' T->Z cls H'->X.xe (.ref a) s')->t σ H Q Z->wpAny (model X.prog X.w) X.A (eval e X.env) (EP X pins σ Q) X.xe s
noncomputable abbrev o8:=Dl->(D->Dl->Prop)->(Addr->Dl->Prop)->Prop
noncomputable def lX(t:o8):He:=λσ H Q Z=>∃B F δ Qd Zd,ag B F H σ δ []/\t δ Qd Zd/\(∀d ae v F' H',Qd d ae->aa F F'->aa H H'->ag B F' H' σ ae [(d,v)]->Q v H')/\∀C ae F' H',Zd C ae->aa F F'->aa H H'->ag B F' H' σ ae []->Z (.ref C) H'
section
variable{X:Cx}{n:Nat}{f:Addr}{fd:FuncData}{ps:List Str}{sp:fb}{x:Str}{p pos:Pos}{e:Expr}{es:List Expr}{t:br}{tx:o8}
theorem Rh{pins:List (Addr × Obj)}{σ:L2.St}{H:Hp}{s:Shared}{Q:VK}{E:XK}{us:List Value}{vs:List V}{sp:Sp}(F:aI X.prog X.w X.K X.mg X.base (d9 X.prog X.w) n f fd ps sp)(hr:aS n X.A)(hb:Binds X.K fd ps [])(hex:X.ex=[])
  (I:Inv X pins σ H s) (r:Vals vs us) (h:sp vs H Q E) (hx:∀a T cls H' s',Inv X pins σ H' s'->dM s'.heap a T cls->Apart X pins H' a->Apart X pins H' T->E cls none H'->X.xe (.ref a) s'):wpAny (model X.prog X.w) X.A (call (.ref f) us) (EP X pins σ Q) X.xe s:=by
 have hl:(us++[]).length=ps.length:=by rw[fW,<- r.length];exact F.len _ _ _ _ h
 have g4:=hb s us I.bq hl
 rw[fW]at g4
 refine wpAny_call (codeAny_mono (F.run X.A X.stack s H ⟨us,[]⟩ us vs Q E hr I.kO g4 r h) λr s' hq=>?_)
 cases r with
 | error e =>
  obtain⟨a,T,cls,H',rfl,os,bare,un,aq,tr,a0,a1,t0,t1,hE⟩:=hq
  exact hx a T cls H' s' (I.xC (ch:=[]) os un aq bare λb z=>absurd z (by simp)) tr (I.apart hex a0 a1) (I.apart hex t0 t1) hE
 | ok fl =>
  cases fl with
  | ret u=>exact I.after hq
  | next=>exact cm hq
  | brk=>exact cm hq
  | cont=>exact cm hq
noncomputable def mI(sp:fb)(t:br):o8:=λδ Q Z=>t δ λds ae=>sp (ds.map D.sh) (λd=>(ds.all D.pl||d.fr)=true/\Q d ae) λC=>Z C ae
theorem Ri{B:Bs}{F H:Hp}{σ:L2.St}{δ:Dl}{ts:List (D × V)}{Qd:D->Prop}{Ed:Addr->Prop}{Q:VK}{E:XK}{ds:List D}{vs:List V}(c:ag B F H σ δ ts)(s:S F H ds vs)(q:sp (ds.map D.sh) (λd=>(ds.all D.pl||d.fr)=true/\Qd d) Ed)
  (k:∀d v F' H',Qd d->aa F F'->aa H H'->ag B F' H' σ δ ((d,v)::ts)->Q v H') (kx:∀C H',Ed C->aa H H'->E (.ref C) none H'):fA sp vs H Q E:=by
 by_cases hp:ds.all D.pl=true
 ·rw[iK hp]at q
  exact⟨F,ds,_,_,c.ext,s.r hp,q,λd v F' H' A hd hs hf he h3 r nd fr=>k d v F' H' hd.2 hf hs (c.call hs hf he h3 r nd fr),kx⟩
 ·refine⟨H,ds.map D.sh,_,_,aa.refl _,s.frozen c.ext,q,λd v F' H' A hd hs hf he h3 r nd fr=>?_,kx⟩
  have cL:d.fr=true:=by
   have:=hd.1
   rw[El]at this
   exact this.resolve_left hp
  exact k d v F H' hd.2 (aa.refl _) hs (c.uR hs (r.uQ (by simp[cL]) (c.ext.trans hf)) nd fr)
theorem Rj(F:aI X.prog X.w X.K X.mg X.base (d9 X.prog X.w) n f fd ps (fA sp))(hr:aS n X.A)(hg:Gl X x)(hm:X.mg x=some (.ref f))(hk:PySem.W.keepIn X.K (.ref f)=true)(hb:Binds X.K fd ps [])(hex:X.ex=[])
  (ha:PA X (e::es) (lA t)) (bZ:(x==("__debug__":Str))=false:=by decide) (he:starEach (e::es) X.env=(false,eval e X.env)::starEach es X.env:=by rfl) (aQ:(backTo pos (starEach es X.env)).any (·.1)=false:=by rfl) :
  PX X (.Call (.Name x p) (e::es) [] pos) (lX (mI sp t)):=by
 intro pins s σ H Q Z I hz zz
 obtain⟨B,F0,δ,Qd,Zd,c,q,k,kx⟩:=zz
 refine wpAny_Call_Name_kw (jl I hg hm ?_ bZ)
 refine PySem.W.callWith_K (h₀:=X.base) I.ok.mod.fY hk (aw (ha pos pins s σ H (λvs H1=>fA sp vs H1 Q λcls _ H'=>Z cls H') I ⟨B,F0,δ,[],_,c,q,λds ah vs F1 H1 q1 f1 h1 c1 s1=>?_⟩) λus s1 ⟨vs,H1,I1,r,q⟩=>⟨I1.bq,?_⟩) he aQ
 ·exact Ri c1 s1 q1 (λd v F' H' hd hf hs c'=>k d ah v F' H' hd (f1.trans hf) (h1.trans hs) c') λC H' hC hs=>kx C ah F1 H' hC f1 (h1.trans hs) (c1.grow hs)
 ·exact Rh F hr hb hex I1 r q λa T cls H' s' I' tr pa pT hE=>hz a T cls H' s' I' tr pa pT hE
theorem Hf{B:Bs}{F H:Hp}{σ:L2.St}{Dd:kW}{pins:List (Addr × Obj)}(xl:XL X B Dd):∀a T cls H' s',Inv X pins σ H' s'->dM s'.heap a T cls->Apart X pins H' a->Apart X pins H' T->(∃C ae F',cls=.ref C/\Dd.xc C ae/\ag B F' H' σ ae [])->X.xe (.ref a) s':=by
 rintro a T cls H' s' I tr pa pT ⟨C,ae,F',rfl,hx,c⟩
 exact xl.1 C ae pins σ F' H' s' a T hx c I tr pa pT
noncomputable def mJ(t:o8):bG:=λD δ=>t δ (λ_ ae=>D.nx ae) D.xc
theorem Rk(he:PX X e (lX tx))(hs:swapsWith e none pos.line X.env=pure false:=by rfl):PS X (.Expr e pos) (lS X (mJ tx)):=by
 intro pins s σ H D I zz
 obtain⟨B,F,δ,Dd,c,q,k1,k2,k3,k4,xl⟩:=zz
 refine wpAny_Expr_any (aw (he pins s σ H (λ_ H1=>D.nx σ H1) (λcls H'=>∃C ae F',cls=.ref C/\Dd.xc C ae/\ag B F' H' σ ae []) I (Hf (H:=H) (F:=F) xl) ⟨B,F,δ,_,_,c,q,λd ae v F' H' hd _ _ c'=>k1 ae σ F' H' hd c'.pop,λC ae F' H' hC _ _ c'=>⟨C,ae,F',rfl,hC,c'⟩⟩) λv s1 ⟨x,H1,I1,r1,q1⟩=>⟨σ,H1,I1,q1⟩) I.quiet hs
noncomputable def mK(t:o8):bG:=λD δ=>t δ (λd _=>D.rt d) D.xc
theorem Hg(he:PX X e (lX tx)):PS X (.Return (some e) pos) (lS X (mK tx)):=by
 intro pins s σ H D I zz
 obtain⟨B,F,δ,Dd,c,q,k1,k2,k3,k4,xl⟩:=zz
 refine wpAny_Return_some (aw (he pins s σ H D.rt (λcls H'=>∃C ae F',cls=.ref C/\Dd.xc C ae/\ag B F' H' σ ae []) I (Hf (H:=H) (F:=F) xl) ⟨B,F,δ,_,_,c,q,λd ae v F' H' hd _ _ c'=>k2 d v ae σ F' H' hd c',λC ae F' H' hC _ _ c'=>⟨C,ae,F',rfl,hC,c'⟩⟩) λv s1 ⟨x,H1,I1,r1,q1⟩=>⟨x,σ,H1,I1,r1,q1⟩)
noncomputable def mL(t:bG):bG:=λD δ=>t { D with xc:=λ_ _=>False,xr:=λ_ _=>False } δ
theorem Rl{st:Stmt}{u:bG}(h:PS X.dq st (lS X.dq u)):PS X st (lS X (mL u)):=by
 intro pins s σ H D I zz
 obtain⟨B,F,δ,Dd,c,q,k1,k2,k3,k4,xl⟩:=zz
 exact wpAny_mono (h pins s σ H D (I.fm _) ⟨B,F,δ,_,c,q,k1,k2,k3,k4,XL.none (λ_ _ z=>z) λ_ _ z=>z⟩) (λ_ _ q=>q.gg) λ_ _ z=>cm z
noncomputable def mM(C:Addr)(t:br):bG:=λD δ=>t δ λds ae=>ds.length<=9/\D.xr C ae
structure vf(K:PySem.W.Frag)(mg:Str->Option Value)(x:Str)(C:Addr):Prop where
 own:∀h:Heap,K.In h->h.Ns mainGlobals mg->∃newId Bn y6 Hh B Hi Hj vg,OwnCls x C vg newId mg h/\ExcBaseFacts Bn newId y6 Hh/\vg.contains (.type Bn)=true/\ExcBaseFacts B Hi Hj vg
theorem vh{C:Addr}{np bf:Pos}(hm:vf X.K X.mg x C)(hc:X.calm=true)(hg:Gl X x)(ha:PA X (e::es) (lA t))(bZ:(x==("__debug__":Str))=false:=by decide)
  (he:starEach (e::es) X.env=(false,eval e X.env)::starEach es X.env:=by rfl) (aQ:(backTo bf (starEach es X.env)).any (·.1)=false:=by rfl) :
  PS X (.Raise (some (.Call (.Name x np) (e::es) [] bf)) none pos) (lS X (mM C t)):=by
 intro pins s σ H D I zz
 obtain⟨B,F,δ,Dd,c,q,k1,k2,k3,k4,xl⟩:=zz
 obtain⟨newId,Bn,y6,Hh,B',Hi,Hj,vg,O,Fn,Rm,FB⟩:=hm.own X.base I.ok.mod.fY I.ok.mod.glob
 obtain⟨tl,N,nm,qn,bs,hdct,sn,sub,ab,col,dd,k0,Rn,Ro,Rp,k5,mN,hC,hN,jv,T⟩:=O.obj
 refine wpAny_Raise_call_subU (k5:=k5) (k3:=Rp) (k2:=Ro) (k1:=Rn) (k0:=k0) (dd:=dd) (col:=col) (ab:=ab) (sub:=sub) (sn:=sn) (hdct:=hdct) (bs:=bs) (N:=N) (q:=qn) (nm:=nm) (C:=C) Fn Rm FB (mN:=mN) (T.hasType FB.hasBase) (I.ok.hd hc) (by rw[he];show(false||(backTo bf (starEach es X.env)).any (·.1))=false;rw[aQ];rfl) jv (jl I hg O.bound ⟨rfl,?_⟩ bZ)
 have y7:=ha bf pins s σ H (λvs H1=>vs.length<=9/\∃ae F',Dd.xr C ae/\ag B F' H1 σ ae []) I ⟨B,F,δ,[],_,c,q,λds ah vs F1 H1 q1 f1 h1 c1 s1=>⟨by rw[<-s1.length];exact q1.1,ah,F1,q1.2,c1⟩⟩
 rw[he]at y7 ⊢
 refine Calls.evalArgs_plain (wpAny_mono y7 (λus s2 h2=>?_) λ_ _ y=>y)
 obtain⟨vs,H1,I1,r,hl,ae,F',hx,c'⟩:=h2
 exact⟨rfl,by rw[<-r.length];exact dv hl (by decide),I1.bk _ _ hC,hN.keeps I1.bk,T.keeps I1.bk,λh' e' Rq=>xl.2 C ae pins σ F' H1 s2 h' e' _ hx c' I1 Rq⟩
end
end L3
namespace L3
open PySem L2 PySem.Spec PyProof.Rows
section
variable{X:Cx}{pins nM:List (Addr × Obj)}{σ:L2.St}{H:Hp}{s:Shared}{a:Addr}
noncomputable abbrev tr(X:Cx)(xe:Value->Shared->Prop)(pn:List (Addr × Obj)):Cx:={ X with xe:=xe,pn:=pn }
noncomputable abbrev o9(X:Cx)(A:Around)(xe:Value->Shared->Prop):Cx:={ X with A:=A,calm:=false,xe:=xe }
theorem Rt(ok:X.Ok)(xe:Value->Shared->Prop)(pn:List (Addr × Obj)):(tr X xe pn).Ok :=
 ⟨ok.mod,ok.kind,ok.glob,ok.blt,ok.above,ok.inj,ok.has,ok.il,ok.hd,ok.frames,ok.kG,ok.kH,ok.bs,ok.dX,ok.ji,ok.jj,ok.di,ok.et⟩
theorem Ru(I:Inv X pins σ H s)(xe:Value->Shared->Prop):Inv (tr X xe (X.pn++pins)) [] σ H s :=
 ⟨Rt I.ok _ _,I.os,I.bare,I.base,I.loc,I.cell,I.free,I.dj,λp hp=>I.pin p (by simpa using hp),I.aq,I.len⟩
theorem sJ{xe:Value->Shared->Prop}(ok:X.Ok)(I:Inv (tr X xe (X.pn++pins)) nM σ H s):Inv X pins σ H s :=
 ⟨ok,I.os,I.bare,I.base,I.loc,I.cell,I.free,I.dj,λp hp=>I.pin p (fh _ hp),I.aq,I.len⟩
theorem Hk{xe:Value->Shared->Prop}(p:Apart (tr X xe (X.pn++pins)) nM H a):Apart X pins H a:=⟨p.old,p.free,p.loc,p.cell,λq hq=>p.pin q (fh _ hq),p.fr⟩
theorem Rv(ok:X.Ok){A:Around}(hA:A.frames=X.A.frames)(xe:Value->Shared->Prop):(o9 X A xe).Ok :=
 ⟨ok.mod,ok.kind,ok.glob,ok.blt,ok.above,ok.inj,ok.has,ok.il,(λh=>Bool.noConfusion h),hA.trans ok.frames,ok.kG,ok.kH,ok.bs,ok.dX,ok.ji,ok.jj,ok.di,ok.et⟩
theorem Hl(I:Inv X pins σ H s){A:Around}(hA:A.frames=X.A.frames)(xe:Value->Shared->Prop):Inv (o9 X A xe) pins σ H s :=
 ⟨Rv I.ok hA xe,I.os,I.bare,I.base,I.loc,I.cell,I.free,I.dj,I.pin,I.aq,I.len⟩
theorem Rw{A:Around}{xe:Value->Shared->Prop}(ok:X.Ok)(I:Inv (o9 X A xe) pins σ H s):Inv X pins σ H s:=⟨ok,I.os,I.bare,I.base,I.loc,I.cell,I.free,I.dj,I.pin,I.aq,I.len⟩
theorem Rx{φ:Heap->Prop}(I:Inv X pins σ H s)(pa:Apart X pins H a)(ho:∃o,s.heap.get? a=some o)(h1:φ s.heap)(h2:∀g g':Heap,φ g->(∀o,g.get? a=some o->g'.get? a=some o)->φ g'):Inv X pins σ (upd H a (.ext φ)) s:=by
 have ne:∀{b:Addr} {u:HO},H b=some u->b≠a:=λ{b u} q=>cE q pa.free
 refine⟨I.ok,I.os,I.bare,⟨I.base.keep,I.base.slot,λb o e n hx=>?_,I.base.there,λb xs e=>?_,λb o xs e=>?_,λb ps e=>?_⟩,I.loc,I.cell,?_,λx c e=>?_,λp hp=>?_,λb u e=>?_,I.len⟩
 ·rw[az (λz=>by rw[z,pa.old]at e;cases e)];exact I.base.free b o e n hx
 ·have q:=I.base.dn b xs e;rw[az (ne q)];exact q
 ·have q:=I.base.dh b o xs e;rw[az (ne q)];exact q
 ·obtain⟨m,q⟩:=I.base.cS b ps e;exact⟨m,by rw[az (ne q)];exact q⟩
 ·rw[az (dD pa.loc)];exact I.free
 ·rw[az (pa.cell x c e)];exact I.dj x c e
 ·obtain⟨q1,q2,q3,q4,q5⟩:=I.pin p hp
  exact⟨q1,by rw[az (pa.pin p hp)];exact q2,q3,q4,q5⟩
 ·by_cases hb:b=a
  ·subst hb;rw[bj]at e;cases e;exact⟨h1,ho,λg g' p kk=>h2 g g' p λo q=>kk _ o (.inl rfl) q⟩
  ·rw[az hb]at e
   exact(I.aq b u e).eK (λ_ _ _ q=>q) (λc q=>by rw[az (ne q)];exact q) (λc xs q=>by rw[az (ne q)];exact q) λc xs q=>by rw[az (ne q)];exact q
end
theorem ag.unset{B:Bs}{F H:Hp}{σ:L2.St}{δ:Dl}{ts:List (D × V)}(c:ag B F H σ δ ts)(i:Nat):ag B F H (σ.set i none) (δ.set i none) ts:=by
 obtain⟨A,C,r,q,nd,fr⟩:=(c.forget i).own
 refine⟨c.ext,c.b1,c.b2,c.b3,A,C,r,q.oi none ?_,nd,fr⟩
 by_cases h:i<δ.length
 ·exact .inl (by rw[D4 h])
 ·exact .inr (by rw[qV (by simpa using h)])
noncomputable abbrev exc(C:Addr):D:=.aL (.ext λa=>gK a C)
theorem Hm{h:Heap}{a T C:Addr}(t:dM h a T (.ref C)):gK a C h:=by
 obtain⟨oe,vs,oT,ts,h1,h2,h3,h4,_⟩:=t
 exact⟨oe,h1,h2,by obtain⟨c,d,dt,sl⟩:=oe;cases h4;rfl,h3⟩
theorem Ry{a C:Addr}(g g':Heap)(h:gK a C g)(k:∀o,g.get? a=some o->g'.get? a=some o):gK a C g':=let⟨o,h1,r⟩:=h;⟨o,k o h1,r⟩
section
variable{X:Cx}{tb th:bG}{body y8:List Stmt}{y9:Stmt}{K n:Str}{Kc:Addr}{i:Nat}{kp Ho pos:Pos}
noncomputable def mO(K:PySem.W.Frag)(c:Value)(i:Nat)(tb th:bG):bG:=λD δ=>tb { D with
 xc:=λC ae=>PySem.W.exmOne K (.ref C) c=some true/\th { nx:=λaC=>D.nx (aC.set i none),rt:=λ_=>False } (ae.set i (some (exc C)))
 xr:=λ_ _=>False } δ
theorem Rz(hb:∀xe pn,PSs (tr X xe pn) body (lS (tr X xe pn) tb))(RA:∀A' xe,PSs (o9 X A' xe) (y9::y8) (lS (o9 X A' xe) th))(hg:Gl X K)(hm:X.mg K=some (.ref Kc))(hN:X.N.Nodup)(hi:X.N[i]?=some n)
  (hl:X.env.scope.names.lookup n=some .local) (hex:X.ex=[]) (bw:X.stack=X.env::X.outer) (hf:X.env.frame=some X.env.locals) (bZ:(K==("__debug__":Str))=false:=by decide) :
  PS X (.Try body [.ExceptHandler (some (.Name K kp)) (some n) (y9::y8) Ho] [] [] pos) (lS X (mO X.K (.ref Kc) i tb th)):=by
 intro pins s σ H D I zz
 obtain⟨B,F,δ,Dd,c,q,k1,k2,k3,k4,xl⟩:=zz
 refine wpAny_Try_except (wpAny_mono (hb (λe s'=>∃a T C aj F' H' ae,e=.ref a/\Inv X pins aj H' s'/\dM s'.heap a T (.ref C)/\Apart X pins H' a/\Apart X pins H' T/\ag B F' H' aj ae []/\PySem.W.exmOne X.K (.ref C) (.ref Kc)=some true/\th { nx:=λaC=>Dd.nx (aC.set i none),rt:=λ_=>False } (ae.set i (some (exc C)))) (X.pn++pins) [] s σ H D (Ru I _) ⟨B,F,δ,_,c,q,k1,k2,k3,k4,λC ae nM aj F' H' s' a T hx c' I' yw pa pT=>⟨a,T,C,aj,F',H',ae,rfl,sJ I.ok I',yw,Hk pa,Hk pT,c',hx⟩,λ_ _ _ _ _ _ _ _ _ _ z=>z.elim⟩) (λf s1 hS=>?_) λe s1 hx=>?_)
 ·cases f with
  | next=>obtain⟨aj,H',I',q'⟩:=hS;exact um (X:=X) pins s1 aj H' D (sJ I.ok I') q'
  | brk=>obtain⟨aj,H',I',q'⟩:=hS;exact⟨aj,H',sJ I.ok I',q'⟩
  | cont=>obtain⟨aj,H',I',q'⟩:=hS;exact⟨aj,H',sJ I.ok I',q'⟩
  | ret u=>obtain⟨v,aj,H',I',r',q'⟩:=hS;exact⟨v,aj,H',sJ I.ok I',r',q'⟩
 ·obtain⟨a,T,C,aj,F',H',ae,rfl,I1,t1,pa,pT,c1,cF,RB⟩:=hx
  refine PQ I1 bw hex hf t1 pa pT λh2 T2 I2 t2 RC=>?_
  refine wpAny_handleBy_cons (codeAny_handlers_test (jl (X:=o9 X (X.A.mark (some (.ref a))) X.xe) (Hl (A:=X.A.mark (some (.ref a))) I2 rfl X.xe) hg hm ?_ bZ)) (by intro z;cases z)
  have x2:=Hm t2
  obtain⟨o2,e2,RD,_⟩:=id x2
  have LT:PySem.W.Looks (model X.prog X.w) h2 (typeOf (.ref a)) (.ref C):=RD ▸ (PySem.W.Looks.ld e2).andThen .now
  refine(PySem.W.exm_one I2.bq LT cF).here ?_
  refine codeAny_handlers_suite_as (PR I2 hex t2 RC λh3 I3 t3=>?_)
  have x3:=Hm t3
  have I4:=Rx (φ:=gK a C) I3 pa (x3.imp λo z=>z.1) x3 (λg g' z k=>Ry g g' z k)
  refine uk I4 hN hi (.inl hl) (v:=.ref a) rfl (λs5 I5=>?_) (.inr hl)
  refine wpAny_mono (RA _ _ pins s5 _ _ { nx:=λfq H2=>D.nx (fq.set i none) H2,rt:=λ_ _=>False } (Hl (A:=X.A.mark (some (.ref a))) I5 rfl _) ⟨B,F',ae.set i (some (exc C)),_,?_,RB,λaC fq F2 H2 hn c2=>k1 _ _ F2 H2 hn (c2.unset i),λ_ _ _ _ _ _ z=>z.elim,λ_ _ _ _ z=>z.elim,λ_ _ _ _ z=>z.elim,XL.none (λ_ _ z=>z) λ_ _ z=>z⟩) (λf s6 hS=>?_) λ_ _ z=>z
  ·exact((c1.grow (aa.upd pa.free)).pushS (d:=exc C) (v:=.ref a) (.aL bj .nil) rfl).store i
  ·cases f with
   | next =>
    obtain⟨uv,H6,I6,q6⟩:=hS
    exact PU (Rw I.ok I6) hN hi hl λs7 I7=>⟨_,H6,I7,q6⟩
   | brk=>obtain⟨_,_,_,z⟩:=hS;exact z.elim
   | cont=>obtain⟨_,_,_,z⟩:=hS;exact z.elim
   | ret u=>obtain⟨_,_,_,_,_,z⟩:=hS;exact z.elim
end
end L3
namespace L3
open PySem L2 PySem.Spec PyProof.Rows
noncomputable def za:V->Option Value
 | .ref a=>some (.ref a)
 | .ty n=>some (.type n)
 | _=>none
theorem RE{c:V}{u cv:Value}(h:za c=some cv)(r:RelV c u):u=cv:=by
 cases c<;>cases h<;>exact r
inductive vi(K:PySem.W.Frag)(H:Hp):V->Value->Prop where
 | ty {v:V} {t:Value} (h:dZ K H v t):vi K H v t
 | exc {a C:Addr} (e:H a=some (.ext (gK a C))) (x:oa K C):vi K H (.ref a) (.ref C)
noncomputable def RF(K:PySem.W.Frag):List V->Hp->VK->Prop:=λxs H Q=>∃x c cv t b,xs=[x,c]/\za c=some cv/\vi K H x t/\PySem.W.kitOne K t cv=some b/\Q (.bl b) H
section
variable{X:Cx}{F H:Hp}{v:V}{a:Expr}{ta:au}{p pos:Pos}
theorem Hq:eN X (.builtin "isinstance") (RF X.K):=by
 intro pins s σ H xs us Q I r h
 obtain⟨x,c,cv,t,b,rfl,hv,ty,e,q⟩:=h
 obtain⟨u,v,rfl,ru,rv⟩:=r.two
 cases RE hv rv
 cases ty with
 | ty ty=>exact E3 I ru ty e λtk=>⟨.bl b,H,I.tok _,rfl,q⟩
 | @exc a C ea x =>
  cases(show u=bb a from ru)
  obtain⟨xa,_,_⟩:=(show cx X.prog X.w H s.heap a (.ext (gK a C)) from I.aq a _ ea)
  exact PySem.W.kia_one (P7 x) I.bq xa e (λz=>nomatch z) λtk=>⟨.bl b,H,I.tok _,rfl,q⟩
noncomputable def zb(K:PySem.W.Frag)(cv:Value)(d:D)(r:Bool):Prop:=match d with
 | .aL φ=>∃C,(φ=.ext λa=>gK a C)/\oa K C/\PySem.W.kitOne K (.ref C) cv=some r
 | d=>∃k,u9 d=some k/\PySem.W.kitOne K (.type k) cv=some r
theorem RG{K:PySem.W.Frag}{cv:Value}{d:D}{r:Bool}(s:S F H [d] [v])(e:aa F H)(h:zb K cv d r):∃t,vi K H v t/\PySem.W.kitOne K t cv=some r:=by
 cases s with
 | aL h' _=>obtain⟨C,rfl,x,k⟩:=h;exact⟨_,.exc h' x,k⟩
 | int z=>obtain⟨k,hk,h⟩:=h;exact⟨_,.ty (iV (.int .nil) e hk),h⟩
 | bl z=>obtain⟨k,hk,h⟩:=h;exact⟨_,.ty (iV (.bl .nil) e hk),h⟩
 | ai z=>obtain⟨k,hk,h⟩:=h;exact⟨_,.ty (iV (.ai .nil) e hk),h⟩
 | str z=>obtain⟨k,hk,h⟩:=h;exact⟨_,.ty (iV (.str .nil) e hk),h⟩
 | shr h' q z=>obtain⟨k,hk,h⟩:=h;exact⟨_,.ty (iV (.shr h' q .nil) e hk),h⟩
 | own h' q z=>obtain⟨k,hk,h⟩:=h;exact⟨_,.ty (iV (.own h' q .nil) e hk),h⟩
 | fz h' q z=>obtain⟨k,hk,h⟩:=h;exact⟨_,.ty (iV (.fz h' q .nil) e hk),h⟩
 | tup h' q z=>obtain⟨k,hk,h⟩:=h;exact⟨_,.ty (iV (.tup h' q .nil) e hk),h⟩
 | obj _ _ _ _=>obtain⟨k,hk,h⟩:=h;cases hk
noncomputable def iY(K:PySem.W.Frag)(cv:Value)(t:au):au:=λδ Q=>t δ λd ae=>∃r,zb K cv d r/\Q (.bl r) ae
theorem Hr{y:Str}{q:Pos}{c:V}{cv:Value}(hg:Gl X "isinstance")(hm:X.mg "isinstance"=none)(hc:PE X (.Name y q) (tC c))(RH:za c=some cv)(ha:PE X a (lB ta))
  (hs:starEach [a,.Name y q] X.env=(false,eval a X.env)::starEach [.Name y q] X.env) (dG:starEach [.Name y q] X.env=(false,eval (.Name y q) X.env)::starEach [] X.env) (aQ:(backTo pos (starEach [.Name y q] X.env)).any (·.1)=false) :
  PE X (.Call (.Name "isinstance" p) [a,.Name y q] [] pos) (lE (iY X.K cv ta)) :=
 cj (uE Hq hg hm yh (cN ha (cN hc eO dG) hs) (by decide) (by decide) hs aQ) λσ H Q ⟨B,F,δ,ts,Qd,c,q,k⟩=>⟨B,F,δ,ts,_,c,q,λd ah v F1 H1 q1 f1 h1 c1 s1=>by
  obtain⟨r,e,qr⟩:=q1
  obtain⟨t,h2,h3⟩:=RG (K:=X.K) s1 c1.ext e
  exact⟨v,_,_,t,r,rfl,RH,h2,h3,k _ ah _ F1 H1 qr f1 h1 (c1.pushS (.bl .nil) rfl)⟩⟩
theorem Hs{y:Str}{q:Pos}{C:Addr}(hg:Gl X "isinstance")(hm:X.mg "isinstance"=none)(my:Gl X y)(jP:X.mg y=some (.ref C))(ha:PE X a (lB ta))(hd:(y==("__debug__":Str))=false:=by decide)
  (hs:starEach [a,.Name y q] X.env=(false,eval a X.env)::starEach [.Name y q] X.env:=by rfl) (dG:starEach [.Name y q] X.env=(false,eval (.Name y q) X.env)::starEach [] X.env:=by rfl) (aQ:(backTo pos (starEach [.Name y q] X.env)).any (·.1)=false:=by rfl) :
  PE X (.Call (.Name "isinstance" p) [a,.Name y q] [] pos) (lE (iY X.K (.ref C) ta)) :=
 Hr hg hm (EH (v:=.ref C) my jP rfl hd) rfl ha hs dG aQ
theorem RI{n:String}{y:Str}{q:Pos}(hg:Gl X "isinstance")(hm:X.mg "isinstance"=none)(my:Gl X y)(jP:X.mg y=none)(yV:bootBuiltins y=some (.type n))(ha:PE X a (lB ta))
  (hn:y≠"__name__":=by decide) (hd:(y==("__debug__":Str))=false:=by decide)
  (hs:starEach [a,.Name y q] X.env=(false,eval a X.env)::starEach [.Name y q] X.env:=by rfl) (dG:starEach [.Name y q] X.env=(false,eval (.Name y q) X.env)::starEach [] X.env:=by rfl) (aQ:(backTo pos (starEach [.Name y q] X.env)).any (·.1)=false:=by rfl) :
  PE X (.Call (.Name "isinstance" p) [a,.Name y q] [] pos) (lE (iY X.K (.type n) ta)) :=
 Hr hg hm (FZ my jP yV hn hd) rfl ha hs dG aQ
end
section
variable{K:PySem.W.Frag}{mg:Str->Option Value}{x:Str}{C:Addr}
theorem Ht(hm:mg x=some (.ref C))(q:PySem.W.excIn K C [.type "ValueError",.type "Exception",.type "BaseException",.type "object"] "ValueError.__new__"=true):vf K mg x C:=by
 refine⟨λh X G=>⟨"ValueError.__new__","ValueError",_,_,"ValueError",_,_,[.type "ValueError",.type "Exception",.type "BaseException",.type "object"],?_,PySem.F.excBase_ValueError,rfl,PySem.F.excBase_ValueError⟩⟩
 refine⟨hm,?_⟩
 unfold PySem.W.excIn at q
 split at q
 ·rename_i dd cd sl ho
  split at q
  ·rename_i C' bm k0 k1 k2 k3 n k5 hm hs
   simp only[cC,beq_iff_eq,Bool.not_eq_true']at q
   obtain⟨⟨⟨⟨⟨rfl,rfl⟩,Hu⟩,ht⟩,aq⟩,jv⟩:=q
   obtain⟨nm,bs,mro,ns,qn,hd,sn,sub,ab,col,del⟩:=cd
   dsimp only at hm Hu aq jv
   subst hm Hu
   have RJ:sl=#[k0,k1,k2,k3,some (.builtin "ValueError.__new__"),k5]:=by
    obtain⟨l⟩:=sl
    simp only at hs
    rw[hs]
   subst RJ
   exact⟨bm,ns,nm,qn,bs,hd,sn,sub,ab,col,dd,k0,k1,k2,k3,k5,_,X _ _ ho,.of_isNs (PySem.W.isNs_of_in X aq),PySem.W.nsMap_none_of_in X aq jv,PySem.W.tail_of_in X ht⟩
  ·cases q
 ·cases q
open PySem.W in
theorem zc{c:Value}:kitOne K c c=some true:=by
 unfold kitOne
 rw[if_pos (by simp)]
open PySem.W in
theorem iZ{t:Value}{b:Bool}(fH:(t==.ref C)=false)(h1:(clsIn K C).isSome=true)(h2:typeIn K (.ref C)=some (.type "type"))(h3:subIn K t (.ref C)=some b):kitOne K t (.ref C)=some b:=by
 unfold kitOne kitCls
 rw[fH]
 simp only[jg,if_false]
 rw[h1,h2,if_pos (by rfl),h3]
open PySem.W in
theorem Hv{t:Value}{n:String}{b:Bool}(fH:(t==.type n)=false)(h1:kitMeta n=true)(h3:subIn K t (.type n)=some b):kitOne K t (.type n)=some b:=by
 unfold kitOne kitCls
 rw[fH]
 simp only[jg,if_false]
 rw[if_pos h1,h3]
open PySem.W in
theorem Hw{t:Value}{b:Bool}(h1:(clsIn K C).isSome=true)(h2:typeIn K (.ref C)=some (.type "type"))(h0:subIn K (.ref C) (.type "BaseException")=some true)(h3:subIn K t (.ref C)=some b):exmOne K t (.ref C)=some b:=by
 unfold exmOne kitCls
 rw[h0,if_pos (by rfl)]
 simp only
 rw[h1,h2,if_pos (by rfl),h3]
end
theorem zd{P:Program}{w:World}{X:Cx}:gG (d9 P w) X E0:=by
 rintro _ _ _ _ _ _ _ ⟨_,_,_,_,_,_,_,_,_,_,_,_,_,_,z⟩
 exact z.elim
theorem ze{P:Program}{w:World}{K:PySem.W.Frag}{mg:Str->Option Value}{base:Heap}{k:Nat}{f:Addr}{fd:FuncData}{ps:List Str}{sp:fb}(h:aI P w K mg base (d9 P w) k f fd ps (fA sp)) :
  aI P w K mg base (d9 P w) k f fd ps (bL λds Q=>sp ds Q λ_=>False) :=
 h.imp λvs H Q E ⟨F,ds,Qd,e,r,q,k⟩=>⟨F,ds,Qd,_,e,r,q,k,λ_ _ z=>z.elim⟩
end L3
namespace L3
open PySem L2 PySem.Spec PyProof.Rows
theorem pb{CX:cO}{P:Program}{w:World}{K:PySem.W.Frag}{mg:Str->Option Value}{base:Heap}{N:List Str}{q:Str}{sc:Scope}{f:Addr}{aA:Value}{A:Around}{outer:List Env}{s:Shared}{H:Hp}{E:XK}:(eP CX P w K mg base N q sc f aA A outer s H E).K=K:=rfl
theorem zf{K:PySem.W.Frag}{cv:Value}{C:Addr}{r:Bool}(x:oa K C)(h:PySem.W.kitOne K (.ref C) cv=some r):zb K cv (exc C) r:=⟨C,rfl,x,h⟩
theorem pd(φ:og):(D.aL φ).pl=true:=rfl
theorem pe(φ:og):(D.aL φ).sh=.aL φ:=rfl
end L3
namespace L3
open PySem L2 PySem.Spec PyProof.Rows
theorem pf{X:Cx}:X.dq.K=X.K:=rfl
end L3
namespace L3
open PySem L2 PySem.Spec PyProof.Rows
noncomputable def fP(xs:List D):List D:=xs.mapIdx λi x=>D.tup [.int i,x]
theorem RK(xs:List D):(fP xs).map D.sh=fP (xs.map D.sh):=by
 unfold fP
 apply List.ext_getElem?
 intro i
 simp only[gy,LW,Option.map_map]
 cases xs[i]? with
 | none=>rfl
 | some x =>
  show some (D.sh (.tup [.int i,x]))=some (D.tup [.int i,x.sh])
  rw[gM];rfl
theorem RL{xs:List D}(h1:xs.all D.pl=true):(fP xs).all D.pl=true:=by
 unfold fP
 rw[cV]at h1 ⊢
 intro d hd
 obtain⟨i,hi,e⟩:=LQ hd
 rw[List.getElem_mapIdx]at e
 subst e
 rw[gL]
 simp only[de,nF,jh,cC]
 exact⟨rfl,h1 _ (ud _)⟩
theorem vj(xs:List D):(fP xs).length=xs.length:=by simp[fP]
section
variable{F H:Hp}{d:D}{v:V}{xs ys:List D}{ws us:List V}{p q:Addr}{K:PySem.W.Frag}
theorem RM(s:S F H [d] [v])(e2:aa F H)(e:gQ d=some xs):∃p ws,v=.ref p/\Rd H p (.lst ws)/\R H H (xs.map D.sh) ws []/\(d.pl=true->xs.all D.pl=true/\Rd F p (.lst ws)/\R F H xs ws []):=by
 cases s with
 | @shr p ws ys _ _ hp r _ =>
  obtain rfl:=cR e
  refine⟨p,ws,rfl,.inl (e2 _ _ hp),?_,λ_=>⟨r.pl,.inl hp,r⟩⟩
  rw[iK r.pl]
  exact r.shared e2 (aa.refl _)
 | @own p ws ys _ _ hp r _ =>
  obtain rfl:=cR e
  exact⟨p,ws,rfl,.inl hp,r.frozen e2,λz=>by simp[fI]at z⟩
 | @fz p o ws ys _ _ hp r _ =>
  obtain rfl:=cR e
  refine⟨p,ws,rfl,.inr ⟨o,e2 _ _ hp⟩,?_,λ_=>⟨r.pl,.inr ⟨o,hp⟩,r⟩⟩
  rw[iK r.pl]
  exact r.shared e2 (aa.refl _)
 | ai _=>cases e
 | bl _=>cases e
 | int _=>cases e
 | str _=>cases e
 | tup _ _ _=>cases e
 | obj _ _ _ _=>cases e
 | aL _ _=>cases e
theorem RN(r:R F H xs ws []){i:Nat}(hi:i<xs.length){x:V}(hx:ws[i]?=some x):R F H [xs[i]] [x] []:=by
 obtain⟨v,A1,e2,r1,sub⟩:=r.get (dw hi)
 rw[hx]at e2;cases e2
 have:A1=[]:=LU.mpr λa ha=>by simpa using sub ha
 subst this
 exact r1
theorem Hx(hp:Rd F p (.lst ws))(r:R F H xs ws [])(hF:Full F H):JD (yx K p) F (fP xs) where
 go:=λi H' hs hi=>by
  rw[vj]at hi
  have l1:=r.length
  exact⟨ws,_,.inl (kU hp hs),dw (show i<ws.length by omega)⟩
 gj:=λi H' v H2 hs hi zz=>by
  obtain⟨T,x,e1,e2,e3,hx⟩:=zz
  subst e1 e3
  have Hy:=hi
  rw[vj]at Hy
  have h1:=RN (r.full hF hs rfl) Hy (hx ws (.inl (kU hp hs)))
  have sm:=aa.upd (o:=.tup [.int i,x]) e2
  refine⟨_,dw hi,sm,?_⟩
  have eg:(fP xs)[i]=.tup [.int i,xs[i]]:=by simp[fP]
  rw[eg]
  exact R.tup (A:=[]) (B:=[]) bj (.int (h1.shared (aa.refl _) sm)) .nil
 stop:=λi H' hs hi=>by
  rw[vj]at hi
  have l1:=r.length
  exact⟨ws,.inl (kU hp hs),by omega⟩
end
section
variable{X:Cx}{a b:Expr}{ta:br}{p pos kN:Pos}{elts:List Expr}{x1:Nat}
noncomputable def mP(t:br):gu:=λδ Q=>t δ λds ae=>match ds with
 | [d1]=>∃xs,gQ d1=some xs/\Q d1.pl (fP xs) ae
 | _=>False
theorem RO(hg:Gl X "enumerate")(hm:X.mg "enumerate"=none)(ha:PA X [a] (lA ta))(hs:starEach [a] X.env=[(false,eval a X.env)]:=by rfl) :
  PI X (.Tuple elts x1 kN) (.Call (.Name "enumerate" p) [a] [] pos) (lI (mP ta)) :=
 uW (Ql hg hm ha hs) λσ H Q ⟨B,F,δ,ts,Qd,c,q,k⟩=>⟨B,F,δ,ts,_,c,q,λds ah vs F1 H1 hd f1 h1 c1 s=>by
  match ds,hd,s with
  | [d1],⟨xs,i1,hq⟩,s =>
   obtain⟨v1,bN,rfl,s1,s2⟩:=s.cq
   cases s2
   have e2:=c1.ext
   have sn:=si e2
   obtain⟨p1,w1,rfl,r1,t1,u1⟩:=RM s1 e2 i1
   refine⟨p1,rfl,⟨w1,.inl r1⟩,k _ _ ah _ _ H1 hq (f1.trans sn) h1 c1.snap ?_ λz=>?_⟩
   ·rw[RK]
    exact Hx r1 t1 (Full.refl _)
   ·obtain⟨a1,a2,a3⟩:=u1 z
    exact⟨RL a1,Hx (kU a2 sn) (a3.shared sn (aa.refl _)) yB⟩⟩
end
end L3
namespace L3
open PySem L2 PySem.Spec PyProof.Rows
section
variable{X:Cx}{F H:Hp}{e b:Expr}{pos p p2 p3 pr apos bf vd:Pos}{t ti te:au}{x y:Str}{i j:Nat}
theorem cb6{B:Bs}{σ:L2.St}{δ:Dl}{ts:List (D × V)}{l1 l2 ys:List D}{p0:Addr}{ws:List V}(c:ag B F H σ δ ts)(e1:δ[i]?=some (some (.lst true (l1++.lst true ys::l2))))(g1:σ[i]?=some (some (.ref p0)))(g2:H p0=some (.lst ws)) :
  ∃q us,ws[l1.length]?=some (.ref q)/\H q=some (.lst us)/\ys.length=us.length/\S F H [.lst true ys] [.ref q]:=by
 obtain⟨v,ev,sv⟩:=c.look e1
 rw[g1]at ev;cases ev
 cases sv with
 | own hh sx _ =>
  rw[g2]at hh;cases hh
  obtain⟨v2,e2,s3⟩:=sx.get (i:=l1.length) (d:=D.lst true ys) (by rw[wY (bH _),Nat.sub_self];rfl)
  have s4:=s3
  cases s3 with
  | own h3 s5 _=>exact⟨_,_,e2,h3,s5.length,s4⟩
end
section
variable{X:Cx}{CX:cO}{k:Nat}{f:Addr}{fd:FuncData}{ps:List Str}{sp:bC}{E:XK}{fn x1 x2 y1 y2:Str}{i1 i2 j1 j2:Nat}{tk:Nat}
 {tp t1 t2 zp ch8 q1 q2 fp ch9 a1 a2 RP ci0 ci1 cp vd pr apos bf ci2 pos:Pos}
end
end L3
namespace L3
open PySem L2 PySem.Spec PyProof.Rows
theorem ag.RQ{B:Bs}{F H:Hp}{σ:L2.St}{δ:Dl}{ts:List (D × V)}{a b:D}{v:V}(c:ag B F H σ δ ((.tup [a,b],v)::ts)):∃p u w,v=.ref p/\H p=some (.tup [u,w])/\ag B F H σ δ ((a,u)::(b,w)::ts):=by
 obtain⟨A,C,r,s,nd,fr⟩:=c.own
 cases r with
 | @tup p ws xs A1 _ _ B1 hp r1 r2 =>
  obtain⟨u,dz,A2,A3,rfl,rfl,h1,h2⟩:=r1.cq
  obtain⟨w,ci3,A4,A5,rfl,rfl,h3,h4⟩:=h2.cq
  cases h4
  refine⟨p,u,w,rfl,hp,c.ext,c.b1,c.b2,c.b3,A2++(A4++B1),C,h1.cons (h3.cons r2),s,?_,?_⟩
  ·simpa using nd
  ·intro a ha;exact fr a (by simpa using ha)
section
variable{X:Cx}{y1 y2:Str}{i1 i2 tk m:Nat}{t1 t2 tp:Pos}
noncomputable def jS(i1 i2:Nat):eF:=λd δ Q=>match d with
 | .tup [a,b]=>Q ((δ.set i1 (some a)).set i2 (some b))
 | _=>False
theorem RR(hc:X.calm=true)(Hz:X.N.Nodup)(m1:X.N[i1]?=some y1)(l1:Loc X.env.scope y1)(m2:X.N[i2]?=some y2)(l2:Loc X.env.scope y2)(hm1:m<=i1:=by decide)(jP:m<=i2:=by decide)
  (f1:X.fn y1=true\/X.env.scope.names.lookup y1=some .local:=by first | exact .inl rfl | exact .inr rfl | assumption) (f2:X.fn y2=true\/X.env.scope.names.lookup y2=some .local:=by first | exact .inl rfl | exact .inr rfl | assumption)
  (RT:(assignEach [.Name y1 t1,.Name y2 t2] X.env).map (·.2)=assign (.Name y1 t1) X.env::(assignEach [.Name y2 t2] X.env).map (·.2):=by rfl) (RU:(assignEach [.Name y2 t2] X.env).map (·.2)=assign (.Name y2 t2) X.env::(assignEach [] X.env).map (·.2):=by rfl)
  (hn:(assignEach [.Name y1 t1,.Name y2 t2] X.env).length=2:=by rfl) (bw:(assignEach [.Name y1 t1,.Name y2 t2] X.env).findIdx? (·.1)=none:=by rfl) :
  PG X (.Tuple [.Name y1 t1,.Name y2 t2] tk tp) (lG m (jS i1 i2)) :=
 GH (MK hc (EN (ur Hz m1 l1 f1) (EN (ur Hz m2 l2 f2) MI RU) RT) hn bw) λv σ H Q zz=>by
  obtain⟨B,F,δ,ts,d,Qd,c,q,k⟩:=zz
  obtain⟨a,b,rfl,q⟩:∃a b,d=D.tup [a,b]/\Qd ((δ.set i1 (some a)).set i2 (some b)):=by
   unfold jS at q
   split at q
   ·exact⟨_,_,rfl,q⟩
   ·exact q.elim
  obtain⟨p,u,w,rfl,hp,c2⟩:=c.RQ
  refine⟨p,[u,w],rfl,dY.of hp,rfl,u,[w],rfl,w,[],rfl,rfl,k _ _ q (by simp) (λj hj=>?_) ((c2.store i1).store i2)⟩
  rw[qR (by omega),qR (by omega)]
end
open Classical in
theorem vk{α:Type}{sh:Bool}{xs:List D}{ar:List (Str × Nat)}{n m:Nat}{te:au}{ah:Dl}{Q:D->Dl->Prop}(l:List α)(e g:α->D)(i3:xs.map D.sh=l.map e)(inj:∀a b,e a=e b->a=b)
  (hx:∀a∈l,te ((dB ar n ah).set m (some (e a))) λd _=>d=g a) (cL:(sh&&ar.all (eZ ah))=true\/∀a∈l,(g a).fr=true) (hl:l.length<=sizeLine) (hq:Q (.lst true (l.map g)) ah):uY sh xs ar n (gN m) iQ te ah Q:=by
 let f:D->D:=λx=>if h:∃a∈l,e a=x then g h.choose else .ai
 have hf:∀a∈l,f (e a)=g a:=λa ha=>by
  have h:∃b∈l,e b=e a:=⟨a,ha,rfl⟩
  show(if h:∃b∈l,e b=e a then g h.choose else .ai)=g a
  rw[dif_pos h]
  exact congrArg g (inj _ _ h.choose_spec.2)
 refine QG f (λx h=>?_) (cL.imp id λh x hx=>?_) ?_ ?_
 ·rw[i3]at h
  obtain⟨a,ha,rfl⟩:=ig.mp h
  rw[hf a ha];exact hx a ha
 ·rw[i3]at hx
  obtain⟨a,ha,rfl⟩:=ig.mp hx
  rw[hf a ha];exact h a ha
 ·have:=congrArg D8 i3
  simp at this
  omega
 ·rw[i3,ky,show l.map (f ∘ e)=l.map g from Ep λa ha=>hf a ha]
  exact hq
end L3
namespace L3
open PySem L2 PySem.Spec PyProof.Rows
end L3
namespace L2
open PySem PySem.Spec PyProof.Rows
section
variable{X:Cx}
end
end L2
namespace L3
open PySem L2 PySem.Spec PyProof.Rows
noncomputable abbrev tx(l:List Nat):D:=.str ⟨l.toArray⟩
section
variable{X:Cx}{F H:Hp}{e:Expr}{es:List Expr}{t:au}{pos p p2 apos bf:Pos}
noncomputable def GB:bK:=λx y Q=>match x,y with
 | .str z,.str w=>∃ch,z=⟨#[ch]⟩/\Q (.bl (decide (ch∈w.cps.toList)))
 | _,_=>False
noncomputable def jT:gX:=λds Q=>match ds with
 | [.int i]=>i.natAbs.log2<1920/\Q (.str (toString i))
 | _=>False
theorem HA:gY X (.type "str") jT:=gY.of Nv λvs H Q zz=>by
 obtain⟨B,F,σ,δ,ts,ds,Qd,c,s,q,k⟩:=zz
 unfold jT at q
 split at q
 ·obtain⟨v,rfl,s1⟩:=ou s
  cases s1
  exact⟨_,rfl,q.1,k _ _ _ q.2 (aa.refl _) (c.pushS (.str .nil) rfl)⟩
 ·exact q.elim
end
end L3
namespace L3
open PySem L2 PySem.Spec PyProof.Rows
end L3
namespace L2
open PySem PySem.Spec PyProof.Rows
section
variable{X:Cx}{tg l o e:Expr}{tl to te:TE}{apos bf:Pos}
end
end L2
namespace L3
open PySem L2 PySem.Spec PyProof.Rows
section
variable{X:Cx}{F H:Hp}{tg l e:Expr}{te t tb:au}{apos bf pos:Pos}
variable{o:Expr}
noncomputable def y6:bK:=λx y Q=>match x,y with
 | .int i,.lst _ xs=>∃ns:List Int,xs=aE ns/\Q (.bl (decide (i∈ns)))
 | _,_=>False
end
end L3
namespace L3
open PySem L2 PySem.Spec PyProof.Rows
end L3
namespace L2
open PySem PySem.Spec PyProof.Rows
noncomputable def Tb(ts:List Addr)(H:Hp):Prop:=∀P∈ts,∃ps,H P=some (.bS ps)
structure ph(ts:List Addr)(H:Hp):Prop where
 any:∀b,H b=none\/(∃o xs,H b=some (.bt o (.lst xs)))\/(b∈ts/\H b=some (.bS #[]))
 tab:∀P∈ts,H P=some (.bS #[])
theorem ph.tb{ts:List Addr}{H:Hp}(h:ph ts H):Tb ts H:=λP hP=>⟨#[],h.tab P hP⟩
noncomputable def Bm(mg:Str->Option Value)(base:Heap):Prop:=∃bm o,mg "__builtins__"=some (.ref bm)/\bm≠builtinsNs/\bm≠mainGlobals/\base.get? bm=some o/\o.cls=.type "module"/\o.dict=some builtinsNs/\o.data=.plain
theorem RV{P:Program}{w:World}{K:PySem.W.Frag}{mg mb:Str->Option Value}{CX:cO}{k:Nat}{fa a:Addr}{fd:FuncData}{x:Str}{sp:Sp}{aP:Shared}{vs:List Value}{ns:List Int}{ts:List Addr}
  (KX:K.In aP.heap) (vl:aP.heap.Ns mainGlobals mg) (hb:aP.heap.Ns builtinsNs mb) (RW:∀x:Str,x≠"__name__"->mb x=bootBuiltins x) (RX:aP.heap.NoLimit) (hg:aP.gens=#[])
  (ht:∀P∈ts,aP.heap.get? P=some (PySem.W.tabObj #[])) (zg:∀P∈ts,isCodeTable aP.heap P) (RY:∀P∈ts,K.lookup P=none)
  (ha:aP.heap.get? a=some { cls:=.type "list",data:=.seq vs.toArray }) (hi:IntsAre vs ns) (hl:ns.length<=sizeLine) (hr:aS k callerA)
  (sM:Bm mg aP.heap) (F:∀base:Heap,K.In base->base.Ns mainGlobals mg->Bm mg base->aI P w K mg base CX k fa fd [x] sp) (RZ:∀(s:Shared) (u:Value),BindsTo s fd ⟨[u],[]⟩ [(x,u)])
  (eQ:∀H:Hp,ph ts H->bJ K H a (ns.map V.int)->sp [.ref a] H (λv _=>v=.bl true) λ_ _ _=>False)
  (zh:∀H e s',CX [] H aP (λ_ _ _=>False) e s'->False) :
  codeAny (model P w) callerA (.call (.ref fa) ⟨[.ref a],[]⟩) (λr s'=>r=.ok (.ret (.bool true))/\OldK aP.heap s'.heap/\s'.os=aP.os/\AllBare s'.gens) aP:=by
 have rv:=Fq hi
 have R0:=hi.length
 have nat:a ∉ ts:=λz=>by
  have:=ht a z
  rw[ha]at this
  cases this
 have core:∀H:Hp,ph ts H->bJ K H a (ns.map V.int)->bI P w H aP.heap->(∀b,H b≠none->b=a\/b∈ts)->(H a≠none->K.lookup a=none) ->
   codeAny (model P w) callerA (.call (.ref fa) ⟨[.ref a],[]⟩) (λr s'=>r=.ok (.ret (.bool true))/\OldK aP.heap s'.heap/\s'.os=aP.os/\AllBare s'.gens) aP:=by
  intro H hO hS aq hA hK
  have zi:∀{b:Addr} {o:Obj},aP.heap.get? b=some o->H b=none->(gC aP.heap H).get? b=some o:=λe n=>Mb e n
  have rQ:∀{b:Addr} {o:Obj} {es:Array DictEntry} {ep:Nat},aP.heap.get? b=some o->o.data=.dict es ep->H b=none:=λ{b o es ep} e d=>by
   cases q:H b with
   | none=>rfl
   | some u =>
    rcases hA b (by rw[q];simp)with e' | e'
    ·subst e'
     rw[ha]at e;cases e
     have d':Data.seq vs.toArray _=Data.dict es ep:=d
     cases d'
    ·rw[ht b e']at e;cases e
     have d':Data.fields #[]=Data.dict es ep:=d
     cases d'
  have vm:∀{b:Addr} {m:Str->Option Value},aP.heap.Ns b m->(gC aP.heap H).Ns b m:=λ{b m} ⟨o,es,ep,e,d,r⟩=>⟨o,es,ep,zi e (rQ e d),d,r⟩
  have HB:K.In (gC aP.heap H):=λb o e=>zi (KX b o e) (by
   cases q:H b with
   | none=>rfl
   | some u =>
    rcases hA b (by rw[q];simp)with e' | e'
    ·subst e'
     rw[hK (by rw[q];simp)]at e;cases e
    ·rw[RY b e']at e;cases e)
  have R1:Bm mg (gC aP.heap H):=by
   obtain⟨bm,o,b1,b2,b3,b4,b5,b6,b7⟩:=sM
   refine⟨bm,o,b1,b2,b3,zi b4 ?_,b5,b6,b7⟩
   cases q:H bm with
   | none=>rfl
   | some u =>
    rcases hA bm (by rw[q];simp)with e' | e'
    ·rw[e',ha]at b4;cases b4
     have d':Data.seq vs.toArray _=Data.plain:=b7
     cases d'
    ·rw[ht bm e']at b4;cases b4
     have d':Data.fields #[]=Data.plain:=b7
     cases d'
  have hM:Mod K mg (gC aP.heap H):=⟨HB,vm vl,⟨mb,vm hb,RW⟩,let⟨mc,h1,h2⟩:=RX;⟨mc,vm h1,h2⟩⟩
  have e0:dH P w K mg (gC aP.heap H) callerA [] aP H:=⟨rfl,hM,λb o e=>Mc e,Nat.le_of_eq (Ma _ _),trivial,λb hb=>absurd (show b∈([]:List Addr) from hb) (by simp),aq,.of_eq hg⟩
  refine codeAny_mono ((F _ HB (vm vl) R1).run callerA [] aP H ⟨[.ref a],[]⟩ [.ref a] [.ref a] _ _ hr e0 (RZ aP (.ref a)) (.cons rfl .nil) (eQ H hO hS)) λr s' h=>?_
  cases r with
  | error e=>exact(zh H e s' h).elim
  | ok fl =>
   cases fl with
   | next=>exact cm h
   | brk=>exact cm h
   | cont=>exact cm h
   | ret u =>
    obtain⟨v,H',os,bare,un,HC,r',q⟩:=h
    have q':v=.bl true:=q
    subst q'
    obtain rfl:u=wV true:=r'
    have each:∀b o,aP.heap.get? b=some o->asItWas aP.heap s'.heap b o/\∃o',s'.heap.get? b=some o':=λb o e=>by
     cases q:H b with
     | none =>
      have z:=un.keep b o e q (by intro z;exact absurd (show b∈([]:List Addr) from z) (by simp)) (by simp)
      exact⟨.inl z,o,z⟩
     | some u =>
      rcases hO.any b with z | ⟨ob,xs,z⟩ | ⟨fB,z⟩
      ·rw[q]at z;cases z
      ·have z2:=un.dh b ob _ z
       obtain⟨e1,_⟩:=aq b _ z
       obtain⟨e2,_⟩:=HC b _ z2
       rw[e]at e1;cases e1
       exact⟨.inl e2,_,e2⟩
      ·obtain⟨more,z2⟩:=un.cS b _ z
       have e2:=(HC b _ z2).1
       rw[ht b fB]at e;cases e
       exact⟨.inr (.inl ⟨zg b fB,rfl,#[],more,rfl,e2⟩),_,e2⟩
    exact⟨rfl,⟨λb o e=>(each b o e).1,λb o e=>(each b o e).2⟩,os,bare⟩
 have tok:∀(H:Hp) (b:Addr),b∈ts->cx P w H aP.heap b (.bS #[]):=λH b hb=>⟨ht b hb,trivial,λpos cv q=>by cases q⟩
 cases hk:K.lookup a with
 | some o =>
  have e:=KX a o hk
  rw[ha]at e
  cases e
  refine core (λb=>if b∈ts then some (.bS #[])else none) ⟨λb=>?_,λb hb=>if_pos hb⟩ (.inr ⟨_,vs.toArray,_,hk,rfl,rfl,rfl,by rw[cZ,R0];exact hl,by simpa using rv⟩) (λb u z=>?_) (λb z=>?_) λz=>absurd (if_neg nat) z
  ·by_cases hb:b∈ts
   ·exact .inr (.inr ⟨hb,if_pos hb⟩)
   ·exact .inl (if_neg hb)
  ·by_cases hb:b∈ts
   ·have z':=(if_pos hb).symm.trans z
    cases z'
    exact tok _ b hb
   ·have z':=(if_neg hb).symm.trans z
    cases z'
  ·by_cases hb:b∈ts
   ·exact .inr hb
   ·exact absurd (if_neg hb) z
 | none =>
  refine core (λb=>if b=a then some (.bt { cls:=.type "list",data:=.seq vs.toArray } (.lst (ns.map V.int)))else if b∈ts then some (.bS #[])else none) ⟨λb=>?_,λb hb=>?_⟩ (.inl (.inr ⟨{ cls:=.type "list",data:=.seq vs.toArray },if_pos rfl⟩)) (λb u z=>?_) (λb z=>?_) λ_=>hk
  ·by_cases hb:b=a
   ·exact .inr (.inl ⟨_,_,if_pos hb⟩)
   ·by_cases fB:b∈ts
    ·exact .inr (.inr ⟨fB,(if_neg hb).trans (if_pos fB)⟩)
    ·exact .inl ((if_neg hb).trans (if_neg fB))
  ·have fH:b≠a:=λz=>nat (z ▸ hb)
   exact(if_neg fH).trans (if_pos hb)
  ·by_cases hb:b=a
   ·have z':=(if_pos hb).symm.trans z
    cases z'
    subst hb
    exact⟨ha,by rw[nv];exact hl,vs,_,rv,ha⟩
   ·by_cases fB:b∈ts
    ·have z':=((if_neg hb).trans (if_pos fB)).symm.trans z
     cases z'
     exact tok _ b fB
    ·have z':=((if_neg hb).trans (if_neg fB)).symm.trans z
     cases z'
  ·by_cases hb:b=a
   ·exact .inl hb
   ·by_cases fB:b∈ts
    ·exact .inr fB
    ·exact absurd ((if_neg hb).trans (if_neg fB)) z
theorem R3{l:PySem.W.OpenLaw}{n k:Nat}{q:Program}{loose:List Str}{XP:(Str->Option Value)->Heap->Prop}{YP:World->Heap->Prop}{d:DefRec}{K:Params->PySem.W.Frag}{CX:World->cO}{sp:World->Sp}{x:Str}{ts:List Addr}
  (hn:l.most=some n) (rN:n<=sizeLine) (rS:d.params.defaults=[]) (hr:aS k callerA)
  (hY:∀(w:World) (h:Heap),YP w h->(K w.params).In h/\∀P∈ts,h.get? P=some (PySem.W.tabObj #[]))
  (hC:∀(w:World) (h:Heap),(K w.params).In h->∀P∈ts,(K w.params).lookup P=none/\∃c,PySem.W.CodeHd h c P)
  (F:∀(w:World) (mg:Str->Option Value) (fa:Addr) (h:Heap),(K w.params).In h->h.Ns mainGlobals mg->mg d.name=some (.ref fa) ->
   ∃fd:FuncData,(∀(s:Shared) (u:Value),BindsTo s fd ⟨[u],[]⟩ [(x,u)]) /\
    ∀base:Heap,(K w.params).In base->base.Ns mainGlobals mg->Bm mg base->aI l.prog w (K w.params) mg base (CX w) k fa fd [x] (sp w))
  (eQ:∀(w:World) (H:Hp) (a:Addr) (ns:List Int),ns.length<=n->ph ts H->bJ (K w.params) H a (ns.map V.int)->sp w [.ref a] H (λv _=>v=.bl true) λ_ _ _=>False)
  (zh:∀(w:World) (H:Hp) (s:Shared) (e:Value) (s':Shared),CX w [] H s (λ_ _ _=>False) e s'->False) :
  PySem.W.WalkO q loose XP YP l.row.toRowW d [] (λf vs=>PySem.call f vs):=by
 refine Att.OE hn rS λw bu aP mg mb fa o pm cd doc a vs ns G Y ho hd bO rT ya hints hlen hg=>?_
 obtain⟨KX,hT⟩:=hY w _ Y
 obtain⟨fd,hb,hF⟩:=F w mg fa _ KX G.T.g rT
 have zg:∀P∈ts,isCodeTable aP.heap P:=λP hP=>by
  obtain⟨_,c,C⟩:=hC w _ KX P hP
  exact(C.tab (hT P hP)).isCodeTable
 have sM:Bm mg aP.heap:=by
  obtain⟨bm,ob,b1,b2,b3,b4,b5,b6⟩:=G.T.bmain
  refine⟨bm,ob,b1,b2,λq=>?_,b3,b4,b5,b6⟩
  obtain⟨o,es,ep,e,hd,_⟩:=G.T.g
  rw[q,e]at b3;cases b3;rw[hd]at b6;cases b6
 exact RV KX G.T.g G.T.b G.T.builtins G.T.nolimit hg hT zg (λP hP=>(hC w _ KX P hP).1) ya hints (dv hlen rN) hr sM hF hb (λH hO hS=>eQ w H a ns hlen hO hS) λH e s'=>zh w H aP e s'
end L2
namespace L3
open PySem L2 PySem.Spec PyProof.Rows
noncomputable def pj(ts:List Addr)(sp:Sp):Sp:=λvs H Q E=>Tb ts H/\sp vs H Q E
theorem HD{X:Cx}{pins:List (Addr × Obj)}{σ:L2.St}{H:Hp}{s:Shared}{ts:List Addr}(I:Inv X pins σ H s)(h:Tb ts X.fZ):Tb ts H:=λP hP=>by
 obtain⟨ps,e⟩:=h P hP
 obtain⟨m,e2⟩:=I.base.cS P ps e
 exact⟨_,e2⟩
noncomputable def vn(ts:List Addr)(K:PySem.W.Frag):Sp:=λvs H Q _=>∃(a:Addr) (ns:List Int),vs=[.ref a]/\ph ts H/\bJ K H a (ns.map V.int)/\ns.length<=63/\∀H',Q (.bl true) H'
theorem R4{ts:List Addr}{K:PySem.W.Frag}(nl:K.all (λp=>yX p.2)=true){vs:List V}{H:Hp}{Q:VK}{E:XK}(h:vn ts K vs H Q E):pj ts (bL G9) vs H Q E:=by
 obtain⟨a,ns,rfl,hO,hS,hl,q⟩:=h
 have hz:∃o,H a=some (.bt o (.lst (ns.map V.int))):=by
  rcases hS with (hS | hS) | ⟨o,its,n,hk,hc,_⟩
  ·rcases hO.any a with z | ⟨o,xs,z⟩ | ⟨_,z⟩
   ·rw[hS]at z;cases z
   ·rw[hS]at z;cases z
   ·rw[hS]at z;cases z
  ·exact hS
  ·have hm:=Q8 hk
   have:=cV.mp nl _ hm
   simp[yX,hc]at this
 obtain⟨o,ho⟩:=hz
 refine⟨hO.tb,H,[.fz (aE ns)],λd=>d=.bl true,aa.refl _,.fz ho (gw ns) .nil,⟨ns,rfl,hl,rfl⟩,λd v F' H' A hd hs hf he h3 r nd fr=>?_⟩
 subst hd
 cases r
 exact q H'
end L3
namespace L2
open PySem PySem.Spec PyProof.Rows
noncomputable def rem(H:Hp)(f c:Addr):Hp:=λb=>if b=f\/b=c then none else H b
noncomputable def i4(H H':Hp)(f c:Addr):Hp:=λb=>if b=f\/b=c then H b else H' b
section
variable{P:Program}{w:World}{H H':Hp}{h:Heap}{a b f c:Addr}{o:HO}{of oc:Obj}
theorem HE:rem H f c f=none:=if_pos (.inl rfl)
theorem by4:rem H f c c=none:=if_pos (.inr rfl)
theorem ef(h1:b≠f)(h2:b≠c):rem H f c b=H b:=if_neg (by simp[h1,h2])
theorem pk(e:H b=none):rem H f c b=none:=by unfold rem;split;rfl;exact e
theorem HF(e:rem H f c b=some o):b≠f/\b≠c/\H b=some o:=by
 unfold rem at e
 split at e
 ·cases e
 ·rename_i n
  exact⟨λz=>n (.inl z),λz=>n (.inr z),e⟩
theorem jU(h1:b≠f)(h2:b≠c):i4 H H' f c b=H' b:=if_neg (by simp[h1,h2])
theorem HG:i4 H H' f c f=H f:=if_pos (.inl rfl)
theorem zj:i4 H H' f c c=H c:=if_pos (.inr rfl)
theorem cx.rem{φ:Heap->Prop}(x:cx P w H h a o)(ha:a≠f)(hf:H f=some (.ext φ))(hc:H c=some (.own f)\/H c=none)(zk:¬ ∀h',φ h'->∃q,h'.CodeRec (.ref f) q):cx P w (rem H f c) h a o:=by
 have own:∀b,H b=some (.own a)->L2.rem H f c b=some (.own a):=λb e=>by
  rw[ef (λz=>by subst z;rw[hf]at e;cases e) (λz=>by subst z;rcases hc with hc | hc<;>(rw[hc]at e;cases e);exact ha rfl)];exact e
 have tup:∀b xs,H b=some (.tup xs)->L2.rem H f c b=some (.tup xs):=λb xs e=>by
  rw[ef (λz=>by subst z;rw[hf]at e;cases e) (λz=>by subst z;rcases hc with hc | hc<;>(rw[hc]at e;cases e))];exact e
 induction o with
 | lst xs=>exact x
 | tup xs=>exact x
 | dK bX=>exact x
 | dT bX =>
  obtain⟨z,y,xs,r,ob⟩:=x
  exact⟨z,y,xs,Paired.xu r λp q z=>⟨z.1,tup _ _ z.2.1,z.2.2⟩,ob⟩
 | set S n=>exact x
 | ins C dx fs =>
  obtain⟨d,r⟩:=x
  exact⟨own _ d,r⟩
 | own y=>exact x
 | xd fs=>exact x
 | rA lo hi=>exact x
 | bt ob u ih=>obtain⟨e,q⟩:=x;exact⟨e,ih q⟩
 | bS ps =>
  obtain⟨e,t,cc⟩:=x
  refine⟨e,t,λpos cv q=>?_⟩
  obtain⟨d,φ,e1,e2,e3⟩:=cc pos cv q
  refine⟨d,φ,e1,?_,e3⟩
  rw[ef (λz=>?_) (λz=>by subst z;rcases hc with hc | hc<;>(rw[hc]at e2;cases e2))]
  ·exact e2
  ·subst z
   rw[hf]at e2;cases e2
   exact zk e3
 | met f y=>exact x
 | ext φ=>obtain⟨p,r,st⟩:=x;exact⟨p,r,λh1 h2 p1 kk=>st h1 h2 p1 λb o hb q=>kk b o (hb.imp id (own b)) q⟩
theorem HH{φ:Heap->Prop}{fd:FuncData}(p:φ h)(g:∀h',φ h'->h'.get? f=some of)(hd:of.data=.func fd):¬ ∀h',φ h'->∃q,h'.CodeRec (.ref f) q:=λz=>by
 obtain⟨q,k,ok,vs,t,q1,q2,q3,_⟩:=z h p
 cases q1
 rw[g h p]at q2;cases q2
 rw[hd]at q3;cases q3
theorem bI.lam(ok:bI P w H h)(hf:H f=some (.ext (L3.fv of oc c f))):L3.fv of oc c f h:=(ok f _ hf).1
theorem bI.rem{fd:FuncData}(ok:bI P w H h)(hf:H f=some (.ext (L3.fv of oc c f)))(hc:H c=some (.own f))(hd:of.data=.func fd):bI P w (rem H f c) h:=λb o e =>
 let⟨h1,_,h3⟩:=HF e;(ok b o h3).rem h1 hf (.inl hc) (HH (ok.lam hf) (λ_ p=>p.1) hd)
end
theorem dH.rem{P:Program}{w:World}{K:PySem.W.Frag}{mg:Str->Option Value}{base:Heap}{A:Around}{outer:List Env}{s:Shared}{H:Hp}{f c:Addr}{of oc:Obj}{fd:FuncData}(e:dH P w K mg base A outer s H)
  (hf:H f=some (.ext (L3.fv of oc c f))) (hc:H c=some (.own f)) (hd:of.data=.func fd):dH P w K mg base A outer s (rem H f c) :=
 ⟨e.frames,e.mod,λb o q=>⟨(e.bs b o q).1,pk (e.bs b o q).2⟩,e.dX,e.di,λb hb=>pk (e.et b hb),e.aq.rem hf hc hd,e.bare⟩
theorem CE.add{P:Program}{w:World}{K:PySem.W.Frag}{mg:Str->Option Value}{base:Heap}{A:Around}{outer:List Env}{s s':Shared}{H:Hp}{f c:Addr}{of oc:Obj}{Q Q':VK}{u:Value}(e0:dH P w K mg base A outer s H)
  (hf:H f=some (.ext (L3.fv of oc c f))) (hc:H c=some (.own f)) (h:CE outer P w (rem H f c) s Q u s') (hQ:∀v H',Q v H'->H' f=none->H' c=none->Q' v (i4 H H' f c)):CE outer P w H s Q' u s':=by
 obtain⟨v,H',os,bare,un,aq,r,q⟩:=h
 obtain⟨gf,gc⟩:=e0.aq.lam hf
 have HI:∀{b o},H b=some o->b ∉ bY outer:=λ{b o} e z=>by rw[e0.et b z]at e;cases e
 have nf:H' f=none:=un.free f _ gf HE (by simp)
 have nc:H' c=none:=un.free c _ gc by4 (by simp)
 have kf:=un.keep f _ gf HE (HI hf) (by simp)
 have kc:=un.keep c _ gc by4 (HI hc) (by simp)
 refine⟨v,i4 H H' f c,os,bare,⟨λb o e n=>un.keep b o e (pk n),λb o e n=>un.slot b o e (pk n),λb o e n x=>?_,un.there,λb xs e=>?_,λb ob xs e=>?_,λb ps e=>?_⟩,λb o e=>?_,r,hQ v H' q nf nc⟩
 ·rw[jU (λz=>by subst z;rw[hf]at n;cases n) (λz=>by subst z;rw[hc]at n;cases n)]
  exact un.free b o e (pk n) x
 ·have n1:b≠f:=λz=>by subst z;rw[hf]at e;cases e
  have n2:b≠c:=λz=>by subst z;rw[hc]at e;cases e
  rw[jU n1 n2]
  exact un.dn b xs (by rw[ef n1 n2];exact e)
 ·have n1:b≠f:=λz=>by subst z;rw[hf]at e;cases e
  have n2:b≠c:=λz=>by subst z;rw[hc]at e;cases e
  rw[jU n1 n2]
  exact un.dh b ob xs (by rw[ef n1 n2];exact e)
 ·have n1:b≠f:=λz=>by subst z;rw[hf]at e;cases e
  have n2:b≠c:=λz=>by subst z;rw[hc]at e;cases e
  rw[jU n1 n2]
  exact un.cS b ps (by rw[ef n1 n2];exact e)
 ·by_cases z:b=f
  ·subst z
   rw[HG,hf]at e;cases e
   refine⟨⟨kf,kc⟩,⟨_,kf⟩,λh1 h2 p kk=>⟨kk b _ (.inl rfl) p.1,kk c _ (.inr ?_) p.2⟩⟩
   rw[zj];exact hc
  ·by_cases z2:b=c
   ·subst z2
    rw[zj,hc]at e;cases e
    exact⟨_,kc⟩
   ·rw[jU z z2]at e
    have up:∀{b' o'},H' b'=some o'->i4 H H' f c b'=some o':=λ{b' o'} q=>by
     rw[jU (λz=>by subst z;rw[nf]at q;cases q) (λz=>by subst z;rw[nc]at q;cases q)];exact q
    exact(aq b o e).eK (λ_ _ _ q=>q) (λ_ q=>up q) (λ_ _ q=>up q) λ_ _ q=>up q
theorem R5{prog:Program}{w:World}{A:Around}{R:Result->Shared->Prop}{s:Shared}{a:Addr}{args:Args}{o:Obj}{fd:FuncData}{body:Expr}{q:Str}(R6:A.depth<recursionLimit)
  (ho:s.heap.get? a=some o)
  (rB:o.data=.func fd) (R7:fd.scope.isCoroutine=false) (R8:fd.scope.isGenerator=false) (eA:fd.body=.expr body) (bO:s.heap.CodeRec fd.code q)
  (h:wpAny (model prog w) A.in1 (bindArgs fd args) (λbinds aP =>
   wpAny (model prog w) A.in1 (newFunctionEnv fd.scope fd.globals fd.closure binds (q++".<locals>.") (some a) fd.code none fd.builtins)
    (λenv fo=>fo.heap.NoLimit/\codeAny (model prog w) A (.expr body env) R fo) (λe s'=>R (.error e) s') aP) (λe s'=>R (.error e) s') s) :
  codeAny (model prog w) A (.call (.ref a) args) R s:=by
 refine codeAny_of_tree ?_
 show wpAny _ A.in1 (callAny (.ref a) args) _ _ s
 simp only[callAny]
 refine wpAny_bind (wpAny_load ho ?_)
 obtain⟨c,oc,vs,tq,hc,eL,yn,hq⟩:=bO
 simp only[rB,callFunction,R7,R8,eA,hc]
 rw[hc]at h
 refine wpAny_bind (m:=field (.ref c) 1) (wpAny_field eL yn hq (wpAny_bind (wpAny_pure ?_)))
 exact wpAny_bind (wpAny_mono h (λbinds aP vo=>wpAny_bind (wpAny_mono vo (λenv fo HJ=>wpAny_bind (wpAny_enterFrame HJ.1 R6
  (wpAny_pure (And.intro rfl HJ.2)))) λ_ _ h'=>h')) λ_ _ h'=>h')
structure HK(p1 p2 x:Str)(sc:Scope):Prop where
 kind:sc.kind=.function
 co:sc.isCoroutine=false
 gen:sc.isGenerator=false
 nd:[p1,p2,x].Nodup
 l1:sc.names.lookup p1=some .local
 l2:sc.names.lookup p2=some .local
 HL:∀y∈sc.names,y.2≠.cell
 only:∀y∈sc.names,y.2=.free->y.1=x
 lx:sc.names.lookup x=some .free
noncomputable def mQ(CX:cO)(P:Program)(w:World)(K:PySem.W.Frag)(mg:Str->Option Value)(base:Heap)(N:List Str)(qual:Str)(scope:Scope)(f:Addr)(cd:Value)(cl:List (Str × Addr))(A:Around)(outer:List Env)(s:Shared)(H:Hp)(E:XK):Cx where
 prog:=P
 w:=w
 K:=K
 mg:=mg
 base:=base
 A:=A.deeper (PySem.W.envX qual scope s.heap.objs.size f cd cl)
 N:=N
 bu:=s
 fZ:=H
 env:=PySem.W.envX qual scope s.heap.objs.size f cd cl
 outer:=outer
 stack:=PySem.W.envX qual scope s.heap.objs.size f cd cl::outer
 ex:=[]
 calm:=true
 fn:=λ_=>false
 pn:=[]
 xe:=λe s'=>wpAny (model P w) (A.deeper (PySem.W.envX qual scope s.heap.objs.size f cd cl)) (leaving (PySem.W.envX qual scope s.heap.objs.size f cd cl) e) (λ_ kQ=>CX outer H s E e kQ) (λe' kQ=>CX outer H s E e' kQ) s'
theorem R9{CX:cO}{P:Program}{w:World}{K:PySem.W.Frag}{mg:Str->Option Value}{base:Heap}{p1 p2 x qn q:Str}{params:Arguments}{body:Expr}{scope:Scope}{pm fc:Value}{f c c':Addr}{k:Nat}{A:Around}{outer:List Env}{s:Shared}{H:Hp}{E:XK}
  {u1 u2 uc:Value} {v1 v2 vc:V} {Q:VK} {t:TE} {args:Args} (S:HK p1 p2 x scope) (e0:dH P w K mg base A outer s H) (hr:aS (k+1) A)
  (hf:s.heap.get? f=some (PySem.W.kla_obj "<lambda>" qn params body scope [(x,c)] pm c' fc)) (hc:s.heap.IsCell c (some uc)) (rc:RelV vc uc) (hH:H c=none) (bO:s.heap.CodeRec (.ref c') q)
  (hb:bindArgs (PySem.W.kla_fn "<lambda>" qn params body scope [(x,c)] pm (.ref c') fc) args=pure [(p1,u1),(p2,u2)]) (r1:RelV v1 u1) (r2:RelV v2 u2)
  (ht:PE (mQ CX P w K mg base [p1,p2,x] q scope f (.ref c') [(x,c)] A outer s H E) body t) (h:t [some v1,some v2,some vc] H Q) :
  codeAny (model P w) A (.call (.ref f) args) (CR CX outer P w H s Q E) s:=by
 have lim:s.heap.NoLimit:=e0.mod.nolimit.keeps λb o e=>(e0.bs b o e).1
 refine R5 hr.depth hf rfl S.co S.gen rfl bO ?_
 rw[hb]
 have Sa:∀y∈[(p1,u1),(p2,u2)],scope.names.lookup y.1=some .local:=λy hy=>by
  simp at hy
  rcases hy with rfl | rfl
  ·exact S.l1
  ·exact S.l2
 refine wpAny_pure (wpAny_newFunctionEnv S.HL Sa (λvo vl HM=>⟨lim.fresh _ HM,?_⟩) S.kind)
 show codeAny _ _ (.expr body (PySem.W.envX q scope s.heap.objs.size f (.ref c') [(x,c)])) _ _
 have hk:∀b o,s.heap.get? b=some o->vo.get? b=some o:=λb o e=>HM.extBut b o (cM (aW e)) (cY _ e)
 have cF:p1≠p2/\p1≠x/\p2≠x:=by have:=S.nd;simp at this;exact⟨this.1.1,this.1.2,this.2⟩
 have look:∀y d,([(x,c)]:List (Str × Addr)).lookup y=some d->y=x/\d=c:=λy d e=>by
  rw[fk]at e
  split at e
  ·rename_i z;exact⟨beq_iff_eq.mp z,(cR e).symm⟩
  ·cases e
 have I:Inv (mQ CX P w K mg base [p1,p2,x] q scope f (.ref c') [(x,c)] A outer s H E) [] [some v1,some v2,some vc] H { s with heap:=vo,toks:=s.toks+[(p1,u1),(p2,u2)].length }:=by
  refine⟨⟨e0.mod,S.kind,rfl,rfl,bH _,λy z d h1 h2=>?_,λy hy=>?_,λy d z _=>absurd z (by simp[mQ]),λ_=>hr.hd,Around.frames_deeper e0.frames,.inr ⟨rfl,rfl⟩,λb z=>absurd z (by simp[mQ]),e0.bs,e0.dX,λb _ _=>by simp[mQ],λb z=>absurd z (by simp[mQ]),e0.di,e0.et⟩,
   rfl,e0.bare,Un.kept hk,⟨_,vl,λi y v h1 h2 h3=>?_⟩,λy d h=>?_,e0.aq.fresh (bH _),λy d h=>?_,λp hp=>absurd (show p∈([]:List (Addr × Obj)) from hp) (by simp),e0.aq.kept hk,rfl⟩
  ·exact(look y d h1).1.trans (look z d h2).1.symm
  ·have hy:scope.names.lookup y=some .cell\/scope.names.lookup y=some .free:=hy
   rcases hy with hy | hy
   ·exact absurd rfl (S.HL _ (PySem.mem_of_lookup hy))
   ·obtain rfl:y=x:=S.only _ (PySem.mem_of_lookup hy) rfl
    exact⟨c,by show([(y,c)]:List (Str × Addr)).lookup y=_;rw[fk,beq_self_eq_true]⟩
  ·match i,h1,h2 with
   | 0,h1,h2 =>
    cases h1;cases h2
    exact⟨u1,r1,.inl ⟨S.l1,by
     show([(p1,u1),(p2,u2)]:List (Str × Value)).reverse.lookup p1=_
     simp[fk,beq_eq_false_iff_ne.mpr cF.1]⟩⟩
   | 1,h1,h2 =>
    cases h1;cases h2
    exact⟨u2,r2,.inl ⟨S.l2,by
     show([(p1,u1),(p2,u2)]:List (Str × Value)).reverse.lookup p2=_
     simp[fk]⟩⟩
   | 2,h1,h2 =>
    cases h1;cases h2
    exact⟨uc,rc,.inr ⟨.inr S.lx,c,by show([(x,c)]:List (Str × Addr)).lookup x=_;rw[fk,beq_self_eq_true],hc.keeps hk⟩⟩
   | n+3,h1,h2=>cases h2
  ·obtain⟨rfl,rfl⟩:=look y d h
   exact⟨_,hc.keeps hk⟩
  ·obtain⟨rfl,rfl⟩:=look y d h
   exact hH
 refine PySem.W.kla_codeExpr (wpAny_mono (ht [] _ _ H _ I h) (λu s' hs=>?_) λe s' hs=>hs)
 obtain⟨v,H',J,rv,q⟩:=hs
 exact⟨v,H',J.os,J.bare,J.base,J.aq,rv,q⟩
end L2
namespace L3
open PySem L2 PySem.Spec PyProof.Rows
theorem aa.i4{H H':Hp}{f c:Addr}{o1 o2:HO}(h:aa (rem H f c) H')(h1:H f=some o1)(n1:eU o1=true)(h2:H c=some o2)(n2:eU o2=true):aa H (i4 H H' f c) where
 get b o e n:=by
  by_cases z:b=f
  ·rw[z,HG,<- z];exact e
  ·by_cases z2:b=c
   ·rw[z2,zj,<- z2];exact e
   ·rw[jU z z2];exact h.get b o (by rw[ef z z2];exact e) n
 tb b ps e:=by
  have z:b≠f:=λz=>by subst z;rw[h1]at e;cases e;cases n1
  have z2:b≠c:=λz=>by subst z;rw[h2]at e;cases e;cases n2
  rw[jU z z2]
  exact h.tb b ps (by rw[ef z z2];exact e)
noncomputable abbrev pq:=Int->Int->(Int->Prop)->Prop
structure sN(P:Program)(w:World)(K:PySem.W.Frag)(mg:Str->Option Value)(base:Heap)(n:Nat)(of oc:Obj)(c k:Addr)(sp:pq):Prop where
 fn:∃o1 od fd sl,of=⟨o1,od,.func fd,sl⟩
 run:∀(A:Around) (outer:List Env) (s:Shared) (H:Hp) (f:Addr) (t u:Tok) (i j:Int) (Qd:Int->Prop),aS n A->dH P w K mg base A outer s H->s.heap.get? f=some of->s.heap.get? c=some oc->H c=none->(∃q,s.heap.CodeRec (.ref k) q)->sp i j Qd ->
  codeAny (model P w) A (.call (.ref f) ⟨[.int i t,.int j u],[]⟩) (CR aV outer P w H s (λv H'=>∃r,v=.int r/\Qd r/\aa H H') (λ_ _ _=>False)) s
noncomputable def mR(L:Obj->Obj->Addr->Addr->pq->Prop)(i:Nat)(ta:br):au:=λδ Q=>∃of oc c k sp,δ[i]?=some (some (.aL (.lam of oc c k)))/\L of oc c k sp/\ta δ λds ae=>∃a b,ds=[.int a,.int b]/\sp a b λr=>Q (.int r) ae
theorem HN{X:Cx}{n i:Nat}{x:Str}{p pos:Pos}{e1 e2:Expr}{ta:br}(hN:X.N[i]?=some x)(hv:ik X.env.scope x)(hr:aS n X.A)(ha:PA X [e1,e2] (lA ta))
  (hd:(x==("__debug__":Str))=false:=by decide) (bO:(x==("__classdict__":Str))=false:=by decide) (he:starEach [e1,e2] X.env=(false,eval e1 X.env)::starEach [e2] X.env:=by rfl) (aQ:(backTo pos (starEach [e2] X.env)).any (·.1)=false:=by rfl) :
  PE X (.Call (.Name x p) [e1,e2] [] pos) (lE (mR (sN X.prog X.w X.K X.mg X.base n) i ta)):=by
 intro pins s σ H Q I zz
 obtain⟨B,F,δ,ts,Qd,c,⟨of,oc,cc,k,sp,ed,L,q⟩,kk⟩:=zz
 obtain⟨v,ev,sv⟩:=c.look ed
 obtain⟨f,rfl,lam⟩:∃f,v=.ref f/\eC H f of oc cc k:=by
  cases sv with
  | aL h _=>exact⟨_,rfl,h⟩
 refine wpAny_Call_Name_kw (aw (nN hN hv hd bO pins s σ H (λv' H'=>v'=.ref f/\H'=H) I ⟨_,ev,rfl,rfl⟩) λu s1 zz=>?_)
 obtain⟨v',H',I1,r1,e1,e2⟩:=zz
 subst e1 e2
 obtain rfl:u=.ref f:=r1
 have fnAt:∀{H1:Hp} {s2:Shared},Inv X pins σ H1 s2->eC H1 f of oc cc k->PySem.W.FnAt f s2.heap:=λ{H1 s2} J l=>by
  obtain⟨o1,od,fd,sl,e⟩:=L.fn
  exact⟨o1,od,fd,sl,by rw[<-e];exact(J.aq.lam l.fn).1⟩
 refine PySem.W.callWith_F (fnAt I1 lam) (aw (ha pos pins s1 σ H' (λvs H2=>∃a b ae F',vs=[.int a,.int b]/\(sp a b λr=>Qd (.int r) ae)/\aa F F'/\aa H' H2/\ag B F' H2 σ ae ts) I1
  ⟨B,F,δ,ts,_,c,q,λds ae vs F' H2 ⟨a,b,Sb,q2⟩ f1 h1 c1 s1=>?_⟩) λus s2 ⟨vs,H2,I2,r2,a,b,ae,F',Sd,q2,f1,h1,c1⟩=>⟨fnAt I2 ((show jx H' f (.lam of oc cc k) from lam).mono λa o e _ t=>h1.get a o e t),?_⟩) he aQ
 ·subst Sb
  refine⟨a,b,ae,F',?_,q2,f1,h1,c1⟩
  cases s1 with
  | int s1=>cases s1 with
   | int s1=>cases s1;rfl
 ·subst Sd
  have jV:eC H2 f of oc cc k:=(show jx H' f (.lam of oc cc k) from lam).mono λa o e _ t=>h1.get a o e t
  obtain⟨o1,od,fd,sl,eof⟩:=L.fn
  have Se:of.data=.func fd:=by rw[eof]
  obtain⟨gf,gc⟩:=I2.aq.lam jV.fn
  obtain⟨ψ,Sf,sO⟩:=jV.yA
  obtain⟨u1,u2,t1,t2,rfl⟩:∃(u1 u2:Unit) (t1 t2:Tok),us=[.int a t1,.int b t2]:=by
   cases r2 with
   | cons ra r2=>cases r2 with
    | cons rb r2 =>
     cases r2
     obtain⟨t1,rfl⟩:=ra
     obtain⟨t2,rfl⟩:=rb
     exact⟨(),(),t1,t2,rfl⟩
  refine wpAny_call (codeAny_mono (L.run X.A X.stack s2 (rem H2 f cc) f t1 t2 a b _ hr (I2.kO.rem jV.fn jV.cell Se) gf gc by4 (sO _ (I2.aq k _ Sf).1) q2) λr s' hq=>?_)
  cases r with
  | error e=>exact hq.elim
  | ok fl =>
   cases fl with
   | ret u =>
    refine I2.after (CE.add I2.kO jV.fn jV.cell hq (Q':=Q) ?_)
    rintro v H3 ⟨r,rfl,Sg,hs⟩ nf nc
    have sm:=hs.i4 jV.fn rfl jV.cell rfl
    exact kk _ ae _ F' _ Sg f1 (h1.trans sm) ((c1.grow sm).pushS (.int .nil) rfl)
   | next=>exact cm hq
   | brk=>exact cm hq
   | cont=>exact cm hq
end L3
namespace L2
open PySem PySem.Spec PyProof.Rows
theorem Sh{p:Pos}{c:Value}(l:List Value)(h:TriplesOk l):TriplesOk (l++[rawInt p.line,rawInt p.col,c]):=by
 fun_induction TriplesOk l with
 | case1=>simp[TriplesOk,rawInt]
 | case2 a b d e f cy ih=>exact ih h
 | case3=>exact h.elim
theorem Si{p q:Pos}{c cv:Value}(l:List Value)(h:TriplesOk l)(e:codeAmong q (l++[rawInt p.line,rawInt p.col,c])=some cv):codeAmong q l=some cv\/cv=c:=by
 fun_induction TriplesOk l with
 | case1 =>
  simp only[km,rawInt,codeAmong]at e
  split at e
  ·exact .inr (cR e).symm
  ·cases e
 | case2 a b d e' f cy ih =>
  simp only[nG,codeAmong]at e ⊢
  split at e
  ·rename_i z;rw[if_pos z];exact .inl e
  ·rename_i z;rw[if_neg z];exact ih h e
 | case3=>exact h.elim
noncomputable def i5(f:Addr)(o:Obj):Heap->Prop:=λh=>h.get? f=some o
noncomputable def Sj(P c:Addr)(x:Str)(params:Arguments)(body:Expr)(scope:Scope):TE:=λ_ H Q=>(∃ps,H P=some (.bS ps)) /\
 ∀f k qn pm fc H',H f=none->H' f=some (.ext (i5 f (PySem.W.kla_obj "<lambda>" qn params body scope [(x,c)] pm k fc)))->L3.yz H' k->k≠f->L3.aa H H'->(∀a ws,H' a=some (.lst ws)->H a=some (.lst ws))->Q (.ref f) H'
theorem HP{X:Cx}{P c cc:Addr}{x:Str}{params:Arguments}{body:Expr}{scope:Scope}{pos:Pos}(d7:closureFor scope X.env=pure [(x,c)])(vp:X.env.code=.ref cc)(hK:PySem.W.codeHdIn X.K cc P=true)(sM:Bm X.mg X.base)
  (Sk:defaultsOf params X.env=([],[]):=by rfl):PE X (.Lambda params body scope pos) (Sj P c x params body scope):=by
 intro pins s σ H Q I zz
 obtain⟨⟨ps,hP⟩,q⟩:=zz
 obtain⟨bm,ob,b1,b2,b3,b4,b5,b6,b7⟩:=sM
 have C:=PySem.W.codeHd_of_K I.bq hK
 obtain⟨oP,vq,codes⟩:=I.aq P _ hP
 have hg:=I.mod.glob.keeps I.bk
 have HQ:∀{b o},X.base.get? b=some o->b≠P:=λ{b o} e z=>by
  have:=(I.bs b o e).2
  rw[z,hP]at this;cases this
 have Sl:mainGlobals≠P:=by
  obtain⟨o,es,ep,e,_⟩:=I.mod.glob
  exact HQ e
 have HR:s.heap.BuiltinsAt X.mg P:=⟨bm,ob,b1,b2,b3,HQ b4,I.bk _ _ b4,b5,b6,b7⟩
 refine PySem.W.kla_eval Sk ?_
 have fresh:∀{b:Addr},s.heap.objs.size<=b->H b=none:=λ{b} h=>I.aq.fresh h
 cases zl:codeAmong pos ps.toList with
 | none =>
  refine PySem.W.kla_makeFunction (mg:=X.mg) d7 I.ok.glob hg vp C oP vq zl Sl HR λk fc h' tk hx sP eT Sm HS=>?_
  have zm:P<s.heap.objs.size:=aW oP
  have Sn:k≠P:=λz=>by rw[z]at sP;exact absurd zm (qW.mpr sP)
  have mS:s.heap.objs.size<=h'.objs.size:=dv sP (wW eT)
  have So:h'.objs.size≠P:=λz=>by rw[<-z]at zm;exact absurd zm (qW.mpr mS)
  have HU:k≠h'.objs.size:=cM eT
  generalize HV:PySem.W.kla_obj "<lambda>" (X.env.qual++"<lambda>") params body scope [(x,c)] ((X.mg "__name__").getD .none) k fc=obj
  have cL:obj.isFreed=false:=by rw[<-HV];rfl
  have sQ:∀b,b≠P->b≠k->b≠h'.objs.size->upd (upd (upd H P (.bS (ps++#[rawInt pos.line,rawInt pos.col,.ref k]))) k (.ext λh=>∃q,h.CodeRec (.ref k) q)) h'.objs.size (.ext (i5 h'.objs.size obj)) b=H b:=λb n1 n2 n3=>by
   rw[az n3,az n2,az n1]
  have vt:upd (upd (upd H P (.bS (ps++#[rawInt pos.line,rawInt pos.col,.ref k]))) k (.ext λh=>∃q,h.CodeRec (.ref k) q)) h'.objs.size (.ext (i5 h'.objs.size obj)) h'.objs.size=some (.ext (i5 h'.objs.size obj)):=bj
  have atK:upd (upd (upd H P (.bS (ps++#[rawInt pos.line,rawInt pos.col,.ref k]))) k (.ext λh=>∃q,h.CodeRec (.ref k) q)) h'.objs.size (.ext (i5 h'.objs.size obj)) k=some (.ext λh=>∃q,h.CodeRec (.ref k) q):=by rw[az HU,bj]
  have vu:upd (upd (upd H P (.bS (ps++#[rawInt pos.line,rawInt pos.col,.ref k]))) k (.ext λh=>∃q,h.CodeRec (.ref k) q)) h'.objs.size (.ext (i5 h'.objs.size obj)) P=some (.bS (ps++#[rawInt pos.line,rawInt pos.col,.ref k])):=by rw[az So.symm,az Sn.symm,bj]
  generalize hHn:upd (upd (upd H P (.bS (ps++#[rawInt pos.line,rawInt pos.col,.ref k]))) k (.ext λh=>∃q,h.CodeRec (.ref k) q)) h'.objs.size (.ext (i5 h'.objs.size obj))=Hn at sQ vt atK vu
  have old:∀{b o},H b=some o->b≠P->Hn b=some o:=λ{b o} e n=>by
   have hb:b<s.heap.objs.size:=I.aq.lt e
   rw[sQ b n (λz=>absurd hb (qW.mpr (z ▸ sP))) (λz=>absurd hb (qW.mpr (z ▸ mS)))];exact e
  have kept:∀b o,b≠P->s.heap.get? b=some o->(h'.push obj).get? b=some o:=λb o n e=>cY _ (hx b o n e)
  have un:Un X.fs [] H Hn s.heap (h'.push obj):=by
   refine⟨λb o e n _ _=>kept b o (λz=>by rw[z,hP]at n;cases n) e,λb o e n _ _=>⟨o.slots,kept b o (λz=>by rw[z,hP]at n;cases n) e⟩,λb o e n _=>?_,λb o e _=>?_,λb xs e=>old e (λz=>by rw[z,hP]at e;cases e),λb ob xs e=>old e (λz=>by rw[z,hP]at e;cases e),λb HW e=>?_⟩
   ·have hb:=aW e
    rw[sQ b (λz=>by rw[z,hP]at n;cases n) (λz=>absurd hb (qW.mpr (z ▸ sP))) (λz=>absurd hb (qW.mpr (z ▸ mS)))];exact n
   ·by_cases z:b=P
    ·rw[z];exact⟨_,cY _ HS⟩
    ·exact⟨o,kept b o z e⟩
   ·by_cases z:b=P
    ·subst z
     rw[hP]at e;cases e
     exact⟨_,vu⟩
    ·exact⟨#[],by rw[old e z];simp⟩
  have aq:bI X.prog X.w Hn (h'.push obj):=λb o e=>by
   by_cases z1:b=h'.objs.size
   ·subst z1
    rw[vt]at e;cases e
    exact⟨fj _ cL,⟨_,fj _ cL⟩,λh1 h2 p kk=>kk _ _ (.inl rfl) p⟩
   ·by_cases z2:b=k
    ·subst z2
     rw[atK]at e;cases e
     have hr:=Sm.push obj
     refine⟨⟨_,hr⟩,?_,λh1 h2 ⟨q,c1,o1,vs,t,e1,e2,r⟩ kk=>?_⟩
     ·obtain⟨c1,o1,vs,t,e1,e2,_⟩:=hr
      cases e1
      exact⟨o1,e2⟩
     ·cases e1
      exact⟨q,_,o1,vs,t,rfl,kk _ _ (.inl rfl) e2,r⟩
    ·by_cases z3:b=P
     ·subst z3
      rw[vu]at e;cases e
      refine⟨cY _ HS,by rw[LX];exact Sh _ vq,λp' cv e'=>?_⟩
      rw[LX]at e'
      rcases Si _ vq e' with e' | e'
      ·obtain⟨d,φ,e1,e2,e3⟩:=codes p' cv e'
       exact⟨d,φ,e1,old e2 (λz=>by rw[z,hP]at e2;cases e2),e3⟩
      ·exact⟨k,_,e',atK,λh' p=>p⟩
     ·rw[sQ b z3 z2 z1]at e
      have nP:∀{b' o'},H b'=some o'->(∀ps,o'≠.bS ps)->b'≠P:=λ{b' o'} e n z=>by rw[z,hP]at e;cases e;exact n _ rfl
      refine(I.aq b o e).eK (λb' u g4 e'=>kept b' u ?_ e') (λb' e'=>old e' (nP e' (λps z=>by cases z))) (λb' xs e'=>old e' (nP e' (λps z=>by cases z))) λb' φ e'=>old e' (nP e' (λps z=>by cases z))
      rcases g4 with rfl | g4
      ·exact z3
      ·exact nP g4 (λps z=>by cases z)
  refine⟨.ref h'.objs.size,Hn,I.un un aq,rfl,q _ k _ _ _ _ (fresh mS) (by rw[HV];exact vt) ⟨_,atK,λh p=>p⟩ HU ⟨λb o e n=>old e (λz=>by rw[z,hP]at e;cases e;cases n),λb HW e=>?_⟩ λa ws e=>?_⟩
  ·exact un.cS b HW e
  ·by_cases z1:a=h'.objs.size
   ·subst z1;rw[vt]at e;cases e
   ·by_cases z2:a=k
    ·subst z2;rw[atK]at e;cases e
    ·by_cases z3:a=P
     ·subst z3;rw[vu]at e;cases e
     ·rw[sQ a z3 z2 z1]at e;exact e
 | some cv =>
  obtain⟨k,φ,rfl,hk,zk⟩:=codes pos cv zl
  refine PySem.W.kla_makeFunctionHit (mg:=X.mg) d7 I.ok.glob hg vp C oP vq zl HR λfc h' tk hx mS=>?_
  have hf:=fresh mS
  refine⟨.ref h'.objs.size,upd H h'.objs.size (.ext (i5 h'.objs.size (PySem.W.kla_obj "<lambda>" (X.env.qual++"<lambda>") params body scope [(x,c)] ((X.mg "__name__").getD .none) k fc))),I.laid (λb u e=>cY _ (hx b u e)) mS ?_,rfl,q _ k (X.env.qual++"<lambda>") ((X.mg "__name__").getD .none) fc _ hf bj ⟨φ,?_,zk⟩ (cE hk hf) (L3.aa.of λb o e=>?_) λa ws e=>?_⟩
  ·exact⟨fj _ rfl,⟨_,fj _ rfl⟩,λh1 h2 p kk=>kk _ _ (.inl rfl) p⟩
  ·rw[az (cE hk hf)];exact hk
  ·rw[az (cE e hf)];exact e
  ·by_cases z:a=h'.objs.size
   ·subst z;rw[bj]at e;cases e
   ·rw[az z]at e;exact e
end L2
namespace L2
open PySem PySem.Spec PyProof.Rows
structure vv(K:PySem.W.Frag)(C:Addr)(m:Str)(f:Addr):Prop where
 ga:PySem.W.specialIn K (.ref C) "__getattribute__"=some (some (.builtin "type.__getattribute__"))
 rd:PySem.W.readsIn K C (.type "type")=true
 at_:PySem.W.findCls K (.ref C) (.type "type") m=some (.val (.ref f))
 kp:PySem.W.keepIn K (.ref f)=true
section
variable{X:Cx}{CX:cO}{k:Nat}{f C:Addr}{fd:FuncData}{ps:List Str}{sp:Sp}{E:XK}{x m:Str}{p pos apos:Pos}{e o:Expr}{es:List Expr}{ta:TE}{t:TA}
theorem Sq{pins:List (Addr × Obj)}{σ:St}{H:Hp}{s:Shared}{pl:Sem Bool}{A:Around}{E':Value->Shared->Prop}{Q:Value × List Value->Shared->Prop}(I:Inv X pins σ H s)(M:vv X.K C m f)(h:∀s',Inv X pins σ H s'->Q (.ref f,[]) s') :
  wpAny (model X.prog X.w) A (getMethod (.ref C) m pl) Q E' s :=
 PySem.W.method_cls I.bq M.ga (PySem.W.cls_value (mc:=.type "type") I.bq M.rd M.at_ rfl (h _ (I.tok _)))
theorem Sr{pins:List (Addr × Obj)}{σ:St}{H:Hp}{s:Shared}{pl:Sem Bool}{Q:Value->Shared->Prop}{QA:List V->Hp->Prop}(I:Inv X pins σ H s)(M:vv X.K C m f)(hg:Gl X x)(hm:X.mg x=some (.ref C))(ha:PA X (e::es) t)(h:t σ H QA)
  (hq:∀us s1 vs H1,Inv X pins σ H1 s1->Vals vs us->QA vs H1->wpAny (model X.prog X.w) X.A (call (.ref f) us) Q X.xe s1)
  (bZ:(x==("__debug__":Str))=false:=by decide) (bw:starEach (e::es) X.env=(false,eval e X.env)::starEach es X.env:=by rfl) (aQ:(backTo pos (starEach es X.env)).any (·.1)=false:=by rfl)
  (ht:eval (.Call (.Attribute (.Name x p) m apos) (e::es) [] pos) X.env=(do
   let ov<-eval (.Name x p) X.env
   standAt apos.atName
   let (f,first)<-holding [ov] (getMethod ov m pl)
   callWith pos f first (backTo pos (starEach (e::es) X.env)) (backToKw pos (keywordEach [] X.env))):=by rfl) :
  wpAny (model X.prog X.w) X.A (eval (.Call (.Attribute (.Name x p) m apos) (e::es) [] pos) X.env) Q X.xe s:=by
 refine PySem.W.methodCall_KW (pl:=pl) (jl I hg hm ?_ bZ) ht
 refine Sq I M λs1 I1=>?_
 refine PySem.W.callWith_K (first:=[]) (h₀:=X.base) I.ok.mod.fY M.kp (aw (ha pos pins s1 σ H _ I1 h) λus s2 ⟨vs,H2,I2,r,q2⟩=>⟨I2.bq,?_⟩) bw aQ
 exact hq us s2 vs H2 I2 r q2
noncomputable def Ss(sp:Sp)(E:XK)(c:Addr)(i:Nat)(t:TA):TE:=λσ H Q=>t σ H λvs H1=>∃f of fd v,H1 f=some (.ext (i5 f of))/\of.data=.func fd/\σ[i]?=some (some v) /\
 ∀oc u,oc.data=.cell (some u)->RelV v u->H1 c=none->c≠f->sp vs (upd (upd H1 f (.ext (L3.fv of oc c f))) c (.own f)) (λr H2=>H2 f=some (.ext (L3.fv of oc c f))/\H2 c=some (.own f)/\Q r (rem H2 f c)) E
theorem HX{pl:Sem Bool}{y:Str}{c:Addr}{i:Nat}(M:vv X.K C m f)(F:aI X.prog X.w X.K X.mg X.base aV k f fd ps sp)(hr:aS k X.A)(hb:Binds X.K fd ps [])(hg:Gl X x)(hm:X.mg x=some (.ref C))
  (hN:X.N[i]?=some y) (hy:X.env.scope.names.lookup y=some .cell) (d7:X.env.cells.lookup y=some c) (rE:X.fn y=true) (ha:PA X (e::es) t)
  (bZ:(x==("__debug__":Str))=false:=by decide) (bw:starEach (e::es) X.env=(false,eval e X.env)::starEach es X.env:=by rfl) (aQ:(backTo pos (starEach es X.env)).any (·.1)=false:=by rfl)
  (ht:eval (.Call (.Attribute (.Name x p) m apos) (e::es) [] pos) X.env=(do
   let ov<-eval (.Name x p) X.env
   standAt apos.atName
   let (f,first)<-holding [ov] (getMethod ov m pl)
   callWith pos f first (backTo pos (starEach (e::es) X.env)) (backToKw pos (keywordEach [] X.env))):=by rfl) :
  PE X (.Call (.Attribute (.Name x p) m apos) (e::es) [] pos) (Ss sp E c i t):=by
 intro pins s σ H Q I h
 refine Sr (pl:=pl) I M hg hm ha h (λus s1 vs H1 I1 r ⟨fa,of,fdd,v,hf,hd,hv,hq⟩=>?_) bZ bw aQ ht
 obtain⟨ml,_,hl⟩:=I1.loc
 obtain⟨u,rv,lk⟩:=hl i y v hN hv (.inr (.inl hy))
 obtain⟨oc,gc,eL⟩:∃oc,s1.heap.get? c=some oc/\oc.data=.cell (some u):=by
  rcases lk with⟨hk,_⟩ | ⟨_,c',rF,ic⟩
  ·rw[show X.env.kindOf y=some .cell from hy]at hk;cases hk
  ·rw[d7]at rF;cases rF;exact ic
 have nc:H1 c=none:=I1.dj y c d7
 have jW:c≠fa:=λz=>by rw[z,hf]at nc;cases nc
 have gf:s1.heap.get? fa=some of:=(I1.aq fa _ hf).1
 have eu:=hq oc u eL rv nc jW
 have HY:=I1.ok.il y c rE d7
 generalize hH:upd (upd H1 fa (.ext (L3.fv of oc c fa))) c (.own fa)=Hp at eu
 have HZ:Hp c=some (.own fa):=by rw[<-hH,bj]
 have Su:Hp fa=some (.ext (L3.fv of oc c fa)):=by rw[<-hH,az jW.symm,bj]
 have g5:∀b,b≠fa->b≠c->Hp b=H1 b:=λb n1 n2=>by rw[<-hH,az n2,az n1]
 have Sv:c ∉ X.fs:=λhb=>by
  obtain⟨_,o,ho,_⟩:=I1.ok.di.mem hb
  exact absurd (bQ (aW ho) HY) (fC _)
 have Sw:∀b∈bY X.stack,b≠c:=λb hb z=>by
  rcases cI.mp (I1.rC b hb)with e | hb
  ·exact I1.fF y c d7 (z ▸ e)
  ·exact Sv (z ▸ hb)
 have Sx:bI X.prog X.w Hp s1.heap:=λb ob q=>by
  by_cases z1:b=c
  ·subst z1;rw[HZ]at q;cases q;exact⟨_,gc⟩
  ·by_cases z2:b=fa
   ·subst z2;rw[Su]at q;cases q
    exact⟨⟨gf,gc⟩,⟨_,gf⟩,λh1 h2 p kk=>⟨kk _ _ (.inl rfl) p.1,kk _ _ (.inr HZ) p.2⟩⟩
   ·rw[g5 b z2 z1]at q
    have x1:=(I1.aq b ob q).rem (f:=fa) (c:=c) z2 hf (.inr nc) (HH gf (λ_ p=>p) hd)
    have up:∀{b' o'},rem H1 fa c b'=some o'->Hp b'=some o':=λ{b' o'} q=>by
     obtain⟨n1,n2,q'⟩:=HF q
     rw[g5 b' n1 n2];exact q'
    exact x1.eK (λ_ _ _ q=>q) (λ_ q=>up q) (λ_ _ q=>up q) λ_ _ q=>up q
 have e0:dH X.prog X.w X.K X.mg X.base X.A X.stack s1 Hp:=by
  have e1:=I1.kO
  refine⟨e1.frames,e1.mod,λb ob q=>⟨(e1.bs b ob q).1,?_⟩,e1.dX,e1.di,λb hb=>?_,Sx,e1.bare⟩
  ·have Sy:=(I1.ok.bs b ob q).1
   rw[g5 b (λz=>by have:=(e1.bs b ob q).2;rw[z,hf]at this;cases this) (λz=>absurd (bQ (aW Sy) (z ▸ HY)) (fC _))]
   exact(e1.bs b ob q).2
  ·have nb:=e1.et b hb
   rw[g5 b (λz=>by rw[z,hf]at nb;cases nb) (Sw b hb)];exact nb
 have hlen:us.length=ps.length:=by rw[<-r.length];exact F.len _ _ _ _ eu
 refine wpAny_call (codeAny_mono (F.run X.A X.stack s1 Hp ⟨us,[]⟩ us vs _ E hr e0 (by have:=hb s1 us I1.bq (by rw[fW];exact hlen);rwa [fW]at this) r eu) λrr s' hz=>?_)
 cases rr with
 | error e=>exact hz.elim
 | ok fl =>
  cases fl with
  | next=>exact cm hz
  | brk=>exact cm hz
  | cont=>exact cm hz
  | ret u' =>
   obtain⟨v',H2,os,bare,un,Ia,Sz,q1,q2,q3⟩:=hz
   obtain⟨_,Ib⟩:=Ia.lam q1
   refine I1.after ⟨v',rem H2 fa c,os,bare,⟨λb ob g n hb hx=>?_,λb ob g n hb hx=>?_,λb ob g n hx=>?_,un.there,λb xs g=>?_,λb ob xs g=>?_,λb ps g=>?_⟩,Ia.rem q1 q2 hd,Sz,q3⟩
   ·by_cases z:b=c
    ·rw[z,gc]at g;cases g;rw[z];exact Ib
    ·exact un.keep b ob g (by rw[g5 b (λz=>by rw[z,hf]at n;cases n) z];exact n) hb hx
   ·by_cases z:b=c
    ·rw[z,gc]at g;cases g;rw[z];exact⟨_,Ib⟩
    ·exact un.slot b ob g (by rw[g5 b (λz=>by rw[z,hf]at n;cases n) z];exact n) hb hx
   ·by_cases z:b=c
    ·rw[z];exact by4
    ·exact pk (un.free b ob g (by rw[g5 b (λz=>by rw[z,hf]at n;cases n) z];exact n) hx)
   ·have n1:b≠fa:=λz=>by rw[z,hf]at g;cases g
    have n2:b≠c:=λz=>by rw[z,nc]at g;cases g
    rw[ef n1 n2]
    exact un.dn b xs (by rw[g5 b n1 n2];exact g)
   ·have n1:b≠fa:=λz=>by rw[z,hf]at g;cases g
    have n2:b≠c:=λz=>by rw[z,nc]at g;cases g
    rw[ef n1 n2]
    exact un.dh b ob xs (by rw[g5 b n1 n2];exact g)
   ·have n1:b≠fa:=λz=>by rw[z,hf]at g;cases g
    have n2:b≠c:=λz=>by rw[z,nc]at g;cases g
    rw[ef n1 n2]
    exact un.cS b ps (by rw[g5 b n1 n2];exact g)
end
end L2
namespace L3
open PySem L2 PySem.Spec PyProof.Rows
theorem zo{ts:List Addr}{H H':Hp}(h:Tb ts H)(s:aa H H'):Tb ts H':=λP hP=>by
 obtain⟨ps,e⟩:=h P hP
 obtain⟨m,e2⟩:=s.tb P ps e
 exact⟨_,e2⟩
theorem Ic{P:Program}{w:World}{K:PySem.W.Frag}{mg:Str->Option Value}{base:Heap}{n:Nat}{p1 p2 x qn:Str}{params:Arguments}{body:Expr}{scope:Scope}{pm fc:Value}{oc:Obj}{c k:Addr}{m:Int}{tm:Tok}{sp:pq}(S:HK p1 p2 x scope)
  (eL:oc.data=.cell (some (.int m tm))) (hb:∀u1 u2:Value,bindArgs (PySem.W.kla_fn "<lambda>" qn params body scope [(x,c)] pm (.ref k) fc) ⟨[u1,u2],[]⟩=pure [(p1,u1),(p2,u2)])
  (eA:∀(q:Str) (f:Addr) (A:Around) (outer:List Env) (s:Shared) (H:Hp) (E:XK),aS n (A.deeper (PySem.W.envX q scope s.heap.objs.size f (.ref k) [(x,c)])) ->
   ∃t:au,PE (mQ aV P w K mg base [p1,p2,x] q scope f (.ref k) [(x,c)] A outer s H E).dq body (lE t)/\∀i j Qd,sp i j Qd->t [some (.int i),some (.int j),some (.int m)] λd _=>∃r,d=.int r/\Qd r) :
  sN P w K mg base (n+1) (PySem.W.kla_obj "<lambda>" qn params body scope [(x,c)] pm k fc) oc c k sp where
 fn:=⟨_,_,_,_,rfl⟩
 run A outer s H f t u i j Qd hr e0 gf gc hH bO h:=by
  obtain⟨q,bO⟩:=bO
  obtain⟨tt,ht,hq⟩:=eA q f A outer s H (λ_ _ _=>False) (hr.deeper _)
  refine R9 (v1:=.int i) (v2:=.int j) (vc:=.int m) (E:=λ_ _ _=>False) S e0 hr gf ⟨oc,gc,eL⟩ ⟨tm,rfl⟩ hH bO (hb _ _) ⟨t,rfl⟩ ⟨u,rfl⟩ ht.dq ?_
  refine⟨⟨H,H⟩,H,_,[],_,?_,hq i j Qd h,λd ae v F' H' hd f1 h1 c1=>?_⟩
  ·exact ag.start (ds:=[.int i,.int j,.int m]) (vs:=[.int i,.int j,.int m]) (aa.refl H) (.int (.int (.int .nil))) 0
  ·obtain⟨r,rfl,hd⟩:=hd
   have s1:=c1.top
   cases s1
   exact⟨r,rfl,hd,h1⟩
section
variable{X:Cx}{CX:cO}{n:Nat}{f:Addr}{fd:FuncData}{ps:List Str}{sp:bC}{E:XK}{x:Str}{p pos:Pos}{e:Expr}{es:List Expr}{t:br}{tl:List Addr}
theorem Ie(hT:Tb tl X.fZ)(F:aI X.prog X.w X.K X.mg X.base CX n f fd ps (pj tl (bL sp)))(hr:aS n X.A)(hg:Gl X x)(hm:X.mg x=some (.ref f))(hk:PySem.W.keepIn X.K (.ref f)=true)(hb:Binds X.K fd ps [])(hx:gG CX X E)
  (ha:PA X (e::es) (lA t)) (bZ:(x==("__debug__":Str))=false:=by decide) (he:starEach (e::es) X.env=(false,eval e X.env)::starEach es X.env:=by rfl) (aQ:(backTo pos (starEach es X.env)).any (·.1)=false:=by rfl) :
  PE X (.Call (.Name x p) (e::es) [] pos) (lE (jF sp t)):=by
 intro pins s σ H Q I zz
 obtain⟨B,F',δ,ts,Qd,c,q,k⟩:=zz
 have tb:=HD I hT
 refine kP F hr hg hm hk hb .nil hx ha bZ he aQ pins s σ H Q I ⟨B,F',δ,ts,_,c,q,λds ah vs F1 H1 q1 f1 h1 c1 s1=>?_⟩
 refine⟨zo tb h1,?_⟩
 rw[fW]
 exact sk c1 s1 q1 λd v F' H' hd hf hs c'=>k d ah v F' H' hd (f1.trans hf) (h1.trans hs) c'
end
section
variable{P:Program}{w:World}{K:PySem.W.Frag}{mg:Str->Option Value}{base:Heap}
theorem zr{x qual:Str}{st:Stmt}{f:Addr}{fd:FuncData}{N ps:List Str}{k:Nat}{sp:bC}{tl:List Addr}(F:bg K x qual st f fd)(S:bx N ps (ax st))(len:∀ds Q,sp ds Q->ds.length=ps.length)
  (eA:∀(aA:Value) (A:Around) (outer:List Env) (s:Shared) (H:Hp) (E:XK),Tb tl H->aS k (A.deeper (envOfC qual (ax st) s.heap.objs.size f aA)) ->
   ∃t:bG,PSs (eP aV P w K mg base N qual (ax st) f aA A outer s H E).dq (bc st) (lS (eP aV P w K mg base N qual (ax st) f aA A outer s H E).dq t)/\∀ds Q,sp ds Q->t { nx:=λ_=>Q .ai,rt:=Q } (fM N ds)):aI P w K mg base aV (k+1) f fd ps (pj tl (bL sp)):=by
 refine F.ok S (λvs H Q E ⟨_,F,ds,Qd,e,r,h,_⟩=>by rw[<-r.length];exact len ds Qd h) λaA A outer s H vs Q E hr zz=>?_
 obtain⟨tb,F,ds,Qd,e,r,h,k⟩:=zz
 obtain⟨t,ht,hq⟩:=eA aA A outer s H E tb hr
 have fin:∀d v ae aj F' H',Qd d->ag ⟨H,F⟩ F' H' aj ae [(d,v)]->Q v H':=λd v ae aj F' H' hd c=>by
  obtain⟨A,C,r',s',nd,fr⟩:=c.own
  exact k d v F' H' A hd c.b1 c.b2 c.ext c.b3 r' (eW.mp nd).1 λa ha=>fr a (fh _ ha)
 have e1:L2.start N vs=vs.map some++aR (N.length-ds.length) none:=by unfold L2.start;rw[r.length]
 refine⟨_,ht,⟨H,F⟩,F,fM N ds,_,?_,hq ds Qd h,λae aj F' H' hd c=>fin .ai .ai ae aj F' H' hd (c.pushS (.ai .nil) rfl),fin,λ_ _ _ _ z=>z.elim,λ_ _ _ _ z=>z.elim,XL.none (λ_ _ z=>z) λ_ _ z=>z⟩
 rw[e1]
 exact ag.start e r _
theorem Ig{x qual:Str}{st:Stmt}{f cc:Addr}{fd:FuncData}{N ps:List Str}{k:Nat}{sp:Sp}(F:bg K x qual st f fd)(vp:fd.code=.ref cc)(S:bx N ps (ax st))(len:∀vs H Q E,sp vs H Q E->vs.length=ps.length)
  (eA:∀(A:Around) (outer:List Env) (s:Shared) (H:Hp) (vs:List V) (Q:VK) (E:XK),aS k (A.deeper (envOfC qual (ax st) s.heap.objs.size f (.ref cc)))->sp vs H Q E ->
   ∃t,PSs (eP aV P w K mg base N qual (ax st) f (.ref cc) A outer s H E).dq (bc st) t/\t { nx:=λ_ H'=>Q .ai H',rt:=Q } (L2.start N vs) H):aI P w K mg base aV (k+1) f fd ps sp:=by
 obtain⟨oc,od,kV,doc,pm,an,aA,ct,gH,rfl,lk,bO⟩:=F.ex
 obtain rfl:aA=.ref cc:=vp
 refine xX lk bO S len λA outer s H vs Q E hr eQ=>?_
 obtain⟨t,h,q⟩:=eA A outer s H vs Q E hr eQ
 exact⟨t,h.dq,q⟩
end
end L3
namespace L3
open PySem L2 PySem.Spec PyProof.Rows
theorem SA{ns:List Str}{xs:List D}{ws:List V}{F H:Hp}{f:Str}{d:D}(r:R F H xs ws [])(h:(ns.zip xs).lookup f=some d):∃w,(ns.zip ws).lookup f=some w/\R F H [d] [w] []:=by
 generalize e:([]:List Addr)=A at r
 induction ns generalizing xs ws A with
 | nil=>simp at h
 | cons n ns ih =>
  cases xs with
  | nil=>simp at h
  | cons x xs =>
   obtain⟨v,bN,A1,A2,rfl,rfl,h1,h2⟩:=R.cq r
   obtain⟨rfl,rfl⟩:=xi.mp e.symm
   rw[LY]at h ⊢
   by_cases z:f=n
   ·subst z
    rw[fk,beq_self_eq_true]at h
    cases h
    refine⟨v,?_,h1⟩
    rw[fk,beq_self_eq_true]
   ·have z':(f==n)=false:=beq_eq_false_iff_ne.mpr z
    rw[fk,z']at h
    obtain⟨w,e1,e2⟩:=ih h [] rfl h2
    refine⟨w,?_,e2⟩
    rw[fk,z']
    exact e1
theorem zt{ns:List Str}{ws:List V}{f:Str}(h:f ∉ ns):(ns.zip ws).lookup f=none:=by
 induction ns generalizing ws with
 | nil=>simp
 | cons n ns ih =>
  cases ws with
  | nil=>simp
  | cons w ws =>
   rw[LY,fk]
   have hn:(f==n)=false:=beq_eq_false_iff_ne.mpr λz=>h (by rw[z];simp)
   simp only[hn]
   exact ih λz=>h (by simp[z])
theorem sR{F H:Hp}{C:Addr}{ns:List Str}{xs:List D}{v:V}(s:S F H [.obj C ns xs] [v]):∃p dx ws,v=.ref p/\H p=some (.ins C dx (ns.zip ws))/\ns.length=ws.length/\R F H xs ws []:=by
 cases s with
 | obj h l r _=>exact⟨_,_,_,rfl,h,l,r⟩
section
variable{X:Cx}{e o:Expr}{es:List Expr}{f m x:Str}{pos p apos:Pos}{t to:au}{ta:br}{n:Nat}
noncomputable def jX(K:PySem.W.Frag)(t:au)(f:Str):au:=λδ Q=>t δ λd ae=>∃C ns xs v,d=.obj C ns xs/\cJ K C/\bF K C f/\(ns.zip xs).lookup f=some v/\Q v ae
theorem SD(he:PE X e (lB t))(hb:attributeBase e f X.env (eval e X.env)=eval e X.env:=by rfl):PE X (.Attribute e f pos) (lB (jX X.K t f)) :=
 cj (uC he hb) λσ H Q ⟨B,F,δ,ts,Qd,c,q,k⟩=>⟨B,F,δ,ts,_,c,q,λd ae v F' H' ⟨C,ns,xs,w,ed,hc,hn,hl,hq⟩ f1 h1 c1 s1=>by
  subst ed
  obtain⟨p,dx,ws,rfl,hp,_,r⟩:=sR s1
  obtain⟨u,hu,ru⟩:=SA r hl
  exact⟨p,C,dx,_,u,rfl,hp,hc,hn,hu,k w ae u F' H' hq f1 h1 c1 ru.s⟩⟩
structure mT(P:Program)(w:World)(K:PySem.W.Frag)(mg:Str->Option Value)(base:Heap)(n:Nat)(m:Str)(C:Addr)(sp:bC):Prop where
 cls:cJ K C
 ex:∃f fd ps,Meth K C m f/\aI P w K mg base aV n f fd ps (bL sp)/\Binds K fd ps []
noncomputable def jY(MO:Addr->bC->Prop)(m:Str)(to:au)(ta:br):au:=λδ Q=>to δ λd ah=>∃C ns xs sp,d=.obj C ns xs/\MO C sp/\m ∉ ns/\ta ah λds aC=>sp ((D.obj C ns xs::ds).map D.sh) λr=>((D.obj C ns xs::ds).all D.pl||r.fr)=true/\Q r aC
theorem SE{pl:Sem Bool}(ho:PE X o (lB to))(hr:aS n X.A)(ha:PA X (e::es) (lA ta))
  (bw:starEach (e::es) X.env=(false,eval e X.env)::starEach es X.env:=by rfl) (aQ:(backTo pos (starEach es X.env)).any (·.1)=false:=by rfl)
  (ht:eval (.Call (.Attribute o m apos) (e::es) [] pos) X.env=(do
   let ov<-eval o X.env
   standAt apos.atName
   let (f,first)<-holding [ov] (getMethod ov m pl)
   callWith pos f first (backTo pos (starEach (e::es) X.env)) (backToKw pos (keywordEach [] X.env))):=by rfl) :
  PE X (.Call (.Attribute o m apos) (e::es) [] pos) (lE (jY (mT X.prog X.w X.K X.mg X.base n m) m to ta)):=by
 intro pins s σ H Q I zz
 obtain⟨B,F,δ,ts,Qd,c,q,k⟩:=zz
 refine PySem.W.methodCall_KW (pl:=pl) (aw (ho pins s σ H (λx H1=>∃d ah F1,S F1 H1 [d] [x]/\ag B F1 H1 σ ah ts/\aa F F1/\aa H H1/\∃C ns xs sp,d=.obj C ns xs/\mT X.prog X.w X.K X.mg X.base n m C sp/\m ∉ ns/\ta ah λds aC=>sp ((D.obj C ns xs::ds).map D.sh) λr=>((D.obj C ns xs::ds).all D.pl||r.fr)=true/\Qd r aC) I
  ⟨B,F,δ,ts,_,c,q,λd ah v F1 H1 hq f1 h1 c1 s1=>⟨d,ah,F1,s1,c1,f1,h1,hq⟩⟩) λu s1 ⟨x,H1,I1,rx,d,ah,F1,sd,c1,f1,h1,C,ns,xs,sp,ed,M,hm,hq⟩=>?_) ht
 subst ed
 obtain⟨a,dx,ws,rfl,ea,hl,r0⟩:=sR sd
 obtain rfl:u=bb a:=rx
 obtain⟨f,fd,ps,jZ,FO,hb⟩:=M.ex
 refine uB I1 ea M.cls jZ (zt hm) ?_
 refine PySem.W.callWith_K (first:=[.ref a]) (h₀:=X.base) I.ok.mod.fY jZ.kp (aw (ha pos pins s1 σ H1 (λvs H2=>∃ds aC F2,S F2 H2 ds vs/\ag B F2 H2 σ aC ts/\aa F1 F2/\aa H1 H2/\sp ((D.obj C ns xs::ds).map D.sh) λr=>((D.obj C ns xs::ds).all D.pl||r.fr)=true/\Qd r aC) I1
  ⟨B,F1,ah,ts,_,c1,hq,λds aC vs F2 H2 hq f2 h2 c2 s2=>⟨ds,aC,F2,s2,c2,f2,h2,hq⟩⟩) λus s2 ⟨vs,H2,I2,r,ds,aC,F2,zu,c2,f2,h2,eQ⟩=>⟨I2.bq,?_⟩) bw aQ
 refine rP (us:=.ref a::us) (vs:=.ref a::vs) (cT:=[]) FO hr hb .nil bB I2 (.cons rfl r) ?_
 rw[fW]
 exact sk c2 (.obj (h2 _ _ ea) hl (r0.shared f2 h2) zu) eQ λd v F' H' hd hf hs c'=>k d aC v F' H' hd (f1.trans (f2.trans hf)) (h1.trans (h2.trans hs)) c'
noncomputable def j0(MO:Addr->bC->Prop)(m:Str)(to:au):au:=λδ Q=>to δ λd ah=>∃C ns xs sp,d=.obj C ns xs/\MO C sp/\m ∉ ns/\sp [D.obj C ns xs] λr=>Q r ah
theorem SF{pl:Sem Bool}(ho:PE X o (lB to))(hr:aS n X.A)
  (ht:eval (.Call (.Attribute o m apos) [] [] pos) X.env=(do
   let ov<-eval o X.env
   standAt apos.atName
   let (f,first)<-holding [ov] (getMethod ov m pl)
   callWith pos f first (backTo pos (starEach [] X.env)) (backToKw pos (keywordEach [] X.env))):=by rfl) :
  PE X (.Call (.Attribute o m apos) [] [] pos) (lE (j0 (mT X.prog X.w X.K X.mg X.base n m) m to)):=by
 intro pins s σ H Q I zz
 obtain⟨B,F,δ,ts,Qd,c,q,k⟩:=zz
 refine PySem.W.methodCall_KW (pl:=pl) (aw (ho pins s σ H (λx H1=>∃d ah F1,S F1 H1 [d] [x]/\ag B F1 H1 σ ah ts/\aa F F1/\aa H H1/\∃C ns xs sp,d=.obj C ns xs/\mT X.prog X.w X.K X.mg X.base n m C sp/\m ∉ ns/\sp [D.obj C ns xs] λr=>Qd r ah) I
  ⟨B,F,δ,ts,_,c,q,λd ah v F1 H1 hq f1 h1 c1 s1=>⟨d,ah,F1,s1,c1,f1,h1,hq⟩⟩) λu s1 ⟨x,H1,I1,rx,d,ah,F1,sd,c1,f1,h1,C,ns,xs,sp,ed,M,hm,hq⟩=>?_) ht
 subst ed
 obtain⟨a,dx,ws,rfl,ea,hl,r0⟩:=sR sd
 obtain rfl:u=bb a:=rx
 obtain⟨f,fd,ps,jZ,FO,hb⟩:=M.ex
 refine uB I1 ea M.cls jZ (zt hm) ?_
 refine PySem.W.callWith_K0 (first:=[.ref a]) I1.bq jZ.kp (rP (us:=[.ref a]) (vs:=[.ref a]) (cT:=[]) FO hr hb .nil bB I1 (.cons rfl .nil) ?_)
 show bL sp [.ref a] H1 Q E0
 exact sk (Qd:=λr=>Qd r ah) c1 (.obj ea hl r0 .nil) (by simpa[D.sh,D.pl]using hq) λd v F' H' hd hf hs c'=>k d ah v F' H' hd (f1.trans hf) (h1.trans hs) c'
end
structure cw(x:Addr)(H H':Hp):Prop where
 get:∀b o,b≠x->H b=some o->eU o=true->H' b=some o
 tb:∀b ps,H b=some (.bS ps)->∃more,H' b=some (.bS (ps++more))
theorem cw.trans{x:Addr}{H H1 H2:Hp}(a:cw x H H1)(b:cw x H1 H2):cw x H H2 :=
 ⟨λc o n h t=>b.get c o n (a.get c o n h t) t,λc ps h=>by
  obtain⟨m1,e1⟩:=a.tb c ps h
  obtain⟨m2,e2⟩:=b.tb c _ e1
  exact⟨m1++m2,by rw[e2,qQ]⟩⟩
theorem aa.x{x:Addr}{H H':Hp}(h:aa H H'):cw x H H':=⟨λb o _ e n=>h.get b o e n,h.tb⟩
theorem cw.upd{x C dx:Addr}{H:Hp}{o o':HO}(h:H x=some o)(n:eU o=true):cw x H (upd H x o') :=
 ⟨λb o z e _=>by rw[az z];exact e,λb ps e=>⟨#[],by rw[az (λz=>by rw[z,h]at e;cases e;cases n),e];simp⟩⟩
noncomputable def zw(tl:List Addr)(C:Addr)(pz:List D->List Str->List D->Prop):Sp:=λvs H Q _=>∃x dx bN ds ns xs,vs=.ref x::bN/\Tb tl H/\H x=some (.ins C dx [])/\R H H ds bN []/\pz ds ns xs /\
 ∀H' ws A,cw x H H'->H' x=some (.ins C dx (ns.zip ws))->ns.length=ws.length->R (λ_=>none) H' xs ws A->A.Nodup->(∀a∈A,H a=none)->Q .ai H'
noncomputable def mU(C:Addr)(pz:List D->List Str->List D->Prop)(ta:br):au:=λδ Q=>ta δ λds ae=>∃ns xs,pz (ds.map D.sh) ns xs/\Q (.obj C ns (xs.map D.sh)) ae
theorem ag.made{B:Bs}{F H H':Hp}{σ:L2.St}{δ:Dl}{ts:List (D × V)}{C dx x:Addr}{ns:List Str}{xs:List D}{ws:List V}{A:List Addr}(c:ag B F H σ δ ts)(hs:aa H H')(hx:H' x=some (.ins C dx (ns.zip ws)))(hl:ns.length=ws.length)
  (r:R (λ_=>none) H' xs ws A) (fr:∀a∈A,H a=none):aa F (L3.bt F H' A)/\ag B (L3.bt F H' A) H' σ δ ((.obj C ns (xs.map D.sh),.ref x)::ts):=by
 have c1:=c.grow hs
 have hF:∀a∈A,F a=none:=λa ha=>c.ext.free (fr a ha)
 have r1:R F H' xs ws A:=r.keep (aa.of λb o e=>by cases e) (eV.same (aa.refl _)) fJ.nil hF (by simp)
 have r2:=r1.bt c1.ext A (λ_ h=>h)
 have fs:aa F (L3.bt F H' A):=oh c1.ext
 obtain⟨A',C',r',s',nd,uN⟩:=c.own
 have out:∀a,(∃ws,H a=some (.lst ws))/\F a=none->L3.bt F H' A a=none:=λa zz=>by
  obtain⟨⟨ws,h⟩,hf⟩:=zz
  rw[Gz (λz=>by rw[fr a z]at h;cases h)];exact hf
 have g1:=r'.grow fs hs λa ha=>out a (r'.lists a ha)
 have g2:=s'.keep fs (eV.same hs) fJ.nil (λa ha=>out a (s'.lists a ha)) (by simp)
 refine⟨fs,Qm c1.ext,c1.b1,c1.b2.trans fs,λa ws h=>?_,A',C',?_,g2,nd,uN⟩
 ·by_cases z:a∈A
  ·exact .inr (c.b1.free (fr a z))
  ·rw[Gz z]at h;exact c.b3 a ws h
 ·exact R.obj hx hl r2 g1
section
variable{X:Cx}{CX:cO}{n:Nat}{f C:Addr}{fd:FuncData}{ps:List Str}{pz:List D->List Str->List D->Prop}{E:XK}{x:Str}{p pos:Pos}{e:Expr}{es:List Expr}{t:br}{tl:List Addr}
theorem Ih(hT:Tb tl X.fZ)(M:Mk X.K C f)(F:aI X.prog X.w X.K X.mg X.base CX n f fd ps (zw tl C pz))(hr:aS (n+1) X.A)(hg:Gl X x)(hm:X.mg x=some (.ref C))(hb:Binds X.K fd ps [])(hx:gG CX X E)
  (ha:PA X (e::es) (lA t)) (bZ:(x==("__debug__":Str))=false:=by decide) (he:starEach (e::es) X.env=(false,eval e X.env)::starEach es X.env:=by rfl) (aQ:(backTo pos (starEach es X.env)).any (·.1)=false:=by rfl) :
  PE X (.Call (.Name x p) (e::es) [] pos) (lE (mU C pz t)):=by
 intro pins s σ H Q I zz
 obtain⟨B,F',δ,ts,Qd,c,q,k⟩:=zz
 have tb:=HD I hT
 refine NZ M F hr hg hm hb .nil hx ha bZ he aQ pins s σ H Q I ⟨B,F',δ,ts,_,c,q,λds ah vs F1 H1 q1 f1 h1 c1 s1=>?_⟩
 intro x dx cF dr fH
 obtain⟨ns,xs,hI,hq⟩:=q1
 have sm:aa H1 (upd (upd H1 dx (.own x)) x (.ins C dx [])):=.of λb o e=>by rw[az (cE e cF),az (cE e dr)];exact e
 refine⟨x,dx,vs,ds.map D.sh,ns,xs,by rw[fW],zo (zo tb h1) sm,bj,(s1.frozen c1.ext).shared sm sm,hI,λH' ws A Ii cW hl r nd fr=>⟨rfl,?_⟩⟩
 have s2:aa H1 H':=⟨λb o e n=>Ii.get b o (cE e cF) (sm.get b o e n) n,λb ps e=>by
  obtain⟨m1,e1⟩:=sm.tb b ps e
  obtain⟨m2,e2⟩:=Ii.tb b _ e1
  exact⟨m1++m2,by rw[e2,qQ]⟩⟩
 obtain⟨fs,c2⟩:=c1.made s2 cW hl r λa ha=>sm.free (fr a ha)
 exact k _ ah _ _ H' hq (f1.trans fs) (h1.trans s2) c2
end
end L3
namespace Mf
open PySem L2 L3
noncomputable def gm(m:Bool × Nat)(a b:Nat):Nat:=if m.1 then md (cl a b) m.2 else a*b%m.2
noncomputable def ak(m:Bool × Nat):Nat:=if m.1 then 2 ^ (bl m.2-1)else m.2
noncomputable def vw(g:Nat->Nat->Nat)(a:Nat):Nat->Nat->List Int->Option (List Int)
 | 0,_,_=>none
 | f+1,p,acc=>if p=1 then some acc else if p<64 then vw g a f (g p a) (acc++[(p:Int)])else none
noncomputable def zx(g:Nat->Nat->Nat)(a:Nat):Option (List Int):=vw g a 64 (g 1 a) [1]
noncomputable def vx(g:Nat->Nat->Nat)(many:Nat):Nat->Nat->List Int->Option (List Int)
 | 0,_,_=>none
 | f+1,st,l=>if l.length+1<many then(match zx g (st+1)with | some l'=>vx g many f (st+1) l' | none=>none)else some l
noncomputable def sS(g:Nat->Nat->Nat)(many:Nat):Option (List Int):=match zx g 1 with | some l=>vx g many 62 1 l | none=>none
noncomputable def sT(g:Nat->Nat->Nat):pq:=λi j Q=>∃a b:Nat,i=a/\j=b/\a<64/\b<64/\Q (g a b:Nat)
noncomputable def dQ:List Nat:=[7,11,13,19,25,31,37,41,47,55,59,61,67,73,87,91,97,103,109,115,117]
noncomputable def eI:List Nat:=[2,3,5,7,11,13,17,19,23,29,31,37,41,43,47,53,59,61]
noncomputable def aU:List (Bool × Nat):=dQ.map (λn=>(true,n))++eI.map λn=>(false,n)
noncomputable def i6(l:List Int):Nat->List Int
 | 0=>aR (l.length+1) 0
 | i+1=>(i6 l i).set (l.getD i 0).toNat (i:Int)
noncomputable def du(l:List Int):List Int:=i6 l l.length
theorem vy(l:List Int):∀i,(i6 l i).length=l.length+1
 | 0=>by simp[i6]
 | i+1=>by simp[i6,vy l i]
noncomputable def vz(l g:List Int)(a:Nat):List Int:=if a=0 then aR (l.length+1) 0 else 0::(aT l.length).map λ(b:Nat)=>l.getD ((g.getD a 0+g.getD (b+1) 0)%(l.length:Int)).toNat 0
noncomputable def pB(l g:List Int)(n:Nat):List D:=(aT n).map λa=>D.lst true (aE (vz l g a))
noncomputable def j3(l g:List Int):List D:=pB l g (l.length+1)
end Mf
namespace L3
open PySem L2 Mf
noncomputable def LI(H:Hp)(p:Addr)(ns:List Int):Prop:=H p=some (.lst (ns.map V.int))
theorem LI.same{H H':Hp}{p:Addr}{ns:List Int}(h:LI H p ns)(s:aa H H'):LI H' p ns:=s.get _ _ h
theorem LI.upd{H:Hp}{p x:Addr}{ns:List Int}{o o':HO}(h:LI H p ns)(hx:H x=some o)(n:∀ws,o≠.lst ws):LI (upd H x o') p ns:=by
 unfold LI
 rw[az (λz=>by rw[z]at h;unfold LI at h;rw[hx]at h;cases h;exact n _ rfl)];exact h
theorem Ij{F' H' H:Hp}{v:V}{A:List Addr}{ns:List Int}(r:R F' H' [.lst true (aE ns)] [v] A)(fr:∀a∈A,H a=none):∃p,v=.ref p/\LI H' p ns/\H p=none:=by
 cases r with
 | @own p ws xs A1 _ _ B1 hp hf r1 r2 =>
  have:=Ha r1.s
  subst this
  exact⟨p,rfl,hp,fr p (by simp)⟩
structure SG(K:PySem.W.Frag)(C f:Addr):Prop where
 cls:cJ K C
 many:bF K C "many"
 wide:bF K C "wide"
 zy:bF K C "powers"
 SH:bF K C "logs"
 step:bF K C "step"
 sp:Meth K C "step_power" f
structure Ik(g:Nat->Nat->Nat)(many:Nat)(l:List Int)(st:Int):Prop where
 lo:2<=many
 hi:many<=64
 step:sS g many=some l
 len:l.length+1=many
 ins:∀x∈l,0<=x/\x.toNat<=l.length
 st:l[((1:Int)%((many:Int)-1)).toNat]?=some st
noncomputable def ek(b:Str):List Str:=[b,"many","wide","powers","logs","step"]
noncomputable def vA(n0:Int)(many:Nat)(p1 p2:Addr)(st:Int):List V:=[.int n0,.int many,.int ((bl many:Nat)-1),.ref p1,.ref p2,.int st]
theorem pE{f:Str}{v:V}:∀{fs:List (Str × V)},(∀p∈fs,p.1≠f)->dk f v fs=fs++[(f,v)]
 | [],_=>rfl
 | (g,x)::r,h=>by
  unfold dk
  rw[if_neg (h (g,x) (by simp)),pE λp hp=>h p (by simp[hp])];rfl
theorem eC.sU{H:Hp}{x C dx f c k:Addr}{fs:List (Str × V)}{o':HO}{of oc:Obj}(h:eC H f of oc c k)(hx:H x=some (.ins C dx fs)):eC (L2.upd H x o') f of oc c k:=by
 obtain⟨ψ,e,sO⟩:=h.yA
 exact⟨by rw[az (λz=>by rw[<-z,h.fn]at hx;cases hx)];exact h.fn,by rw[az (λz=>by rw[<-z,h.cell]at hx;cases hx)];exact h.cell,ψ,by rw[az (λz=>by rw[<-z,e]at hx;cases hx)];exact e,sO⟩
theorem eC.same{H H':Hp}{f c k:Addr}{of oc:Obj}(h:eC H f of oc c k)(s:aa H H'):eC H' f of oc c k:=jx.mono (z:=.lam of oc c k) h λa o e _ t=>s.get a o e t
theorem sV{H:Hp}{x p:Addr}{o o':HO}(hx:H x=some o)(h:L2.upd H x o' p=none):H p=none:=by
 by_cases z:p=x
 ·subst z;rw[bj]at h;cases h
 ·rw[az z]at h;exact h
theorem vB{α:Type}{b f:Str}{v:α}{r:List (Str × α)}(h:b≠f):((b,v)::r).lookup f=r.lookup f:=by
 rw[fk,beq_eq_false_iff_ne.mpr (dD h)]
section
variable{H2 H3 H':Hp}{x f c p:Addr}{o1 o2:HO}
theorem sW{b:Addr}{o:HO}(e:H3 b=some o)(nb:b≠f)(nc:H3 c=none):L2.upd (L2.upd H3 f o1) c o2 b=some o:=by
 rw[az (cE e nc),az nb];exact e
theorem Il(hs:aa H2 H3)(nf:H2 f=none)(nc:H3 c=none)(s:cw x (L2.upd (L2.upd H3 f o1) c o2) H'):cw x H2 (rem H' f c) where
 get b o n e t:=by
  have z1:=cE e nf
  have e3:=hs.get b o e t
  rw[ef z1 (cE e3 nc)]
  exact s.get b o n (sW e3 z1 nc) t
 tb b ps e:=by
  have z1:=cE e nf
  obtain⟨m,e3⟩:=hs.tb b ps e
  obtain⟨m2,e4⟩:=s.tb b _ (sW e3 z1 nc)
  exact⟨m++m2,by rw[ef z1 (cE e3 nc),e4,qQ]⟩
theorem vC(hs:aa H2 H3)(h:L2.upd (L2.upd H3 f o1) c o2 p=none):H2 p=none:=by
 refine hs.free ?_
 by_cases z:p=c
 ·subst z;rw[bj]at h;cases h
 ·rw[az z]at h
  by_cases z2:p=f
  ·subst z2;rw[bj]at h;cases h
  ·rw[az z2]at h;exact h
theorem LI.rem{l:List Int}{φ:Heap->Prop}{y:Addr}(h:LI H' p l)(hf:H' f=some (.ext φ))(hc:H' c=some (.own y)):LI (rem H' f c) p l:=by
 unfold LI at h ⊢
 rw[ef (λz=>by rw[z,hf]at h;cases h) (λz=>by rw[z,hc]at h;cases h)];exact h
theorem Im{of oc:Obj}{k:Addr}(fH:c≠f)(nc:H3 c=none)(hk:yz H3 k)(kf:k≠f):eC (L2.upd (L2.upd H3 f (.ext (fv of oc c f))) c (.own f)) f of oc c k:=by
 obtain⟨ψ,e,sO⟩:=hk
 exact⟨by rw[az fH.symm,bj],bj,ψ,sW e kf nc,sO⟩
end
noncomputable def fl(m:Bool × Nat):List Int:=(sS (gm m) (ak m)).getD []
noncomputable def fst(m:Bool × Nat):Int:=(fl m).getD ((1:Int)%((ak m:Int)-1)).toNat 0
noncomputable def Io(m:Bool × Nat):Bool:=decide (2<=ak m)&&decide (ak m<=64)&&(sS (gm m) (ak m)).isSome&&decide ((fl m).length+1=ak m)&&(fl m).all (λx=>decide (0<=x)&&decide (x.toNat<=(fl m).length))&&decide (((1:Int)%((ak m:Int)-1)).toNat<(fl m).length)
theorem SI:aU.all Io=true:=by decide +kernel
theorem dR{m:Bool × Nat}(h:m∈aU):Ik (gm m) (ak m) (fl m) (fst m):=by
 have h:=cV.mp SI m h
 simp only[Io,cC,decide_eq_true_eq,cV]at h
 obtain⟨⟨⟨⟨⟨h1,h2⟩,h3⟩,h4⟩,h5⟩,h6⟩:=h
 obtain⟨l,e⟩:=tX.mp h3
 have el:fl m=l:=by unfold fl;rw[e];rfl
 refine⟨h1,h2,by rw[e,el],h4,λx hx=>h5 x hx,?_⟩
 unfold fst
 rw[fE,dw h6];rfl
theorem SJ:∀p∈eI,(decide (2<=(p:Int))&&decide ((p:Int)<=61)&&(aT ((p:Int).toNat-2)).all λi=>(p:Int)%(2+(i:Int)) != 0)=true:=by decide +kernel
theorem SK:∀p∈dQ,(decide (4<=(p:Int))&&decide ((p:Int)<=127)&&al (p:Int).toNat)=true:=by decide +kernel
theorem R.sU{F H:Hp}{x C dx:Addr}{fs:List (Str × V)}{o':HO}{ds:List D}{vs:List V}{A:List Addr}(r:R F H ds vs A)(hx:H x=some (.ins C dx fs))(hd:ds.all D.fr=true):R F (L2.upd H x o') ds vs A:=by
 have up:∀{a o},H a=some o->(∀C dx fs,o≠.ins C dx fs)->L2.upd H x o' a=some o:=λ{a o} e n=>by
  rw[az (λz=>by rw[z,hx]at e;cases e;exact n _ _ _ rfl)];exact e
 induction r with
 | nil=>exact .nil
 | ai _ ih=>exact .ai (ih (by simpa[D.fr]using hd))
 | bl _ ih=>exact .bl (ih (by simpa[D.fr]using hd))
 | int _ ih=>exact .int (ih (by simpa[D.fr]using hd))
 | str _ ih=>exact .str (ih (by simpa[D.fr]using hd))
 | shr h x _ i1 ih=>simp[fw]at hd
 | own h f _ _ i1 i2 =>
  rw[de,fw,cC,ie]at hd
  exact .own (up h λ_ _ _ z=>by cases z) f (i1 hd.1) (i2 hd.2)
 | tup h _ _ i1 i2 =>
  rw[de,jy,cC]at hd
  exact .tup (up h λ_ _ _ z=>by cases z) (i1 hd.1) (i2 hd.2)
 | obj h l x _ i1 ih=>simp[D.fr]at hd
 | fz h x _ i1 ih=>simp[D.fr]at hd
 | @aL p z _ _ _ h r ih =>
  refine .aL ?_ (ih (by simpa[D.fr]using hd))
  cases z with
  | ext φ=>exact up h λ_ _ _ z=>by cases z
  | lam of oc c k=>exact eC.sU h hx
theorem Ip(l g:List Int):(j3 l g).all D.fr=true:=by
 unfold j3 pB
 rw[qU,cV]
 intro a _
 show(D.lst true (aE _)).fr=true
 rw[fw,mE];rfl
theorem cw.free{x a:Addr}{H H':Hp}(s:cw x H H')(hx:H' x≠none)(h:H' a=none):H a=none:=by
 cases q:H a with
 | none=>rfl
 | some o =>
  by_cases z:a=x
  ·subst z;exact absurd h hx
  ·cases n:eU o with
   | true=>rw[s.get a o z q n]at h;cases h
   | false =>
    obtain⟨ps,rfl⟩:=yy n
    obtain⟨m,e⟩:=s.tb a ps q
    rw[e]at h;cases h
theorem Iq(l:List Int):∀i,∀x∈i6 l i,0<=x
 | 0=>λx hx=>by rw[(LV.mp hx).2];exact Int.le_refl _
 | i+1=>λx hx=>by
  unfold i6 at hx
  rcases List.mem_or_eq_of_mem_set hx with h | h
  ·exact Iq l i x h
  ·rw[h];exact D5 _
theorem Ir:∀p∈dQ,bl p<=7:=by decide +kernel
theorem Iu:∀p∈dQ,1<=bl p:=by decide +kernel
theorem SM(a b:Nat):bl (cl a b)<=bl a+bl b:=by
 by_cases ha:a=0
 ·subst ha;rw[iz];exact ki _
 ·by_cases hb:b=0
  ·subst hb
   have:cl a 0=0:=rfl
   rw[this];exact ki _
  ·rw[FH ha hb];omega
noncomputable def vD(l g:List Int):List D:=(aT (l.length+1)).map λa=>D.lst false (aE (vz l g a))
theorem SN(l g:List Int):(D.lst true (j3 l g)).sh=.lst false (vD l g):=by
 rw[eD]
 unfold j3 pB vD
 rw[ky]
 congr 1
 apply Ep
 intro a _
 show D.sh (.lst true (aE _))=_
 rw[eD,iX]
noncomputable abbrev pD(m:Bool × Nat):List D:=[.int m.2,.int (ak m),.int ((bl (ak m):Nat)-1),.lst false (aE (fl m)),.lst false (aE (du (fl m))),.int (fst m)]
noncomputable def Iw(C:Addr)(p:Nat):D:=.obj C (ek "prime") (pD (false,p))
noncomputable def Iy(C:Addr)(p:Nat):D:=.obj C (ek "bits"++[("products":Str)]) (pD (true,p)++[.lst false (vD (fl (true,p)) (du (fl (true,p))))])
noncomputable def fD(cb cp:Addr)(m:Bool × Nat):D:=if m.1 then Iy cb m.2 else Iw cp m.2
end L3
namespace L3
open PySem L2 Mf
theorem sX{u p:Nat}(h:bl u<bl p):md u p=u:=n8 (q:=0) (by rw[iz,ib]) h
theorem SO{u v n:Nat}(hu:bl u<n)(hv:bl v<n):bl (u ^^^ v)<n:=by
 have h1:u<2 ^ (n-1):=cK.mp (by omega)
 have h2:v<2 ^ (n-1):=cK.mp (by omega)
 have:=cK.mpr (nZ h1 h2)
 omega
theorem vE{p:Nat}(hp:p≠0)(u v:Nat):md (u ^^^ v) p=md u p ^^^ md v p:=by
 obtain⟨⟨q1,e1⟩,l1⟩:=rY hp u
 obtain⟨⟨q2,e2⟩,l2⟩:=rY hp v
 refine n8 (q:=q1 ^^^ q2) ?_ (SO l1 l2)
 rw[ju,<- Fw,<- e1,<- e2]
theorem Iz{p:Nat}(hp:p≠0)(w:Nat):md (cl p w) p=0:=by rw[rW];exact OV w hp
theorem j4:∀m∈aU,0<m.2:=by decide +kernel
theorem pF(m:Bool × Nat)(a b:Nat):gm m a b=gm m b a:=by
 unfold gm
 split
 ·rw[rW]
 ·rw[hV]
theorem IA{n:Nat}(hn:n≠0)(u c:Nat):md (cl (md u n) c) n=md (cl u c) n:=by
 obtain⟨⟨q,e⟩,_⟩:=rY hn u
 have h:cl u c=cl n (cl q c) ^^^ cl (md u n) c:=by
  conv=>lhs;rw[e]
  rw[ju,rW n q,FN]
 rw[h,vE hn,Iz hn,ib]
theorem IB{m:Bool × Nat}(h:0<m.2)(a b c:Nat):gm m (gm m a b) c=gm m a (gm m b c):=by
 unfold gm
 split
 ·rw[IA (by omega),rW (md (cl b c) m.2) a,IA (by omega),FN a b c,rW (cl b c) a]
 ·rw[qX,Er,<- qX,qX a (b*c%m.2),Er,<- qX,nC]
theorem IC{m:Bool × Nat}(h:m.1=true){a:Nat}:a<ak m↔bl a<=bl m.2-1:=by
 unfold ak
 rw[if_pos h];exact cK.symm
theorem zA{m:Bool × Nat}{a:Nat}(ha:a<ak m):gm m 1 a=a:=by
 obtain⟨k,n⟩:=m
 cases k with
 | true =>
  show md (cl 1 a) n=a
  rw[yd]
  have h1:=(IC (m:=(true,n)) rfl).mp ha
  have h1:bl a<=bl n-1:=h1
  by_cases z:bl n=0
  ·have a0:a=0:=by
    have:=cK (n:=a) (m:=0)
    have:=this.mp (by omega)
    omega
   subst a0
   have n0:n=0:=by
    have:=(cK (n:=n) (m:=0)).mp (by omega)
    omega
   subst n0
   decide
  ·exact sX (by omega)
 | false=>show 1*a%n=a;rw[Nat.one_mul];exact uf ha
theorem SQ{m:Bool × Nat}{a:Nat}(ha:a<ak m):gm m a 1=a:=by rw[pF];exact zA ha
noncomputable def lg(m:Bool × Nat)(a:Nat):Int:=(du (fl m)).getD a 0
noncomputable def pw(m:Bool × Nat)(k:Nat):Int:=(fl m).getD k 0
noncomputable def zB(m:Bool × Nat):Bool:=((aT (ak m-1)).all λk=>decide (1<=pw m k)&&decide (pw m k<ak m)&&decide (lg m (pw m k).toNat=k))&&((aT (ak m-1)).all λa=>decide (0<=lg m (a+1))&&decide (lg m (a+1)<(ak m:Int)-1)&&decide (pw m (lg m (a+1)).toNat=((a+1:Nat):Int)))
theorem ID:aU.all zB=true:=by decide +kernel
theorem zC{m:Bool × Nat}(hm:m∈aU){k:Nat}(hk:k<ak m-1):1<=pw m k/\pw m k<ak m/\lg m (pw m k).toNat=k:=by
 have h:=cV.mp ID m hm
 simp only[zB,cC,cV,decide_eq_true_eq,fg]at h
 have:=h.1 k hk
 exact⟨this.1.1,this.1.2,this.2⟩
theorem IE{m:Bool × Nat}(hm:m∈aU){a:Nat}(h1:1<=a)(h2:a<ak m):0<=lg m a/\lg m a<(ak m:Int)-1/\pw m (lg m a).toNat=a:=by
 have h:=cV.mp ID m hm
 simp only[zB,cC,cV,decide_eq_true_eq,fg]at h
 have:=h.2 (a-1) (by omega)
 rw[show a-1+1=a by omega]at this
 exact⟨this.1.1,this.1.2,this.2⟩
theorem SR(m:Bool × Nat)(b:Nat)(h:0<m.2):gm m 0 b=0:=by
 unfold gm
 split
 ·rw[iz];exact sX (by rw[iy];exact d6 (by omega))
 ·rw[Nat.zero_mul,Nat.zero_mod]
theorem SS(m:Bool × Nat)(b:Nat)(h:0<m.2):gm m b 0=0:=by rw[pF];exact SR m b h
noncomputable def stC(m:Bool × Nat):Bool:=decide (pw m 0=1)&&(aT (ak m-1)).all λk=>decide (gm m (pw m k).toNat (pw m (1%(ak m-1))).toNat=(pw m ((k+1)%(ak m-1))).toNat)
theorem IF:aU.all stC=true:=by decide +kernel
theorem IG(m:Bool × Nat)(hm:m∈aU):pw m 0=1:=by
 have h:=cV.mp IF m hm
 simp only[stC,cC,decide_eq_true_eq]at h
 exact h.1
noncomputable def pN(m:Bool × Nat)(k:Nat):Nat:=(pw m (k%(ak m-1))).toNat
theorem SU{m:Bool × Nat}(hm:m∈aU)(k:Nat):pN m k<ak m:=by
 have jr:=(dR hm).lo
 have:=zC hm (qY k (show 0<ak m-1 by omega))
 unfold pN
 omega
theorem IH{m:Bool × Nat}(hm:m∈aU)(k:Nat):gm m (pN m k) (pN m 1)=pN m (k+1):=by
 have jr:=(dR hm).lo
 have h:=cV.mp IF m hm
 simp only[stC,cC,decide_eq_true_eq,cV,fg]at h
 have h2:=h.2 (k%(ak m-1)) (qY k (by omega))
 rw[xn]at h2
 exact h2
theorem II{m:Bool × Nat}(hm:m∈aU)(i:Nat):∀j,gm m (pN m i) (pN m j)=pN m (i+j)
 | 0=>by
  have e:pN m 0=1:=by unfold pN;rw[Nat.zero_mod,IG m hm];rfl
  rw[e,SQ (SU hm i)];rfl
 | j+1=>by rw[<-IH hm j,<- IB (j4 m hm),II hm i j,IH hm];rfl
theorem SV{m:Bool × Nat}(hm:m∈aU){a b:Nat}(a1:1<=a)(a2:a<ak m)(b1:1<=b)(b2:b<ak m):((gm m a b:Nat):Int)=pw m ((lg m a+lg m b)%((ak m:Int)-1)).toNat:=by
 have jr:=(dR hm).lo
 obtain⟨g0,g1,g2⟩:=IE hm a1 a2
 obtain⟨f0,f1,f2⟩:=IE hm b1 b2
 have ea:pN m (lg m a).toNat=a:=by unfold pN;rw[uf (by omega),g2];rfl
 have eb:pN m (lg m b).toNat=b:=by unfold pN;rw[uf (by omega),f2];rfl
 have e:=II hm (lg m a).toNat (lg m b).toNat
 rw[ea,eb]at e
 rw[e]
 have ei:((lg m a+lg m b)%((ak m:Int)-1)).toNat=((lg m a).toNat+(lg m b).toNat)%(ak m-1):=by
  have:(((lg m a).toNat+(lg m b).toNat)%(ak m-1):Nat)=((lg m a+lg m b)%((ak m:Int)-1)):=by
   rw[qZ,nH,Es g0,Es f0,Int.natCast_sub (by omega)];rfl
  omega
 rw[ei]
 have:=zC hm (qY ((lg m a).toNat+(lg m b).toNat) (show 0<ak m-1 by omega))
 unfold pN
 omega
end L3
namespace L3
open PySem L2 Mf
theorem SW(C:Addr)(p:Nat):D.obj C (ek "bits"++[("products":Str)]) (List.map D.sh [.int p,.int (ak (true,p)),.int ((bl (ak (true,p)):Nat)-1),.lst true (aE (fl (true,p))),.lst true (aE (du (fl (true,p)))),.int (fst (true,p)),.lst true (j3 (fl (true,p)) (du (fl (true,p))))])=Iy C p:=by
 simp only[cU,hW]
 rw[SN]
 simp only[eD,jR,iX];rfl
theorem SX(C:Addr)(p:Nat):D.obj C (ek "prime") (List.map D.sh [.int p,.int p,.int ((bl p:Nat)-1),.lst true (aE (fl (false,p))),.lst true (aE (du (fl (false,p)))),.int (fst (false,p))])=Iw C p:=by
 simp only[cU,hW,eD,jR,iX];rfl
theorem IJ{n:Nat}(h:(true,n)∈aU):n∈dQ:=by
 rcases dW.mp h with h | h
 ·obtain⟨x,hx,e⟩:=ig.mp h
  cases e;exact hx
 ·obtain⟨x,hx,e⟩:=ig.mp h
  cases e
theorem SY{n:Nat}(h:(false,n)∈aU):n∈eI:=by
 rcases dW.mp h with h | h
 ·obtain⟨x,hx,e⟩:=ig.mp h
  cases e
 ·obtain⟨x,hx,e⟩:=ig.mp h
  cases e;exact hx
theorem S0{p x y:Nat}(hp:p≠0)(hx:bl x<bl p):md (cl x y) p=(if y%2=1 then x else 0) ^^^ md (cl (if bl (2*x)=bl p then 2*x ^^^ p else 2*x) (y/2)) p:=by
 have e0:md (if y%2=1 then x else 0) p=(if y%2=1 then x else 0):=by
  split
  ·exact sX hx
  ·exact sX (by rw[iy];exact d6 hp)
 rw[FE,vE hp,e0]
 congr 1
 split
 ·rw[ju,vE hp,Iz hp,gz]
 ·rfl
theorem S1{p x:Nat}(hp:p≠0)(hx:bl x<bl p):bl (if bl (2*x)=bl p then 2*x ^^^ p else 2*x)<bl p:=by
 have h2:=OX x
 have h0:=d6 hp
 split
 ·rename_i h
  have n0:2*x≠0:=λz=>by rw[z,iy]at h;omega
  have a1:=eR (2*x)
  have a2:=eR p
  have b1:=nX n0
  have b2:=nX hp
  rw[h]at a1 b1
  obtain⟨k,hk⟩:∃k,bl p=k+1:=⟨bl p-1,by omega⟩
  rw[hk]at a1 a2 b1 b2 ⊢
  have:=cK.mpr (Fu a1 a2 b1 b2)
  omega
 ·omega
end L3
namespace L3
open PySem L2 PySem.Spec PyProof.Rows
structure vF(P:Program)(w:World)(K:PySem.W.Frag)(mg:Str->Option Value)(base:Heap)(n:Nat)(m:Str)(C:Addr)(sp:fb):Prop where
 cls:cJ K C
 ex:∃f fd ps,Meth K C m f/\aI P w K mg base (d9 P w) n f fd ps (fA sp)/\Binds K fd ps []
section
variable{X:Cx}{e o:Expr}{es:List Expr}{f m x:Str}{pos p apos:Pos}{to:au}{ta:br}{n:Nat}
noncomputable def j5(MO:Addr->fb->Prop)(m:Str)(to:au)(ta:br):au:=λδ Q=>to δ λd ah=>∃C ns xs sp,d=.obj C ns xs/\MO C sp/\m ∉ ns/\ta ah λds aC=>sp ((D.obj C ns xs::ds).map D.sh) (λr=>((D.obj C ns xs::ds).all D.pl||r.fr)=true/\Q r aC) λ_=>False
theorem S2{pl:Sem Bool}(ho:PE X o (lB to))(hr:aS n X.A)(ha:PA X (e::es) (lA ta))
  (bw:starEach (e::es) X.env=(false,eval e X.env)::starEach es X.env:=by rfl) (aQ:(backTo pos (starEach es X.env)).any (·.1)=false:=by rfl)
  (ht:eval (.Call (.Attribute o m apos) (e::es) [] pos) X.env=(do
   let ov<-eval o X.env
   standAt apos.atName
   let (f,first)<-holding [ov] (getMethod ov m pl)
   callWith pos f first (backTo pos (starEach (e::es) X.env)) (backToKw pos (keywordEach [] X.env))):=by rfl) :
  PE X (.Call (.Attribute o m apos) (e::es) [] pos) (lE (j5 (vF X.prog X.w X.K X.mg X.base n m) m to ta)):=by
 intro pins s σ H Q I zz
 obtain⟨B,F,δ,ts,Qd,c,q,k⟩:=zz
 refine PySem.W.methodCall_KW (pl:=pl) (aw (ho pins s σ H (λx H1=>∃d ah F1,S F1 H1 [d] [x]/\ag B F1 H1 σ ah ts/\aa F F1/\aa H H1/\∃C ns xs sp,d=.obj C ns xs/\vF X.prog X.w X.K X.mg X.base n m C sp/\m ∉ ns/\ta ah λds aC=>sp ((D.obj C ns xs::ds).map D.sh) (λr=>((D.obj C ns xs::ds).all D.pl||r.fr)=true/\Qd r aC) λ_=>False) I
  ⟨B,F,δ,ts,_,c,q,λd ah v F1 H1 hq f1 h1 c1 s1=>⟨d,ah,F1,s1,c1,f1,h1,hq⟩⟩) λu s1 ⟨x,H1,I1,rx,d,ah,F1,sd,c1,f1,h1,C,ns,xs,sp,ed,M,hm,hq⟩=>?_) ht
 subst ed
 obtain⟨a,dx,ws,rfl,ea,hl,r0⟩:=sR sd
 obtain rfl:u=bb a:=rx
 obtain⟨f,fd,ps,jZ,FO,hb⟩:=M.ex
 refine uB I1 ea M.cls jZ (zt hm) ?_
 refine PySem.W.callWith_K (first:=[.ref a]) (h₀:=X.base) I.ok.mod.fY jZ.kp (aw (ha pos pins s1 σ H1 (λvs H2=>∃ds aC F2,S F2 H2 ds vs/\ag B F2 H2 σ aC ts/\aa F1 F2/\aa H1 H2/\sp ((D.obj C ns xs::ds).map D.sh) (λr=>((D.obj C ns xs::ds).all D.pl||r.fr)=true/\Qd r aC) λ_=>False) I1
  ⟨B,F1,ah,ts,_,c1,hq,λds aC vs F2 H2 hq f2 h2 c2 s2=>⟨ds,aC,F2,s2,c2,f2,h2,hq⟩⟩) λus s2 ⟨vs,H2,I2,r,ds,aC,F2,zu,c2,f2,h2,eQ⟩=>⟨I2.bq,?_⟩) bw aQ
 refine rP (us:=.ref a::us) (vs:=.ref a::vs) (cT:=[]) (ze FO) hr hb .nil zd I2 (.cons rfl r) ?_
 rw[fW]
 exact sk (sp:=λds Q=>sp ds Q λ_=>False) c2 (.obj (h2 _ _ ea) hl (r0.shared f2 h2) zu) eQ λd v F' H' hd hf hs c'=>k d aC v F' H' hd (f1.trans (f2.trans hf)) (h1.trans (h2.trans hs)) c'
end
section
variable{X:Cx}{tb th:bG}{body y8:List Stmt}{y9:Stmt}{K:Str}{Kc:Addr}{kp Ho pos:Pos}
end
structure vG(K:PySem.W.Frag)(C:Addr):Prop where
 cls:cJ K C
 ha:PySem.W.findIn K (.ref C) "__class__"=some (some (.builtin "object.__class__"))
 hn:PySem.W.specialIn K (.builtin "object.__class__") "__get__"=some (some (.builtin "getset_descriptor.__get__"))
 uD:PySem.W.takesIn K (.builtin "object.__class__")=some true
 hm:PySem.W.mroIn K C (.type "object")=some true
noncomputable def mV(K:PySem.W.Frag)(cv:Value)(t:au):au:=λδ Q=>t δ λd ae=>∃C ns xs r,d=.obj C ns xs/\vG K C/\PySem.W.kitOne K (.ref C) cv=some r/\Q (.bl r) ae
theorem zD{X:Cx}{a:Expr}{ta:au}{p pos:Pos}{y:Str}{q:Pos}{C:Addr}(hg:Gl X "isinstance")(hm:X.mg "isinstance"=none)(my:Gl X y)(jP:X.mg y=some (.ref C))(ha:PE X a (lB ta))(hd:(y==("__debug__":Str))=false:=by decide)
  (hs:starEach [a,.Name y q] X.env=(false,eval a X.env)::starEach [.Name y q] X.env:=by rfl) (dG:starEach [.Name y q] X.env=(false,eval (.Name y q) X.env)::starEach [] X.env:=by rfl) (aQ:(backTo pos (starEach [.Name y q] X.env)).any (·.1)=false:=by rfl) :
  PE X (.Call (.Name "isinstance" p) [a,.Name y q] [] pos) (lE (mV X.K (.ref C) ta)) :=
 cj (uE Hq hg hm yh (cN ha (cN (EH (v:=.ref C) my jP rfl hd) eO dG) hs) (by decide) (by decide) hs aQ) λσ H Q ⟨B,F,δ,ts,Qd,c,q,k⟩=>⟨B,F,δ,ts,_,c,q,λd ah v F1 H1 q1 f1 h1 c1 s1=>by
  obtain⟨C',ns,xs,r,ed,oc,e,qr⟩:=q1
  subst ed
  obtain⟨a,dx,ws,rfl,ea,_,_⟩:=sR s1
  exact⟨.ref a,_,_,.ref C',r,rfl,rfl,.ty (.ins ea oc.cls oc.ha oc.hn oc.uD oc.hm),e,k _ ah _ F1 H1 qr f1 h1 (c1.pushS (.bl .nil) rfl)⟩⟩
end L3
namespace L3
open PySem L2 Mf
end L3
namespace L3
open PySem L2 PySem.Spec PyProof.Rows
section
variable{X:Cx}{e o a:Expr}{es:List Expr}{f m y:Str}{pos p apos q:Pos}{t to ta':au}{ta:br}{n:Nat}{P:Program}{w:World}{K:PySem.W.Frag}{mg:Str->Option Value}{base:Heap}
theorem fQ(he:PE X e (lB t))(hK:K=X.K:=by rfl)(hb:attributeBase e f X.env (eval e X.env)=eval e X.env:=by rfl):PE X (.Attribute e f pos) (lB (jX K t f)):=by
 subst hK;exact SD he hb
theorem IK{pl:Sem Bool}(ho:PE X o (lB to))(hr:aS n X.A)(ha:PA X (e::es) (lA ta))(hP:P=X.prog:=by rfl)(hw:w=X.w:=by rfl)(hK:K=X.K:=by rfl)(hm:mg=X.mg:=by rfl)(hb:base=X.base:=by rfl)
  (bw:starEach (e::es) X.env=(false,eval e X.env)::starEach es X.env:=by rfl) (aQ:(backTo pos (starEach es X.env)).any (·.1)=false:=by rfl)
  (ht:eval (.Call (.Attribute o m apos) (e::es) [] pos) X.env=(do
   let ov<-eval o X.env
   standAt apos.atName
   let (f,first)<-holding [ov] (getMethod ov m pl)
   callWith pos f first (backTo pos (starEach (e::es) X.env)) (backToKw pos (keywordEach [] X.env))):=by rfl) :
  PE X (.Call (.Attribute o m apos) (e::es) [] pos) (lE (jY (mT P w K mg base n m) m to ta)):=by
 subst hP hw hK hm hb;exact SE ho hr ha bw aQ ht
theorem IL{pl:Sem Bool}(ho:PE X o (lB to))(hr:aS n X.A)(hP:P=X.prog:=by rfl)(hw:w=X.w:=by rfl)(hK:K=X.K:=by rfl)(hm:mg=X.mg:=by rfl)(hb:base=X.base:=by rfl)
  (ht:eval (.Call (.Attribute o m apos) [] [] pos) X.env=(do
   let ov<-eval o X.env
   standAt apos.atName
   let (f,first)<-holding [ov] (getMethod ov m pl)
   callWith pos f first (backTo pos (starEach [] X.env)) (backToKw pos (keywordEach [] X.env))):=by rfl) :
  PE X (.Call (.Attribute o m apos) [] [] pos) (lE (j0 (mT P w K mg base n m) m to)):=by
 subst hP hw hK hm hb;exact SF ho hr ht
theorem S3{pl:Sem Bool}(ho:PE X o (lB to))(hr:aS n X.A)(ha:PA X (e::es) (lA ta))(hP:P=X.prog:=by rfl)(hw:w=X.w:=by rfl)(hK:K=X.K:=by rfl)(hm:mg=X.mg:=by rfl)(hb:base=X.base:=by rfl)
  (bw:starEach (e::es) X.env=(false,eval e X.env)::starEach es X.env:=by rfl) (aQ:(backTo pos (starEach es X.env)).any (·.1)=false:=by rfl)
  (ht:eval (.Call (.Attribute o m apos) (e::es) [] pos) X.env=(do
   let ov<-eval o X.env
   standAt apos.atName
   let (f,first)<-holding [ov] (getMethod ov m pl)
   callWith pos f first (backTo pos (starEach (e::es) X.env)) (backToKw pos (keywordEach [] X.env))):=by rfl) :
  PE X (.Call (.Attribute o m apos) (e::es) [] pos) (lE (j5 (vF P w K mg base n m) m to ta)):=by
 subst hP hw hK hm hb;exact S2 ho hr ha bw aQ ht
end
theorem zE:∀m∈Mf.aU,1<=Mf.bl m.2/\Mf.bl m.2<=7:=by decide +kernel
end L3
namespace L3
open PySem L2 Mf
noncomputable def gp(m:Bool × Nat)(a b:Nat):Nat:=if m.1 then a ^^^ b else(a+b)%m.2
noncomputable def gl(m:Bool × Nat)(a b:Nat):Int:=if m.1 then(a ^^^ b:Nat)else((a:Int)-b)%m.2
noncomputable def gd(m:Bool × Nat)(xs ys:List Nat):Nat:=(List.zipWith (gm m) xs ys).foldl (gp m) 0
noncomputable def j6(c:Int):Bool × Nat:=if c%2=0 then(true,dQ.getD (c/2%21).toNat 0)else(false,eI.getD (c/2%18).toNat 0)
theorem S4(c:Int):j6 c∈aU:=by
 unfold j6
 split
 ·refine fh _ (ig.mpr ⟨_,?_,rfl⟩)
  have h:(c/2%21).toNat<dQ.length:=by
   have:=kz (c/2) (show(0:Int)<21 by decide)
   show _<21
   omega
  rw[fE,dw h]
  exact ud _
 ·refine dm _ (ig.mpr ⟨_,?_,rfl⟩)
  have h:(c/2%18).toNat<eI.length:=by
   have:=kz (c/2) (show(0:Int)<18 by decide)
   show _<18
   omega
  rw[fE,dw h]
  exact ud _
noncomputable def cX(m:Bool × Nat):D:=.tup [.bl m.1,.int m.2]
theorem vH(cb cp:Addr)(m:Bool × Nat):fD cb cp m=.obj (if m.1 then cb else cp) (if m.1 then ek "bits"++[("products":Str)]else ek "prime") (if m.1 then pD (true,m.2)++[.lst false (vD (fl (true,m.2)) (du (fl (true,m.2))))]else pD (false,m.2)):=by
 obtain⟨k,n⟩:=m
 cases k<;>rfl
theorem S5(m:Bool × Nat)(x:Str)(h:x ∉ (["bits","prime","many","wide","powers","logs","step","products"]:List Str)):x ∉ (if m.1 then ek "bits"++[("products":Str)]else ek "prime"):=by
 obtain⟨k,n⟩:=m
 intro z
 apply h
 cases k
 ·have z:x∈ek "prime":=z
  simp[ek]at z
  simp only[cI]
  rcases z with z | z | z | z | z | z<;>simp[z]
 ·have z:x∈ek "bits"++[("products":Str)]:=z
  simp[ek]at z
  simp only[cI]
  rcases z with z | z | z | z | z | z | z<;>simp[z]
theorem IM(cb cp:Addr)(m:Bool × Nat):(fD cb cp m).sh=fD cb cp m:=by rw[vH];rfl
theorem IQ(cb cp:Addr)(m:Bool × Nat):(fD cb cp m).pl=true:=by rw[vH];rfl
theorem IS(m:Bool × Nat):(cX m).sh=cX m:=rfl
theorem IT(m:Bool × Nat):(cX m).pl=true:=rfl
noncomputable def IU(P:Program)(w:World)(K:PySem.W.Frag)(mg:Str->Option Value)(base:Heap)(n:Nat)(cb cp:Addr)(m:Bool × Nat)(x:Str)(ds:List D)(Q:D->Prop):Prop:=∃C ns xs sp,fD cb cp m=.obj C ns xs/\mT P w K mg base n x C sp/\x ∉ ns/\sp (.obj C ns xs::ds) Q
theorem IV(m:Bool × Nat)(a b:Nat):gp m a b=gp m b a:=by
 unfold gp
 split
 ·rw[Ec]
 ·rw[Nat.add_comm]
theorem S6(m:Bool × Nat)(a b c:Nat):gp m (gp m a b) c=gp m a (gp m b c):=by
 unfold gp
 split
 ·rw[kq]
 ·rw[xn,Nat.add_mod_mod,Nat.add_assoc]
theorem S7{m:Bool × Nat}(h:0<m.2)(a b c:Nat):gm m (gp m a b) c=gp m (gm m a c) (gm m b c):=by
 unfold gm gp
 split
 ·rw[ju,vE (by omega)]
 ·rw[qX,Er,<- qX,Nat.add_mul,xn,Nat.add_mod_mod]
theorem S8{m:Bool × Nat}(h:0<m.2)(a b c:Nat):gm m c (gp m a b)=gp m (gm m c a) (gm m c b):=by rw[pF,S7 h,pF m a,pF m b]
theorem S9:∀m∈aU,m.1=true->2<=bl m.2:=by decide +kernel
theorem Ta{m:Bool × Nat}(hm:m∈aU){a b:Nat}(ha:a<ak m)(hb:b<ak m):gp m a b<ak m:=by
 have h0:=j4 m hm
 obtain⟨k,n⟩:=m
 cases k with
 | true=>exact nZ ha hb
 | false=>exact qY _ h0
theorem IW{m:Bool × Nat}(hm:m∈aU)(a b:Nat):gm m a b<ak m:=by
 have h0:=j4 m hm
 obtain⟨k,n⟩:=m
 cases k with
 | true =>
  have h2:=S9 (true,n) hm rfl
  have:=(rY (show n≠0 by have:0<n:=h0;omega) (cl a b)).2
  refine(IC rfl).mpr ?_
  show bl (md (cl a b) n)<=bl n-1
  omega
 | false=>exact qY _ h0
theorem Tc{m:Bool × Nat}{a:Nat}(ha:a<ak m):gp m 0 a=a:=by
 obtain⟨k,n⟩:=m
 cases k with
 | true=>exact ib a
 | false=>show(0+a)%n=a;rw[Nat.zero_add];exact uf ha
theorem Td{m:Bool × Nat}(hm:m∈aU){a b:Nat}(ha:a<ak m)(hb:b<ak m):∃r:Nat,gl m a b=r/\r<ak m/\gp m r b=a:=by
 have h0:=j4 m hm
 obtain⟨k,n⟩:=m
 cases k with
 | true=>exact⟨a ^^^ b,rfl,nZ ha hb,by show a ^^^ b ^^^ b=a;rw[kq,xb,gz]⟩
 | false =>
  have h0:0<n:=h0
  have ha:a<n:=ha
  have hb:b<n:=hb
  refine⟨(a+(n-b))%n,?_,qY _ h0,?_⟩
  ·show((a:Int)-b)%n=_
   rw[qZ,nH,Int.natCast_sub (by omega),show((a:Int)+((n:Int)-b))=((a:Int)-b)+n by omega,Int.add_emod_right]
  ·show((a+(n-b))%n+b)%n=a
   rw[xn,show a+(n-b)+b=a+n by omega,Nat.add_mod_right,uf ha]
noncomputable def eS(m:Bool × Nat)(n:Int):Nat:=(pw m (n%((ak m:Int)-1)).toNat).toNat
theorem g6{m:Bool × Nat}(hm:m∈aU)(n:Int):1<=eS m n/\eS m n<ak m/\lg m (eS m n)=n%((ak m:Int)-1)/\pw m (n%((ak m:Int)-1)).toNat=eS m n:=by
 have jr:=(dR hm).lo
 have n0:=nI n (show(ak m:Int)-1≠0 by omega)
 have n1:=kz n (show(0:Int)<(ak m:Int)-1 by omega)
 obtain⟨p1,p2,p3⟩:=zC hm (k:=(n%((ak m:Int)-1)).toNat) (by omega)
 unfold eS
 rw[p3]
 omega
theorem Te{m:Bool × Nat}(hm:m∈aU)(n:Int):eS m n<ak m:=(g6 hm n).2.1
theorem zF{m:Bool × Nat}(hm:m∈aU)(a b:Int):gm m (eS m a) (eS m b)=eS m (a+b):=by
 obtain⟨a1,a2,a3,_⟩:=g6 hm a
 obtain⟨b1,b2,b3,_⟩:=g6 hm b
 have e:=SV hm a1 a2 b1 b2
 rw[a3,b3,<- Int.add_emod]at e
 have c:=(g6 hm (a+b)).2.2.2
 rw[c]at e
 omega
theorem pG{m:Bool × Nat}(hm:m∈aU):eS m 0=1:=by
 unfold eS
 rw[xo,show(0:Int).toNat=0 from rfl,IG m hm];rfl
theorem IY{m:Bool × Nat}(hm:m∈aU):fst m=eS m 1:=by
 have:=(g6 hm 1).2.2.2
 exact this
theorem IZ{m:Bool × Nat}(hm:m∈aU)(a b:Int)(h:a%((ak m:Int)-1)=b%((ak m:Int)-1)):eS m a=eS m b:=by
 unfold eS;rw[h]
theorem Tf{m:Bool × Nat}(hm:m∈aU)(n:Int):(fl m)[(n%((ak m:Int)-1)).toNat]?=some ((eS m n:Nat):Int):=by
 have hF:=dR hm
 have jr:=hF.lo
 have n0:=nI n (show(ak m:Int)-1≠0 by omega)
 have n1:=kz n (show(0:Int)<(ak m:Int)-1 by omega)
 have hk:(n%((ak m:Int)-1)).toNat<(fl m).length:=by have:=hF.len;omega
 rw[<-(g6 hm n).2.2.2]
 unfold pw
 rw[fE,dw hk];rfl
end L3
namespace L2
open PySem PySem.Spec PyProof.Rows
section
variable{X:Cx}{a:Expr}{ta:TA}{p pos:Pos}{tg:Expr}
end
end L2
namespace L3
open PySem L2 PySem.Spec PyProof.Rows
section
variable{F H:Hp}{K:PySem.W.Frag}{p:Addr}{ws:List V}{xs:List D}
end
section
variable{X:Cx}{a:Expr}{ta:br}{p pos:Pos}{tg:Expr}
end
end L3
namespace L3
open PySem L2 Mf
noncomputable def px(m:Bool × Nat)(x:Nat):Nat->Nat
 | 0=>1
 | k+1=>gm m (px m x k) x
theorem Tg{m:Bool × Nat}(hm:m∈aU)(x:Nat):∀k,px m x k<ak m
 | 0=>by have:=(dR hm).lo;show 1<_;omega
 | k+1=>IW hm _ _
end L3
namespace L3
open PySem L2 PySem.Spec PyProof.Rows
section
variable{X:Cx}
end
end L3
namespace L3
open PySem L2 Mf
noncomputable def sY(m:Bool × Nat)(a b:Nat):Nat:=(gl m a b).toNat
theorem Th{m:Bool × Nat}(hm:m∈aU){a b:Nat}(ha:a<ak m)(hb:b<ak m):gl m a b=(sY m a b:Nat)/\sY m a b<ak m/\gp m (sY m a b) b=a:=by
 obtain⟨r,e,h1,h2⟩:=Td hm ha hb
 have:sY m a b=r:=by unfold sY;rw[e];rfl
 rw[this]
 exact⟨e,h1,h2⟩
end L3
namespace L3
open PySem L2 PySem.Spec PyProof.Rows
section
variable{X:Cx}{a b:Expr}{ta tb:au}{pos:Pos}
end
end L3
namespace L3
open PySem L2 Mf
theorem sZ{m:Bool × Nat}(hm:m∈aU)(k:Int):∀n:Nat,px m (eS m k) n=eS m (k*n)
 | 0=>by
  show 1=eS m (k*((0:Nat):Int))
  rw[show k*((0:Nat):Int)=0 by omega,pG hm]
 | n+1=>by
  show gm m (px m (eS m k) n) (eS m k)=_
  rw[sZ hm k n,zF hm,nH,Int.mul_add]
  congr 1
  omega
end L3
namespace L2
open PySem PySem.Spec PyProof.Rows
end L2
namespace L3
open PySem L2 PySem.Spec PyProof.Rows Mf
end L3
namespace L3
open PySem L2 Mf
noncomputable def cf(l:List Nat)(k:Nat):Nat:=l.getD k 0
theorem Ti{l:List Nat}{k:Nat}(h:l.length<=k):cf l k=0:=by
 unfold cf;rw[fE,qV h];rfl
theorem b74(a:Nat)(l:List Nat)(k:Nat):cf (a::l) (k+1)=cf l k:=rfl
end L3
namespace L3
open PySem L2 PySem.Spec PyProof.Rows
section
variable{B:Bs}{F H:Hp}{σ:L2.St}{δ:Dl}{ts ps:List (D × V)}{i k:Nat}{p q:Addr}{l1 l2 ys Q9:List D}{ws ot:List V}
end
section
variable{X:Cx}{F H:Hp}{e b:Expr}{pos p p2 p3 pr apos bf vd:Pos}{t ti te:au}{x y:Str}{i j:Nat}
end
end L3
namespace L3
structure Rg(N:Nat)(p q:Nat->Nat->Nat):Prop where
 pc:∀a b,p a b=p b a
 pa:∀a b c,p (p a b) c=p a (p b c)
 mc:∀a b,q a b=q b a
 ma:∀{a b c},a<N->b<N->c<N->q (q a b) c=q a (q b c)
 dl:∀a b c,q a (p b c)=p (q a b) (q a c)
 z:∀{a},a<N->p 0 a=a
 qz:∀a,q a 0=0
 one:∀{a},a<N->q 1 a=a
 lp:∀{a b},a<N->b<N->p a b<N
 lq:∀a b,q a b<N
 ng:∀{a},a<N->∃b,b<N/\p a b=0
section
variable{N:Nat}{p q:Nat->Nat->Nat}
noncomputable def sm(p:Nat->Nat->Nat):Nat->(Nat->Nat)->Nat
 | 0,_=>0
 | n+1,f=>p (sm p n f) (f n)
theorem Rg.pos(r:Rg N p q):0<N:=kr (ki _) (r.lq 0 0)
theorem Rg.z'(r:Rg N p q){a:Nat}(h:a<N):p a 0=a:=by rw[r.pc];exact r.z h
theorem gx{f g:Nat->Nat}:∀{n:Nat},(∀j,j<n->f j=g j)->sm p n f=sm p n g
 | 0,_=>rfl
 | n+1,h=>by rw[sm,sm,gx λj hj=>h j (by omega),h n (by omega)]
theorem pH(r:Rg N p q){f:Nat->Nat}:∀{n:Nat},(∀j,j<n->f j<N)->sm p n f<N
 | 0,_=>r.pos
 | n+1,h=>r.lp (pH r λj hj=>h j (by omega)) (h n (by omega))
theorem pI(r:Rg N p q){f:Nat->Nat}:∀{n:Nat},(∀j,j<n->f j=0)->sm p n f=0
 | 0,_=>rfl
 | n+1,h=>by rw[sm,pI r λj hj=>h j (by omega),h n (by omega)];exact r.z r.pos
theorem Rg.four(r:Rg N p q)(a b c d:Nat):p (p a b) (p c d)=p (p a c) (p b d):=by
 rw[r.pa,r.pa,<- r.pa b,<- r.pa c,r.pc b c]
theorem vI(r:Rg N p q)(f g:Nat->Nat):∀n,sm p n (λj=>p (f j) (g j))=p (sm p n f) (sm p n g)
 | 0=>(r.z r.pos).symm
 | n+1=>by rw[sm,vI r f g n,sm,sm,r.four]
theorem zG(r:Rg N p q)(c:Nat)(f:Nat->Nat):∀n,sm p n (λj=>q c (f j))=q c (sm p n f)
 | 0=>(r.qz c).symm
 | n+1=>by rw[sm,zG r c f n,sm,r.dl]
theorem I0(r:Rg N p q)(F:Nat->Nat->Nat)(k:Nat):∀n,sm p n (λi=>sm p k λj=>F i j)=sm p k λj=>sm p n λi=>F i j
 | 0=>(pI r λ_ _=>rfl).symm
 | n+1=>by
  rw[sm,I0 r F k n,<- vI r];rfl
theorem vJ(r:Rg N p q){f:Nat->Nat}(n:Nat):∀k,(∀j,j<n+k->f j<N)->sm p (n+k) f=p (sm p n f) (sm p k λj=>f (n+j))
 | 0,h=>(r.z' (pH r λj hj=>h j (by omega))).symm
 | k+1,h=>by
  rw[<-Nat.add_assoc,sm,vJ r n k λj hj=>h j (by omega),sm,r.pa]
theorem Tj(r:Rg N p q){f:Nat->Nat}{n n':Nat}(hn:n<=n')(h:∀j,j<n'->f j<N)(hz:∀j,n<=j->j<n'->f j=0):sm p n' f=sm p n f:=by
 obtain⟨k,rfl⟩:=LZ hn
 rw[vJ r n k h,pI r (f:=λj=>f (n+j)) λj hj=>hz _ (by omega) (by omega),r.z' (pH r λj hj=>h j (by omega))]
noncomputable def ds(p q:Nat->Nat->Nat)(s c:Nat->Nat)(n:Nat):Nat:=sm p (n+1) λj=>q (c j) (s (n-j))
theorem Tn(r:Rg N p q)(s c:Nat->Nat)(n:Nat):ds p q s c n<N:=pH r λj _=>r.lq _ _
noncomputable def dS(k:Nat)(b:Nat->Nat)(j:Nat):Nat:=if j<k then 0 else b (j-k)
theorem Ja(r:Rg N p q)(s b:Nat->Nat){k n:Nat}(h:k<=n):ds p q s (dS k b) n=ds p q s b (n-k):=by
 unfold ds
 obtain⟨d,rfl⟩:=LZ h
 rw[show k+d+1=k+(d+1) by omega,vJ r k (d+1) λj _=>r.lq _ _,pI r (n:=k),r.z (pH r λj _=>r.lq _ _)]
 ·rw[xp]
  refine gx λj _=>?_
  unfold dS
  rw[if_neg (by omega),xp,show k+d-(k+j)=d-j by omega]
 ·intro j hj
  unfold dS
  rw[if_pos hj,r.mc,r.qz]
structure BI(N:Nat)(p q:Nat->Nat->Nat)(s:Nat->Nat)(n L:Nat)(c b:Nat->Nat)(o:Nat):Prop where
 c0:c 0=1
 cz:∀j,L<j->c j=0
 cl:∀j,c j<N
 ln:L<=n
 kp:∀i,L<=i->i<n->ds p q s c i=0
 mn:∀L1 c1,c1 0=1->(∀j,L1<j->c1 j=0)->(∀j,c1 j<N)->(∀i,L1<=i->i<n->ds p q s c1 i=0)->L<=L1
 b0:b 0=0
 bz:∀j,n+1-L<j->b j=0
 bl:∀j,b j<N
 bk:∀i,n+1-L<=i->i<n->ds p q s b i=0
 bo:n+1-L<=n->ds p q s b n=o
theorem Jb(r:Rg N p q){b:Nat->Nat}(h:∀j,b j<N)(j:Nat):dS 1 b j<N:=by
 unfold dS
 split
 ·exact r.pos
 ·exact h _
theorem Jc{b:Nat->Nat}{n:Nat}(h:∀j,n<j->b j=0)(j:Nat)(hj:n+1<j):dS 1 b j=0:=by
 unfold dS
 rw[if_neg (by omega)]
 exact h _ (by omega)
theorem BI.same(r:Rg N p q){s c b:Nat->Nat}{n L o:Nat}(I:BI N p q s n L c b o)(h:ds p q s c n=0):BI N p q s (n+1) L c (dS 1 b) o where
 c0:=I.c0
 cz:=I.cz
 cl:=I.cl
 ln:=by have:=I.ln;omega
 kp:=λi h1 h2=>by
  by_cases e:i=n
  ·rw[e];exact h
  ·exact I.kp i h1 (by omega)
 mn:=λL1 c1 h1 h2 h3 h4=>I.mn L1 c1 h1 h2 h3 λi a b=>h4 i a (by omega)
 b0:=rfl
 bz:=λj hj=>Jc I.bz j (by have:=I.ln;omega)
 bl:=Jb r I.bl
 bk:=λi h1 h2=>by
  have:=I.ln
  rw[Ja r s b (show 1<=i by omega)]
  exact I.bk _ (by omega) (by omega)
 bo:=λh1=>by
  rw[Ja r s b (by omega)]
  exact I.bo (by have:=I.ln;omega)
end
end L3
namespace L3
section
variable{N:Nat}{p q:Nat->Nat->Nat}
theorem Jd{s:Nat->Nat}{j n:Nat}(h:n<j):dS j s n=0:=if_pos h
theorem s8(s:Nat->Nat){j n:Nat}(h:j<=n):dS j s n=s (n-j):=if_neg (by omega)
theorem Rg.zq(r:Rg N p q)(a:Nat):q 0 a=0:=by rw[r.mc];exact r.qz a
theorem vK(r:Rg N p q)(s c:Nat->Nat){n M:Nat}(h:n<M):ds p q s c n=sm p M λj=>q (c j) (dS j s n):=by
 unfold ds
 rw[Tj r (show n+1<=M by omega) (λj _=>r.lq _ _) λj h1 _=>by rw[Jd (by omega),r.qz]]
 exact gx λj hj=>by rw[s8 s (by omega)]
theorem To(r:Rg N p q)(s a b:Nat->Nat)(n:Nat):ds p q s (λj=>p (a j) (b j)) n=p (ds p q s a n) (ds p q s b n):=by
 unfold ds
 rw[<-vI r]
 exact gx λj _=>by rw[r.mc (p _ _),r.dl,r.mc (a j),r.mc (b j)]
theorem Tp(r:Rg N p q)(s t c:Nat->Nat)(n:Nat):ds p q (λj=>p (s j) (t j)) c n=p (ds p q s c n) (ds p q t c n):=by
 unfold ds
 rw[<-vI r]
 exact gx λj _=>r.dl _ _ _
theorem Tq(r:Rg N p q){a b s:Nat->Nat}(ha:∀j,a j<N)(hb:∀j,b j<N)(hs:∀j,s j<N)(n:Nat):ds p q s (ds p q b a) n=ds p q (ds p q s b) a n:=by
 have jq:∀(s:Nat->Nat) (k j:Nat),(∀j,s j<N)->dS k s j<N:=λs k j h=>by
  unfold dS
  split
  ·exact r.pos
  ·exact h _
 rw[vK r (ds p q s b) a (tW n),vK r s (ds p q b a) (tW n)]
 have e1:sm p (n+1) (λk=>q (ds p q b a k) (dS k s n))=sm p (n+1) λk=>sm p (n+1) λi=>q (a i) (q (dS i b k) (dS k s n)):=gx λk hk=>by
  rw[vK r b a hk,r.mc,<- zG r]
  exact gx λi _=>by rw[r.mc,r.ma (ha i) (jq b i k hb) (jq s k n hs)]
 rw[e1,I0 r]
 refine gx λi hi=>?_
 rw[zG r (a i)]
 congr 1
 rw[s8 _ (by omega),vK r s b (show n-i<n+1-i by omega),show n+1=i+(n+1-i) by omega,vJ r i _ λj _=>r.lq _ _,pI r (n:=i) λj hj=>by rw[Jd hj,r.zq]]
 rw[r.z (pH r λj _=>r.lq _ _),xp]
 refine gx λj hj=>?_
 rw[s8 b (by omega),xp,s8 s (by omega),s8 s (by omega),show n-(i+j)=n-i-j by omega]
theorem Tr(r:Rg N p q){u s:Nat->Nat}{d e:Nat}(hu:∀j,d<=j->u j=0)(hs:∀j,e<=j->s j=0)(n:Nat)(h:d+e<=n):ds p q s u n=0:=pI r λj _=>by
 by_cases h1:d<=j
 ·rw[hu j h1,r.zq]
 ·rw[hs _ (by omega),r.qz]
noncomputable def Mk(N:Nat)(p q:Nat->Nat->Nat)(a r0 r1:Nat->Nat):Prop:=∃(u0 u1:Nat->Nat) (d:Nat),(∀j,u0 j<N)/\(∀j,u1 j<N)/\(∀j,d<=j->u0 j=0)/\(∀j,d<=j->u1 j=0)/\∀k,a k=p (ds p q r0 u0 k) (ds p q r1 u1 k)
theorem Mk.next(r:Rg N p q){a r0 r1 r2 t:Nat->Nat}{e:Nat}(h:Mk N p q a r0 r1)(l1:∀j,r1 j<N)(lt:∀j,t j<N)(ft:∀j,e<=j->t j=0)(h2:∀k,r0 k=p (ds p q r1 t k) (r2 k)):Mk N p q a r1 r2:=by
 obtain⟨u0,u1,d,a1,a2,a3,a4,a5⟩:=h
 refine⟨λj=>p (ds p q t u0 j) (u1 j),u0,d+e,λj=>r.lp (Tn r _ _ _) (a2 j),a1,λj hj=>?_,λj hj=>a3 j (by omega),λk=>?_⟩
 ·show p (ds p q t u0 j) (u1 j)=0
  rw[Tr r a3 ft j hj,a4 j (by omega)];exact r.z r.pos
 ·rw[a5 k,To r,Tq r a1 lt l1,show r0=λk=>p (ds p q r1 t k) (r2 k) from funext h2,Tp r,r.pa,r.pa,r.pc (ds p q r2 u0 k)]
end
end L3
namespace L3
open PySem L2 Mf
theorem rg{m:Bool × Nat}(hm:m∈aU):Rg (ak m) (gp m) (gm m) where
 pc:=IV m
 pa:=S6 m
 mc:=pF m
 ma:=λ_ _ _=>IB (j4 m hm) _ _ _
 dl:=λa b c=>S8 (j4 m hm) b c a
 z:=Tc
 qz:=λa=>SS m a (j4 m hm)
 one:=zA
 lp:=Ta hm
 lq:=IW hm
 ng:=λ{a} ha=>by
  have g:=Th hm (a:=0) (b:=a) (by omega) ha
  exact⟨_,g.2.1,(IV m _ _).trans g.2.2⟩
theorem zH{p q:Nat->Nat->Nat}{s s' c:Nat->Nat}{n:Nat}(h:∀j,j<n+1->s j=s' j):ds p q s c n=ds p q s' c n:=gx λj hj=>by rw[h (n-j) (by omega)]
theorem BI.other{N:Nat}{p q:Nat->Nat->Nat}(r:Rg N p q){s s' c b:Nat->Nat}{n L o:Nat}(I:BI N p q s n L c b o)(h:∀j,j<n->s j=s' j):BI N p q s' n L c b o where
 c0:=I.c0
 cz:=I.cz
 cl:=I.cl
 ln:=I.ln
 kp:=λi h1 h2=>by rw[<-zH λj hj=>h j (by omega)];exact I.kp i h1 h2
 mn:=λL1 c1 h1 h2 h3 h4=>I.mn L1 c1 h1 h2 h3 λi a b=>by rw[zH λj hj=>h j (by omega)];exact h4 i a b
 b0:=I.b0
 bz:=I.bz
 bl:=I.bl
 bk:=λi h1 h2=>by rw[<-zH λj hj=>h j (by omega)];exact I.bk i h1 h2
 bo:=λh1=>by
  rw[<-I.bo h1]
  refine gx λj hj=>?_
  by_cases e:j=0
  ·rw[e,I.b0,r.mc,r.qz,r.mc,r.qz]
  ·rw[h (n-j) (by omega)]
theorem BI.start{m:Bool × Nat}(hm:m∈aU)(s:Nat->Nat):BI (ak m) (gp m) (gm m) s 0 0 (cf [1]) (dS 1 (cf [1])) 1:=by
 have lo:=(dR hm).lo
 have cl:∀j,cf [1] j<ak m:=λj=>by
  cases j with
  | zero=>exact lo
  | succ j=>exact bQ (show 0<2 by decide) lo
 have cz:∀j,0<j->cf [1] j=0:=λj hj=>Ti (show([1]:List Nat).length<=j from hj)
 exact⟨rfl,cz,cl,bH _,λi _ h=>absurd h (Nat.not_lt_zero i),λ_ _ _ _ _ _=>ki _,rfl,λj hj=>Jc cz j hj,Jb (rg hm) cl,λi _ h=>absurd h (Nat.not_lt_zero i),λh=>absurd h (by omega)⟩
end L3
namespace L3
open PySem L2 PySem.Spec PyProof.Rows
section
variable{X:Cx}{i j:Nat}{x y:Str}{p pos pos' apos bf:Pos}
end
section
variable{X:Cx}{e:Expr}{t:au}{p pos:Pos}
end
section
variable{X:Cx}
end
end L3
namespace L3
open PySem L2 Mf
open Classical in
theorem Je{α:Type}{sh:Bool}{xs:List D}{ar:List (Str × Nat)}{n:Nat}{g0:eF}{tt:dN}{te:au}{ah:Dl}{Q:D->Dl->Prop}(l:List α)(e g:α->D)(kp:α->Bool)(i3:xs.map D.sh=l.map e)(inj:∀a b,e a=e b->a=b)
  (hx:∀a∈l,g0 (e a) (dB ar n ah) λaC=>tt aC λb iO=>b=kp a/\(kp a=true->te iO λd _=>d=g a)) (cL:(sh&&ar.all (eZ ah))=true\/∀a∈l,kp a=true->(g a).fr=true) (hl:l.length<=sizeLine) (hq:Q (.lst true ((l.filter kp).map g)) ah):uY sh xs ar n g0 tt te ah Q:=by
 have pick:∀{β:Type} (h:α->β) (z:β),∃f:D->β,∀a∈l,f (e a)=h a:=λh z=>⟨λx=>if w:∃a∈l,e a=x then h w.choose else z,λa ha=>by
  have w:∃b∈l,e b=e a:=⟨a,ha,rfl⟩
  show(if w:∃b∈l,e b=e a then h w.choose else z)=h a
  rw[dif_pos w]
  exact congrArg h (inj _ _ w.choose_spec.2)⟩
 obtain⟨f,hf⟩:=pick g .ai
 obtain⟨p,hp⟩:=pick kp false
 refine⟨p,f,λx h=>?_,cL.imp id λh x cW=>?_,?_,?_⟩
 ·rw[i3]at h
  obtain⟨a,ha,rfl⟩:=ig.mp h
  rw[hp a ha,hf a ha]
  exact hx a ha
 ·rw[i3]at cW
  obtain⟨a,ha,rfl⟩:=ig.mp cW
  rw[hp a ha,hf a ha];exact h a ha
 ·have:=congrArg D8 i3
  simp at this
  omega
 ·rw[i3,List.filter_map,ky,show l.filter (p ∘ e)=l.filter kp from List.filter_congr λa ha=>hp a ha,show(l.filter kp).map (f ∘ e)=(l.filter kp).map g from Ep λa ha=>hf a (D2.mp ha).1]
  exact hq
end L3
namespace L2
open PySem PySem.Spec PyProof.Rows
section
variable{X:Cx}{scope:Scope}{cl:List (Str × Addr)}
end
end L2
namespace L2
open PySem PySem.Spec PyProof.Rows
section
variable{X:Cx}{elt iter tg:Expr}{pos:Pos}{ifs:List Expr}{scope:Scope}{cl:List (Str × Addr)}{wi:TI}{tt:TT}{te:TE}{g:TG}
end
end L2
namespace L3
open PySem L2 PySem.Spec PyProof.Rows
section
variable{X:Cx}{elt iter tg:Expr}{pos:Pos}{ifs:List Expr}{scope:Scope}{cl:List (Str × Addr)}{ti:gu}{tt:dN}{te:au}{g:eF}
end
end L3
namespace L3
open PySem L2 Mf
inductive Sp(N:Nat)(p q:Nat->Nat->Nat)(S:(Nat->Nat)->Prop):(Nat->Nat)->Prop
 | mem {f:Nat->Nat}:S f->Sp N p q S f
 | zero:Sp N p q S λ_=>0
 | add {f g:Nat->Nat}:Sp N p q S f->Sp N p q S g->Sp N p q S λk=>p (f k) (g k)
 | mul {f:Nat->Nat} (c:Nat):c<N->Sp N p q S f->Sp N p q S λk=>q c (f k)
theorem Sp.trans{N:Nat}{p q:Nat->Nat->Nat}{S S':(Nat->Nat)->Prop}(h:∀f,S f->Sp N p q S' f){f:Nat->Nat}(s:Sp N p q S f):Sp N p q S' f:=by
 induction s with
 | mem a=>exact h _ a
 | zero=>exact .zero
 | add _ _ a b=>exact .add a b
 | mul c hc _ a=>exact .mul c hc a
theorem Sp.lt{N:Nat}{p q:Nat->Nat->Nat}(r:Rg N p q){S:(Nat->Nat)->Prop}(h:∀f,S f->∀k,f k<N){f:Nat->Nat}(s:Sp N p q S f):∀k,f k<N:=by
 induction s with
 | mem a=>exact h _ a
 | zero=>exact λ_=>r.pos
 | add _ _ a b=>exact λk=>r.lp (a k) (b k)
 | mul c hc _ a=>exact λk=>r.lq _ _
end L3
namespace L3
open PySem L2 Mf
noncomputable def dt(m:Bool × Nat)(w:Nat)(x y:Nat->Nat):Nat:=sm (gp m) w λj=>gm m (x j) (y j)
theorem Sp.sm{N:Nat}{p q:Nat->Nat->Nat}{S:(Nat->Nat)->Prop}{c:Nat->Nat}{F:Nat->Nat->Nat}:∀{n:Nat},(∀i,i<n->c i<N)->(∀i,i<n->Sp N p q S (F i))->Sp N p q S λk=>L3.sm p n λi=>q (c i) (F i k)
 | 0,_,_=>.zero
 | n+1,hc,h=>.add (Sp.sm (λi hi=>hc i (by omega)) λi hi=>h i (by omega)) (.mul _ (hc n (by omega)) (h n (by omega)))
end L3
namespace L3
open PySem L2 PySem.Spec PyProof.Rows
section
variable{X:Cx}{F H:Hp}{e b:Expr}{pos pos' p p2 p3 apos bf:Pos}{ti te:au}{x y:Str}{i j:Nat}
end
section
variable{X:Cx}
end
section
variable{X:Cx}{es:List Expr}{tr:br}{pos:Pos}
end
end L3
namespace L3
open PySem L2 Mf
end L3
namespace L3
open PySem L2 Mf
end L3
namespace L3
open PySem L2 Mf
end L3
namespace L2
open PySem PySem.Spec PyProof.Rows
section
variable{X:Cx}
end
end L2
namespace L3
open PySem L2 PySem.Spec PyProof.Rows
section
variable{X:Cx}
end
end L3
namespace L2
open PySem PySem.Spec PyProof.Rows
section
variable{X:Cx}{a:Expr}{ta:TE}{p p2 pos pJ:Pos}
end
end L2
namespace L3
open PySem L2 PySem.Spec PyProof.Rows
section
variable{X:Cx}{a:Expr}{t:au}{p p2 pos pJ:Pos}
end
end L3
namespace L3
open PySem L2 PySem.Spec PyProof.Rows
section
variable{F H:Hp}
end
section
variable{X:Cx}{e:Expr}{t:au}{p2 pos:Pos}
end
end L3
namespace L3
open PySem L2 PySem.Spec PyProof.Rows
noncomputable def rX(A:List Addr)(H:Hp):Hp:=λa=>if a∈A then none else H a
section
variable{F H:Hp}
end
section
variable{P:Program}{w:World}{K:PySem.W.Frag}{mg:Str->Option Value}{base:Heap}
end
section
variable{X:Cx}{CX:cO}{n i:Nat}{f:Addr}{fd:FuncData}{ps:List Str}{sp:bC}{E:XK}{fn x:Str}{e:Expr}{te:au}{p p2 pos pos' pJ:Pos}
end
end L3
namespace L2
section
variable{α:Type}{P:List α->Prop}
theorem Ts(h:P []):∀us:List α,us.length=0->P us:=by
 intro us hl;rcases us with _ | ⟨a,t⟩
 ·exact h
 ·cases hl
theorem eJ(h:∀a,P [a]):∀us:List α,us.length=1->P us:=by
 intro us hl;rcases us with _ | ⟨a,t⟩
 ·cases hl
 ·exact Ts (P:=λt=>P (a::t)) (h a) t (Et hl)
theorem eo(h:∀a b,P [a,b]):∀us:List α,us.length=2->P us:=by
 intro us hl;rcases us with _ | ⟨a,t⟩
 ·cases hl
 ·exact eJ (P:=λt=>P (a::t)) (h a) t (Et hl)
theorem Jf(h:∀a b c,P [a,b,c]):∀us:List α,us.length=3->P us:=by
 intro us hl;rcases us with _ | ⟨a,t⟩
 ·cases hl
 ·exact eo (P:=λt=>P (a::t)) (h a) t (Et hl)
end
end L2
namespace L3
open PySem L2 PySem.Spec PyProof.Rows
section
variable{B:Bs}{F H:Hp}{σ:L2.St}{δ:Dl}{ts:List (D × V)}
theorem ag.apart{j:Nat}{p q:Addr}{xs ys:List D}(c:ag B F H σ δ ((.lst true xs,.ref q)::ts))(e:δ[j]?=some (some (.lst true ys)))(e2:σ[j]?=some (some (.ref p))):p≠q:=by
 obtain⟨A,C,r,s,nd,fr⟩:=c.own
 obtain⟨v,A',C',e1,h1,h2,pm⟩:=s.pick e
 rw[e2]at e1;cases e1
 intro z
 subst z
 have i1:p∈A:=by
  cases r with
  | own h f x r=>simp
 have i2:p∈C:=by
  refine pm.mem_iff.mpr ?_
  cases h1 with
  | own h f x r=>simp
 exact(eW.mp nd).2.2 p i1 i2
end
section
variable{X:Cx}{elt iter tg:Expr}{pos:Pos}{scope:Scope}{cl:List (Str × Addr)}{ti:gu}{te:au}{g:eF}
end
end L3
namespace L2
open PySem PySem.Spec PyProof.Rows
section
variable{X:Cx}
end
end L2
namespace L3
open PySem L2 PySem.Spec PyProof.Rows
section
variable{X:Cx}
end
end L3
namespace L3
open PySem L2 Mf
noncomputable def vL(l:List Nat)(z:Nat->Nat):Nat->List Nat
 | 0=>l
 | t+1=>(vL l z t).eraseIdx (z t%(vL l z t).length)
noncomputable def drawn(l:List Nat)(z:Nat->Nat)(t:Nat):Nat:=(vL l z t).getD (z t%(vL l z t).length) 0
end L3
namespace L3
open PySem L2 Mf
section
variable{m:Bool × Nat}{C:Nat->Nat->Nat}{w:Nat}
end
end L3
namespace L3
open PySem L2 Mf
section
variable{m:Bool × Nat}{C:Nat->Nat->Nat}{w:Nat}
end
end L3
namespace L3
open PySem L2 Mf
section
variable{m:Bool × Nat}{C:Nat->Nat->Nat}
end
end L3
namespace L3
open PySem L2 PySem.Spec PyProof.Rows
section
variable{B:Bs}{F H:Hp}{σ:L2.St}{δ:Dl}{ts:List (D × V)}
end
section
variable{X:Cx}{a:Expr}{ta:au}{pos p2:Pos}{tk:Nat}
end
end L3
namespace L3
open PySem L2 PySem.Spec PyProof.Rows
section
variable{X:Cx}{a b:Expr}{ta tb:au}{elts:List Expr}{x1:Nat}{kN p pos:Pos}
end
end L3
namespace L3
open PySem L2 Mf
section
variable{m:Bool × Nat}
end
end L3
namespace L3
open PySem L2 PySem.Spec PyProof.Rows
section
variable{B:Bs}{F H:Hp}{σ:L2.St}{δ:Dl}{ts ps:List (D × V)}{p:Addr}
end
section
variable{X:Cx}{iter tg:Expr}{te:au}{g:eF}{t:bG}{pos:Pos}
end
section
variable{X:Cx}{e:Expr}{pos p pr apos bf vd tp:Pos}{t:au}{x y:Str}{i j:Nat}{n0:Int}
end
end L3
namespace L2
open PySem PySem.Spec PyProof.Rows
section
variable{prog:Program}{w:World}{A:Around}{E:Value->Shared->Prop}{s:Shared}
end
section
variable{prog:Program}{w:World}{A:Around}{E:Value->Shared->Prop}{s:Shared}
end
section
variable{X:Cx}{pins:List (Addr × Obj)}{σ:St}{H:Hp}{s:Shared}
end
section
variable{X:Cx}{a b:Expr}{ta:TA}{p pos kN:Pos}{elts:List Expr}{x1:Nat}
end
end L2
namespace L3
open PySem L2 PySem.Spec PyProof.Rows
section
variable{F H:Hp}{p q:Addr}{xs ys:List D}{ws us:List V}
end
section
variable{X:Cx}{a b l tg:Expr}{ta:br}{te:au}{p pos kN:Pos}{elts:List Expr}{x1:Nat}
end
end L3
namespace L3
open PySem L2 Mf
section
variable{m:Bool × Nat}
end
end L3
namespace L3
open PySem L2 PySem.Spec PyProof.Rows
section
variable{B:Bs}{F H:Hp}{σ:L2.St}{δ:Dl}{ts:List (D × V)}
end
section
variable{X:Cx}{a:Expr}{ta:au}{pos p2:Pos}{tk:Nat}
end
end L3
namespace L2
open PySem PySem.Spec PyProof.Rows
end L2
namespace L2
open PySem PySem.Spec PyProof.Rows
section
variable{prog:Program}{w:World}{A:Around}{E:Value->Shared->Prop}{s:Shared}
end
end L2
namespace L2
open PySem PySem.Spec PyProof.Rows
section
variable{prog:Program}{w:World}{A:Around}{R:Result->Shared->Prop}{I:Addr}{fp wr:List Addr}{G:Array GenState->Array GenState->Prop}{n:Nat}{P:Nat->Value->Prop}{St:Nat->Shared->Prop}
end
section
variable{prog:Program}{w:World}{A:Around}{E:Value->Shared->Prop}{s:Shared}
end
end L2
namespace L2
open PySem PySem.Spec PyProof.Rows
section
variable{prog:Program}{w:World}{A:Around}{E:Value->Shared->Prop}{s:Shared}
end
end L2
namespace L2
open PySem PySem.Spec PyProof.Rows
section
variable{prog:Program}{w:World}{A:Around}{E:Value->Shared->Prop}{s:Shared}
end
end L2
namespace L2
open PySem PySem.Spec PyProof.Rows
section
variable{prog:Program}{w:World}{A:Around}{E:Value->Shared->Prop}{s:Shared}
end
end L2
namespace L2
open PySem PySem.Spec PyProof.Rows
section
variable{prog:Program}{w:World}{A:Around}{E:Value->Shared->Prop}{s:Shared}
noncomputable def mk(t:SetTable):Nat->Nat
 | 0=>0
 | i+1=>t.place.getD i 0+1
end
end L2
namespace L2
open PySem PySem.Spec PyProof.Rows
section
variable{prog:Program}{w:World}{A:Around}{E:Value->Shared->Prop}{s:Shared}
end
end L2
namespace L2
open PySem PySem.Spec PyProof.Rows
section
variable{prog:Program}{w:World}{A:Around}{E:Value->Shared->Prop}{s:Shared}
end
end L2
namespace L2
open PySem PySem.Spec PyProof.Rows
section
variable{prog:Program}{w:World}{A:Around}{E:Value->Shared->Prop}{s:Shared}
end
end L2
namespace L2
open PySem PySem.Spec PyProof.Rows
section
variable{prog:Program}{w:World}{A:Around}{E:Value->Shared->Prop}{s:Shared}
end
end L2
namespace L2
open PySem PySem.Spec PyProof.Rows
section
variable{prog:Program}{w:World}{A:Around}{E:Value->Shared->Prop}{s:Shared}
end
section
variable{X:Cx}
end
end L2
namespace L3
open PySem L2 PySem.Spec PyProof.Rows
section
variable{X:Cx}{e:Expr}{tr:br}{p p2 pos pJ:Pos}
end
end L3
namespace L3
open PySem L2 Mf
end L3
namespace L2
open PySem PySem.Spec PyProof.Rows
section
variable{X:Cx}
end
end L2
namespace L3
open PySem L2 PySem.Spec PyProof.Rows
section
variable{X:Cx}{o e:Expr}{t tb:au}{apos bf:Pos}
end
section
variable{X:Cx}{i:Nat}{x:Str}{p pos apos bf RP pJ:Pos}{a b:List Stmt}{t u:bG}{k:Int}{j}
end
end L3
namespace L3
open PySem L2 Mf
section
variable{N:Nat}{p q:Nat->Nat->Nat}
theorem p4(r:Rg N p q)(a b c d:Nat):p (p a b) (p c d)=p (p a c) (p b d):=by rw[r.pa,r.pa,<- r.pa b,r.pc b c,r.pa c]
theorem q3(r:Rg N p q){a b c:Nat}(ha:a<N)(hb:b<N)(hc:c<N):q (q a b) c=q (q a c) b:=by rw[r.ma ha hb hc,r.mc b c,r.ma ha hc hb]
variable{ng:Nat->Nat}{c:Nat}
end
section
variable{m:Bool × Nat}
end
end L3
namespace L2
open PySem PySem.Spec PyProof.Rows
section
variable{prog:Program}{w:World}{A:Around}{E:Value->Shared->Prop}{s:Shared}
end
section
variable{X:Cx}{e:Expr}{ta:TA}{p p2 pos pJ:Pos}
end
end L2
namespace L3
open PySem L2 PySem.Spec PyProof.Rows
section
variable{X:Cx}{e:Expr}{tr:br}{p p2 pos pJ:Pos}
end
end L3
namespace L2
open PySem PySem.Spec PyProof.Rows
noncomputable abbrev TJ:=Str->St->Hp->(Str->Hp->Prop)->Prop
section
variable{X:Cx}{e v1 v2:Expr}{es cy:List Expr}{te:TE}{t:TJ}{pos:Pos}
noncomputable def PJ(X:Cx)(es:List Expr)(t:TJ):Prop:=∀(pins:List (Addr × Obj)) (s:Shared) (σ:St) (H:Hp) (acc:Str) (Q:Str->Hp->Prop),Inv X pins σ H s->t acc σ H Q ->
 Joins (model X.prog X.w) X.A X.xe (evalEach es X.env) acc (λout s1=>out.length<=sizeLine/\∃H',Inv X pins σ H' s1/\Q out H') s
theorem Tt(hs:evalEach [] X.env=[]:=by rfl):PJ X [] (λacc _ H Q=>acc.length<=sizeLine/\Q acc H):=λpins s σ H acc Q I ⟨h1,h2⟩=>by
 rw[hs]
 exact⟨h1,H,I,h2⟩
theorem Tu(he:PE X e te)(hr:PJ X es t)(hs:evalEach (e::es) X.env=eval e X.env::evalEach es X.env:=by rfl) :
  PJ X (e::es) (λacc σ H Q=>te σ H λv H1=>∃y,v=.str y/\(acc++y).length<=sizeLine/\t (acc++y) σ H1 Q):=λpins s σ H acc Q I h=>by
 rw[hs]
 refine aw (he pins s σ H _ I h) λu s1 ⟨x,H1,I1,r1,y,ex,hl,q⟩=>?_
 subst ex
 obtain⟨tk,rfl⟩:=r1
 exact⟨y,tk,rfl,hl,hr pins s1 σ H1 _ Q I1 q⟩
theorem Tv(h:PJ X (v1::v2::cy) t):PE X (.JoinedStr (v1::v2::cy) pos) (λσ H Q=>t fV σ H λout H'=>Q (.str out) H'):=λpins s σ H Q I hq=>by
 refine wpAny_JoinedStr ?_
 have mono:∀(ps:List (Sem Value)) (acc:Str) (Q1 Q2:Str->Shared->Prop) (s:Shared),(∀o s,Q1 o s->Q2 o s)->Joins (model X.prog X.w) X.A X.xe ps acc Q1 s->Joins (model X.prog X.w) X.A X.xe ps acc Q2 s:=by
  intro ps
  induction ps with
  | nil=>exact λacc Q1 Q2 s m h=>m _ _ h
  | cons p ps ih=>exact λacc Q1 Q2 s m h=>aw h λv s1 ⟨y,tk,a,b,c⟩=>⟨y,tk,a,b,ih _ _ _ _ m c⟩
 exact mono _ _ _ _ _ (λout s1 ⟨hl,H',I',q⟩=>⟨hl,.str out,H',I'.tok _,⟨_,rfl⟩,q⟩) (h pins s σ H fV _ I hq)
theorem Tw(he:PE X e te):PE X (.FormattedValue e (-1) none pos) (λσ H Q=>te σ H λv H1=>∃n:Int,v=.int n/\n.natAbs.log2<1920/\Q (.str (toString n)) H1):=λpins s σ H Q I h=>by
 refine wpAny_FormattedValue_plain (aw (he pins s σ H _ I h) λu s1 ⟨x,H1,I1,r1,n,ex,hn,q⟩=>?_)
 subst ex
 obtain⟨tk,rfl⟩:=r1
 exact wpAny_formatField_int hn ⟨.str _,H1,I1.tok _,⟨_,rfl⟩,q⟩
end
end L2
namespace L3
open PySem L2 PySem.Spec PyProof.Rows
noncomputable abbrev pK:=Str->Dl->(Str->Dl->Prop)->Prop
noncomputable def lJ(t:pK):TJ:=λacc σ H Q=>∃B F δ ts Qd,ag B F H σ δ ts/\t acc δ Qd/\∀out ae F' H',Qd out ae->aa F F'->aa H H'->ag B F' H' σ ae ts->Q out H'
noncomputable def mW:pK:=λacc δ Q=>acc.length<=sizeLine/\Q acc δ
noncomputable def dJ(te:au)(t:pK):pK:=λacc δ Q=>te δ λd ah=>∃y,d=.str y/\(acc++y).length<=sizeLine/\t (acc++y) ah Q
noncomputable def mX(t:pK):au:=λδ Q=>t fV δ λout ae=>Q (.str out) ae
noncomputable def mY(te:au):au:=λδ Q=>te δ λd ah=>∃n:Int,d=.int n/\n.natAbs.log2<1920/\Q (.str (toString n)) ah
section
variable{X:Cx}{e v1 v2:Expr}{es cy:List Expr}{te:au}{t:pK}{pos:Pos}
theorem Jg{t t':TJ}(h:PJ X es t)(m:∀acc σ H Q,t' acc σ H Q->t acc σ H Q):PJ X es t':=λpins s σ H acc Q I q=>h pins s σ H acc Q I (m acc σ H Q q)
theorem Jh(hs:evalEach [] X.env=[]:=by rfl):PJ X [] (lJ mW):=Jg (Tt hs) λacc σ H Q ⟨B,F,δ,ts,Qd,c,⟨h1,h2⟩,k⟩=>⟨h1,k _ δ F H h2 (aa.refl _) (aa.refl _) c⟩
theorem vM(he:PE X e (lB te))(hr:PJ X es (lJ t))(hs:evalEach (e::es) X.env=eval e X.env::evalEach es X.env:=by rfl):PJ X (e::es) (lJ (dJ te t)) :=
 Jg (Tu he hr hs) λacc σ H Q ⟨B,F,δ,ts,Qd,c,q,k⟩=>⟨B,F,δ,ts,_,c,q,λd ah v F1 H1 ⟨y,ed,hl,q1⟩ f1 h1 c1 s1=>by
  subst ed
  cases s1
  exact⟨y,rfl,hl,B,F1,ah,ts,_,c1,q1,λout aC F2 H2 q2 f2 h2 c2=>k out aC F2 H2 q2 (f1.trans f2) (h1.trans h2) c2⟩⟩
theorem Ji(h:PJ X (v1::v2::cy) (lJ t)):PE X (.JoinedStr (v1::v2::cy) pos) (lE (mX t)) :=
 cj (Tv h) λσ H Q ⟨B,F,δ,ts,Qd,c,q,k⟩=>⟨B,F,δ,ts,_,c,q,λout ah F1 H1 q1 f1 h1 c1=>k _ ah _ F1 H1 q1 f1 h1 (c1.pushS (.str .nil) rfl)⟩
theorem Jj(he:PE X e (lB te)):PE X (.FormattedValue e (-1) none pos) (lE (mY te)) :=
 cj (Tw he) λσ H Q ⟨B,F,δ,ts,Qd,c,q,k⟩=>⟨B,F,δ,ts,_,c,q,λd ah v F1 H1 ⟨n,ed,hn,q1⟩ f1 h1 c1 s1=>by
  subst ed
  cases s1
  exact⟨n,rfl,hn,k _ ah _ F1 H1 q1 f1 h1 (c1.pushS (.str .nil) rfl)⟩⟩
end
end L3
namespace L3
open PySem L2 PySem.Spec PyProof.Rows
section
variable{X:Cx}{n:Nat}{f C:Addr}{fd:FuncData}{ps:List Str}{x:Str}{p pos:Pos}{e:Expr}{es:List Expr}{t:br}
theorem Tx{pins:List (Addr × Obj)}{σ:L2.St}{H:Hp}{s:Shared}{Q:VK}{E:XK}{us:List Value}{vs:List V}{sp:L2.Sp}(M:L2.Mk X.K C f)(F:aI X.prog X.w X.K X.mg X.base (d9 X.prog X.w) n f fd ps sp)(hr:aS (n+1) X.A)(hb:Binds X.K fd ps [])(hex:X.ex=[])
  (I:Inv X pins σ H s) (r:Vals vs us) (h:∀x dx,H x=none->H dx=none->dx≠x->sp (.ref x::vs) (upd (upd H dx (.own x)) x (.ins C dx [])) (λv H2=>v=.ai/\Q (.ref x) H2) E)
  (hx:∀a T cls H' s',Inv X pins σ H' s'->dM s'.heap a T cls->Apart X pins H' a->Apart X pins H' T->E cls none H'->X.xe (.ref a) s'):wpAny (model X.prog X.w) X.A (call (.ref C) us) (EP X pins σ Q) X.xe s:=by
 have hq:=h (s.heap.objs.size+1) s.heap.objs.size (I.aq.fresh (Nat.le_succ _)) (I.aq.fresh (bH _)) (cM (tW _))
 have I2:=Inv.made (C:=C) I
 have r2:Vals (V.ref (s.heap.objs.size+1)::vs) (bb (s.heap.objs.size+1)::us):=.cons rfl r
 have hl:((bb (s.heap.objs.size+1)::us)++[]).length=ps.length:=by
  rw[fW,<- r2.length]
  exact F.len _ _ _ _ hq
 have g4:=hb _ (bb (s.heap.objs.size+1)::us) I2.bq hl
 rw[fW]at g4
 refine wpAny_call (EZ (f:=f) I.bq M.makes M.init (beq_iff_eq.mp M.fn) (codeAny_mono (F.run _ X.stack _ _ ⟨bb (s.heap.objs.size+1)::us,[]⟩ (bb (s.heap.objs.size+1)::us) _ _ E (hr.make C us [])
  (I2.kO.make C us []) g4 r2 hq) λr s' eu=>?_))
 cases r with
 | error e =>
  obtain⟨a,T,cls,H',rfl,os,bare,un,aq,tr,a0,a1,t0,t1,hE⟩:=eu
  exact hx a T cls H' s' (I2.xC (ch:=[]) os un aq bare λb z=>absurd z (by simp)) tr (I2.apart hex a0 a1) (I2.apart hex t0 t1) hE
 | ok fl =>
  cases fl with
  | ret u =>
   obtain⟨v,H',I3,rv,ev,q3⟩:=I2.after eu
   subst ev
   exact⟨rv,⟨V.ref (s.heap.objs.size+1),H',I3,rfl,q3⟩⟩
  | next=>exact cm eu
  | brk=>exact cm eu
  | cont=>exact cm eu
noncomputable def mZ(C:Addr)(sp:fb)(t:br):o8:=λδ _ Z=>t δ λds ae=>sp (.obj C [] []::ds.map D.sh) (λ_=>False) λcls=>Z cls ae
theorem Jk{sp:fb}(M:L2.Mk X.K C f)(F:aI X.prog X.w X.K X.mg X.base (d9 X.prog X.w) n f fd ps (fA sp))(hr:aS (n+1) X.A)(hg:Gl X x)(hm:X.mg x=some (.ref C))(hb:Binds X.K fd ps [])(hex:X.ex=[])
  (ha:PA X (e::es) (lA t)) (bZ:(x==("__debug__":Str))=false:=by decide) (he:starEach (e::es) X.env=(false,eval e X.env)::starEach es X.env:=by rfl) (aQ:(backTo pos (starEach es X.env)).any (·.1)=false:=by rfl) :
  PX X (.Call (.Name x p) (e::es) [] pos) (lX (mZ C sp t)):=by
 intro pins s σ H Q Z I hz zz
 obtain⟨B,F0,δ,Qd,Zd,c,q,k,kx⟩:=zz
 refine wpAny_Call_Name_kw (jl I hg hm ?_ bZ)
 refine PySem.W.callWith_K (h₀:=X.base) I.ok.mod.fY M.kp (aw (ha pos pins s σ H (λvs H1=>∀x dx,H1 x=none->H1 dx=none->dx≠x->fA sp (.ref x::vs) (upd (upd H1 dx (.own x)) x (.ins C dx [])) (λv H2=>v=.ai/\Q (.ref x) H2) λcls _ H'=>Z cls H') I ⟨B,F0,δ,[],_,c,q,λds ah vs F1 H1 q1 f1 h1 c1 s1=>?_⟩) λus s1 ⟨vs,H1,I1,r,q⟩=>⟨I1.bq,?_⟩) he aQ
 ·intro x dx cF dr fH
  have sm:aa H1 (upd (upd H1 dx (.own x)) x (.ins C dx [])):=.of λb o e=>by rw[az (cE e cF),az (cE e dr)];exact e
  refine⟨_,.obj C [] []::ds.map D.sh,λ_=>False,_,aa.refl _,R.obj (ns:=[]) (ws:=[]) (xs:=[]) (by rw[bj];rfl) rfl .nil ((s1.frozen c1.ext).shared sm sm),q1,λd v F' H' A z=>z.elim,λcls H' hC hs=>kx cls ah F1 H' hC f1 (h1.trans (sm.trans hs)) (c1.grow (sm.trans hs))⟩
 ·exact Tx M F hr hb hex I1 r q λa T cls H' s' I' tr pa pT hE=>hz a T cls H' s' I' tr pa pT hE
end
end L3
namespace HK05
open PySem.W (Frag codeHdIn kitOne nsIn fnOf codeIn keepIn findIn isFn specialIn takesIn mroIn clsIn typeIn subIn mg_of mg_none_of CodeHd)
open PySem L2 L3 Mf
seal L2.PSs L2.PS L2.PE L2.PT L2.PA L2.PI L2.PG L2.PO L2.PW
local macro_rules | `(tactic| walk_at "l3") => do
  let l ← (("lu jG ly lz dT gO iM iN dC jz jF jD jC lj lr iU mz jQ kX kY lb lh jB mw jN jJ lQ jK lR lU lV lW lZ me mf iI dO mh mi mj mm oq mr mv gN mB mx lC lF lK lL lN mC mD jI iQ dB eY eZ nD q0 q8 q9 fM gQ jO mH mJ mK mI mL mM mO iY pb jT jS pf pd pe cU hW nG km fU rf aR rh rj kA kB rk exists_eq_left' exists_eq_left D.bl.injEq D.int.injEq D.lst.injEq D.fz.injEq D.str.injEq D.tup.injEq rl and_true true_and de nF jh ie oy oz oA oB oE oF fI gL jR oK oM oN oO oQ eD gM oG oH oI oJ fw jy rm rn fi rp rq rz nz oX oY oZ o3 o4 o5 o6 iW oS mE iX mF oU oR oV oW eH if_true jg if_false reduceIte o7 decide_eq_true_eq lD mR j5 mV mP jX jY j0 mU mW dJ mX mY mZ sL IM IQ IS IT".splitOn " ").toArray.map fun (s : String) => Lean.mkIdent s.toName).mapM fun i => `(Lean.Parser.Tactic.simpLemma| $i:term)
  `(tactic| simp only [$l,*])
noncomputable def top (i:Nat):Stmt:=PySem.Challenge.pw_mendfield_k05_field_made.main.body.getD i (.Pass ⟨0,0,0,0⟩)
noncomputable abbrev pL:Stmt:=top 22
theorem zI:bx ["_law_cell_here","_law_some","_law_primes"] ["_law_cell_here"] (ax pL):=⟨rfl,rfl,rfl,by decide +kernel,rfl,by decide +kernel,by decide +kernel⟩
noncomputable abbrev pM:Stmt:=top 20
theorem Tz:bx ["_law_script","_law_k"] ["_law_script","_law_k"] (ax pM):=⟨rfl,rfl,rfl,by decide +kernel,rfl,by decide +kernel,by decide +kernel⟩
noncomputable abbrev pO:Stmt:=top 27
theorem zJ:bx ["_law_script","_law_number"] ["_law_script"] (ax pO):=⟨rfl,rfl,rfl,by decide +kernel,rfl,by decide +kernel,by decide +kernel⟩
noncomputable abbrev pP:Stmt:=top 10
theorem vN:bx ["a","product","found","power"] ["a","product"] (ax pP):=⟨rfl,rfl,rfl,by decide +kernel,rfl,by decide +kernel,by decide +kernel⟩
noncomputable abbrev pQ:Stmt:=top 11
theorem s9:bx ["many","product","step","found"] ["many","product"] (ax pQ):=⟨rfl,rfl,rfl,by decide +kernel,rfl,by decide +kernel,by decide +kernel⟩
noncomputable abbrev pS:Stmt:=top 12
theorem zK:bx ["powers","logs","n","a"] ["powers"] (ax pS):=⟨rfl,rfl,rfl,by decide +kernel,rfl,by decide +kernel,by decide +kernel⟩
noncomputable abbrev pU:Stmt:=js (top 16) 8
theorem TB:bx ["self","n"] ["self","n"] (ax pU):=⟨rfl,rfl,rfl,by decide +kernel,rfl,by decide +kernel,by decide +kernel⟩
noncomputable abbrev pV:Stmt:=js (top 16) 0
theorem TC:bx ["self","many","product"] ["self","many","product"] (ax pV):=⟨rfl,rfl,rfl,by decide +kernel,rfl,by decide +kernel,by decide +kernel⟩
noncomputable abbrev pW:Stmt:=top 15
theorem TF:bx ["prime"] ["prime"] (ax pW):=⟨rfl,rfl,rfl,by decide +kernel,rfl,by decide +kernel,by decide +kernel⟩
noncomputable abbrev i7:Stmt:=js (top 18) 0
theorem Jl:bx ["self","prime"] ["self","prime"] (ax i7):=⟨rfl,rfl,rfl,by decide +kernel,rfl,by decide +kernel,by decide +kernel⟩
noncomputable abbrev pX:Stmt:=top 13
theorem vO:bx ["powers","logs","many","rows","a"] ["powers","logs"] (ax pX):=⟨rfl,rfl,rfl,by decide +kernel,rfl,by decide +kernel,by decide +kernel⟩
noncomputable abbrev pY:Stmt:=top 7
theorem pZ:bx ["a","b","quotient","rest","shift"] ["a","b"] (ax pY):=⟨rfl,rfl,rfl,by decide +kernel,rfl,by decide +kernel,by decide +kernel⟩
noncomputable abbrev p5:Stmt:=top 8
theorem zL:bx ["a","half","b"] ["a"] (ax p5):=⟨rfl,rfl,rfl,by decide +kernel,rfl,by decide +kernel,by decide +kernel⟩
noncomputable abbrev p7:Stmt:=top 14
theorem TH:bx ["bits"] ["bits"] (ax p7):=⟨rfl,rfl,rfl,by decide +kernel,rfl,by decide +kernel,by decide +kernel⟩
noncomputable abbrev p8:Stmt:=top 6
theorem vP:bx ["a","b","product","k"] ["a","b"] (ax p8):=⟨rfl,rfl,rfl,by decide +kernel,rfl,by decide +kernel,by decide +kernel⟩
noncomputable abbrev i8:Stmt:=js (top 17) 0
theorem zM:bx ["self","bits","many"] ["self","bits"] (ax i8):=⟨rfl,rfl,rfl,by decide +kernel,rfl,by decide +kernel,by decide +kernel⟩
noncomputable abbrev p9:Stmt:=top 26
theorem Jm:bx ["_law_told_here"] ["_law_told_here"] (ax p9):=⟨rfl,rfl,rfl,by decide +kernel,rfl,by decide +kernel,by decide +kernel⟩
noncomputable abbrev qa:Stmt:=top 23
theorem TK:bx ["_law_told_here"] ["_law_told_here"] (ax qa):=⟨rfl,rfl,rfl,by decide +kernel,rfl,by decide +kernel,by decide +kernel⟩
noncomputable abbrev qe:Stmt:=top 28
theorem Jn:bx ["_law_a","_law_b"] ["_law_a","_law_b"] (ax qe):=⟨rfl,rfl,rfl,by decide +kernel,rfl,by decide +kernel,by decide +kernel⟩
noncomputable abbrev qf:Stmt:=top 29
theorem Jo:bx ["_law_told_here","_law_number"] ["_law_told_here"] (ax qf):=⟨rfl,rfl,rfl,by decide +kernel,rfl,by decide +kernel,by decide +kernel⟩
noncomputable abbrev qg:Stmt:=top 30
theorem vQ:bx ["_law_told_here","_law_refusal","e"] ["_law_told_here"] (ax qg):=⟨rfl,rfl,rfl,by decide +kernel,rfl,by decide +kernel,by decide +kernel⟩
noncomputable abbrev qh:Stmt:=js (top 17) 8
theorem TL:bx ["self"] ["self"] (ax qh):=⟨rfl,rfl,rfl,by decide +kernel,rfl,by decide +kernel,by decide +kernel⟩
noncomputable abbrev qi:Stmt:=js (top 18) 8
theorem TM:bx ["self"] ["self"] (ax qi):=⟨rfl,rfl,rfl,by decide +kernel,rfl,by decide +kernel,by decide +kernel⟩
noncomputable abbrev qj:Stmt:=top 32
theorem at2:bx ["_law_field_here","_law_told_here","_law_many_here","_law_wide"] ["_law_field_here","_law_told_here"] (ax qj):=⟨rfl,rfl,rfl,by decide +kernel,rfl,by decide +kernel,by decide +kernel⟩
noncomputable abbrev qk:Stmt:=js (top 16) 1
theorem TN:bx ["self","x"] ["self","x"] (ax qk):=⟨rfl,rfl,rfl,by decide +kernel,rfl,by decide +kernel,by decide +kernel⟩
noncomputable abbrev ql:Stmt:=top 25
theorem qm:bx ["_law_told_here","_law_a","_law_b","_law_total"] ["_law_told_here","_law_a","_law_b"] (ax ql):=⟨rfl,rfl,rfl,by decide +kernel,rfl,by decide +kernel,by decide +kernel⟩
noncomputable abbrev qo:Stmt:=js (top 16) 9
theorem TQ:bx ["self","a"] ["self","a"] (ax qo):=⟨rfl,rfl,rfl,by decide +kernel,rfl,by decide +kernel,by decide +kernel⟩
noncomputable abbrev qp:Stmt:=top 33
theorem tf:bx ["_law_field_here","_law_told_here","_law_many_here","_law_power","_law_n"] ["_law_field_here","_law_told_here"] (ax qp):=⟨rfl,rfl,rfl,by decide +kernel,rfl,by decide +kernel,by decide +kernel⟩
noncomputable abbrev qq:Stmt:=top 21
theorem TR:bx ["_law_x"] ["_law_x"] (ax qq):=⟨rfl,rfl,rfl,by decide +kernel,rfl,by decide +kernel,by decide +kernel⟩
noncomputable abbrev qt:Stmt:=top 31
theorem tj:bx ["_law_told_here","_law_a","_law_seen","_law_power"] ["_law_told_here","_law_a"] (ax qt):=⟨rfl,rfl,rfl,by decide +kernel,rfl,by decide +kernel,by decide +kernel⟩
noncomputable abbrev i9:Stmt:=top 34
theorem qu:bx ["_law_script","_law_told_here","_law_field_here","_law_many_here","_law_asked","_law_step"] ["_law_script"] (ax i9):=⟨rfl,rfl,rfl,by decide +kernel,rfl,by decide +kernel,by decide +kernel⟩
set_option genInjectivity false in
set_option genSizeOf false in
structure gq where
 zN:Addr
 zO:FuncData
 zP:Addr
 zQ:FuncData
 zR:Addr
 zS:FuncData
 zT:Addr
 zU:FuncData
 zV:Addr
 zW:FuncData
 zX:Addr
 zY:FuncData
 tu:Addr
 zZ:FuncData
 z0:Addr
 z4:FuncData
 z5:Addr
 z6:FuncData
 vR:Addr
 tw:FuncData
 z7:Addr
 z8:FuncData
 z9:Addr
 Aa:FuncData
 Ab:Addr
 Ac:FuncData
 Ad:Addr
 Ae:FuncData
 Af:Addr
 Ag:FuncData
 vS:Addr
 tD:FuncData
 vT:Addr
 vU:FuncData
 Ah:Addr
 Ai:FuncData
 Aj:Addr
 Ak:FuncData
 Al:Addr
 Am:FuncData
 An:Addr
 Ao:FuncData
 Ap:Addr
 Aq:FuncData
 Ar:Addr
 As:FuncData
 Au:Addr
 Av:FuncData
 vV:Addr
 Aw:FuncData
 Ax:Addr
 Ay:FuncData
 vW:Addr
 Az:FuncData
 AA:Addr
 AB:FuncData
 AD:Addr
 AE:FuncData
 AF:Addr
 AG:FuncData
 AH:Addr
 AI:FuncData
 Jp:Addr
 fR:Addr
 Jq:Addr
 fS:Addr
 aB:Addr
 bW:Addr
 cQ:Addr
 fe:Addr
 bP:Addr
 aD:Addr
structure Txt(K:Frag)(mg:Str->Option Value)(t:gq):Prop where
 Jr:bg K "_law_told" "_law_told" pL t.zN t.zO
 TU:mg "_law_told"=some (.ref t.zN)
 TV:Binds K t.zO ["_law_cell_here"] []
 m3:bg K "_law_cell" "_law_cell" pM t.zP t.zQ
 qv:mg "_law_cell"=some (.ref t.zP)
 qw:Binds K t.zQ ["_law_script","_law_k"] []
 Js:bg K "_law_drawn" "_law_drawn" pO t.zR t.zS
 TX:mg "_law_drawn"=some (.ref t.zR)
 TY:Binds K t.zS ["_law_script"] []
 AJ:bg K "powers_of" "powers_of" pP t.zT t.zU
 Jt:mg "powers_of"=some (.ref t.zT)
 Ju:Binds K t.zU ["a","product"] []
 Jv:bg K "step_powers" "step_powers" pQ t.zV t.zW
 TZ:mg "step_powers"=some (.ref t.zV)
 T1:Binds K t.zW ["many","product"] []
 Jw:bg K "logs_of" "logs_of" pS t.zX t.zY
 T3:mg "logs_of"=some (.ref t.zX)
 T4:Binds K t.zY ["powers"] []
 T5:bg K "step_power" "Field.step_power" pU t.tu t.zZ
 AK:Binds K t.zZ ["self","n"] []
 T6:bg K "__init__" "Field.__init__" pV t.z0 t.z4
 Jx:Binds K t.z4 ["self","many","product"] []
 AL:bg K "makes_prime_field" "makes_prime_field" pW t.z5 t.z6
 Jy:mg "makes_prime_field"=some (.ref t.z5)
 Jz:Binds K t.z6 ["prime"] []
 JA:bg K "__init__" "PrimeField.__init__" i7 t.vR t.tw
 JB:Binds K t.tw ["self","prime"] []
 JC:bg K "product_rows" "product_rows" pX t.z7 t.z8
 T7:mg "product_rows"=some (.ref t.z7)
 T8:Binds K t.z8 ["powers","logs"] []
 AM:bg K "bits_divided" "bits_divided" pY t.z9 t.Aa
 JE:mg "bits_divided"=some (.ref t.z9)
 JF:Binds K t.Aa ["a","b"] []
 JG:bg K "stands_alone" "stands_alone" p5 t.Ab t.Ac
 T9:mg "stands_alone"=some (.ref t.Ab)
 Ua:Binds K t.Ac ["a"] []
 AN:bg K "makes_bit_field" "makes_bit_field" p7 t.Ad t.Ae
 JH:mg "makes_bit_field"=some (.ref t.Ad)
 JI:Binds K t.Ae ["bits"] []
 JJ:bg K "bits_times" "bits_times" p8 t.Af t.Ag
 Ub:mg "bits_times"=some (.ref t.Af)
 Uc:Binds K t.Ag ["a","b"] []
 JK:bg K "__init__" "BitField.__init__" i8 t.vS t.tD
 JL:Binds K t.tD ["self","bits"] []
 vX:bg K "_law_field" "_law_field" p9 t.vT t.vU
 JM:mg "_law_field"=some (.ref t.vT)
 JN:Binds K t.vU ["_law_told_here"] []
 vY:bg K "_law_many" "_law_many" qa t.Ah t.Ai
 AO:mg "_law_many"=some (.ref t.Ah)
 AQ:Binds K t.Ai ["_law_told_here"] []
 JO:bg K "_law_rest" "_law_rest" qe t.Aj t.Ak
 Ud:mg "_law_rest"=some (.ref t.Aj)
 Ue:Binds K t.Ak ["_law_a","_law_b"] []
 JP:bg K "_law_good" "_law_good" qf t.Al t.Am
 Ug:mg "_law_good"=some (.ref t.Al)
 Uh:Binds K t.Am ["_law_told_here"] []
 JQ:bg K "_law_refused" "_law_refused" qg t.An t.Ao
 Ui:mg "_law_refused"=some (.ref t.An)
 Uj:Binds K t.Ao ["_law_told_here"] []
 Uk:bg K "told" "BitField.told" qh t.Ap t.Aq
 Ul:Binds K t.Aq ["self"] []
 Um:bg K "told" "PrimeField.told" qi t.Ar t.As
 Uo:Binds K t.As ["self"] []
 JR:bg K "_law_made" "_law_made" qj t.Au t.Av
 Up:mg "_law_made"=some (.ref t.Au)
 Uq:Binds K t.Av ["_law_field_here","_law_told_here"] []
 Ur:bg K "holds" "Field.holds" qk t.vV t.Aw
 JS:Binds K t.Aw ["self","x"] []
 AR:bg K "_law_times" "_law_times" ql t.Ax t.Ay
 JT:mg "_law_times"=some (.ref t.Ax)
 JU:Binds K t.Ay ["_law_told_here","_law_a","_law_b"] []
 Us:bg K "steps" "Field.steps" qo t.vW t.Az
 JV:Binds K t.Az ["self","a"] []
 JW:bg K "_law_powers" "_law_powers" qp t.AA t.AB
 Ut:mg "_law_powers"=some (.ref t.AA)
 Uu:Binds K t.AB ["_law_field_here","_law_told_here"] []
 JX:bg K "_law_whole" "_law_whole" qq t.AD t.AE
 Uv:mg "_law_whole"=some (.ref t.AD)
 Uw:Binds K t.AE ["_law_x"] []
 AS:bg K "_law_order" "_law_order" qt t.AF t.AG
 JY:mg "_law_order"=some (.ref t.AF)
 JZ:Binds K t.AG ["_law_told_here","_law_a"] []
 Ux:bg K "law" "law" i9 t.AH t.AI
 ci9:mg "law"=some (.ref t.AH)
 cj0:Binds K t.AI ["_law_script"] []
 Uy:t.tw.code=.ref t.Jp
 Uz:codeHdIn K t.Jp t.fR=true
 UA:t.tD.code=.ref t.Jq
 UB:codeHdIn K t.Jq t.fS=true
 dU:cJ K t.aB
 qy:Mk K t.aB t.vS
 J0:vG K t.aB
 UC:kitOne K (.ref t.aB) (.ref t.aB)=some true
 UD:kitOne K (.ref t.aB) (.ref t.cQ)=some true
 aM0:kitOne K (.ref t.aB) (.ref t.aD)=some false
 m4:bF K t.aB "bits"
 m5:bF K t.aB "logs"
 j7:bF K t.aB "many"
 m6:bF K t.aB "powers"
 vZ:bF K t.aB "prime"
 tE:bF K t.aB "products"
 qA:bF K t.aB "step"
 qB:bF K t.aB "wide"
 tF:Meth K t.aB "holds" t.vV
 qC:Meth K t.aB "step_power" t.tu
 tG:Meth K t.aB "steps" t.vW
 tH:Meth K t.aB "told" t.Ap
 ff:cJ K t.aD
 qD:Mk K t.aD t.vR
 J1:vG K t.aD
 aM1:kitOne K (.ref t.aD) (.ref t.aB)=some false
 UE:kitOne K (.ref t.aD) (.ref t.cQ)=some true
 UG:kitOne K (.ref t.aD) (.ref t.aD)=some true
 v3:bF K t.aD "bits"
 qE:bF K t.aD "logs"
 j8:bF K t.aD "many"
 qF:bF K t.aD "powers"
 m8:bF K t.aD "prime"
 v7:bF K t.aD "products"
 qG:bF K t.aD "step"
 qH:bF K t.aD "wide"
 tI:Meth K t.aD "holds" t.vV
 qI:Meth K t.aD "step_power" t.tu
 tJ:Meth K t.aD "steps" t.vW
 tK:Meth K t.aD "told" t.Ar
 J2:vv K t.cQ "__init__" t.z0
 UH:mg "ValueError"=none
 v9:mg "all"=none
 J3:mg "bool"=none
 UI:mg "enumerate"=none
 J4:mg "int"=none
 g7:mg "isinstance"=none
 wa:mg "len"=none
 ja:mg "range"=none
 J5:mg "str"=none
 m9:mg "BitField"=some (.ref t.aB)
 qJ:mg "ByNought"=some (.ref t.bW)
 nh:mg "Field"=some (.ref t.cQ)
 tL:mg "MendError"=some (.ref t.fe)
 qK:mg "NoField"=some (.ref t.bP)
 ni:mg "PrimeField"=some (.ref t.aD)
 J6:vf K mg "ByNought" t.bW
 aN1:oa K t.bW
 aM6:kitOne K (.ref t.bW) (.ref t.bW)=some true
 aM3:kitOne K (.ref t.bW) (.ref t.fe)=some true
 aM7:PySem.W.exmOne K (.ref t.bW) (.ref t.bP)=some false
 aM2:kitOne K (.ref t.bW) (.type "ValueError")=some true
 J7:vf K mg "NoField" t.bP
 AU:oa K t.bP
 UJ:kitOne K (.ref t.bP) (.ref t.bW)=some false
 UK:kitOne K (.ref t.bP) (.ref t.fe)=some true
 UL:PySem.W.exmOne K (.ref t.bP) (.ref t.bP)=some true
 UM:kitOne K (.ref t.bP) (.type "ValueError")=some true
 aN0:kitOne K (.type "NoneType") (.ref t.bW)=some false
 aM9:kitOne K (.type "NoneType") (.ref t.fe)=some false
section
variable{P:Program}{w:World}{K:Frag}{mg:Str->Option Value}{base:Heap}{t:gq}
theorem UN(T:Txt K mg t)(m:Bool × Nat){Q:D->Prop}(q:Q (.int (ak m))):∃C ns xs v,fD t.aB t.aD m=.obj C ns xs/\cJ K C/\bF K C "many"/\(ns.zip xs).lookup ("many":Str)=some v/\Q v:=by
 obtain⟨k,n⟩:=m
 cases k with
 | true=>exact⟨_,_,_,_,rfl,T.dU,T.j7,rfl,q⟩
 | false=>exact⟨_,_,_,_,rfl,T.ff,T.j8,rfl,q⟩
theorem J8(T:Txt K mg t)(m:Bool × Nat){Q:D->Prop}(q:Q (.int (fst m))):∃C ns xs v,fD t.aB t.aD m=.obj C ns xs/\cJ K C/\bF K C "step"/\(ns.zip xs).lookup ("step":Str)=some v/\Q v:=by
 obtain⟨k,n⟩:=m
 cases k with
 | true=>exact⟨_,_,_,_,rfl,T.dU,T.qA,rfl,q⟩
 | false=>exact⟨_,_,_,_,rfl,T.ff,T.qG,rfl,q⟩
theorem UO(T:Txt K mg t)(m:Bool × Nat){Q:D->Prop}(q:Q (.int ((bl (ak m):Nat)-1))):∃C ns xs v,fD t.aB t.aD m=.obj C ns xs/\cJ K C/\bF K C "wide"/\(ns.zip xs).lookup ("wide":Str)=some v/\Q v:=by
 obtain⟨k,n⟩:=m
 cases k with
 | true=>exact⟨_,_,_,_,rfl,T.dU,T.qB,rfl,q⟩
 | false=>exact⟨_,_,_,_,rfl,T.ff,T.qH,rfl,q⟩
theorem UP(T:Txt K mg t)(m:Bool × Nat){Q:D->Prop}(q:Q (.lst false (aE (du (fl m))))):∃C ns xs v,fD t.aB t.aD m=.obj C ns xs/\cJ K C/\bF K C "logs"/\(ns.zip xs).lookup ("logs":Str)=some v/\Q v:=by
 obtain⟨k,n⟩:=m
 cases k with
 | true=>exact⟨_,_,_,_,rfl,T.dU,T.m5,rfl,q⟩
 | false=>exact⟨_,_,_,_,rfl,T.ff,T.qE,rfl,q⟩
theorem UQ(T:Txt K mg t)(m:Bool × Nat){Q:Bool->Prop}(q:Q true):∃C ns xs r,fD t.aB t.aD m=.obj C ns xs/\vG K C/\kitOne K (.ref C) (.ref t.cQ)=some r/\Q r:=by
 obtain⟨k,n⟩:=m
 cases k with
 | true=>exact⟨_,_,_,true,rfl,T.J0,T.UD,q⟩
 | false=>exact⟨_,_,_,true,rfl,T.J1,T.UE,q⟩
noncomputable abbrev UR:bC:=λds Q=>∃c:Int,ds=[.int c]/\Q (cX (j6 c))
theorem US(T:Txt K mg t):aI P w K mg base aV 1 t.zN t.zO ["_law_cell_here"] (bL (UR )):=by
 refine cP T.Jr zI ?_ ?_
 ·intro ds Q h
  obtain⟨c,rfl,q⟩:=h<;>rfl
 ·intro aA A outer s H E hr
  refine⟨_,(aG (bh (i:=1) zI.nd rfl (aH rfl) (Hc (ns:=[7,11,13,19,25,31,37,41,47,55,59,61,67,73,87,91,97,103,109,115,117]) (by decide +kernel)))
   (aG (bh (i:=2) zI.nd rfl (aH rfl) (Hc (ns:=[2,3,5,7,11,13,17,19,23,29,31,37,41,43,47,53,59,61]) (by decide +kernel)))
   (aG (cH (cu (eG (cA hr)) (af (aM e7 (bv 0) (af ao))) (af ao) (bE _)) (aJ (aZ (uU (bU dA (bU (eE (bV (bv 1) (af (aM e7 (af (aM u4 (bv 0) (af ao))) (af ao))) (λ_ _=>rfl))) fL))))) cG)
   (aJ (aZ (uU (bU dA (bU (eE (bV (bv 2) (af (aM e7 (af (aM u4 (bv 0) (af ao))) (af ao))) (λ_ _=>rfl))) fL)))))))),λds Q h=>?_⟩
  obtain⟨c,rfl,q⟩:=h
  refine aF λU hU=>?_
  walk_at"l3"
  refine⟨by decide,hU _ ?_⟩
  clear hU U
  refine aF λU hU=>?_
  walk_at"l3"
  refine⟨by decide,hU _ ?_⟩
  clear hU U
  refine aF λU hU=>?_
  walk_at"l3"
  refine⟨by decide,?_⟩
  have n1:=nI (c/2) (show(21:Int)≠0 by decide)
  have n2:=kz (c/2) (show(0:Int)<21 by decide)
  have n3:=nI (c/2) (show(18:Int)≠0 by decide)
  have n4:=kz (c/2) (show(0:Int)<18 by decide)
  split
  ·rename_i hc
   refine⟨u3 (by decide) (by decide),by decide,_,mG n1 (by simpa using n2),rfl,by decide,?_⟩
   have e:cX (j6 c)=.tup [.bl true,.int (([7,11,13,19,25,31,37,41,47,55,59,61,67,73,87,91,97,103,109,115,117]:List Int).getD (c/2%21).toNat 0)]:=by
    unfold j6 cX
    rw[if_pos hc]
    have:∀k:Nat,((dQ.getD k 0:Nat):Int)=([7,11,13,19,25,31,37,41,47,55,59,61,67,73,87,91,97,103,109,115,117]:List Int).getD k 0:=λk=>by
     show _=(dQ.map (λ(n:Nat)=>(n:Int))).getD k ((0:Nat):Int)
     rw[fE,fE,gy]
     cases dQ[k]?<;>rfl
    rw[<-this]
   rw[<-e];exact q
  ·rename_i hc
   refine hU _ ?_
   walk_at"l3"
   refine⟨u3 (by decide) (by decide),by decide,_,mG n3 (by simpa using n4),rfl,by decide,?_⟩
   have e:cX (j6 c)=.tup [.bl false,.int (([2,3,5,7,11,13,17,19,23,29,31,37,41,43,47,53,59,61]:List Int).getD (c/2%18).toNat 0)]:=by
    unfold j6 cX
    rw[if_neg hc]
    have:∀k:Nat,((eI.getD k 0:Nat):Int)=([2,3,5,7,11,13,17,19,23,29,31,37,41,43,47,53,59,61]:List Int).getD k 0:=λk=>by
     show _=(eI.map (λ(n:Nat)=>(n:Int))).getD k ((0:Nat):Int)
     rw[fE,fE,gy]
     cases eI[k]?<;>rfl
    rw[<-this]
   rw[<-e];exact q
noncomputable abbrev UT:bC:=λds Q=>∃(ns:List Int) (k:Int),ds=[.fz (aE ns),.int k]/\0<=k/\Q (.int (ns.getD k.toNat 0))
theorem qL(T:Txt K mg t):aI P w K mg base aV 1 t.zP t.zQ ["_law_script","_law_k"] (bL (UT )):=by
 refine cP T.m3 Tz ?_ ?_
 ·intro ds Q h
  obtain⟨ns,k,rfl,hk,q⟩:=h<;>rfl
 ·intro aA A outer s H E hr
  refine⟨_,(aG (cH (cu jL (bv 1) (af (jM (u6) (by rfl) T.wa uI (av (bv 0) aK))) (bE _)) (aJ (aZ (eE (bV (bv 0) (bv 1) (λ_ _=>rfl))))) cG)
   (aJ (aZ ao))),λds Q h=>?_⟩
  obtain⟨ns,k,rfl,hk,q⟩:=h
  refine aF λU hU=>?_
  walk_at"l3"
  split
  ·rename_i h
   exact⟨_,mG hk h,rfl,q⟩
  ·rename_i h
   refine hU _ ?_
   walk_at"l3"
   rw[fE,qV (by omega)]at q
   exact q
noncomputable abbrev UU:bC:=λds Q=>∃ns:List Int,ds=[.fz (aE ns)]/\∀(b:Bool) (n:Int),-2000000<=n->n<=20000000->Q (.tup [.bl b,.int n])
theorem UW(T:Txt K mg t):aI P w K mg base aV 2 t.zR t.zS ["_law_script"] (bL (UU )):=by
 refine cP T.Js zJ ?_ ?_
 ·intro ds Q h
  obtain⟨ns,rfl,q⟩:=h<;>rfl
 ·intro aA A outer s H E hr
  refine⟨_,(aG (cH (cu (eG (cA hr)) (af (aM e7 (af (ck ((qL T).mono (by decide)) hr rfl T.qv T.m3.kp T.qw bB (av (bv 0) (av (af ao) aK)))) (af ao))) (af ao) (bE _)) (aJ (aZ (ck ((US T).mono (by decide)) hr rfl T.TU T.Jr.kp T.TV bB (av (af (ck ((qL T).mono (by decide)) hr rfl T.qv T.m3.kp T.qw bB (av (bv 0) (av (af ao) aK)))) aK)))) cG)
   (aG (bh (i:=1) zJ.nd rfl (aH rfl) (aM e5 (af (aM e7 (af (ck ((qL T).mono (by decide)) hr rfl T.qv T.m3.kp T.qw bB (av (bv 0) (av (af ao) aK)))) (af ao))) (af ao)))
   (aG (cH (cu (eG (cA hr)) (af (aM e7 (af (aM u4 (af (ck ((qL T).mono (by decide)) hr rfl T.qv T.m3.kp T.qw bB (av (bv 0) (av (af ao) aK)))) (af ao))) (af ao))) (af ao) (bE _)) (aJ (bh (i:=1) zJ.nd rfl (aH rfl) (aM e5 (af (aM e7 (af (ck ((qL T).mono (by decide)) hr rfl T.qv T.m3.kp T.qw bB (av (bv 0) (av (af ao) aK)))) (af (aM yN (af ao) (af ao))))) (af (aM yN (af ao) (af ao)))))) cG)
   (aJ (aZ (uU (bU (gP (eG (cA hr)) (af (aM e7 (af (ck ((qL T).mono (by decide)) hr rfl T.qv T.m3.kp T.qw bB (av (bv 0) (av (af ao) aK)))) (af ao))) (af ao) (bE _)) (bU (em 1) fL)))))))),λds Q h=>?_⟩
  obtain⟨ns,rfl,q⟩:=h
  refine aF λU hU=>?_
  walk_at"l3"
  refine⟨ns,0,rfl,by decide,by decide,?_⟩
  split
  ·refine⟨ns,1,rfl,by decide,_,rfl,rfl,?_⟩
   have hm:=S4 (ns.getD (1:Int).toNat 0)
   generalize j6 (ns.getD (1:Int).toNat 0)=m at hm
   have:∀m∈aU,m.2<=127:=by decide
   have:=this m hm
   exact q m.1 m.2 (by omega) (by omega)
  ·refine hU _ ?_
   clear hU U
   refine aF λU hU=>?_
   walk_at"l3"
   refine⟨ns,1,rfl,by decide,by decide,hU _ ?_⟩
   clear hU U
   refine aF λU hU=>?_
   walk_at"l3"
   refine⟨ns,0,rfl,by decide,u3 (by decide) (by decide),by decide,?_⟩
   have fin:∀n:Int,-2000000<=n->n<=20000000->U [some (D.fz (aE ns)),some (D.int n)]:=by
    intro n h1 h2
    refine hU _ ?_
    clear hU U
    walk_at"l3"
    refine⟨ns,2,rfl,by decide,by decide,by decide,q _ n h1 h2⟩
   split
   ·refine⟨ns,1,rfl,by decide,⟨by decide,by decide,by decide⟩,by decide,⟨by decide,by decide,by decide⟩,fin _ ?_ ?_⟩
    ·have:=nI (ns.getD (1:Int).toNat 0) (show(10 ^ kC 7:Int)≠0 by decide)
     have e:(10:Int) ^ kC 6=1000000:=by decide
     omega
    ·have:=kz (ns.getD (1:Int).toNat 0) (show(0:Int)<10 ^ kC 7 by decide)
     have e:(10:Int) ^ kC 6=1000000:=by decide
     have e:(10:Int) ^ kC 7=10000000:=by decide
     omega
   ·exact fin _ (by omega) (by omega)
noncomputable abbrev UX(L:Obj->Obj->Addr->Addr->pq->Prop):bC:=λds Q=>∃(a:Nat) (of oc:Obj) (c k:Addr) (g:Nat->Nat->Nat) (l:List Int),ds=[.int a,.aL (.lam of oc c k)]/\L of oc c k (sT g)/\a<64/\zx g a=some l/\Q (.lst true (aE l))
theorem J9(T:Txt K mg t):aI P w K mg base aV 5 t.zT t.zU ["a","product"] (bL (UX (sN P w K mg base 4))):=by
 refine cP T.AJ vN ?_ ?_
 ·intro ds Q h
  obtain⟨a,of,oc,c,k,g,l,rfl,hL,ha,hp,q⟩:=h<;>rfl
 ·intro aA A outer s H E hr
  refine⟨_,(aG (bh (i:=2) vN.nd rfl (aH rfl) (jE (bU ao fL)))
   (aG (bh (i:=3) vN.nd rfl (aH rfl) (HN (n:=4) (i:=1) rfl (by first | exact aH rfl | exact cB (aH rfl)) (hr.mono (by decide)) (av (af ao) (av (bv 0) aK))))
   (aG (om gA (cu (gv (cA hr)) (bv 3) (af ao) (bE _))
    (aG (G8 (i:=2) rfl (by first | exact aH rfl | exact cB (aH rfl)) (eE (bv 3)))
    (aJ (bh (i:=3) vN.nd rfl (aH rfl) (HN (n:=4) (i:=1) rfl (by first | exact aH rfl | exact cB (aH rfl)) (hr.mono (by decide)) (av (bv 3) (av (bv 0) aK)))))))
   (aJ (aZ (em 2)))))),λds Q h=>?_⟩
  obtain⟨a,of,oc,c,k,g,l,rfl,hL,ha,hp,q⟩:=h
  refine aF λU hU=>?_
  walk_at"l3"
  refine⟨by decide,hU _ ?_⟩
  clear hU U
  refine aF λU hU=>?_
  walk_at"l3"
  refine⟨of,oc,c,k,sT g,rfl,hL,1,a,⟨rfl,rfl⟩,1,a,rfl,rfl,by decide,ha,hU _ ?_⟩
  clear hU U
  refine aF λU hU=>?_
  walk_at"l3"
  refine⟨λm δ=>∃(p:Nat) (acc:List Int),δ=[some (.int a),some (.aL (.lam of oc c k)),some (.lst true (aE acc)),some (.int p)]/\acc.length+m<=70/\vw g a m p acc=some l,⟨64,_,[1],rfl,by decide,hp⟩,?_⟩
  rintro m δ ⟨p,acc,rfl,hn,hg⟩
  walk_at"l3"
  cases m with
  | zero=>cases hg
  | succ m =>
   unfold vw at hg
   split at hg
   ·rename_i h1
    subst h1
    cases hg
    rw[if_neg (by simp)]
    refine hU _ ?_
    walk_at"l3"
    exact q
   ·rename_i h1
    rw[if_pos (by simp;omega)]
    split at hg
    ·rename_i h2
     clear hU
     refine aF λU hU=>?_
     walk_at"l3"
     refine⟨⟨_,rfl⟩,by omega,hU _ ?_⟩
     clear hU
     walk_at"l3"
     exact⟨of,oc,c,k,sT g,rfl,hL,p,a,⟨rfl,rfl⟩,p,a,rfl,rfl,h2,ha,m,by omega,g p a,acc++[(p:Int)],⟨by rw[<-mF];rfl,rfl⟩,by simp;omega,hg⟩
    ·cases hg
noncomputable abbrev UY(L:Obj->Obj->Addr->Addr->pq->Prop):bC:=λds Q=>∃(n:Nat) (of oc:Obj) (c k:Addr) (g:Nat->Nat->Nat) (l:List Int),ds=[.int n,.aL (.lam of oc c k)]/\L of oc c k (sT g)/\sS g n=some l/\Q (.lst true (aE l))
theorem UZ(T:Txt K mg t):aI P w K mg base aV 6 t.zV t.zW ["many","product"] (bL (UY (sN P w K mg base 4))):=by
 refine cP T.Jv s9 ?_ ?_
 ·intro ds Q h
  obtain⟨n,of,oc,c,k,g,l,rfl,hL,hp,q⟩:=h<;>rfl
 ·intro aA A outer s H E hr
  refine⟨_,(aG (bh (i:=2) s9.nd rfl (aH rfl) ao)
   (aG (bh (i:=3) s9.nd rfl (aH rfl) (ck ((J9 T).mono (by decide)) hr rfl T.Jt T.AJ.kp T.Ju bB (av (bv 2) (av (bv 1) aK))))
   (aG (om gA (cu jL (af (jM (u6) (by rfl) T.wa uI (av (bv 3) aK))) (af (aM e5 (bv 0) (af ao))) (bE _))
    (aG (uV (i:=2) s9.nd rfl (aH rfl) (af ao) QT)
    (aJ (bh (i:=3) s9.nd rfl (aH rfl) (ck ((J9 T).mono (by decide)) hr rfl T.Jt T.AJ.kp T.Ju bB (av (bv 2) (av (bv 1) aK)))))))
   (aJ (aZ (em 3)))))),λds Q h=>?_⟩
  obtain⟨n,of,oc,c,k,g,l,rfl,hL,hp,q⟩:=h
  unfold sS at hp
  split at hp
  ·rename_i l0 h0
   refine aF λU hU=>?_
   walk_at"l3"
   refine hU _ ?_
   clear hU U
   refine aF λU hU=>?_
   walk_at"l3"
   refine⟨1,of,oc,c,k,g,l0,rfl,hL,by decide,h0,hU _ ?_⟩
   clear hU U
   refine aF λU hU=>?_
   walk_at"l3"
   refine⟨λm δ=>∃(st:Nat) (l1:List Int),δ=[some (.int n),some (.aL (.lam of oc c k)),some (.int st),some (.lst true (aE l1))]/\st+m<=63/\vx g n m st l1=some l,⟨62,1,l0,rfl,by decide,hp⟩,?_⟩
   rintro m δ ⟨st,l1,rfl,hn,hg⟩
   walk_at"l3"
   cases m with
   | zero=>cases hg
   | succ m =>
    unfold vx at hg
    split at hg
    ·rename_i h1
     rw[if_pos (by omega)]
     split at hg
     ·rename_i l2 h2
      clear hU
      refine aF λU hU=>?_
      walk_at"l3"
      refine hU _ ?_
      clear hU
      walk_at"l3"
      exact⟨st+1,of,oc,c,k,g,l2,rfl,hL,by omega,h2,m,by omega,st+1,l2,⟨rfl,rfl⟩,by omega,hg⟩
     ·cases hg
    ·rename_i h1
     rw[if_neg (by omega)]
     cases hg
     refine hU _ ?_
     walk_at"l3"
     exact q
  ·cases hp
noncomputable abbrev U0:bC:=λds Q=>∃(l:List Int),ds=[.lst false (aE l)]/\l.length<=64/\(∀x∈l,0<=x/\x.toNat<=l.length)/\Q (.lst true (aE (du l)))
theorem U1(T:Txt K mg t):aI P w K mg base aV 1 t.zX t.zY ["powers"] (bL (U0 )):=by
 refine cP T.Jw zK ?_ ?_
 ·intro ds Q h
  obtain⟨l,rfl,hl,hx,q⟩:=h<;>rfl
 ·intro aA A outer s H E hr
  refine⟨_,(aG (bh (i:=1) zK.nd rfl (aH rfl) (aM u5 (af (jE (bU ao fL))) (af (aM iR (af (jM (u6) (by rfl) T.wa uI (av (bv 0) aK))) (af ao)))))
   (aG (sr gA rfl (RO rfl T.UI (av (bv 0) aK)) (RR (i1:=2) (i2:=3) rfl zK.nd rfl (aH rfl) rfl (aH rfl))
    (aJ (Q7 (i:=1) rfl (by first | exact aH rfl | exact cB (aH rfl)) (eE (bv 2)) (bv 3))))
   (aJ (aZ (em 1))))),λds Q h=>?_⟩
  obtain⟨l,rfl,hl,hx,q⟩:=h
  refine aF λU hU=>?_
  walk_at"l3"
  refine⟨by decide,⟨by omega,by omega,by omega⟩,hU _ ?_⟩
  clear hU U
  refine aF λU hU=>?_
  walk_at"l3"
  refine jH.mk (λi δ=>∃o1 o2,δ=[some (.lst false (aE l)),some (.lst true (aE (i6 l i))),o1,o2]) ⟨none,none,?_⟩ ?_ ?_
  ·rw[show((l.length:Int)+1).toNat=l.length+1 by omega];rfl
  ·rintro i d δ hd ⟨o1,o2,rfl⟩
   obtain⟨hi,rfl⟩:∃h:i<l.length,d=.tup [.int i,.int l[i]]:=by
    unfold fP aE at hd
    rw[LW,gy]at hd
    by_cases hi:i<l.length
    ·rw[dw hi]at hd
     simp at hd
     exact⟨hi,hd.symm⟩
    ·rw[qV (by omega)]at hd;simp at hd
   have cF:=hx l[i] (ud _)
   walk_at"l3"
   refine⟨_,(l[i]).toNat,rfl,?_,_,_,?_,rfl,rfl⟩
   ·unfold gI
    rw[iW,vy,if_pos cF.1,if_pos (by omega)]
   ·unfold aE
    rw[<-List.map_set]
    congr 1
    show _=(i6 l i).set (l.getD i 0).toNat (i:Int)
    rw[fE,dw hi];rfl
  ·rintro δ ⟨o1,o2,rfl⟩
   refine hU _ ?_
   simp only[lu,jG,ly,lz,dT,gO,iM,iN,dC,jz,jF,jD,jC,lj,lr,iU,mz,jQ,kX,kY,lb,lh,jB,mw,jN,jJ,lQ,jK,lR,lU,lV,lW,lZ,me,mf,iI,dO,mh,mi,mj,mm,oq,mr,mv,gN,mB,mx,lC,lF,lK,lL,lN,mC,mD,jI,iQ,dB,eY,eZ,nD,q0,q8,q9,fM,gQ,jO,mH,mJ,mK,mI,mL,mM,mO,iY,pb,jT,jS,pf,pd,pe,cU,hW,nG,km,fU,rf,aR,rh,rj,kA,kB,rk,exists_eq_left',exists_eq_left,D.bl.injEq,D.int.injEq,D.lst.injEq,D.fz.injEq,D.str.injEq,D.tup.injEq,rl,and_true,true_and,de,nF,jh,ie,oy,oz,oA,oB,oE,oF,fI,gL,jR,oK,oM,oN,oO,oQ,eD,gM,oG,oH,oI,oJ,fw,jy,rm,rn,fi,rp,rq,rz,nz,oX,oY,oZ,o3,o4,o5,o6,iW,oS,mE,iX,mF,oU,oR,oV,oW,eH,if_true,jg,if_false,reduceIte,o7,decide_eq_true_eq,lD,mR,j5,mV,mP,jX,jY,j0,mU,mW,dJ,mX,mY,mZ,vj]
   exact q
noncomputable abbrev AV(K:Frag):bC:=λds Q=>∃(C:Addr) (ns:List Str) (xs:List D) (n:Int) (many:Nat) (l:List Int) (r:Int),ds=[.obj C ns xs,.int n]/\cJ K C/\bF K C "powers"/\bF K C "many"/\(ns.zip xs).lookup ("powers":Str)=some (.lst false (aE l))/\(ns.zip xs).lookup ("many":Str)=some (.int many)/\2<=many/\l[(n%((many:Int)-1)).toNat]?=some r/\Q (.int r)
theorem AW(T:Txt K mg t):aI P w K mg base aV 1 t.tu t.zZ ["self","n"] (bL (AV K)):=by
 refine cP T.T5 TB ?_ ?_
 ·intro ds Q h
  obtain⟨C,ns,xs,n,many,l,r,rfl,hC,h1,h2,h3,h4,h5,h6,q⟩:=h<;>rfl
 ·intro aA A outer s H E hr
  refine⟨_,(aJ (aZ (eE (bV (fQ (K:=K) (bv 0)) (af (aM e7 (bv 1) (af (aM e5 (fQ (K:=K) (bv 0)) (af ao))))) (λ_ _=>rfl))))),λds Q h=>?_⟩
  obtain⟨C,ns,xs,n,many,l,r,rfl,hC,h1,h2,h3,h4,h5,h6,q⟩:=h
  walk_at"l3"
  refine⟨C,ns,xs,_,rfl,hC,h1,h3,C,ns,xs,_,rfl,hC,h2,h4,?_⟩
  refine⟨by omega,_,rR (d:=.int r) (nI _ (by omega)) ?_,rfl,q⟩
  unfold aE
  rw[gy,h6];rfl
theorem U2(T:Txt K mg t){m:Bool × Nat}(hm:m∈aU){n:Int}{Q:D->Prop}(q:Q (.int (eS m n:Nat))):IU P w K mg base 1 t.aB t.aD m "step_power" [.int n] Q:=by
 have hF:=dR hm
 have hl:=Tf hm n
 obtain⟨k,b⟩:=m
 cases k with
 | true=>exact⟨_,_,_,AV K,rfl,⟨T.dU,_,_,_,T.qC,AW T,T.AK⟩,by decide,_,_,_,_,ak (true,b),fl (true,b),_,rfl,T.dU,T.m6,T.j7,rfl,rfl,hF.lo,hl,q⟩
 | false=>exact⟨_,_,_,AV K,rfl,⟨T.ff,_,_,_,T.qI,AW T,T.AK⟩,by decide,_,_,_,_,ak (false,b),fl (false,b),_,rfl,T.ff,T.qF,T.j8,rfl,rfl,hF.lo,hl,q⟩
noncomputable abbrev U3(P:Program)(w:World)(K:Frag)(mg:Str->Option Value)(base:Heap)(fs:Addr):Sp:=λvs H Q _=>∃(x dx f C:Addr) (b:Str) (n0:Int) (many:Nat) (of oc:Obj) (c k:Addr) (g:Nat->Nat->Nat) (l:List Int) (st:Int),
 vs=[.ref x,.int many,.ref f]/\H x=some (.ins C dx [(b,.int n0)])/\(∀n∈(["many","wide","powers","logs","step","step_power"]:List Str),b≠n)/\SG K C fs/\eC H f of oc c k/\sN P w K mg base 4 of oc c k (sT g)/\Ik g many l st /\
 ∀H' p1 p2,cw x H H'->H' x=some (.ins C dx ((ek b).zip (vA n0 many p1 p2 st)))->LI H' p1 l->LI H' p2 (du l)->p1≠p2->H p1=none->H p2=none->Q .ai H'
theorem Ka(T:Txt K mg t):aI P w K mg base aV 7 t.z0 t.z4 ["self","many","product"] (U3 P w K mg base t.tu):=by
 refine T.T6.ok TC (λvs H Q E h=>?_) λaA A outer s H vs Q E hr h=>?_
 ·obtain⟨x,dx,f,C,b,n0,many,of,oc,c,k,g,l,st,rfl,_⟩:=h;rfl
 obtain⟨x,dx,f,C,b,n0,many,of,oc,c,k,g,l,st,rfl,hx,hb,hC,U4,hL,hF,q⟩:=h
 refine⟨_,gh (jn (pv 0) (pv 1) rfl) (gh (jn (pv 0) (uw xU (yi (pv 1)) rG) rfl)
  (gh (jn (pv 0) (kP ((UZ T).mono (by decide)) hr rfl T.TZ T.Jv.kp T.T1 .nil bB (cN (pv 1) (cN (pv 2) eO))) rfl)
  (gh (jn (pv 0) (kP ((U1 T).mono (by decide)) hr rfl T.T3 T.Jw.kp T.T4 .nil bB (cN (uC (pv 0) rfl) eO)) rfl)
  (nQ (jn (pv 0) (NX (pv 0) hC.cls hC.sp ((AW T).mono (by decide)) hr T.AK .nil bB (cN rG eO)) rfl))))),?_⟩
 have nb:∀n∈(["many","wide","powers","logs","step","step_power"]:List Str),b≠n:=hb
 refine⟨.int many,rfl,.ref x,rfl,x,C,dx,_,rfl,hx,hC.cls,hC.many,kr (bH 1) (by decide),?_⟩
 rw[pE (by simpa using nb "many" (by simp))]
 generalize e1:upd H x (HO.ins C dx ([(b,V.int n0)]++[(("many":Str),V.int many)]))=H1
 have cF:H1 x=some (.ins C dx [(b,V.int n0),(("many":Str),V.int many)]):=by rw[<-e1,bj];rfl
 have s1:cw x H H1:=by rw[<-e1];exact cw.upd (C:=C) (dx:=dx) hx rfl
 have l1:eC H1 f of oc c k:=by rw[<-e1];exact U4.sU hx
 have n1:∀p,H1 p=none->H p=none:=λp h=>sV hx (by rw[e1];exact h)
 refine⟨_,rfl,rfl,_,rfl,rfl,_,_,rfl,rfl,.ref x,rfl,x,C,dx,_,rfl,cF,hC.cls,hC.wide,kr (bH 2) (by decide),?_⟩
 rw[pE (by simp;exact⟨nb "wide" (by simp),by decide⟩),df]
 generalize e2:upd H1 x (HO.ins C dx ([(b,V.int n0),(("many":Str),V.int many)]++[(("wide":Str),V.int ((bl many:Nat)-1))]))=H2
 have dr:H2 x=some (.ins C dx [(b,V.int n0),(("many":Str),V.int many),(("wide":Str),V.int ((bl many:Nat)-1))]):=by rw[<-e2,bj];rfl
 have s2:cw x H H2:=by rw[<-e2];exact s1.trans (cw.upd (C:=C) (dx:=dx) cF rfl)
 have l2:eC H2 f of oc c k:=by rw[<-e2];exact l1.sU cF
 have n2:∀p,H2 p=none->H p=none:=λp h=>n1 p (sV cF (by rw[e2];exact h))
 refine⟨_,rfl,_,rfl,H2,[.int many,.aL (.lam of oc c k)],λd=>d=.lst true (aE l),aa.refl _,.int (.aL l2 .nil),⟨many,of,oc,c,k,g,l,rfl,hL,hF.step,rfl⟩,λd v F' H3 A' hd hs hf he h3 r nd fr=>?_⟩
 subst hd
 obtain⟨p1,rfl,U5,tM⟩:=Ij r fr
 have g8:=hs.get _ _ dr
 have s3:=s2.trans (hs.x (x:=x))
 refine⟨.ref x,rfl,x,C,dx,_,rfl,g8,hC.cls,hC.zy,kr (bH 3) (by decide),?_⟩
 rw[pE (by simp;exact⟨nb "powers" (by simp),by decide,by decide⟩)]
 generalize e4:upd H3 x (HO.ins C dx ([(b,V.int n0),(("many":Str),V.int many),(("wide":Str),V.int ((bl many:Nat)-1))]++[(("powers":Str),V.ref p1)]))=H4
 have j9:H4 x=some (.ins C dx [(b,V.int n0),(("many":Str),V.int many),(("wide":Str),V.int ((bl many:Nat)-1)),(("powers":Str),V.ref p1)]):=by rw[<-e4,bj];rfl
 have s4:cw x H H4:=by rw[<-e4];exact s3.trans (cw.upd (C:=C) (dx:=dx) g8 rfl)
 have p4:LI H4 p1 l:=by rw[<-e4];exact U5.upd g8 (λws z=>by cases z)
 have n4:∀p,H4 p=none->H p=none:=λp h=>n2 p (hs.free (sV g8 (by rw[e4];exact h)))
 refine⟨.ref x,rfl,x,C,dx,_,.ref p1,rfl,j9,hC.cls,hC.zy,by rw[vB (nb "powers" (by simp))];rfl,H4,[.lst false (aE l)],λd=>d=.lst true (aE (du l)),aa.refl _,.shr p4 (gw l) .nil,⟨l,rfl,by have:=hF.len;have:=hF.hi;omega,hF.ins,rfl⟩,λd v F' H5 A' hd ka hf he h3 r nd fr=>?_⟩
 subst hd
 obtain⟨p2,rfl,Kb,nj⟩:=Ij r fr
 have g9:=ka.get _ _ j9
 have s5:=s4.trans (ka.x (x:=x))
 have U6:p1≠p2:=λz=>by rw[<-z]at nj;unfold LI at p4;rw[nj]at p4;cases p4
 refine⟨.ref x,rfl,x,C,dx,_,rfl,g9,hC.cls,hC.SH,kr (bH 4) (by decide),?_⟩
 rw[pE (by simp;exact⟨nb "logs" (by simp),by decide,by decide,by decide⟩)]
 generalize e6:upd H5 x (HO.ins C dx ([(b,V.int n0),(("many":Str),V.int many),(("wide":Str),V.int ((bl many:Nat)-1)),(("powers":Str),V.ref p1)]++[(("logs":Str),V.ref p2)]))=H6
 have AX:H6 x=some (.ins C dx (([b,"many","wide","powers","logs"]:List Str).zip [V.int n0,V.int many,V.int ((bl many:Nat)-1),V.ref p1,V.ref p2])):=by rw[<-e6,bj];rfl
 have s6:cw x H H6:=by rw[<-e6];exact s5.trans (cw.upd (C:=C) (dx:=dx) g9 rfl)
 have p6:LI H6 p1 l:=by rw[<-e6];exact(p4.same ka).upd g9 (λws z=>by cases z)
 have q6:LI H6 p2 (du l):=by rw[<-e6];exact Kb.upd g9 (λws z=>by cases z)
 refine⟨.ref x,rfl,x,dx,_,rfl,AX,by show hJ ("step_power":Str) ((b,V.int n0)::_)=none;rw[vB (nb "step_power" (by simp))];rfl,H6,[.obj C [b,"many","wide","powers","logs"] [.int n0,.int many,.int ((bl many:Nat)-1),.lst false (aE l),.lst false (aE (du l))],.int 1],λd=>d=.int st,aa.refl _,
  .obj AX rfl (.int (.int (.int (.shr p6 (gw l) (.shr q6 (gw _) .nil))))) (.int .nil),⟨C,_,_,1,many,l,st,rfl,hC.cls,hC.zy,hC.many,by show hJ ("powers":Str) ((b,D.int n0)::_)=_;rw[vB (nb "powers" (by simp))];rfl,by show hJ ("many":Str) ((b,D.int n0)::_)=_;rw[vB (nb "many" (by simp))];rfl,hF.lo,hF.st,rfl⟩,λd v F' H7 A' hd wb hf he h3 r nd fr=>?_⟩
 subst hd
 cases r
 have wc:=wb.get _ _ AX
 refine⟨.ref x,rfl,x,C,dx,_,rfl,wc,hC.cls,hC.step,kr (bH 5) (by decide),?_⟩
 rw[pE (by simp;exact⟨nb "step" (by simp),by decide,by decide,by decide,by decide⟩)]
 refine q _ p1 p2 ((s6.trans (wb.x (x:=x))).trans (cw.upd (C:=C) (dx:=dx) wc rfl)) (by rw[bj];rfl) ((p6.same wb).upd wc (λws z=>by cases z)) ((q6.same wb).upd wc (λws z=>by cases z)) U6 (n2 p1 tM) (n4 p2 nj)
noncomputable abbrev U7:bC:=λds Q=>∃a:Int,ds=[.int a]/\Q (.bl (decide (2<=a)&&decide (a<=61)&&(aT (a.toNat-2)).all λi=>a%(2+(i:Int)) != 0))
theorem Kd(T:Txt K mg t):aI P w K mg base aV 1 t.z5 t.z6 ["prime"] (bL (U7 )):=by
 refine cP T.AL TF ?_ ?_
 ·intro ds Q h
  obtain⟨a,rfl,q⟩:=h<;>rfl
 ·intro aA A outer s H E hr
  refine⟨_,(aJ (aZ (eX (af (sG iT iT (af ao) (bv 0) (af ao))) (gE (jM (u7 rfl) (by rfl) T.v9 uJ (av (af (sC [("prime",0)] ["d"] rfl (lM rfl T.ja (av (af ao) (av (bv 0) aK))) (λ_ _ _ _=>(gR (i:=1) (show(["prime","d"]:List Str).Nodup by decide +kernel) rfl (aH (lookup_relabel_local rfl)) (by decide) (cB (lookup_relabel_local rfl)))) (λ_ _ _ _=>uZ) (λ_ _ _ _=>(gP (gv (cA hr)) (af (aM e7 (bv 0) (bv 1))) (af ao) (bE _))) rfl ⟨rfl,trivial⟩ (by repeat' (first | exact trivial | refine⟨.inl rfl,?_⟩ | refine⟨.inr (.inl rfl),?_⟩ | refine⟨.inr (.inr ⟨_,rfl⟩),?_⟩)) ⟨⟨rfl,.inl rfl,.inl rfl,_,rfl,rfl⟩,trivial⟩ (by decide +kernel) rfl (by decide +kernel))) aK)))))),λds Q h=>?_⟩
  obtain⟨a,rfl,q⟩:=h
  walk_at"l3"
  split
  ·rename_i h1
   split
   ·rename_i h2
    refine⟨2,a,⟨rfl,rfl⟩,⟨by decide,by decide,by omega,by omega⟩,?_⟩
    have e0:(a-2).toNat=a.toNat-2:=by omega
    rw[e0]
    refine vk (aT (a.toNat-2)) (λ(k:Nat)=>D.int (2+(k:Int))) (λ(k:Nat)=>D.bl (a%(2+(k:Int)) != 0)) (by rw[lH]) (λx y h=>by injection h with h;omega) (λk hk=>?_) (.inr λ_ _=>rfl) (by rw[nJ,sL];omega) ?_
    ·walk_at"l3"
     refine⟨by omega,?_⟩
     by_cases z:a%(2+(k:Int))=0<;>simp[z]
    ·refine⟨(aT (a.toNat-2)).map λ(k:Nat)=>a%(2+(k:Int)) != 0,?_,?_⟩
     ·unfold ow;rw[ky];rfl
     ·have e:(decide (2<=a)&&decide (a<=61)&&(aT (a.toNat-2)).all λi=>a%(2+(i:Int)) != 0)=((aT (a.toNat-2)).map λ(k:Nat)=>a%(2+(k:Int)) != 0).all id:=by
       simp[h1,h2,qU]
      rw[<-e];exact q
   ·rename_i h2
    have e:(decide (2<=a)&&decide (a<=61)&&(aT (a.toNat-2)).all λi=>a%(2+(i:Int)) != 0)=false:=by simp[h2]
    rw[e]at q;exact q
  ·rename_i h1
   have e:(decide (2<=a)&&decide (a<=61)&&(aT (a.toNat-2)).all λi=>a%(2+(i:Int)) != 0)=false:=by simp[h1]
   rw[e]at q;exact q
noncomputable abbrev U8:List D->List Str->List D->Prop:=λds ns xs=>∃p:Nat,ds=[.int p]/\p∈eI/\ns=ek "prime"/\xs=[.int p,.int p,.int ((bl p:Nat)-1),.lst true (aE (fl (false,p))),.lst true (aE (du (fl (false,p)))),.int (fst (false,p))]
theorem U9(T:Txt K mg t)(hB:Bm mg base):aI P w K mg base aV 8 t.vR t.tw ["self","prime"] (zw [t.fR,t.fS] t.aD U8):=by
 refine Ig T.JA T.Uy Jl (λvs H Q E h=>?_) λA outer s H vs Q E hr h=>?_
 ·obtain⟨x,dx,bN,ds,ns,xs,rfl,_,_,r,⟨p,rfl,_⟩,_⟩:=h
  have:=r.length
  simp at this
  simp[this]
 obtain⟨x,dx,bN,ds,ns,xs,rfl,tb,hx,r,⟨p,rfl,hp,rfl,rfl⟩,q⟩:=h
 obtain rfl:bN=[.int p]:=by
  cases r with
  | int r=>cases r;rfl
 have hm:(false,p)∈aU:=dm _ (xq hp)
 have hF:=dR hm
 refine⟨_,gh (xH (xF (xD (kP ((Kd T).mono (by decide)) hr rfl T.Jy T.AL.kp T.Jz .nil bB (cN (pv 1) eO)))) (nQ EL) um)
  (gh (jn (pv 0) (pv 1) rfl)
  (nQ (xG (HX (E:=E0) (i:=1) T.J2 ((Ka T).mono (by decide)) hr T.Jx rfl T.nh rfl rfl rfl rfl (cN (pv 0) (cN (pv 1) (cN (HP rfl rfl T.Uz hB) eO))))))),?_⟩
 refine⟨_,rfl,H,[.int p],λd=>d=.bl true,aa.refl _,.int .nil,⟨p,rfl,by rw[SJ p hp]⟩,λd v F' H1 A1 hd nk hf he h3 r nd fr=>?_⟩
 subst hd
 cases r
 refine⟨true,rfl,?_⟩
 refine jt ?_
 have cF:=nk.get _ _ hx
 refine⟨.int p,rfl,.ref x,rfl,x,t.aD,dx,_,rfl,cF,T.ff,T.m8,by decide,?_⟩
 generalize e2:upd H1 x (HO.ins t.aD dx (dk "prime" (.int p) []))=H2
 have dr:H2 x=some (.ins t.aD dx [(("prime":Str),.int p)]):=by rw[<-e2,bj];rfl
 have s2:cw x H H2:=by rw[<-e2];exact(nk.x (x:=x)).trans (cw.upd (C:=x) (dx:=dx) cF rfl)
 have n2:∀p,H2 p=none->H p=none:=λp h=>nk.free (sV cF (by rw[e2];exact h))
 obtain⟨ps,hP⟩:=tb t.fR (by simp)
 obtain⟨more,AY⟩:=s2.tb _ ps hP
 refine⟨.ref x,rfl,.int p,rfl,⟨_,AY⟩,λf k qn pm fc H3 nf AZ hk kf jb Va=>?_⟩
 refine⟨f,_,_,.int p,AZ,rfl,rfl,λoc u eL hu nc jW=>?_⟩
 obtain⟨tm,rfl⟩:∃tm,u=qP p tm:=hu
 have g8:=jb.get _ _ dr
 refine⟨x,dx,f,t.aD,"prime",p,p,_,oc,_,k,gm (false,p),fl (false,p),fst (false,p),rfl,sW g8 (λz=>by rw[z,nf]at dr;cases dr) nc,by decide,⟨T.ff,T.j8,T.qH,T.qF,T.qE,T.qG,T.qI⟩,Im jW nc hk kf,?_,hF,λH' p1 p2 sx cW A6 uG ne tM nj=>?_⟩
 ·refine Ic (n:=3) ⟨rfl,rfl,rfl,by decide,rfl,rfl,by decide,by decide,rfl⟩ eL (λu1 u2=>rfl) λq f A outer s H E hr=>?_
  refine⟨_,aM e7 (af (aM u5 (bv 0) (bv 1))) (bv 2),λi j Qd h=>?_⟩
  obtain⟨a,b,rfl,rfl,ha,hb,hq⟩:=h
  walk_at"l3"
  have hp0:2<=p:=hF.lo
  refine⟨uz.ok (.inr ⟨by omega,by omega⟩),by omega,?_⟩
  have e:((gm (false,p) a b:Nat):Int)=(a:Int)*b%p:=by
   show((a*b%p:Nat):Int)=_
   rw[qZ,Int.natCast_mul]
  rw[<-e];exact hq
 ·have gf:H' f=some (.ext (fv _ oc _ f)):=sx.get f _ (λz=>by rw[z]at nf;rw[nf]at dr;cases dr) (by rw[az jW.symm,bj]) rfl
  have gc:=sx.get _ _ (cE g8 nc).symm bj rfl
  refine⟨gf,gc,?_⟩
  refine q _ (vA p p p1 p2 (fst (false,p))) [p1,p2] (s2.trans (Il jb nf nc sx)) ?_ rfl ?_ (by simp[ne]) (λa ha=>?_)
  ·rw[ef (λz=>by rw[z,gf]at cW;cases cW) (λz=>by rw[z,gc]at cW;cases cW)];exact cW
  ·exact .int (.int (.int (.own (A6.rem gf gc) rfl (gw _) (.own (uG.rem gf gc) rfl (gw _) (.int .nil)))))
  ·simp at ha
   rcases ha with rfl | rfl
   ·exact n2 _ (vC jb tM)
   ·exact n2 _ (vC jb nj)
noncomputable abbrev Vb:bC:=λds Q=>∃(l g:List Int),ds=[.lst false (aE l),.lst false (aE g)]/\1<=l.length/\l.length<=63/\g.length=l.length+1/\(∀x∈g,0<=x)/\Q (.lst true (j3 l g))
theorem Vc(T:Txt K mg t):aI P w K mg base aV 1 t.z7 t.z8 ["powers","logs"] (bL (Vb )):=by
 refine cP T.JC vO ?_ ?_
 ·intro ds Q h
  obtain⟨l,g,rfl,h1,h2,h3,h4,q⟩:=h<;>rfl
 ·intro aA A outer s H E hr
  refine⟨_,(aG (bh (i:=2) vO.nd rfl (cB rfl) (aM iR (af (jM (u6) (by rfl) T.wa uI (av (bv 0) aK))) (af ao)))
   (aG (bh (i:=3) vO.nd rfl (aH rfl) (jE (bU (aM u5 (af (jE (bU ao fL))) (bv 2)) fL)))
   (aG (sr gA rfl (lM rfl T.ja (av (af ao) (av (bv 2) aK))) (gR (i:=4) vO.nd rfl (cB rfl))
    (aJ (G8 (i:=3) rfl (by first | exact aH rfl | exact cB (aH rfl)) (aM iR (af (jE (bU ao fL))) (af (sC [("powers",0),("many",2),("logs",1),("a",4)] ["b"] rfl (lM rfl T.ja (av (af ao) (av (bv 2) aK))) (λ_ _ _ _=>(gR (i:=4) (show(["powers","many","logs","a","b"]:List Str).Nodup by decide +kernel) rfl (aH (lookup_relabel_local rfl)) (by decide) (cB (lookup_relabel_local rfl)))) (λ_ _ _ _=>uZ) (λ_ _ _ _=>(eE (bV (bv 0) (af (aM e7 (af (aM iR (bV (bv 2) (bv 3) (λ_ _=>rfl)) (bV (bv 2) (bv 4) (λ_ _=>rfl)))) (af (aM e5 (bv 1) (af ao))))) (λ_ _=>rfl)))) rfl ⟨rfl,⟨rfl,⟨rfl,⟨rfl,trivial⟩⟩⟩⟩ (by repeat' (first | exact trivial | refine⟨.inl rfl,?_⟩ | refine⟨.inr (.inl rfl),?_⟩ | refine⟨.inr (.inr ⟨_,rfl⟩),?_⟩)) ⟨⟨rfl,.inl rfl,.inl rfl,_,rfl,rfl⟩,⟨⟨rfl,.inl rfl,.inl rfl,_,rfl,rfl⟩,⟨⟨rfl,.inl rfl,.inl rfl,_,rfl,rfl⟩,⟨⟨rfl,.inl rfl,.inl rfl,_,rfl,rfl⟩,trivial⟩⟩⟩⟩ (by decide +kernel) rfl (by decide +kernel)))))))
   (aJ (aZ (em 3)))))),λds Q h=>?_⟩
  obtain⟨l,g,rfl,h1,h2,h3,h4,q⟩:=h
  refine aF λU hU=>?_
  walk_at"l3"
  refine hU _ ?_
  clear hU U
  refine aF λU hU=>?_
  walk_at"l3"
  refine⟨by decide,⟨by omega,by omega,by omega⟩,by decide,hU _ ?_⟩
  clear hU U
  refine aF λU hU=>?_
  walk_at"l3"
  refine⟨1,(l.length:Int)+1,⟨rfl,rfl⟩,⟨by decide,by decide,by omega,by omega⟩,?_⟩
  have en:((l.length:Int)+1-1).toNat=l.length:=by omega
  rw[en]
  refine jH.mk (λi δ=>∃o,δ=[some (.lst false (aE l)),some (.lst false (aE g)),some (.int ((l.length:Int)+1)),some (.lst true (pB l g (i+1))),o]) ⟨none,?_⟩ ?_ ?_
  ·rw[show((l.length:Int)+1).toNat=l.length+1 by omega];rfl
  ·rintro i d δ hd ⟨o,rfl⟩
   obtain⟨hi,rfl⟩:i<l.length/\d=.int (1+(i:Int)):=by
    rw[gy]at hd
    by_cases hi:i<l.length
    ·rw[xj hi]at hd
     exact⟨hi,(cR hd).symm⟩
    ·rw[qV (by simpa using hi)]at hd;cases hd
   walk_at"l3"
   refine⟨⟨_,rfl⟩,by decide,1,(l.length:Int)+1,⟨rfl,rfl⟩,⟨by decide,by decide,by omega,by omega⟩,?_⟩
   rw[en]
   refine vk (aT l.length) (λ(k:Nat)=>D.int (1+(k:Int))) (λ(k:Nat)=>D.int (l.getD ((g.getD (i+1) 0+g.getD (k+1) 0)%(l.length:Int)).toNat 0)) (by rw[lH]) (λx y h=>by injection h with h;omega) (λk hk=>?_) (.inr λ_ _=>rfl) (by rw[nJ,sL];omega) ?_
   ·have Gf:=fg.mp hk
    walk_at"l3"
    have e1:(1+(i:Int)).toNat=i+1:=by omega
    have e2:(1+(k:Int)).toNat=k+1:=by omega
    have e3:(l.length:Int)+1-1=l.length:=by omega
    have n0:=nI (g.getD (i+1) 0+g.getD (k+1) 0) (show(l.length:Int)≠0 by omega)
    have n1:=kz (g.getD (i+1) 0+g.getD (k+1) 0) (show(0:Int)<l.length by omega)
    refine⟨_,mG (by omega) (by omega),_,mG (by omega) (by omega),?_⟩
    rw[e1,e2,e3]
    exact⟨by omega,_,mG n0 n1,rfl,rfl⟩
   ·walk_at"l3"
    refine⟨⟨by simp;omega,by rw[qU,cV];intro x _;rfl⟩,by simp[pB];omega,_,?_,rfl⟩
    unfold pB
    rw[List.range_succ (n:=i+1),ue]
    congr 1
    show _=[D.lst true (aE (vz l g (i+1)))]
    unfold vz
    rw[if_neg (by omega)]
    unfold aE
    rw[cU,ky];rfl
  ·rintro δ ⟨o,rfl⟩
   refine hU _ ?_
   simp only[lu,jG,ly,lz,dT,gO,iM,iN,dC,jz,jF,jD,jC,lj,lr,iU,mz,jQ,kX,kY,lb,lh,jB,mw,jN,jJ,lQ,jK,lR,lU,lV,lW,lZ,me,mf,iI,dO,mh,mi,mj,mm,oq,mr,mv,gN,mB,mx,lC,lF,lK,lL,lN,mC,mD,jI,iQ,dB,eY,eZ,nD,q0,q8,q9,fM,gQ,jO,mH,mJ,mK,mI,mL,mM,mO,iY,pb,jT,jS,pf,pd,pe,cU,hW,nG,km,fU,rf,aR,rh,rj,kA,kB,rk,exists_eq_left',exists_eq_left,D.bl.injEq,D.int.injEq,D.lst.injEq,D.fz.injEq,D.str.injEq,D.tup.injEq,rl,and_true,true_and,de,nF,jh,ie,oy,oz,oA,oB,oE,oF,fI,gL,jR,oK,oM,oN,oO,oQ,eD,gM,oG,oH,oI,oJ,fw,jy,rm,rn,fi,rp,rq,rz,nz,oX,oY,oZ,o3,o4,o5,o6,iW,oS,mE,iX,mF,oU,oR,oV,oW,eH,if_true,jg,if_false,reduceIte,o7,decide_eq_true_eq,lD,mR,j5,mV,mP,jX,jY,j0,mU,mW,dJ,mX,mY,mZ,nv,nJ]
   exact q
theorem Vd{x k:Nat}{j:Int}(h:j=(k:Int)):(x:Int)*2 ^ j.toNat=((x <<< k:Nat):Int):=by rw[h,kR]
noncomputable abbrev Ve(t:gq):fb:=λds Q Ex=>∃a b:Nat,ds=[.int a,.int b]/\bl a<=1000000/\bl b<=1000000/\(b=0->Ex t.bW)/\(b≠0->∀q r:Nat,a=cl q b ^^^ r->bl r<bl b->Q (.tup [.int q,.int r]))
theorem Ke(T:Txt K mg t):aI P w K mg base (d9 P w) 1 t.z9 t.Aa ["a","b"] (fA (Ve t )):=by
 refine sI T.AM pZ ?_ ?_
 ·intro ds Q Ex h
  obtain⟨a,b,rfl,ha,hb,qx,q⟩:=h<;>rfl
 ·intro aA A outer s H E hr
  refine⟨_,(aG (cH (cu (eG (cA hr)) (bv 1) (af ao) (bE _)) (aJ (vh T.J6 rfl (by rfl) (av (af jA) aK))) cG)
   (aG (bh (i:=2) pZ.nd rfl (aH rfl) ao)
   (aG (bh (i:=3) pZ.nd rfl (aH rfl) (em 0))
   (aG (Rl (om gA (cu yQ (af (e8 (bv 3))) (af (e8 (bv 1))) (bE _))
    (aG (bh (i:=4) pZ.nd rfl (aH rfl) (aM e5 (af (e8 (bv 3))) (af (e8 (bv 1)))))
    (aG (uV (i:=2) pZ.nd rfl (aH rfl) (af (aM lY (af ao) (bv 4))) yP)
    (aJ (uV (i:=3) pZ.nd rfl (aH rfl) (af (aM lY (bv 1) (bv 4))) yP))))))
   (aJ (aZ (uU (bU (em 2) (bU (em 3) fL))))))))),λds Q Ex h=>?_⟩
  obtain⟨a,b,rfl,ha,hb,qx,q⟩:=h
  refine aF λU hU=>?_
  walk_at"l3"
  split
  ·rename_i h0
   exact⟨by decide,qx (by omega)⟩
  ·rename_i h0
   have b0:b≠0:=by omega
   refine hU _ ?_
   clear hU U
   refine aF λU hU=>?_
   walk_at"l3"
   refine hU _ ?_
   clear hU U
   refine aF λU hU=>?_
   walk_at"l3"
   refine hU _ ?_
   clear hU U
   refine aF λU hU=>?_
   walk_at"l3"
   refine⟨λm δ=>∃(x r:Nat) (o sh:Option D),δ=[o,some (.int b),some (.int (x:Nat)),some (.int (r:Nat)),sh]/\a=cl x b ^^^ r/\bl r<=bl a/\m=bl r,
    ⟨bl a,0,a,_,none,rfl,by rw[iz,ib],bH _,rfl⟩,?_⟩
   rintro m δ ⟨x,r,o,sh,rfl,inv,Vf,rfl⟩
   simp only[lu,jG,ly,lz,dT,gO,iM,iN,dC,jz,jF,jD,jC,lj,lr,iU,mz,jQ,kX,kY,lb,lh,jB,mw,jN,jJ,lQ,jK,lR,lU,lV,lW,lZ,me,mf,iI,dO,mh,mi,mj,mm,oq,mr,mv,gN,mB,mx,lC,lF,lK,lL,lN,mC,mD,jI,iQ,dB,eY,eZ,nD,q0,q8,q9,fM,gQ,jO,mH,mJ,mK,mI,mL,mM,mO,iY,pb,jT,jS,pf,pd,pe,cU,hW,nG,km,fU,rf,aR,rh,rj,kA,kB,rk,exists_eq_left',exists_eq_left,D.bl.injEq,D.int.injEq,D.lst.injEq,D.fz.injEq,D.str.injEq,D.tup.injEq,rl,and_true,true_and,de,nF,jh,ie,oy,oz,oA,oB,oE,oF,fI,gL,jR,oK,oM,oN,oO,oQ,eD,gM,oG,oH,oI,oJ,fw,jy,rm,rn,fi,rp,rq,rz,nz,oX,oY,oZ,o3,o4,o5,o6,iW,oS,mE,iX,mF,oU,oR,oV,oW,eH,if_true,jg,if_false,reduceIte,o7,decide_eq_true_eq,lD,mR,j5,mV,mP,jX,jY,j0,mU,mW,dJ,mX,mY,mZ,df]
   split
   ·rename_i hc
    have hle:bl b<=bl r:=by omega
    have rX:=yf b0 hle
    have es:(((bl r:Nat):Int)-((bl b:Nat):Int))=((bl r-bl b:Nat):Int):=by omega
    clear hU
    refine aF λU hU=>?_
    walk_at"l3"
    simp only[df,es]
    refine hU _ ?_
    clear hU
    refine aF λU hU=>?_
    walk_at"l3"
    have o1:bl (1:Int).natAbs=1:=by decide
    refine⟨⟨by omega,by omega⟩,hU _ ?_⟩
    clear hU
    simp only[lu,jG,ly,lz,dT,gO,iM,iN,dC,jz,jF,jD,jC,lj,lr,iU,mz,jQ,kX,kY,lb,lh,jB,mw,jN,jJ,lQ,jK,lR,lU,lV,lW,lZ,me,mf,iI,dO,mh,mi,mj,mm,oq,mr,mv,gN,mB,mx,lC,lF,lK,lL,lN,mC,mD,jI,iQ,dB,eY,eZ,nD,q0,q8,q9,fM,gQ,jO,mH,mJ,mK,mI,mL,mM,mO,iY,pb,jT,jS,pf,pd,pe,cU,hW,nG,km,fU,rf,aR,rh,rj,kA,kB,rk,exists_eq_left',exists_eq_left,D.bl.injEq,D.int.injEq,D.lst.injEq,D.fz.injEq,D.str.injEq,D.tup.injEq,rl,and_true,true_and,de,nF,jh,ie,oy,oz,oA,oB,oE,oF,fI,gL,jR,oK,oM,oN,oO,oQ,eD,gM,oG,oH,oI,oJ,fw,jy,rm,rn,fi,rp,rq,rz,nz,oX,oY,oZ,o3,o4,o5,o6,iW,oS,mE,iX,mF,oU,oR,oV,oW,eH,if_true,jg,if_false,reduceIte,o7,decide_eq_true_eq,lD,mR,j5,mV,mP,jX,jY,j0,mU,mW,dJ,mX,mY,mZ,df]
    refine⟨⟨by omega,by rw[df];omega⟩,_,rX,x ^^^ 2 ^ (bl r-bl b),r ^^^ b <<< (bl r-bl b),o,_,⟨rfl,?_,?_,rfl⟩,FJ inv,by omega,rfl⟩
    ·rw[show(1:Int)=((1:Nat):Int) from rfl,kR,n5,xt]
    ·rw[kR,n5]
   ·rename_i hc
    refine hU _ ?_
    walk_at"l3"
    refine⟨by decide,q b0 x r inv (by omega)⟩
noncomputable abbrev Vg:bC:=λds Q=>∃a:Nat,ds=[.int a]/\bl a<=60/\Q (.bl (al a))
theorem Vh(T:Txt K mg t):aI P w K mg base aV 2 t.Ab t.Ac ["a"] (bL (Vg )):=by
 refine cP T.JG zL ?_ ?_
 ·intro ds Q h
  obtain⟨a,rfl,ha,q⟩:=h<;>rfl
 ·intro aA A outer s H E hr
  refine⟨_,(aG (cH (cu jL (bv 0) (af ao) (bE _)) (aJ (aZ dA)) cG)
   (aG (bh (i:=1) zL.nd rfl (aH rfl) (aM u4 (af (aM e5 (af (e8 (bv 0))) (af ao))) (af ao)))
   (aG (sr gA rfl (lM rfl T.ja (av (af ao) (av (af (aM lY (af ao) (af (aM iR (bv 1) (af ao))))) aK))) (gR (i:=2) zL.nd rfl (aH rfl))
    (aJ (cH (cu (eG (cA hr)) (bV (af (ck (ze ((Ke T).mono (by decide))) hr rfl T.JE T.AM.kp T.JF zd (av (bv 0) (av (bv 2) aK)))) (af ao) (λ_ _=>rfl)) (af ao) (bE _)) (aJ (aZ dA)) cG)))
   (aJ (aZ dA))))),λds Q h=>?_⟩
  obtain⟨a,rfl,ha,q⟩:=h
  refine aF λU hU=>?_
  walk_at"l3"
  split
  ·rename_i h2
   rw[OY (by omega)]at q;exact q
  ·rename_i h2
   have h2:2<=a:=by omega
   have hp:=d6 (show a≠0 by omega)
   refine hU _ ?_
   clear hU U
   refine aF λU hU=>?_
   walk_at"l3"
   simp only[df]
   refine⟨u3 (by omega) (by omega),hU _ ?_⟩
   clear hU U
   have eh:((((bl a:Nat):Int)-1)/2+1)=(((bl a-1)/2+1:Nat):Int):=by omega
   have e1:(1:Int)*2 ^ ((((bl a:Nat):Int)-1)/2+1).toNat=((2 ^ ((bl a-1)/2+1):Nat):Int):=by
    rw[eh,show(1:Int)=((1:Nat):Int) from rfl,kR,xt]
   have big:2 ^ ((bl a-1)/2+1)<=2 ^ 40:=t8 (by decide) (by omega)
   have o1:bl (1:Int).natAbs=1:=by decide
   refine aF λU hU=>?_
   walk_at"l3"
   rw[e1]
   have ck1:((2 ^ ((bl a-1)/2+1):Nat):Int)<=2 ^ 40:=by exact_mod_cast big
   have nn:(0:Int)<=((2 ^ ((bl a-1)/2+1):Nat):Int):=D5 _
   refine⟨⟨by omega,by omega⟩,_,_,⟨rfl,rfl⟩,⟨by decide,by decide,by omega,by omega⟩,?_⟩
   have en:(((2 ^ ((bl a-1)/2+1):Nat):Int)-2).toNat=2 ^ ((bl a-1)/2+1)-2:=by omega
   rw[en]
   refine jH.mk (λi δ=>(∃o1 o2,δ=[some (.int a),o1,o2])/\∀j,j<i->md a (2+j)≠0) ⟨⟨_,_,rfl⟩,λj hj=>absurd hj (by omega)⟩ ?_ ?_
   ·rintro i d δ hd ⟨⟨o1,o2,rfl⟩,inv⟩
    obtain⟨hi,rfl⟩:i<2 ^ ((bl a-1)/2+1)-2/\d=.int (2+(i:Int)):=by
     rw[gy]at hd
     by_cases hi:i<2 ^ ((bl a-1)/2+1)-2
     ·rw[xj hi]at hd
      exact⟨hi,(cR hd).symm⟩
     ·rw[qV (by simpa using hi)]at hd;cases hd
    have bi:bl (2+i)<=60:=by
     have:=(O1 h2 (show 2+i<2 ^ ((bl a-1)/2+1) by omega)).2
     omega
    walk_at"l3"
    refine⟨a,2+i,by rw[show((2+i:Nat):Int)=2+(i:Int) by omega],by omega,by omega,by omega,λ_ x r e l=>?_⟩
    have em:md a (2+i)=r:=n8 e l
    refine⟨.int r,rfl,rfl,?_⟩
    rw[eH]
    split
    ·rename_i hz
     have r0:r=0:=by have:=of_decide_eq_true hz;omega
     rw[O0 hi (em.trans r0)]at q
     exact q
    ·rename_i hz
     refine⟨⟨_,_,rfl,rfl⟩,λj hj=>?_⟩
     by_cases ej:j=i
     ·rw[ej,em]
      intro r0
      exact hz (decide_eq_true (by omega))
     ·exact inv j (by omega)
   ·rintro δ ⟨⟨o1,o2,rfl⟩,inv⟩
    rw[nv,nJ]at inv
    rw[OZ h2 inv]at q
    refine hU _ ?_
    walk_at"l3"
    exact q
noncomputable abbrev Vi:bC:=λds Q=>∃a:Int,ds=[.int a]/\Q (.bl (decide (4<=a)&&decide (a<=127)&&al a.toNat))
theorem Kf(T:Txt K mg t):aI P w K mg base aV 3 t.Ad t.Ae ["bits"] (bL (Vi )):=by
 refine cP T.AN TH ?_ ?_
 ·intro ds Q h
  obtain⟨a,rfl,q⟩:=h<;>rfl
 ·intro aA A outer s H E hr
  refine⟨_,(aJ (aZ (eX (af (sG iT iT (af ao) (bv 0) (af ao))) (gE (ck ((Vh T).mono (by decide)) hr rfl T.T9 T.JG.kp T.Ua bB (av (bv 0) aK)))))),λds Q h=>?_⟩
  obtain⟨a,rfl,q⟩:=h
  walk_at"l3"
  split
  ·rename_i h1
   split
   ·rename_i h2
    refine⟨a.toNat,by rw[Es (by omega)],?_,?_⟩
    ·have:bl a.toNat<=bl 127:=rZ (by omega)
     exact dv this (by decide)
    ·have e:(decide (4<=a)&&decide (a<=127)&&al a.toNat)=al a.toNat:=by simp[h1,h2]
     rw[e]at q;exact q
   ·rename_i h2
    have e:(decide (4<=a)&&decide (a<=127)&&al a.toNat)=false:=by simp[h2]
    rw[e]at q;exact q
  ·rename_i h1
   have e:(decide (4<=a)&&decide (a<=127)&&al a.toNat)=false:=by simp[h1]
   rw[e]at q;exact q
noncomputable abbrev Vj:bC:=λds Q=>∃a b:Nat,ds=[.int a,.int b]/\bl a<=1000/\bl b<=1000/\Q (.int (cl a b:Nat))
theorem Vk(T:Txt K mg t):aI P w K mg base aV 1 t.Af t.Ag ["a","b"] (bL (Vj )):=by
 refine cP T.JJ vP ?_ ?_
 ·intro ds Q h
  obtain⟨a,b,rfl,ha,hb,q⟩:=h<;>rfl
 ·intro aA A outer s H E hr
  refine⟨_,(aG (bh (i:=2) vP.nd rfl (aH rfl) ao)
   (aG (sr gA rfl (GJ rfl T.ja (av (af (e8 (bv 1))) aK)) (gR (i:=3) vP.nd rfl (aH rfl))
    (aJ (cH (cu (eG (cA hr)) (af (aM GX (af (aM GW (bv 1) (bv 3))) (af ao))) (af ao) (bE _)) (aJ (uV (i:=2) vP.nd rfl (aH rfl) (af (aM lY (bv 0) (bv 3))) yP)) cG)))
   (aJ (aZ (em 2))))),λds Q h=>?_⟩
  obtain⟨a,b,rfl,ha,hb,q⟩:=h
  refine aF λU hU=>?_
  walk_at"l3"
  refine hU _ ?_
  clear hU U
  refine aF λU hU=>?_
  walk_at"l3"
  simp only[df]
  refine⟨⟨by omega,by omega⟩,Hd (λi δ=>∃o,δ=[some (.int a),some (.int b),some (.int (Mf.P a b i:Nat)),o]) ⟨none,rfl⟩ ?_ ?_⟩
  ·rintro i δ hi ⟨o,rfl⟩
   walk_at"l3"
   refine⟨by omega,?_⟩
   have wd:(jc ((b:Int)/2 ^ ((i:Int)).toNat) 1=1)↔b.testBit i=true:=by
    have h:=O6 b i
    rw[Eo]at h
    rw[<-h,dI]
   split
   ·rename_i hc
    have h:=O7 (a:=a) (wd.mp hc)
    rw[Eo]at h
    exact⟨⟨by omega,by rw[df];omega⟩,_,h,rfl⟩
   ·rename_i hc
    exact⟨_,by rw[O8 (λz=>hc (wd.mpr z))],rfl⟩
  ·rintro δ ⟨o,rfl⟩
   refine hU _ ?_
   walk_at"l3"
   exact q
noncomputable abbrev Vl:List D->List Str->List D->Prop:=λds ns xs=>∃p:Nat,ds=[.int p]/\p∈dQ/\ns=ek "bits"++[("products":Str)]/\xs=[.int p,.int (ak (true,p)),.int ((bl (ak (true,p)):Nat)-1),.lst true (aE (fl (true,p))),.lst true (aE (du (fl (true,p)))),.int (fst (true,p)),.lst true (j3 (fl (true,p)) (du (fl (true,p))))]
theorem Vm(T:Txt K mg t)(hB:Bm mg base):aI P w K mg base aV 8 t.vS t.tD ["self","bits"] (zw [t.fR,t.fS] t.aB Vl):=by
 refine Ig T.JK T.UA zM (λvs H Q E h=>?_) λA outer s H vs Q E hr h=>?_
 ·obtain⟨x,dx,bN,ds,ns,xs,rfl,_,_,r,⟨p,rfl,_⟩,_⟩:=h
  have:=r.length
  simp at this
  simp[this]
 obtain⟨x,dx,bN,ds,ns,xs,rfl,tb,hx,r,⟨p,rfl,hp,rfl,rfl⟩,q⟩:=h
 obtain rfl:bN=[.int p]:=by
  cases r with
  | int r=>cases r;rfl
 have hm:(true,p)∈aU:=fh _ (xq hp)
 have hF:=dR hm
 refine⟨_,gh (xH (xF (xD (kP ((Kf T).mono (by decide)) hr rfl T.JH T.AN.kp T.JI .nil bB (cN (pv 1) eO)))) (nQ EL) um)
  (gh (jn (pv 0) (pv 1) rfl)
  (gh (EO (i:=2) zM.nd rfl (aH rfl) (uw FY rG (uw xU (yi (pv 1)) rG)))
  (gh (xG (HX (E:=E0) (i:=1) T.J2 ((Ka T).mono (by decide)) hr T.Jx rfl T.nh rfl rfl rfl rfl (cN (pv 0) (cN (pv 2) (cN (HP rfl rfl T.UB hB) eO)))))
  (nQ (jn (pv 0) (kP ((Vc T).mono (by decide)) hr rfl T.T7 T.JC.kp T.T8 .nil bB (cN (uC (pv 0) rfl) (cN (uC (pv 0) rfl) eO))) rfl))))),?_⟩
 refine⟨_,rfl,H,[.int p],λd=>d=.bl true,aa.refl _,.int .nil,⟨p,rfl,by rw[SK p hp]⟩,λd v F' H1 A1 hd nk hf he h3 r nd fr=>?_⟩
 subst hd
 cases r
 refine⟨true,rfl,?_⟩
 refine jt ?_
 have cF:=nk.get _ _ hx
 refine⟨.int p,rfl,.ref x,rfl,x,t.aB,dx,_,rfl,cF,T.dU,T.m4,by decide,?_⟩
 generalize e2:upd H1 x (HO.ins t.aB dx (dk "bits" (.int p) []))=H2
 have dr:H2 x=some (.ins t.aB dx [(("bits":Str),.int p)]):=by rw[<-e2,bj];rfl
 have s2:cw x H H2:=by rw[<-e2];exact(nk.x (x:=x)).trans (cw.upd (C:=x) (dx:=dx) cF rfl)
 have n2:∀p,H2 p=none->H p=none:=λp h=>nk.free (sV cF (by rw[e2];exact h))
 obtain⟨ps,hP⟩:=tb t.fS (by simp)
 obtain⟨more,AY⟩:=s2.tb _ ps hP
 have bp:bl p<=7:=Ir p hp
 have we:1<=bl p:=Iu p hp
 refine⟨.int p,rfl,rfl,p,rfl,rfl,_,_,rfl,rfl,_,_,rfl,rfl,?_,?_⟩
 ·have o1:bl (1:Int).natAbs=1:=by decide
  rw[df]
  exact⟨by omega,by omega⟩
 have em:(1:Int)*2 ^ (((bl ((p:Int)).natAbs:Nat):Int)-1).toNat=((ak (true,p):Nat):Int):=by
  rw[df,show(((bl p:Nat):Int)-1)=((bl p-1:Nat):Int) by omega,show(1:Int)=((1:Nat):Int) from rfl,kR,xt];rfl
 show uq 2 (.int ((1:Int)*2 ^ (((bl ((p:Int)).natAbs:Nat):Int)-1).toNat)) _ _ _
 rw[em]
 refine⟨.ref x,rfl,.int (ak (true,p)),rfl,⟨_,AY⟩,λf k qn pm fc H3 nf AZ hk kf jb Va=>?_⟩
 refine⟨f,_,_,.int p,AZ,rfl,rfl,λoc u eL hu nc jW=>?_⟩
 obtain⟨tm,rfl⟩:∃tm,u=qP p tm:=hu
 have g8:=jb.get _ _ dr
 refine⟨x,dx,f,t.aB,"bits",p,ak (true,p),_,oc,_,k,gm (true,p),fl (true,p),fst (true,p),rfl,sW g8 (λz=>by rw[z,nf]at dr;cases dr) nc,by decide,⟨T.dU,T.j7,T.qB,T.m6,T.m5,T.qA,T.qC⟩,Im jW nc hk kf,?_,hF,λH' p1 p2 sx cW A6 uG ne tM nj=>?_⟩
 ·refine Ic (n:=3) ⟨rfl,rfl,rfl,by decide,rfl,rfl,by decide,by decide,rfl⟩ eL (λu1 u2=>rfl) λq f A outer s H E hr=>?_
  refine⟨_,eE (bV (af (ck (ze ((Ke T).mono (by decide))) hr rfl T.JE T.AM.kp T.JF zd (av (af (ck ((Vk T).mono (by decide)) hr rfl T.Ub T.JJ.kp T.Uc bB (av (bv 0) (av (bv 1) aK)))) (av (bv 2) aK)))) (af ao) (λ_ _=>rfl)),λi j Qd h=>?_⟩
  obtain⟨a,b,rfl,rfl,ha,hb,hq⟩:=h
  walk_at"l3"
  have b1:bl a<=6:=by
   have:bl a<=bl 63:=rZ (by omega)
   exact dv this (by decide)
  have b2:bl b<=6:=by
   have:bl b<=bl 63:=rZ (by omega)
   exact dv this (by decide)
  have p0:p≠0:=by
   intro z
   rw[z]at we
   exact absurd we (by decide)
  refine⟨a,b,rfl,by omega,by omega,cl a b,p,rfl,dv (SM a b) (by omega),by omega,λz=>p0 z,λ_ x r e l=>⟨by simp[D.pl],.int r,rfl,rfl,r,rfl,?_⟩⟩
  have er:gm (true,p) a b=r:=n8 e l
  rw[<-er];exact hq
 ·have gf:H' f=some (.ext (fv _ oc _ f)):=sx.get f _ (λz=>by rw[z]at nf;rw[nf]at dr;cases dr) (by rw[az jW.symm,bj]) rfl
  have gc:=sx.get _ _ (cE g8 nc).symm bj rfl
  refine⟨gf,gc,?_⟩
  have s4:=s2.trans (Il jb nf nc sx)
  have f1:=n2 _ (vC jb tM)
  have f2:=n2 _ (vC jb nj)
  have l1:=A6.rem gf gc
  have l2:=uG.rem gf gc
  have j9:rem H' f (s.heap.objs.size+1) x=some (.ins t.aB dx ((ek "bits").zip (vA p (ak (true,p)) p1 p2 (fst (true,p))))):=by
   rw[ef (λz=>by rw[z,gf]at cW;cases cW) (λz=>by rw[z,gc]at cW;cases cW)];exact cW
  generalize rem H' f (s.heap.objs.size+1)=H4 at s4 l1 l2 j9
  refine⟨.ref x,rfl,x,t.aB,dx,_,.ref p1,rfl,j9,T.dU,T.m6,rfl,.ref x,rfl,x,t.aB,dx,_,.ref p2,rfl,j9,T.dU,T.m5,rfl,H4,[.lst false (aE (fl (true,p))),.lst false (aE (du (fl (true,p))))],λd=>d=.lst true (j3 (fl (true,p)) (du (fl (true,p)))),aa.refl _,.shr l1 (gw _) (.shr l2 (gw _) .nil),
   ⟨_,_,rfl,by have:=hF.len;have:=hF.lo;omega,by have:=hF.len;have:=hF.hi;omega,vy _ _,Iq _ _,rfl⟩,λd v F' H5 A' hd ka hf he h3 r nd fr=>?_⟩
  subst hd
  obtain⟨p3,rfl⟩:∃p3,v=.ref p3:=by cases r;exact⟨_,rfl⟩
  have g9:=ka.get _ _ j9
  have nA:∀{a ws},H4 a=some (.lst ws)->a ∉ A':=λ{a ws} e z=>by rw[fr a z]at e;cases e
  refine⟨.ref x,rfl,x,t.aB,dx,_,rfl,g9,T.dU,T.tE,kr (bH 6) (by decide),?_⟩
  refine q _ (vA p (ak (true,p)) p1 p2 (fst (true,p))++[.ref p3]) (p1::p2::A') ((s4.trans (ka.x (x:=x))).trans (cw.upd (C:=x) (dx:=dx) g9 rfl)) (by rw[bj];rfl) rfl ?_ ?_ ?_
  ·exact .int (.int (.int (.own ((l1.same ka).upd g9 (λws z=>by cases z)) rfl (gw _) (.own ((l2.same ka).upd g9 (λws z=>by cases z)) rfl (gw _) (.int ((r.uQ (by simp[fw,Ip]) (aa.of λb o e=>by cases e)).sU g9 (by simp[fw,Ip])))))))
  ·exact je.mpr ⟨by simp[ne];exact nA l1,je.mpr ⟨nA l2,nd⟩⟩
  ·intro a ha
   rcases cI.mp ha with rfl | ha
   ·exact f1
   ·rcases cI.mp ha with rfl | ha
    ·exact f2
    ·exact s4.free (by rw[j9];simp) (fr a ha)
noncomputable abbrev Vn(cb cp:Addr):bC:=λds Q=>∃m:Bool × Nat,ds=[cX m]/\m∈aU/\Q (fD cb cp m)
theorem Vo(T:Txt K mg t)(hB:Bm mg base):aI P w K mg base aV 10 t.vT t.vU ["_law_told_here"] (pj [t.fR,t.fS] (bL (Vn t.aB t.aD))):=by
 refine zr T.vX Jm ?_ ?_
 ·intro ds Q h
  obtain⟨m,rfl,hm,q⟩:=h<;>rfl
 ·intro aA A outer s H E hT hr
  refine⟨_,(aG (cH (fK (bV (bv 0) (af ao) (λ_ _=>rfl))) (aJ (aZ (Ih hT T.qy ((Vm T hB).mono (by decide)) hr rfl T.m9 T.JL bB (av (bV (bv 0) (af ao) (λ_ _=>rfl)) aK)))) cG)
   (aJ (aZ (Ih hT T.qD ((U9 T hB).mono (by decide)) hr rfl T.ni T.JB bB (av (bV (bv 0) (af ao) (λ_ _=>rfl)) aK))))),λds Q h=>?_⟩
  obtain⟨m,rfl,hm,q⟩:=h
  unfold cX at *
  refine aF λU hU=>?_
  walk_at"l3"
  obtain⟨b,n⟩:=m
  cases b with
  | true =>
   refine⟨_,rfl,true,rfl,?_⟩
   rw[if_pos rfl]
   refine⟨_,rfl,_,_,⟨n,rfl,IJ hm,rfl,rfl⟩,?_⟩
   rw[SW];exact q
  | false =>
   refine⟨_,rfl,false,rfl,?_⟩
   rw[if_neg (by decide)]
   refine hU _ ?_
   walk_at"l3"
   refine⟨_,rfl,_,_,⟨n,rfl,SY hm,rfl,rfl⟩,?_⟩
   rw[SX];exact q
noncomputable abbrev Vp:bC:=λds Q=>∃m:Bool × Nat,ds=[cX m]/\bl m.2<=1000/\1<=bl m.2/\Q (.int (ak m:Nat))
theorem A7(T:Txt K mg t):aI P w K mg base aV 1 t.Ah t.Ai ["_law_told_here"] (bL (Vp )):=by
 refine cP T.vY TK ?_ ?_
 ·intro ds Q h
  obtain⟨m,rfl,h1,h2,q⟩:=h<;>rfl
 ·intro aA A outer s H E hr
  refine⟨_,(aG (cH (fK (bV (bv 0) (af ao) (λ_ _=>rfl))) (aJ (aZ (aM lY (af ao) (af (aM e5 (af (e8 (bV (bv 0) (af ao) (λ_ _=>rfl)))) (af ao)))))) cG)
   (aJ (aZ (eE (bV (bv 0) (af ao) (λ_ _=>rfl)))))),λds Q h=>?_⟩
  obtain⟨m,rfl,h1,h2,q⟩:=h
  unfold cX at *
  refine aF λU hU=>?_
  walk_at"l3"
  obtain⟨b,n⟩:=m
  cases b with
  | true =>
   refine⟨_,rfl,true,rfl,?_⟩
   rw[if_pos rfl]
   refine⟨_,rfl,?_⟩
   have o1:bl (1:Int).natAbs=1:=by decide
   have e:(1:Int)*2 ^ (((bl ((n:Int)).natAbs:Nat):Int)-1).toNat=((ak (true,n):Nat):Int):=by
    have gr:1<=bl n:=h2
    rw[df,show(((bl n:Nat):Int)-1)=((bl n-1:Nat):Int) by omega,show(1:Int)=((1:Nat):Int) from rfl,kR,xt];rfl
   refine⟨?_,by rw[e];exact q⟩
   rw[df]
   have gJ:bl n<=1000:=h1
   have gr:1<=bl n:=h2
   exact⟨by omega,by omega⟩
  | false =>
   refine⟨_,rfl,false,rfl,?_⟩
   rw[if_neg (by decide)]
   refine hU _ ?_
   walk_at"l3"
   exact⟨_,rfl,rfl,q⟩
noncomputable abbrev Vq:bC:=λds Q=>∃a b:Nat,ds=[.int a,.int b]/\bl a<=1000/\bl b<=1000/\b≠0/\Q (.int (md a b:Nat))
theorem Vr(T:Txt K mg t):aI P w K mg base aV 1 t.Aj t.Ak ["_law_a","_law_b"] (bL (Vq )):=by
 refine cP T.JO Jn ?_ ?_
 ·intro ds Q h
  obtain⟨a,b,rfl,ha,hb,b0,q⟩:=h<;>rfl
 ·intro aA A outer s H E hr
  refine⟨_,(aG (om gA (cu yQ (af (e8 (bv 0))) (af (e8 (bv 1))) (bE _))
    (aJ (bh (i:=0) Jn.nd rfl (aH rfl) (aM yO (bv 0) (af (aM lY (bv 1) (af (aM e5 (af (e8 (bv 0))) (af (e8 (bv 1)))))))))))
   (aJ (aZ (em 0)))),λds Q h=>?_⟩
  obtain⟨a,b,rfl,ha,hb,b0,q⟩:=h
  refine aF λU hU=>?_
  walk_at"l3"
  refine⟨λn δ=>∃(x r:Nat),δ=[some (.int (r:Nat)),some (.int b)]/\a=cl x b ^^^ r/\bl r<=bl a/\n=bl r,⟨bl a,0,a,rfl,by rw[iz,ib],bH _,rfl⟩,?_⟩
  rintro n δ ⟨x,r,rfl,inv,Vf,rfl⟩
  simp only[lu,jG,ly,lz,dT,gO,iM,iN,dC,jz,jF,jD,jC,lj,lr,iU,mz,jQ,kX,kY,lb,lh,jB,mw,jN,jJ,lQ,jK,lR,lU,lV,lW,lZ,me,mf,iI,dO,mh,mi,mj,mm,oq,mr,mv,gN,mB,mx,lC,lF,lK,lL,lN,mC,mD,jI,iQ,dB,eY,eZ,nD,q0,q8,q9,fM,gQ,jO,mH,mJ,mK,mI,mL,mM,mO,iY,pb,jT,jS,pf,pd,pe,cU,hW,nG,km,fU,rf,aR,rh,rj,kA,kB,rk,exists_eq_left',exists_eq_left,D.bl.injEq,D.int.injEq,D.lst.injEq,D.fz.injEq,D.str.injEq,D.tup.injEq,rl,and_true,true_and,de,nF,jh,ie,oy,oz,oA,oB,oE,oF,fI,gL,jR,oK,oM,oN,oO,oQ,eD,gM,oG,oH,oI,oJ,fw,jy,rm,rn,fi,rp,rq,rz,nz,oX,oY,oZ,o3,o4,o5,o6,iW,oS,mE,iX,mF,oU,oR,oV,oW,eH,if_true,jg,if_false,reduceIte,o7,decide_eq_true_eq,lD,mR,j5,mV,mP,jX,jY,j0,mU,mW,dJ,mX,mY,mZ,df]
  split
  ·rename_i hc
   have hle:bl b<=bl r:=by omega
   have rX:=yf b0 hle
   have es:(((bl r:Nat):Int)-((bl b:Nat):Int))=((bl r-bl b:Nat):Int):=by omega
   rw[es]
   refine⟨⟨by omega,by rw[df];omega⟩,_,rX,x ^^^ 2 ^ (bl r-bl b),r ^^^ b <<< (bl r-bl b),?_,FJ inv,by omega,rfl⟩
   rw[Vd rfl,n5]
  ·rename_i hc
   refine hU _ ?_
   walk_at"l3"
   rw[n8 inv (by omega)]at q
   exact q
theorem Kg:∀n:Fin 128,4<=n.val->(((aT 14).filter λk=>decide (2+k<n.val)).all λk=>md n.val (2+k) != 0)=decide (n.val∈dQ)/\al n.val=decide (n.val∈dQ):=by decide +kernel
theorem Kh:∀n:Fin 62,2<=n.val->(((aT 6).filter λk=>decide (2+k<n.val)).all λk=>n.val%(2+k) != 0)=decide (n.val∈eI)/\((aT (n.val-2)).all λi=>n.val%(2+i) != 0)=decide (n.val∈eI):=by decide +kernel
noncomputable def nq(b:Bool)(n:Int):Bool:=if b then decide (4<=n)&&decide (n<=127)&&decide (n.toNat∈dQ)else decide (2<=n)&&decide (n<=61)&&decide (n.toNat∈eI)
theorem Vs{b:Bool}{n:Int}(h:nq b n=true):∃m:Bool × Nat,m∈aU/\m.1=b/\(m.2:Int)=n:=by
 unfold nq at h
 cases b with
 | true =>
  rw[if_pos rfl,cC,cC,decide_eq_true_eq,decide_eq_true_eq,decide_eq_true_eq]at h
  exact⟨(true,n.toNat),fh _ (xq h.2),rfl,by show((n.toNat:Nat):Int)=n;omega⟩
 | false =>
  rw[if_neg (by decide),cC,cC,decide_eq_true_eq,decide_eq_true_eq,decide_eq_true_eq]at h
  exact⟨(false,n.toNat),dm _ (xq h.2),rfl,by show((n.toNat:Nat):Int)=n;omega⟩
noncomputable abbrev Vt:bC:=λds Q=>∃(b:Bool) (n:Int),ds=[.tup [.bl b,.int n]]/\Q (.bl (nq b n))
theorem Vu(T:Txt K mg t):aI P w K mg base aV 2 t.Al t.Am ["_law_told_here"] (bL (Vt )):=by
 refine cP T.JP Jo ?_ ?_
 ·intro ds Q h
  obtain⟨b,n,rfl,q⟩:=h<;>rfl
 ·intro aA A outer s H E hr
  refine⟨_,(aG (bh (i:=1) Jo.nd rfl (cB rfl) (eE (bV (bv 0) (af ao) (λ_ _=>rfl))))
   (aG (cH (fK (bV (bv 0) (af ao) (λ_ _=>rfl))) (aJ (aZ (eX (af (sG iT iT (af ao) (bv 1) (af ao))) (gE (jM (u7 rfl) (by rfl) T.v9 uJ (av (af (sC [("_law_number",1)] ["_law_b"] rfl (lM rfl T.ja (av (af ao) (av (af ao) aK))) (λ_ _ _ _=>(gR (i:=1) (show(["_law_number","_law_b"]:List Str).Nodup by decide +kernel) rfl (aH (lookup_relabel_local rfl)) (by decide) (cB (lookup_relabel_local rfl)))) (λ_ _ _ _=>(GV (cu jL (bv 1) (bv 0) (bE _)))) (λ_ _ _ _=>(gP (gv (cA hr)) (af (ck ((Vr T).mono (by decide)) hr rfl T.Ud T.JO.kp T.Ue bB (av (bv 0) (av (bv 1) aK)))) (af ao) (bE _))) rfl ⟨rfl,trivial⟩ (by repeat' (first | exact trivial | refine⟨.inl rfl,?_⟩ | refine⟨.inr (.inl rfl),?_⟩ | refine⟨.inr (.inr ⟨_,rfl⟩),?_⟩)) ⟨⟨rfl,.inl rfl,.inl rfl,_,rfl,rfl⟩,trivial⟩ (by decide +kernel) rfl (by decide +kernel))) aK)))))) cG)
   (aJ (aZ (eX (af (sG iT iT (af ao) (bv 1) (af ao))) (gE (jM (u7 rfl) (by rfl) T.v9 uJ (av (af (sC [("_law_number",1)] ["_law_b"] rfl (lM rfl T.ja (av (af ao) (av (af ao) aK))) (λ_ _ _ _=>(gR (i:=1) (show(["_law_number","_law_b"]:List Str).Nodup by decide +kernel) rfl (aH (lookup_relabel_local rfl)) (by decide) (cB (lookup_relabel_local rfl)))) (λ_ _ _ _=>(GV (cu jL (bv 1) (bv 0) (bE _)))) (λ_ _ _ _=>(gP (gv (cA hr)) (af (aM e7 (bv 0) (bv 1))) (af ao) (bE _))) rfl ⟨rfl,trivial⟩ (by repeat' (first | exact trivial | refine⟨.inl rfl,?_⟩ | refine⟨.inr (.inl rfl),?_⟩ | refine⟨.inr (.inr ⟨_,rfl⟩),?_⟩)) ⟨⟨rfl,.inl rfl,.inl rfl,_,rfl,rfl⟩,trivial⟩ (by decide +kernel) rfl (by decide +kernel))) aK)))))))),λds Q h=>?_⟩
  obtain⟨b,n,rfl,q⟩:=h
  refine aF λU hU=>?_
  walk_at"l3"
  refine⟨_,rfl,rfl,hU _ ?_⟩
  clear hU U
  refine aF λU hU=>?_
  walk_at"l3"
  refine⟨_,rfl,b,rfl,?_⟩
  unfold nq at q
  cases b with
  | true =>
   rw[if_pos rfl]at q ⊢
   split
   ·rename_i h1
    split
    ·rename_i h2
     obtain⟨v,rfl⟩:∃v:Nat,n=v:=⟨n.toNat,by omega⟩
     have g1:=(Kg ⟨v,by omega⟩ (by show 4<=v;omega)).1
     have g1:(((aT 14).filter λk=>decide (2+k<v)).all λk=>md v (2+k) != 0)=decide (v∈dQ):=g1
     refine⟨2,16,⟨rfl,rfl⟩,⟨by decide,by decide,by decide,by decide⟩,Je (aT 14) (λ(k:Nat)=>D.int (2+(k:Int))) (λk=>D.bl (md v (2+k) != 0)) (λk=>decide (2+k<v)) (by rw[lH];rfl) (λx y h=>by injection h with h;omega) (λk hk=>?_) (.inr λ_ _ _=>rfl) (by rw[nJ,sL];omega) ?_⟩
     ·have hk:=fg.mp hk
      walk_at"l3"
      refine⟨by rw[decide_eq_decide];omega,λ_=>⟨v,2+k,by rw[show((2:Int)+(k:Int))=((2+k:Nat):Int) by omega],?_,?_,by omega,rfl,?_⟩⟩
      ·have:=rZ (show v<=127 by omega)
       exact dv this (by decide)
      ·have:=rZ (show 2+k<=127 by omega)
       exact dv this (by decide)
      ·rw[show D.int 0=D.int ((0:Nat):Int) from rfl,eH]
       by_cases h0:md v (2+k)=0
       ·rw[h0];rfl
       ·rw[decide_eq_false (by omega),bne_iff_ne.mpr h0];rfl
     ·dsimp only
      refine⟨((aT 14).filter λk=>decide (2+k<v)).map λk=>md v (2+k) != 0,by unfold ow;rw[ky];rfl,?_⟩
      rw[qU]
      rw[show(((aT 14).filter λk=>decide (2+k<v)).all (id ∘ λk=>md v (2+k) != 0))=decide (v∈dQ) from g1]
      rw[decide_eq_true h1,decide_eq_true h2,xm]at q
      exact q
    ·rename_i h2
     rw[decide_eq_false h2,xk,fi]at q
     exact q
   ·rename_i h1
    rw[decide_eq_false h1,fi,fi]at q
    exact q
  | false =>
   rw[if_neg (by decide)]at q ⊢
   refine hU _ ?_
   clear hU U
   walk_at"l3"
   split
   ·rename_i h1
    split
    ·rename_i h2
     obtain⟨v,rfl⟩:∃v:Nat,n=v:=⟨n.toNat,by omega⟩
     have g1:=(Kh ⟨v,by omega⟩ (by show 2<=v;omega)).1
     have g1:(((aT 6).filter λk=>decide (2+k<v)).all λk=>v%(2+k) != 0)=decide (v∈eI):=g1
     refine⟨2,8,⟨rfl,rfl⟩,⟨by decide,by decide,by decide,by decide⟩,Je (aT 6) (λ(k:Nat)=>D.int (2+(k:Int))) (λk=>D.bl (v%(2+k) != 0)) (λk=>decide (2+k<v)) (by rw[lH];rfl) (λx y h=>by injection h with h;omega) (λk hk=>?_) (.inr λ_ _ _=>rfl) (by rw[nJ,sL];omega) ?_⟩
     ·have hk:=fg.mp hk
      walk_at"l3"
      refine⟨by rw[decide_eq_decide];omega,λ_=>⟨by omega,?_⟩⟩
      have e:(v:Int)%(2+(k:Int))=((v%(2+k):Nat):Int):=by rw[qZ,nH];rfl
      rw[e]
      by_cases h0:v%(2+k)=0
      ·rw[h0];rfl
      ·rw[decide_eq_false (by omega),bne_iff_ne.mpr h0];rfl
     ·dsimp only
      refine⟨((aT 6).filter λk=>decide (2+k<v)).map λk=>v%(2+k) != 0,by unfold ow;rw[ky];rfl,?_⟩
      rw[qU]
      rw[show(((aT 6).filter λk=>decide (2+k<v)).all (id ∘ λk=>v%(2+k) != 0))=decide (v∈eI) from g1]
      rw[decide_eq_true h1,decide_eq_true h2,xm]at q
      exact q
    ·rename_i h2
     rw[decide_eq_false h2,xk,fi]at q
     exact q
   ·rename_i h1
    rw[decide_eq_false h1,fi,fi]at q
    exact q
noncomputable def Vv(t:gq):fb:=λds _ Ex=>∃n:Int,ds=[.obj t.aB [] [],.int n]/\(decide (4<=n)&&decide (n<=127)&&al n.toNat)=false/\Ex t.bP
theorem Vw(T:Txt K mg t):aI P w K mg base (d9 P w) 8 t.vS t.tD ["self","bits"] (fA (Vv t)):=by
 refine sI T.JK zM (λds Q E ⟨n,e,_⟩=>by rw[e];rfl) λaA A outer s H E hr=>⟨_,aG (cH (kZ (fK (af (ck ((Kf T).mono (by decide)) hr rfl T.JH T.AN.kp T.JI bB (av (bv 1) aK))))) (aJ (vh T.J7 rfl (by rfl) (av (af jA) aK))) cG) GG,λds Q Ex h=>?_⟩
 obtain⟨n,rfl,hn,hx⟩:=h
 refine aF λU hU=>?_
 walk_at"l3"
 refine⟨n,rfl,?_⟩
 rw[hn]
 exact⟨false,rfl,by rw[if_pos (by decide)];exact⟨by decide,hx⟩⟩
noncomputable def Vx(t:gq):fb:=λds _ Ex=>∃n:Int,ds=[.obj t.aD [] [],.int n]/\(decide (2<=n)&&decide (n<=61)&&(aT (n.toNat-2)).all λi=>n%(2+(i:Int)) != 0)=false/\Ex t.bP
theorem Vy(T:Txt K mg t):aI P w K mg base (d9 P w) 8 t.vR t.tw ["self","prime"] (fA (Vx t)):=by
 refine sI T.JA Jl (λds Q E ⟨n,e,_⟩=>by rw[e];rfl) λaA A outer s H E hr=>⟨_,aG (cH (kZ (fK (af (ck ((Kd T).mono (by decide)) hr rfl T.Jy T.AL.kp T.Jz bB (av (bv 1) aK))))) (aJ (vh T.J7 rfl (by rfl) (av (af jA) aK))) cG) GG,λds Q Ex h=>?_⟩
 obtain⟨n,rfl,hn,hx⟩:=h
 refine aF λU hU=>?_
 walk_at"l3"
 refine⟨n,rfl,?_⟩
 rw[hn]
 exact⟨false,rfl,by rw[if_pos (by decide)];exact⟨by decide,hx⟩⟩
noncomputable def A8(b:Bool)(n:Int):Prop:=(b=true->(decide (4<=n)&&decide (n<=127)&&al n.toNat)=false)/\(b=false->(decide (2<=n)&&decide (n<=61)&&(aT (n.toNat-2)).all λi=>n%(2+(i:Int)) != 0)=false)
noncomputable def Vz(t:gq):fb:=λds _ Ex=>∃(b:Bool) (n:Int),ds=[.tup [.bl b,.int n]]/\A8 b n/\Ex t.bP
theorem VA(T:Txt K mg t):aI P w K mg base (d9 P w) 10 t.vT t.vU ["_law_told_here"] (fA (Vz t)):=by
 refine sI T.vX Jm (λds Q E ⟨b,n,e,_⟩=>by rw[e];rfl) λaA A outer s H E hr=>⟨_,(aG (cH (fK (bV (bv 0) (af ao) (λ_ _=>rfl))) (aJ (Hg (Jk T.qy (Vw T) hr rfl T.m9 T.JL rfl (av (bV (bv 0) (af ao) (λ_ _=>rfl)) aK)))) cG)
   (aJ (Hg (Jk T.qD (Vy T) hr rfl T.ni T.JB rfl (av (bV (bv 0) (af ao) (λ_ _=>rfl)) aK))))),λds Q Ex h=>?_⟩
 obtain⟨b,n,rfl,⟨h1,h2⟩,hx⟩:=h
 refine aF λU hU=>?_
 walk_at"l3"
 refine⟨_,rfl,b,rfl,?_⟩
 cases b with
 | true =>
  rw[if_pos rfl]
  exact⟨_,rfl,n,rfl,h1 rfl,hx⟩
 | false =>
  rw[if_neg (by decide)]
  refine hU _ ?_
  walk_at"l3"
  exact⟨_,rfl,n,rfl,h2 rfl,hx⟩
noncomputable abbrev VB(t:gq):bC:=λds Q=>∃(b:Bool) (n:Int),ds=[.tup [.bl b,.int n]]/\A8 b n/\Q (.bl true)
theorem VC(T:Txt K mg t)(hB:Bm mg base):aI P w K mg base aV 11 t.An t.Ao ["_law_told_here"] (pj [t.fR,t.fS] (bL (VB t))):=by
 refine zr T.JQ vQ ?_ ?_
 ·intro ds Q h
  obtain⟨b,n,rfl,hb,q⟩:=h<;>rfl
 ·intro aA A outer s H E hT hr
  refine⟨_,(aG (bh (i:=1) vQ.nd rfl (aH rfl) GD)
   (aG (Rz (i:=2) (λ_ _=>(aJ (Rk (Rj ((VA T).mono (by decide)) hr rfl T.JM T.vX.kp T.JN rfl (av (bv 0) aK)))))
    (λ_ _=>(aJ (bh (i:=1) vQ.nd rfl (aH rfl) (em 2)))) (by rfl) T.qK vQ.nd rfl rfl rfl rfl rfl)
   (aJ (aZ (eX (af (Hs (by rfl) T.g7 (by rfl) T.tL (bv 1))) (eX (af (RI (by rfl) T.g7 (by rfl) T.UH O2 (bv 1))) (gE (yI (af (Hs (by rfl) T.g7 (by rfl) T.qJ (bv 1))))))))))),λds Q h=>?_⟩
  obtain⟨b,n,rfl,hb,q⟩:=h
  refine aF λU hU=>?_
  walk_at"l3"
  refine hU _ ?_
  clear hU U
  refine aF λU hU=>?_
  walk_at"l3"
  refine⟨b,n,rfl,hb,T.UL,hU _ ?_⟩
  clear hU U
  walk_at"l3"
  refine⟨_,zf T.AU T.UK,?_⟩
  rw[if_pos rfl]
  refine⟨_,zf T.AU T.UM,?_⟩
  rw[if_pos rfl]
  exact⟨_,zf T.AU T.UJ,q⟩
noncomputable abbrev Ki(K:Frag):bC:=λds Q=>∃(C:Addr) (ns:List Str) (xs:List D) (p:Nat),ds=[.obj C ns xs]/\cJ K C/\bF K C "bits"/\(ns.zip xs).lookup ("bits":Str)=some (.int p)/\p<=127/\Q (.str ("bits "++toString (p:Int)))
theorem VD(T:Txt K mg t):aI P w K mg base aV 1 t.Ap t.Aq ["self"] (bL (Ki K)):=by
 refine cP T.Uk TL ?_ ?_
 ·intro ds Q h
  obtain⟨C,ns,xs,p,rfl,h1,h2,h3,h4,q⟩:=h<;>rfl
 ·intro aA A outer s H E hr
  refine⟨_,(aJ (aZ (aM iR (af jA) (af (G6 (HA) (by rfl) T.J5 FT (av (fQ (K:=K) (bv 0)) aK)))))),λds Q h=>?_⟩
  obtain⟨C,ns,xs,p,rfl,h1,h2,h3,h4,q⟩:=h
  walk_at"l3"
  refine⟨C,ns,xs,_,rfl,h1,h2,h3,?_⟩
  dsimp only
  have hb:(p:Int).natAbs.log2<1920:=by
   rw[df]
   by_cases h0:p=0
   ·rw[h0];decide
   ·have:=(t7 h0).mpr (show p<2 ^ 8 by omega)
    omega
  have dg:∀k:Fin 128,(dE (toString (((k:Nat):Int)))).length<=10:=by decide +kernel
  have d1:=dg ⟨p,by omega⟩
  refine⟨hb,?_,q⟩
  have:(dE "bits ").length<=10:=by decide +kernel
  have d1:(dE (toString ((p:Nat):Int))).length<=10:=d1
  omega
noncomputable abbrev Kj(K:Frag):bC:=λds Q=>∃(C:Addr) (ns:List Str) (xs:List D) (p:Nat),ds=[.obj C ns xs]/\cJ K C/\bF K C "prime"/\(ns.zip xs).lookup ("prime":Str)=some (.int p)/\p<=127/\Q (.str ("prime "++toString (p:Int)))
theorem VE(T:Txt K mg t):aI P w K mg base aV 1 t.Ar t.As ["self"] (bL (Kj K)):=by
 refine cP T.Um TM ?_ ?_
 ·intro ds Q h
  obtain⟨C,ns,xs,p,rfl,h1,h2,h3,h4,q⟩:=h<;>rfl
 ·intro aA A outer s H E hr
  refine⟨_,(aJ (aZ (aM iR (af jA) (af (G6 (HA) (by rfl) T.J5 FT (av (fQ (K:=K) (bv 0)) aK)))))),λds Q h=>?_⟩
  obtain⟨C,ns,xs,p,rfl,h1,h2,h3,h4,q⟩:=h
  walk_at"l3"
  refine⟨C,ns,xs,_,rfl,h1,h2,h3,?_⟩
  dsimp only
  have hb:(p:Int).natAbs.log2<1920:=by
   rw[df]
   by_cases h0:p=0
   ·rw[h0];decide
   ·have:=(t7 h0).mpr (show p<2 ^ 8 by omega)
    omega
  have dg:∀k:Fin 128,(dE (toString (((k:Nat):Int)))).length<=10:=by decide +kernel
  have d1:=dg ⟨p,by omega⟩
  refine⟨hb,?_,q⟩
  have:(dE "prime ").length<=10:=by decide +kernel
  have d1:(dE (toString ((p:Nat):Int))).length<=10:=d1
  omega
noncomputable abbrev VF(t:gq):bC:=λds Q=>∃m:Bool × Nat,ds=[fD t.aB t.aD m,cX m]/\m∈aU/\Q (.bl true)
theorem VG(T:Txt K mg t):aI P w K mg base aV 2 t.Au t.Av ["_law_field_here","_law_told_here"] (bL (VF t)):=by
 refine cP T.JR at2 ?_ ?_
 ·intro ds Q h
  obtain⟨m,rfl,hm,q⟩:=h<;>rfl
 ·intro aA A outer s H E hr
  refine⟨_,(aG (bh (i:=2) at2.nd rfl (aH rfl) (ck ((A7 T).mono (by decide)) hr rfl T.AO T.vY.kp T.AQ bB (av (bv 1) aK)))
   (aG (bh (i:=3) at2.nd rfl (aH rfl) (aM e5 (af (e8 (bv 2))) (af ao)))
   (aG (cH (PW.pt (oj (cu (gv (cA hr)) (fQ (K:=K) (bv 0)) (bv 2) (bE _)) (oj (cu (gv (cA hr)) (fQ (K:=K) (bv 0)) (bv 3) (bE _)) (xE (kZ (fK (af (zD (by rfl) T.g7 (by rfl) T.nh (bv 0))))))))) (aJ (aZ dA)) cG)
   (aG (cH (fK (bV (bv 1) (af ao) (λ_ _=>rfl))) (aJ (aZ (eX (af (gP (eG (cA hr)) (fQ (K:=K) (bv 0)) (bV (bv 1) (af ao) (λ_ _=>rfl)) (bE _))) (eX (af (gP (eG (cA hr)) (af (IL (P:=P) (w:=w) (K:=K) (mg:=mg) (base:=base) (n:=1) (bv 0) (hr.mono (by decide)))) (af (Ji (vM (af jA) (vM (af (Jj (bV (bv 1) (af ao) (λ_ _=>rfl)))) Jh)))) (bE _))) (gE (zD (by rfl) T.g7 (by rfl) T.m9 (bv 0))))))) cG)
   (aJ (aZ (eX (af (gP (eG (cA hr)) (fQ (K:=K) (bv 0)) (bV (bv 1) (af ao) (λ_ _=>rfl)) (bE _))) (eX (af (gP (eG (cA hr)) (af (IL (P:=P) (w:=w) (K:=K) (mg:=mg) (base:=base) (n:=1) (bv 0) (hr.mono (by decide)))) (af (Ji (vM (af jA) (vM (af (Jj (bV (bv 1) (af ao) (λ_ _=>rfl)))) Jh)))) (bE _))) (gE (zD (by rfl) T.g7 (by rfl) T.ni (bv 0))))))))))),λds Q h=>?_⟩
  obtain⟨m,rfl,hm,q⟩:=h
  have Kk:=zE m hm
  have jr:=(dR hm).lo
  refine aF λU hU=>?_
  walk_at"l3"
  refine⟨m,rfl,by omega,by omega,hU _ ?_⟩
  clear hU U
  refine aF λU hU=>?_
  walk_at"l3"
  refine hU _ ?_
  clear hU U
  rw[df]
  refine aF λU hU=>?_
  walk_at"l3"
  refine UN T m ⟨rfl,?_⟩
  rw[eH,decide_eq_true rfl,if_neg (by decide)]
  refine UO T m ⟨rfl,?_⟩
  rw[eH,decide_eq_true rfl,if_neg (by decide)]
  refine UQ T m ?_
  rw[if_neg (by decide)]
  refine hU _ ?_
  clear hU U
  obtain⟨k,p⟩:=m
  unfold cX
  have hp:p<=127:=by
   have:∀m∈aU,m.2<=127:=by decide
   exact this _ hm
  have Kl:(p:Int).natAbs.log2<1920:=by
   rw[df]
   by_cases h0:p=0
   ·rw[h0];decide
   ·have:=(t7 h0).mpr (show p<2 ^ 8 by omega)
    omega
  have dg:∀k:Fin 128,(fV++dE "bits "++dE (toString (((k:Nat):Int)))).length<=20/\(fV++dE "prime "++dE (toString (((k:Nat):Int)))).length<=20:=by decide +kernel
  obtain⟨d1,d2⟩:=dg ⟨p,by omega⟩
  have d1:(fV++dE "bits "++dE (toString ((p:Nat):Int))).length<=20:=d1
  have d2:(fV++dE "prime "++dE (toString ((p:Nat):Int))).length<=20:=d2
  have e1:fV++dE "bits "=dE "bits ":=by decide +kernel
  have e2:fV++dE "prime "=dE "prime ":=by decide +kernel
  refine aF λU hU=>?_
  walk_at"l3"
  refine⟨_,rfl,k,rfl,?_⟩
  cases k with
  | true =>
   rw[if_pos rfl]
   refine⟨_,_,_,_,rfl,T.dU,T.m4,rfl,_,rfl,⟨rfl,rfl⟩,?_⟩
   rw[eH,decide_eq_true rfl,if_pos rfl]
   refine⟨_,_,_,Ki K,rfl,⟨T.dU,_,_,_,T.tH,VD T,T.Ul⟩,by decide,_,_,_,p,rfl,T.dU,T.m4,rfl,hp,by rw[e1];decide +kernel,_,rfl,_,rfl,Kl,by omega,by omega,rfl,?_⟩
   rw[e1,show ∀z,bD (D.str z) (D.str z)=true from λz=>decide_eq_true rfl,if_pos rfl]
   exact⟨_,_,_,true,rfl,T.J0,T.UC,q⟩
  | false =>
   rw[if_neg (by decide)]
   refine hU _ ?_
   clear hU U
   walk_at"l3"
   refine⟨_,_,_,_,rfl,T.ff,T.m8,rfl,_,rfl,⟨rfl,rfl⟩,?_⟩
   rw[eH,decide_eq_true rfl,if_pos rfl]
   refine⟨_,_,_,Kj K,rfl,⟨T.ff,_,_,_,T.tK,VE T,T.Uo⟩,by decide,_,_,_,p,rfl,T.ff,T.m8,rfl,hp,by rw[e2];decide +kernel,_,rfl,_,rfl,Kl,by omega,by omega,rfl,?_⟩
   rw[e2,show ∀z,bD (D.str z) (D.str z)=true from λz=>decide_eq_true rfl,if_pos rfl]
   exact⟨_,_,_,true,rfl,T.J1,T.UG,q⟩
noncomputable abbrev A9(K:Frag):bC:=λds Q=>∃(C:Addr) (ns:List Str) (xs:List D) (n:Nat) (x:D),ds=[.obj C ns xs,x]/\cJ K C/\bF K C "many"/\(ns.zip xs).lookup ("many":Str)=some (.int n)/\((∃i,x=.int i/\Q (.bl (decide (0<=i)&&decide (i<n))))\/(x=.ai/\Q (.bl false)))
theorem Km(T:Txt K mg t):aI P w K mg base aV 1 t.vV t.Aw ["self","x"] (bL (A9 K)):=by
 refine cP T.Ur TN ?_ ?_
 ·intro ds Q h
  obtain⟨C,ns,xs,n,x,rfl,h1,h2,h3,q⟩:=h<;>rfl
 ·intro aA A outer s H E hr
  refine⟨_,(aJ (aZ (eX (af (va (by rfl) T.g7 (by rfl) T.J4 FR (bv 1))) (eX (af (yI (af (va (by rfl) T.g7 (by rfl) T.J3 FU (bv 1))))) (gE (sG iT jL (af ao) (bv 1) (fQ (K:=K) (bv 0)))))))),λds Q h=>?_⟩
  obtain⟨C,ns,xs,n,x,rfl,h1,h2,h3,q⟩:=h
  rcases q with⟨i,rfl,q⟩ | ⟨rfl,q⟩
  ·walk_at"l3"
   split
   ·rename_i h0
    refine⟨C,ns,xs,_,rfl,h1,h2,h3,?_⟩
    dsimp only
    rw[decide_eq_true h0,ie]at q
    exact q
   ·rename_i h0
    rw[decide_eq_false h0,fi]at q
    exact q
  ·walk_at"l3"
   exact q
noncomputable abbrev VH:bC:=λds Q=>∃(m:Bool × Nat) (a b:Nat),ds=[cX m,.int a,.int b]/\m∈aU/\a<ak m/\b<ak m/\Q (.int (gm m a b:Nat))
theorem Kn(T:Txt K mg t):aI P w K mg base aV 1 t.Ax t.Ay ["_law_told_here","_law_a","_law_b"] (bL (VH )):=by
 refine cP T.AR qm ?_ ?_
 ·intro ds Q h
  obtain⟨m,a,b,rfl,hm,ha,hb,q⟩:=h<;>rfl
 ·intro aA A outer s H E hr
  refine⟨_,(aG (cH (kZ (fK (bV (bv 0) (af ao) (λ_ _=>rfl)))) (aJ (aZ (aM e7 (af (aM u5 (bv 1) (bv 2))) (bV (bv 0) (af ao) (λ_ _=>rfl))))) cG)
   (aG (bh (i:=3) qm.nd rfl (aH rfl) ao)
   (aG (om gA (cu QU (bv 2) (af ao) (bE _))
    (aG (cH (cu (eG (cA hr)) (af (aM GX (bv 2) (af ao))) (af ao) (bE _)) (aJ (bh (i:=3) qm.nd rfl (aH rfl) (aM yO (bv 3) (bv 1)))) cG)
    (aG (bh (i:=1) qm.nd rfl (aH rfl) (aM lY (bv 1) (af ao)))
    (aG (cH (cu (eG (cA hr)) (af (e8 (bv 1))) (af (e8 (bV (bv 0) (af ao) (λ_ _=>rfl)))) (bE _)) (aJ (bh (i:=1) qm.nd rfl (aH rfl) (aM yO (bv 1) (bV (bv 0) (af ao) (λ_ _=>rfl))))) cG)
    (aJ (bh (i:=2) qm.nd rfl (aH rfl) (aM GW (bv 2) (af ao))))))))
   (aJ (aZ (em 3)))))),λds Q h=>?_⟩
  obtain⟨m,a,b,rfl,hm,ha,hb,q⟩:=h
  unfold cX at *
  obtain⟨k,n⟩:=m
  refine aF λU hU=>?_
  walk_at"l3"
  have hF:=dR hm
  cases k with
  | false =>
   refine⟨_,rfl,false,rfl,?_⟩
   have l64:n<=64:=hF.hi
   have l2:2<=n:=hF.lo
   have y7:a<n:=ha
   have g4:b<n:=hb
   rw[if_pos (by decide)]
   refine⟨uz.ok (.inr ⟨by omega,by omega⟩),_,rfl,by omega,?_⟩
   have e:((gm (false,n) a b:Nat):Int)=(a:Int)*b%n:=by
    show((a*b%n:Nat):Int)=_
    rw[qZ,Int.natCast_mul]
   rw[<-e];exact q
  | true =>
   refine⟨_,rfl,true,rfl,?_⟩
   rw[if_neg (by decide)]
   have hp:=IJ hm
   have bp:=Ir n hp
   have we:=Iu n hp
   have p0:n≠0:=λz=>by rw[z,iy]at we;omega
   have yL:bl a<bl n:=by
    have:=cK.mpr (show a<2 ^ (bl n-1) from ha)
    omega
   have VI:bl b<bl n:=by
    have:=cK.mpr (show b<2 ^ (bl n-1) from hb)
    omega
   refine hU _ ?_
   clear hU U
   refine aF λU hU=>?_
   walk_at"l3"
   refine hU _ ?_
   clear hU U
   refine aF λU hU=>?_
   walk_at"l3"
   refine⟨λm δ=>∃(x y z:Nat),δ=[some (.tup [.bl true,.int n]),some (.int (x:Nat)),some (.int (y:Nat)),some (.int (z:Nat))]/\z ^^^ md (cl x y) n=gm (true,n) a b/\bl x<bl n/\bl y<bl n/\m=bl y,
    ⟨bl b,a,b,0,rfl,by rw[ib];rfl,yL,VI,rfl⟩,?_⟩
   rintro m δ ⟨x,y,z,rfl,inv,hx,hy,rfl⟩
   walk_at"l3"
   split
   ·rename_i VJ
    have Kb:=d6 (show y≠0 by omega)
    have hy2:bl (y/2)=bl y-1:=OW y
    have e1:((x:Int)*2 ^ (1:Int).toNat)=((2*x:Nat):Int):=by
     show(x:Int)*(2:Int) ^ 1=_
     omega
    have e2:((y:Int)/2 ^ (1:Int).toNat)=((y/2:Nat):Int):=by
     show(y:Int)/(2:Int) ^ 1=_
     omega
    have a1:jc (y:Int) 1=((y%2:Nat):Int):=by
     rw[show(1:Int)=((1:Nat):Int) from rfl,FL,Nat.and_one_is_mod]
    have tm:=S0 (y:=y) p0 hx
    have tb:=S1 p0 hx
    clear hU
    refine aF λU hU=>?_
    walk_at"l3"
    have fin:∀z':Nat,z'=z ^^^ (if y%2=1 then x else 0)->U [some (.tup [.bl true,.int n]),some (.int x),some (.int y),some (.int z')]:=by
     intro z' hz
     have VL:z' ^^^ md (cl (if bl (2*x)=bl n then 2*x ^^^ n else 2*x) (y/2)) n=gm (true,n) a b:=by
      rw[hz,kq,<- tm];exact inv
     refine hU _ ?_
     clear hU
     refine aF λU hU=>?_
     walk_at"l3"
     refine⟨⟨by decide,by simp only[df];omega⟩,hU _ ?_⟩
     clear hU
     rw[e1]
     refine aF λU hU=>?_
     walk_at"l3"
     have last:∀x':Nat,x'=(if bl (2*x)=bl n then 2*x ^^^ n else 2*x)->U [some (.tup [.bl true,.int n]),some (.int (x':Nat)),some (.int y),some (.int z')]:=by
      intro x' cW
      refine hU _ ?_
      walk_at"l3"
      exact⟨by decide,bl (y/2),by omega,x',y/2,z',⟨rfl,e2,rfl⟩,by rw[cW];exact VL,by rw[cW];exact tb,by omega,rfl⟩
     refine⟨_,rfl,?_⟩
     show(if(((bl (((2*x:Nat):Int)).natAbs:Nat):Int)=((bl ((n:Int)).natAbs:Nat):Int))then _ else _)
     rw[df,df]
     split
     ·rename_i hc
      refine⟨_,rfl,?_⟩
      have g:=last (2*x ^^^ n) (by rw[if_pos (by omega)])
      rw[<-n5]at g
      exact g
     ·rename_i hc
      exact last (2*x) (by rw[if_neg (by omega)])
    rw[a1]
    split
    ·rename_i wd
     have odd:y%2=1:=by omega
     have g:=fin (z ^^^ x) (by rw[if_pos odd])
     rw[<-n5]at g
     exact g
    ·rename_i wd
     exact fin z (by rw[if_neg (by omega),gz])
   ·rename_i VJ
    have hy:y=0:=by omega
    subst hy
    rw[OH,sX (by rw[iy];exact d6 p0),gz]at inv
    subst inv
    refine hU _ ?_
    walk_at"l3"
    exact q
noncomputable abbrev Ko(t:gq)(P:Program)(w:World)(K:Frag)(mg:Str->Option Value)(base:Heap):fb:=λds Q Ex=>∃(m:Bool × Nat) (a:Nat),ds=[fD t.aB t.aD m,.int a]/\m∈aU/\a<ak m/\(a=0->Ex t.bW)/\(a≠0->Q (.int (lg m a)))
theorem Kp(T:Txt K mg t):aI P w K mg base (d9 P w) 1 t.vW t.Az ["self","a"] (fA (Ko t P w K mg base)):=by
 refine sI T.Us TQ ?_ ?_
 ·intro ds Q Ex h
  obtain⟨m,a,rfl,hm,ha,q1,q2⟩:=h<;>rfl
 ·intro aA A outer s H E hr
  refine⟨_,(aG (cH (cu (eG (cA hr)) (bv 1) (af ao) (bE _)) (aJ (vh T.J6 rfl (by rfl) (av (af jA) aK))) cG)
   (aJ (aZ (eE (bV (fQ (K:=K) (bv 0)) (bv 1) (λ_ _=>rfl)))))),λds Q Ex h=>?_⟩
  obtain⟨m,a,rfl,hm,ha,q1,q2⟩:=h
  refine aF λU hU=>?_
  walk_at"l3"
  split
  ·rename_i h0
   exact⟨by decide,q1 (by omega)⟩
  ·rename_i h0
   refine hU _ ?_
   clear hU U
   have hF:=dR hm
   have ll:(du (fl m)).length=ak m:=(vy _ _).trans hF.len
   walk_at"l3"
   refine UP T m ?_
   exact⟨_,mG (by omega) (by rw[ll];omega),rfl,q2 (by omega)⟩
theorem VM(T:Txt K mg t)(m:Bool × Nat):vF P w K mg base 1 "steps" (if m.1 then t.aB else t.aD) (Ko t P w K mg base):=by
 obtain⟨k,n⟩:=m
 cases k with
 | true=>exact⟨T.dU,_,_,_,T.tG,Kp T,T.JV⟩
 | false=>exact⟨T.ff,_,_,_,T.tJ,Kp T,T.JV⟩
noncomputable abbrev VN(t:gq)(P:Program)(w:World)(K:Frag)(mg:Str->Option Value)(base:Heap):bC:=λds Q=>∃m:Bool × Nat,ds=[fD t.aB t.aD m,cX m]/\m∈aU/\Q (.bl true)
theorem VO(T:Txt K mg t):aI P w K mg base aV 2 t.AA t.AB ["_law_field_here","_law_told_here"] (bL (VN t P w K mg base)):=by
 refine cP T.JW tf ?_ ?_
 ·intro ds Q h
  obtain⟨m,rfl,hm,q⟩:=h<;>rfl
 ·intro aA A outer s H E hr
  refine⟨_,(aG (bh (i:=2) tf.nd rfl (aH rfl) (ck ((A7 T).mono (by decide)) hr rfl T.AO T.vY.kp T.AQ bB (av (bv 1) aK)))
   (aG (bh (i:=3) tf.nd rfl (aH rfl) ao)
   (aG (sr gA rfl (GJ rfl T.ja (av (af (aM e5 (bv 2) (af ao))) aK)) (gR (i:=4) tf.nd rfl (aH rfl))
    (aG (cH (PW.pt (oj (cu (gv (cA hr)) (af (IK (P:=P) (w:=w) (K:=K) (mg:=mg) (base:=base) (n:=1) (bv 0) (hr.mono (by decide)) (av (bv 4) aK))) (bv 3) (bE _)) (xE (cu (gv (cA hr)) (af (S3 (P:=P) (w:=w) (K:=K) (mg:=mg) (base:=base) (n:=1) (bv 0) (hr.mono (by decide)) (av (bv 3) aK))) (bv 4) (bE _))))) (aJ (aZ dA)) cG)
    (aJ (bh (i:=3) tf.nd rfl (aH rfl) (ck ((Kn T).mono (by decide)) hr rfl T.JT T.AR.kp T.JU bB (av (bv 1) (av (bv 3) (av (fQ (K:=K) (bv 0)) aK))))))))
   (aJ (aZ (gP (eG (cA hr)) (bv 3) (af ao) (bE _))))))),λds Q h=>?_⟩
  obtain⟨m,rfl,hm,q⟩:=h
  have Kk:=zE m hm
  have jr:=(dR hm).lo
  have VP:=(dR hm).hi
  refine aF λU hU=>?_
  walk_at"l3"
  refine⟨m,rfl,by omega,by omega,hU _ ?_⟩
  clear hU U
  refine aF λU hU=>?_
  walk_at"l3"
  refine hU _ ?_
  clear hU U
  refine aF λU hU=>?_
  walk_at"l3"
  rw[show((ak m:Int)-1)=((ak m-1:Nat):Int) by omega]
  refine⟨⟨by omega,by omega⟩,Hd (λn δ=>∃o,δ=[some (fD t.aB t.aD m),some (cX m),some (D.int ↑(ak m)),some (D.int (eS m (n:Int):Nat)),o]) ⟨none,by rw[show((0:Nat):Int)=0 from rfl,pG hm];rfl⟩ ?_ ?_⟩
  ·rintro n δ hn ⟨o,rfl⟩
   simp only[gN,kB,kA]
   clear hU
   refine aF λU hU=>?_
   walk_at"l3"
   refine U2 T hm ⟨rfl,?_⟩
   rw[eH,decide_eq_true rfl,if_neg (by decide)]
   obtain⟨z1,z2,z3,_⟩:=g6 hm (n:Int)
   refine⟨_,_,_,_,vH _ _ m,VM T m,S5 m _ (by decide),m,eS m n,by rw[vH],hm,z2,λz=>absurd z (by omega),λ_=>⟨rfl,?_⟩⟩
   rw[z3,Int.emod_eq_of_lt (by omega) (by omega),eH,decide_eq_true rfl,if_neg (by decide)]
   refine hU _ ?_
   clear hU
   walk_at"l3"
   refine J8 T m ?_
   rw[IY hm]
   refine⟨m,eS m n,eS m 1,rfl,hm,z2,Te hm 1,rfl,_,?_,rfl⟩
   rw[zF hm,nH];rfl
  ·rintro δ ⟨o,rfl⟩
   refine hU _ ?_
   walk_at"l3"
   rw[show(((ak m-1:Nat)):Int)=(ak m:Int)-1 by omega,IZ hm _ 0 (by rw[Int.emod_self,xo]),pG hm]
   exact q
noncomputable abbrev VQ:bC:=λds Q=>∃i:Int,ds=[.int i]/\Q (.bl true)
theorem VR(T:Txt K mg t):aI P w K mg base aV 1 t.AD t.AE ["_law_x"] (bL (VQ )):=by
 refine cP T.JX TR ?_ ?_
 ·intro ds Q h
  obtain⟨i,rfl,q⟩:=h<;>rfl
 ·intro aA A outer s H E hr
  refine⟨_,(aJ (aZ (eX (af (va (by rfl) T.g7 (by rfl) T.J4 FR (bv 0))) (gE (yI (af (va (by rfl) T.g7 (by rfl) T.J3 FU (bv 0)))))))),λds Q h=>?_⟩
  obtain⟨i,rfl,q⟩:=h
  walk_at"l3"
  exact q
noncomputable abbrev VS:bC:=λds Q=>∃(m:Bool × Nat) (a n:Nat),ds=[cX m,.int a]/\m∈aU/\a<ak m/\1<=n/\px m a n=1/\(∀j,1<=j->j<n->px m a j≠1)/\Q (.int n)
theorem Kq(T:Txt K mg t):aI P w K mg base aV 2 t.AF t.AG ["_law_told_here","_law_a"] (bL (VS )):=by
 refine cP T.AS tj ?_ ?_
 ·intro ds Q h
  obtain⟨m,a,n,rfl,hm,ha,hn,h1,h2,q⟩:=h<;>rfl
 ·intro aA A outer s H E hr
  refine⟨_,(aG (bh (i:=2) tj.nd rfl (aH rfl) ao)
   (aG (bh (i:=3) tj.nd rfl (aH rfl) (eE (bv 1)))
   (aG (om gA (cu (gv (cA hr)) (bv 3) (af ao) (bE _))
    (aG (bh (i:=3) tj.nd rfl (aH rfl) (ck ((Kn T).mono (by decide)) hr rfl T.JT T.AR.kp T.JU bB (av (bv 0) (av (bv 3) (av (bv 1) aK)))))
    (aJ (bh (i:=2) tj.nd rfl (aH rfl) (aM iR (bv 2) (af ao))))))
   (aJ (aZ (em 2)))))),λds Q h=>?_⟩
  obtain⟨m,a,n,rfl,hm,ha,hn,h1,h2,q⟩:=h
  refine aF λU hU=>?_
  walk_at"l3"
  refine hU _ ?_
  clear hU U
  refine aF λU hU=>?_
  walk_at"l3"
  refine hU _ ?_
  clear hU U
  refine aF λU hU=>?_
  walk_at"l3"
  have p1:px m a 1=a:=zA ha
  refine⟨λk δ=>∃(j:Nat),δ=[some (cX m),some (D.int ↑a),some (D.int (j:Nat)),some (D.int (px m a j:Nat))]/\1<=j/\j<=n/\k=n-j,⟨n-1,1,by rw[p1];rfl,bH _,hn,rfl⟩,?_⟩
  rintro k δ ⟨j,rfl,VT,hj2,rfl⟩
  walk_at"l3"
  by_cases e:px m a j=1
  ·have ej:j=n:=LO λz=>h2 j VT (by omega) e
   subst ej
   rw[e,if_neg (by decide)]
   refine hU _ ?_
   walk_at"l3"
   exact q
  ·rw[decide_eq_false (by omega),if_pos (by decide)]
   clear hU
   refine aF λU hU=>?_
   walk_at"l3"
   refine⟨m,_,a,rfl,hm,Tg hm a j,ha,hU _ ?_⟩
   clear hU
   walk_at"l3"
   exact⟨_,by have:j≠n:=λz=>e (z ▸ h1);omega,j+1,⟨by omega,rfl⟩,by omega,by have:j≠n:=λz=>e (z ▸ h1);omega,rfl⟩
theorem VU:aU.all (λm=>(aT (fst m).toNat).all λa=>a==0||(aT (ak m-1)).any λn=>n != 0&&px m a n==1)=true:=by decide +kernel
theorem VV{P:Nat->Prop}:∀n,P n->∃k,k<=n/\P k/\∀j,j<k->¬ P j:=by
 intro n
 induction n using ub with
 | ind n ih =>
  intro h
  by_cases c:∃j,j<n/\P j
  ·obtain⟨j,hj,hp⟩:=c
   obtain⟨k,h1,h2,h3⟩:=ih j hj hp
   exact⟨k,by omega,h2,h3⟩
  ·exact⟨n,bH _,h,λj hj hp=>c ⟨j,hj,hp⟩⟩
theorem VW{m:Bool × Nat}(hm:m∈aU){a:Nat}(h1:1<=a)(h2:(a:Int)<fst m):∃n,1<=n/\n<ak m-1/\px m a n=1/\∀j,1<=j->j<n->px m a j≠1:=by
 have h:=cV.mp (cV.mp VU m hm) a (fg.mpr (by omega))
 rw[El]at h
 rcases h with h | h
 ·simp at h;omega
 ·obtain⟨n,hn,h⟩:=List.any_eq_true.mp h
  have hn:=fg.mp hn
  rw[cC]at h
  have n0:n≠0:=by simpa using h.1
  have n1:px m a n=1:=by simpa using h.2
  obtain⟨k,k1,k2,k3⟩:=VV (P:=λn=>1<=n/\px m a n=1) n ⟨by omega,n1⟩
  exact⟨k,k2.1,by omega,k2.2,λj j1 j2 e=>k3 j j2 ⟨j1,e⟩⟩
theorem sZ{m:Bool × Nat}(hm:m∈aU):∀n:Nat,px m (eS m 1) n=eS m (n:Int)
 | 0=>(pG hm).symm
 | n+1=>by
  show gm m (px m (eS m 1) n) (eS m 1)=_
  rw[sZ hm n,zF hm,nH];rfl
theorem VX{m:Bool × Nat}(hm:m∈aU):px m (eS m 1) (ak m-1)=1/\∀j,1<=j->j<ak m-1->px m (eS m 1) j≠1:=by
 have lo:=(dR hm).lo
 refine⟨?_,λj j1 j2 e=>?_⟩
 ·rw[sZ hm,show(((ak m-1:Nat)):Int)=(ak m:Int)-1 by omega,IZ hm _ 0 (by rw[Int.emod_self,xo]),pG hm]
 ·rw[sZ hm]at e
  obtain⟨_,_,z3,_⟩:=g6 hm (j:Int)
  obtain⟨_,_,w3,_⟩:=g6 hm 0
  rw[e]at z3
  rw[pG hm]at w3
  rw[w3,xo,Int.emod_eq_of_lt (by omega) (by omega)]at z3
  omega
theorem VY(T:Txt K mg t)(m:Bool × Nat){x:D}{Q:D->Prop}(h:(∃i,x=.int i/\Q (.bl (decide (0<=i)&&decide (i<ak m))))\/(x=.ai/\Q (.bl false))):IU P w K mg base 1 t.aB t.aD m "holds" [x] Q:=by
 obtain⟨k,n⟩:=m
 cases k with
 | true=>exact⟨_,_,_,A9 K,rfl,⟨T.dU,_,_,_,T.tF,Km T,T.JS⟩,by decide,_,_,_,ak (true,n),x,rfl,T.dU,T.j7,rfl,h⟩
 | false=>exact⟨_,_,_,A9 K,rfl,⟨T.ff,_,_,_,T.tI,Km T,T.JS⟩,by decide,_,_,_,ak (false,n),x,rfl,T.ff,T.j8,rfl,h⟩
noncomputable def rO(n:Nat):D->D
 | .int i=>.bl (decide (0<=i)&&decide (i<n))
 | _=>.bl false
theorem VZ{b:Bool}{n:Int}(h:nq b n=false):A8 b n:=by
 unfold nq at h
 refine⟨λe=>?_,λe=>?_⟩
 ·subst e
  rw[if_pos rfl]at h
  by_cases h1:4<=n
  ·by_cases h2:n<=127
   ·have g:=(Kg ⟨n.toNat,by omega⟩ (by show 4<=n.toNat;omega)).2
    have g:al n.toNat=decide (n.toNat∈dQ):=g
    rw[g];exact h
   ·rw[decide_eq_false h2];simp
  ·rw[decide_eq_false h1];rfl
 ·subst e
  rw[if_neg (by decide)]at h
  by_cases h1:2<=n
  ·by_cases h2:n<=61
   ·obtain⟨v,rfl⟩:∃v:Nat,n=v:=⟨n.toNat,by omega⟩
    have g:=(Kh ⟨v,by omega⟩ (by show 2<=v;omega)).2
    have g:((aT (v-2)).all λi=>v%(2+i) != 0)=decide (v∈eI):=g
    rw[xm]at h ⊢
    rw[<-g]at h
    have e:((aT (v-2)).all λ(i:Nat)=>(v:Int)%(2+(i:Int)) != 0)=((aT (v-2)).all λi=>v%(2+i) != 0):=by
     congr 1
     funext i
     have:(v:Int)%(2+(i:Int))=((v%(2+i):Nat):Int):=by rw[qZ,nH];rfl
     rw[this,Ef]
     simp
     omega
    rw[e];exact h
   ·rw[decide_eq_false h2];simp
  ·rw[decide_eq_false h1];rfl
theorem V0(T:Txt K mg t)(hB:Bm mg base):aI P w K mg base aV 12 t.AH t.AI ["_law_script"] (pj [t.fR,t.fS] (bL (G9 ))):=by
 refine zr T.Ux qu ?_ ?_
 ·intro ds Q h
  obtain⟨ns,rfl,hl,q⟩:=h<;>rfl
 ·intro aA A outer s H E hT hr
  refine⟨_,(aG (bh (i:=1) qu.nd rfl (cB rfl) (ck ((UW T).mono (by decide)) hr rfl T.TX T.Js.kp T.TY bB (av (bv 0) aK)))
   (aG (cH (kZ (fK (af (ck ((Vu T).mono (by decide)) hr rfl T.Ug T.JP.kp T.Uh bB (av (bv 1) aK))))) (aJ (aZ (Ie hT ((VC T hB).mono (by decide)) hr rfl T.Ui T.JQ.kp T.Uj bB (av (bv 1) aK)))) cG)
   (aG (bh (i:=2) qu.nd rfl (cB rfl) (Ie hT ((Vo T hB).mono (by decide)) hr rfl T.JM T.vX.kp T.JN bB (av (bv 1) aK)))
   (aG (cH (kZ (fK (af (ck ((VG T).mono (by decide)) hr rfl T.Up T.JR.kp T.Uq bB (av (bv 2) (av (bv 1) aK)))))) (aJ (aZ dA)) cG)
   (aG (bh (i:=3) qu.nd rfl (cB rfl) (ck ((A7 T).mono (by decide)) hr rfl T.AO T.vY.kp T.AQ bB (av (bv 1) aK)))
   (aG (QN (i:=4) qu.nd rfl (aH rfl) [("_law_field_here",2)] ["_law_x"] rfl (QF (af (jE (bU (Q3 (af ao)) (bU ao (bU ao (bU (aM e5 (bv 3) (af ao)) (bU (eE (bv 3)) (bU (aM iR (bv 3) (af ao)) (bU (aM yN (af ao) (af ao)) (bU GD fL))))))))))) (λ_ _ _ _=>(gR (i:=1) (show(["_law_field_here","_law_x"]:List Str).Nodup by decide +kernel) rfl (aH (lookup_relabel_local rfl)) (by decide) (cB (lookup_relabel_local rfl)))) (λ_ _ _ _=>uZ) (λ_ _ _ _=>(IK (P:=P) (w:=w) (K:=K) (mg:=mg) (base:=base) (n:=1) (bv 0) (hr.mono (by decide)) (av (bv 1) aK))) rfl ⟨rfl,trivial⟩ (by repeat' (first | exact trivial | refine⟨.inl rfl,?_⟩ | refine⟨.inr (.inl rfl),?_⟩ | refine⟨.inr (.inr ⟨_,rfl⟩),?_⟩)) ⟨⟨rfl,.inl rfl,.inl rfl,_,rfl,rfl⟩,trivial⟩ (by decide +kernel) rfl (by decide +kernel))
   (aG (cH (cu (gv (cA hr)) (bv 4) (af (jE (bU dA (bU dA (bU dA (bU dA (bU dA (bU dA (bU dA (bU dA fL)))))))))) (bE _)) (aJ (aZ dA)) cG)
   (aG (bh (i:=5) qu.nd rfl (aH rfl) (eE (fQ (K:=K) (bv 2))))
   (aG (cH (PW.pt (oj (kZ (fK (af (ck ((VR T).mono (by decide)) hr rfl T.Uv T.JX.kp T.Uw bB (av (bv 5) aK))))) (oj (cu jL (bv 5) (af ao) (bE _)) (oj (cu yQ (bv 5) (bv 3) (bE _)) (xE (cu (gv (cA hr)) (af (ck ((Kq T).mono (by decide)) hr rfl T.JY T.AS.kp T.JZ bB (av (bv 1) (av (bv 5) aK)))) (af (aM e5 (bv 3) (af ao))) (bE _))))))) (aJ (aZ dA)) cG)
   (aJ (aZ (eX (af (jM (u7 rfl) (by rfl) T.v9 uJ (av (af (sC [("_law_told_here",1),("_law_many_here",3)] ["_law_a"] rfl (lM rfl T.ja (av (af ao) (av (bv 5) aK))) (λ_ _ _ _=>(gR (i:=2) (show(["_law_told_here","_law_many_here","_law_a"]:List Str).Nodup by decide +kernel) rfl (aH (lookup_relabel_local rfl)) (by decide) (cB (lookup_relabel_local rfl)))) (λ_ _ _ _=>uZ) (λ_ _ _ _=>(gP jL (af (ck ((Kq T).mono (by decide)) hr rfl T.JY T.AS.kp T.JZ bB (av (bv 0) (av (bv 2) aK)))) (af (aM e5 (bv 1) (af ao))) (bE _))) rfl ⟨rfl,⟨rfl,trivial⟩⟩ (by repeat' (first | exact trivial | refine⟨.inl rfl,?_⟩ | refine⟨.inr (.inl rfl),?_⟩ | refine⟨.inr (.inr ⟨_,rfl⟩),?_⟩)) ⟨⟨rfl,.inl rfl,.inl rfl,_,rfl,rfl⟩,⟨⟨rfl,.inl rfl,.inl rfl,_,rfl,rfl⟩,trivial⟩⟩ (by decide +kernel) rfl (by decide +kernel))) aK))) (gE (ck ((VO T).mono (by decide)) hr rfl T.Ut T.JW.kp T.Uu bB (av (bv 2) (av (bv 1) aK)))))))))))))))),λds Q h=>?_⟩
  obtain⟨ns,rfl,hl,q⟩:=h
  refine aF λU hU=>?_
  walk_at"l3"
  refine⟨ns,rfl,λb n hn1 rN=>?_⟩
  refine hU _ ?_
  clear hU U
  refine aF λU hU=>?_
  walk_at"l3"
  refine⟨b,n,rfl,?_⟩
  cases hg:nq b n with
  | false =>
   refine⟨false,rfl,?_⟩
   rw[if_pos (by decide)]
   exact⟨b,n,rfl,VZ hg,q⟩
  | true =>
   obtain⟨m,hm,rfl,rfl⟩:=Vs hg
   refine⟨true,rfl,?_⟩
   rw[if_neg (by decide),show D.tup [D.bl m.1,D.int (m.2:Int)]=cX m from rfl]
   refine hU _ ?_
   clear hU U
   have hF:=dR hm
   have jr:=hF.lo
   have VP:=hF.hi
   have Kk:=zE m hm
   have m0:=j4 m hm
   refine aF λU hU=>?_
   walk_at"l3"
   refine⟨m,rfl,hm,hU _ ?_⟩
   clear hU U
   refine aF λU hU=>?_
   walk_at"l3"
   refine⟨m,rfl,hm,true,rfl,?_⟩
   rw[if_neg (by decide)]
   refine hU _ ?_
   clear hU U
   refine aF λU hU=>?_
   walk_at"l3"
   refine⟨m,rfl,by omega,by omega,hU _ ?_⟩
   clear hU U
   refine aF λU hU=>?_
   walk_at"l3"
   refine⟨⟨by decide,by decide,by decide⟩,by decide,vk [D.int (-1),D.int 0,D.int 1,D.int (↑(ak m)-1),D.int ↑(ak m),D.int (↑(ak m)+1),D.int (10 ^ kC 30),D.ai] id (rO (ak m)) rfl (λ_ _ h=>h) (λd hd=>?_) (.inr λd hd=>?_) (by show 8<=sizeLine;rw[sL];omega) ?_⟩
   ·walk_at"l3"
    refine VY T m ?_
    simp only[cI,qT,or_false]at hd
    rcases hd with rfl | rfl | rfl | rfl | rfl | rfl | rfl | rfl
    ·exact .inl ⟨_,rfl,rfl,rfl⟩
    ·exact .inl ⟨_,rfl,rfl,rfl⟩
    ·exact .inl ⟨_,rfl,rfl,rfl⟩
    ·exact .inl ⟨_,rfl,rfl,rfl⟩
    ·exact .inl ⟨_,rfl,rfl,rfl⟩
    ·exact .inl ⟨_,rfl,rfl,rfl⟩
    ·exact .inl ⟨_,rfl,rfl,rfl⟩
    ·exact .inr ⟨rfl,rfl,rfl⟩
   ·simp only[cI,qT,or_false]at hd
    rcases hd with rfl | rfl | rfl | rfl | rfl | rfl | rfl | rfl<;>rfl
   have ea:([D.int (-1),D.int 0,D.int 1,D.int (↑(ak m)-1),D.int ↑(ak m),D.int (↑(ak m)+1),D.int (10 ^ kC 30),D.ai].map (rO (ak m)))=[.bl false,.bl true,.bl true,.bl true,.bl false,.bl false,.bl false,.bl false]:=by
    have big:(10:Int) ^ kC 30=1000000000000000000000000000000:=by decide
    simp only[cU,hW,rO]
    rw[big,decide_eq_false (show ¬ (0:Int)<=-1 by decide),decide_eq_true (show(0:Int)<=0 by decide),decide_eq_true (show(0:Int)<(ak m:Int) by omega),decide_eq_true (show(0:Int)<=1 by decide),decide_eq_true (show(1:Int)<(ak m:Int) by omega),decide_eq_true (show(0:Int)<=(ak m:Int)-1 by omega),decide_eq_true (show(ak m:Int)-1<(ak m:Int) by omega),decide_eq_false (show ¬ (ak m:Int)<(ak m:Int) by omega),decide_eq_false (show ¬ (ak m:Int)+1<(ak m:Int) by omega),decide_eq_false (show ¬ (1000000000000000000000000000000:Int)<(ak m:Int) by omega)]
    simp
   rw[ea]
   refine hU _ ?_
   clear hU U ea
   simp only[kB,kA]
   refine aF λU hU=>?_
   walk_at"l3"
   refine⟨by decide,⟨by decide,by decide⟩,?_⟩
   rw[if_neg (by decide)]
   refine hU _ ?_
   clear hU U
   refine aF λU hU=>?_
   walk_at"l3"
   have es:=IY hm
   obtain⟨e1,e2,_,_⟩:=g6 hm 1
   refine J8 T m ⟨rfl,hU _ ?_⟩
   clear hU U
   generalize (D.lst true [D.bl false,D.bl true,D.bl true,D.bl true,D.bl false,D.bl false,D.bl false,D.bl false])=ck6
   refine aF λU hU=>?_
   walk_at"l3"
   have Kr:=λ(a:Nat)=>VW hm (a:=a)
   rw[es]at Kr ⊢
   refine⟨_,rfl,_,rfl,?_⟩
   rw[if_neg (by decide),if_neg (by omega),if_neg (by omega)]
   obtain⟨t1,t2⟩:=VX hm
   refine⟨m,eS m 1,ak m-1,rfl,hm,e2,by omega,t1,t2,rfl,?_⟩
   rw[show(((ak m-1:Nat)):Int)=(ak m:Int)-1 by omega,eH,decide_eq_true rfl,if_neg (by decide)]
   refine hU _ ?_
   clear hU U
   walk_at"l3"
   have en:(((eS m 1:Nat):Int)-1).toNat=eS m 1-1:=by omega
   refine⟨1,_,⟨rfl,rfl⟩,⟨by decide,by decide,by omega,by omega⟩,?_⟩
   rw[en]
   refine vk (aT (eS m 1-1)) (λ(k:Nat)=>D.int (1+(k:Int))) (λ_=>D.bl true) (by rw[lH]) (λx y h=>by injection h with h;omega) (λk hk=>?_) (.inr λ_ _=>rfl) (by rw[nJ,sL];omega) ?_
   ·have hk:=fg.mp hk
    obtain⟨n,n1,n2,n3,n4⟩:=Kr (1+k) (by omega) (by omega)
    walk_at"l3"
    refine⟨m,1+k,n,by rw[show((1:Int)+(k:Int))=((1+k:Nat):Int) by omega],hm,by omega,n1,n3,n4,?_⟩
    show(n:Int)<(ak m:Int)-1
    omega
   ·refine⟨(aT (eS m 1-1)).map λ_=>true,by unfold ow;rw[ky];rfl,?_⟩
    rw[if_pos (by simp)]
    exact⟨m,by rw[IM,IS],hm,by rw[IQ,IT];rfl,q⟩
end
set_option maxHeartbeats 0 in
theorem all_mk{l:PySem.W.OpenLaw}{w:World}{K:Frag}{h:Heap}{mg:Str->Option Value}{fa:Addr}{ts:List Addr}(X:K.In h)(G:h.Ns mainGlobals mg)(V1:mg "law"=some (.ref fa))
  {V2 V3:Option Addr} {V4:Array (Option Value)} {V5 V6 V7 V8 Ks V9:Value} {f0:Addr}
  {Wa Wb:Option Addr} {Wc:Array (Option Value)} {Wd We Wf Wg Kt Wh:Value} {f1:Addr}
  {Wi Wj:Option Addr} {Wk:Array (Option Value)} {Wl Wm Wn Wo Ku Wq:Value} {f2:Addr}
  {Wr Ws:Option Addr} {Wt:Array (Option Value)} {Wu Wv Ww Wx Kv Wy:Value} {f3:Addr}
  {Wz WA:Option Addr} {WB:Array (Option Value)} {WC WD WE WG Kw WH:Value} {f4:Addr}
  {WI WJ:Option Addr} {WK:Array (Option Value)} {WL WM WN WO Kx WQ:Value} {f5:Addr}
  {WR WS:Option Addr} {WT:Array (Option Value)} {WU WV WW WX Ky WY:Value} {f6:Addr}
  {WZ W0:Option Addr} {W2:Array (Option Value)} {W3 W4 W5 W6 Kz W7:Value} {f7:Addr}
  {W8 W9:Option Addr} {Xa:Array (Option Value)} {Xb Xc Xd Xe KA Xf:Value} {f8:Addr}
  {Xg Xh:Option Addr} {Xi:Array (Option Value)} {Xj Xk Xl Xm Xn:Value} {f9:Addr}
  {tN fR:Addr} {Xo:Option Addr} {Xp:Array (Option Value)} {KC:Array Value} {Xq:Value}
  {Xr Xs:Option Addr} {Xt:Array (Option Value)} {Xu Xv Xw Xx KD Xy:Value} {wg:Addr}
  {Xz XA:Option Addr} {XB:Array (Option Value)} {XC XD XE XF KG XG:Value} {wj:Addr}
  {XH XI:Option Addr} {XJ:Array (Option Value)} {XM XN XO XQ KH XR:Value} {gS:Addr}
  {XS XT:Option Addr} {XU:Array (Option Value)} {XW XX XY XZ KI X0:Value} {wk:Addr}
  {X1 X2:Option Addr} {X3:Array (Option Value)} {X4 X5 X6 X7 KJ X8:Value} {wm:Addr}
  {X9 Ya:Option Addr} {Yb:Array (Option Value)} {Yc Yd Ye Yf Yg:Value} {qM:Addr}
  {tO fS:Addr} {Yh:Option Addr} {Yi:Array (Option Value)} {KL:Array Value} {Yj:Value}
  {Yk Yl:Option Addr} {Ym:Array (Option Value)} {Yn Yo Yp Yq KN Yr:Value} {wo:Addr}
  {Ys Yt:Option Addr} {Yu:Array (Option Value)} {Yv Yw Yx Yy KO Yz:Value} {wq:Addr}
  {YA YB:Option Addr} {YC:Array (Option Value)} {YD YE YF YG KP YH:Value} {wt:Addr}
  {YI YJ:Option Addr} {YK:Array (Option Value)} {YL YM YN YO KQ YQ:Value} {wu:Addr}
  {YR YS:Option Addr} {YT:Array (Option Value)} {YU YV YW YX KR YY:Value} {wx:Addr}
  {YZ Y0:Option Addr} {Y1:Array (Option Value)} {Y2 Y3 Y4 Y5 KS Y6:Value} {qN:Addr}
  {Y7 Y8:Option Addr} {Y9:Array (Option Value)} {Za Zb Zc Ze KU Zf:Value} {qO:Addr}
  {Zg Zh:Option Addr} {Zi:Array (Option Value)} {Zj Zk Zl Zm KW Zn:Value} {wy:Addr}
  {Zo Zp:Option Addr} {Zq:Array (Option Value)} {Zr Zs Zt Zu KY Zv:Value} {gU:Addr}
  {Zw Zx:Option Addr} {Zy:Array (Option Value)} {Zz ZA ZC ZD KZ ZE:Value} {wz:Addr}
  {ZF ZG:Option Addr} {ZH:Array (Option Value)} {ZI ZJ ZK ZL K0 ZM:Value} {kb:Addr}
  {ZN ZO:Option Addr} {ZP:Array (Option Value)} {ZQ ZR ZS ZT K1 ZU:Value} {wA:Addr}
  {ZV ZW:Option Addr} {ZX:Array (Option Value)} {ZY ZZ Z0 Z1 K2 Z2:Value} {wB:Addr}
  {Z3 Z4:Option Addr} {Z5:Array (Option Value)} {Z6 Z7 Z8 Z9 K3 γ:Value} {wC:Addr}
  {ε K4:Option Addr} {ζ:Array (Option Value)} {η K5 K6 K7 Ba K8:Value} {Bb:Addr}
  {aB bW cQ fe bP aD:Addr}
  (m9:nsIn K mainGlobals "BitField"=some (some (.ref aB)))
  (qJ:nsIn K mainGlobals "ByNought"=some (some (.ref bW)))
  (nh:nsIn K mainGlobals "Field"=some (some (.ref cQ)))
  (tL:nsIn K mainGlobals "MendError"=some (some (.ref fe)))
  (qK:nsIn K mainGlobals "NoField"=some (some (.ref bP)))
  (ni:nsIn K mainGlobals "PrimeField"=some (some (.ref aD)))
  (a0:nsIn K mainGlobals "_law_told"=some (some (.ref f0)))
  (l0:K.lookup f0=some ⟨V5,V2,.func (fnOf "_law_told" "_law_told" (bA pL) (bc pL) (ax pL) .none V6 V7 V8 V3 Ks V9),V4⟩)
  (c0:codeIn K Ks "_law_told"=true)
  (k0:keepIn K (.ref f0)=true)
  (a1:nsIn K mainGlobals "_law_cell"=some (some (.ref f1)))
  (l1:K.lookup f1=some ⟨Wd,Wa,.func (fnOf "_law_cell" "_law_cell" (bA pM) (bc pM) (ax pM) .none We Wf Wg Wb Kt Wh),Wc⟩)
  (c1:codeIn K Kt "_law_cell"=true)
  (k1:keepIn K (.ref f1)=true)
  (a2:nsIn K mainGlobals "_law_drawn"=some (some (.ref f2)))
  (l2:K.lookup f2=some ⟨Wl,Wi,.func (fnOf "_law_drawn" "_law_drawn" (bA pO) (bc pO) (ax pO) .none Wm Wn Wo Wj Ku Wq),Wk⟩)
  (c2:codeIn K Ku "_law_drawn"=true)
  (k2:keepIn K (.ref f2)=true)
  (a3:nsIn K mainGlobals "powers_of"=some (some (.ref f3)))
  (l3:K.lookup f3=some ⟨Wu,Wr,.func (fnOf "powers_of" "powers_of" (bA pP) (bc pP) (ax pP) .none Wv Ww Wx Ws Kv Wy),Wt⟩)
  (c3:codeIn K Kv "powers_of"=true)
  (k3:keepIn K (.ref f3)=true)
  (a4:nsIn K mainGlobals "step_powers"=some (some (.ref f4)))
  (l4:K.lookup f4=some ⟨WC,Wz,.func (fnOf "step_powers" "step_powers" (bA pQ) (bc pQ) (ax pQ) .none WD WE WG WA Kw WH),WB⟩)
  (c4:codeIn K Kw "step_powers"=true)
  (k4:keepIn K (.ref f4)=true)
  (a5:nsIn K mainGlobals "logs_of"=some (some (.ref f5)))
  (l5:K.lookup f5=some ⟨WL,WI,.func (fnOf "logs_of" "logs_of" (bA pS) (bc pS) (ax pS) .none WM WN WO WJ Kx WQ),WK⟩)
  (c5:codeIn K Kx "logs_of"=true)
  (k5:keepIn K (.ref f5)=true)
  (a6:findIn K (.ref cQ) "step_power"=some (some (.ref f6)))
  (l6:K.lookup f6=some ⟨WU,WR,.func (fnOf "step_power" "Field.step_power" (bA pU) (bc pU) (ax pU) .none WV WW WX WS Ky WY),WT⟩)
  (c6:codeIn K Ky "Field.step_power"=true)
  (k6:keepIn K (.ref f6)=true)
  (a7:findIn K (.ref cQ) "__init__"=some (some (.ref f7)))
  (l7:K.lookup f7=some ⟨W3,WZ,.func (fnOf "__init__" "Field.__init__" (bA pV) (bc pV) (ax pV) .none W4 W5 W6 W0 Kz W7),W2⟩)
  (c7:codeIn K Kz "Field.__init__"=true)
  (k7:keepIn K (.ref f7)=true)
  (a8:nsIn K mainGlobals "makes_prime_field"=some (some (.ref f8)))
  (l8:K.lookup f8=some ⟨Xb,W8,.func (fnOf "makes_prime_field" "makes_prime_field" (bA pW) (bc pW) (ax pW) .none Xc Xd Xe W9 KA Xf),Xa⟩)
  (c8:codeIn K KA "makes_prime_field"=true)
  (k8:keepIn K (.ref f8)=true)
  (a9:findIn K (.ref aD) "__init__"=some (some (.ref f9)))
  (l9:K.lookup f9=some ⟨Xj,Xg,.func (fnOf "__init__" "PrimeField.__init__" (bA i7) (bc i7) (ax i7) .none Xk Xl Xm Xh (.ref tN) Xn),Xi⟩)
  (c9:codeIn K (.ref tN) "PrimeField.__init__"=true)
  (k9:keepIn K (.ref f9)=true)
  (K9:K.lookup tN=some ⟨Xq,Xo,.fields KC,Xp⟩)
  (La:KC[11]?=some (.ref fR))
  (Bc:codeHdIn K tN fR=true)
  (Bd:nsIn K mainGlobals "product_rows"=some (some (.ref wg)))
  (Be:K.lookup wg=some ⟨Xu,Xr,.func (fnOf "product_rows" "product_rows" (bA pX) (bc pX) (ax pX) .none Xv Xw Xx Xs KD Xy),Xt⟩)
  (Bf:codeIn K KD "product_rows"=true)
  (Bg:keepIn K (.ref wg)=true)
  (Bh:nsIn K mainGlobals "bits_divided"=some (some (.ref wj)))
  (Bi:K.lookup wj=some ⟨XC,Xz,.func (fnOf "bits_divided" "bits_divided" (bA pY) (bc pY) (ax pY) .none XD XE XF XA KG XG),XB⟩)
  (Bj:codeIn K KG "bits_divided"=true)
  (Bk:keepIn K (.ref wj)=true)
  (Bl:nsIn K mainGlobals "stands_alone"=some (some (.ref gS)))
  (Bo:K.lookup gS=some ⟨XM,XH,.func (fnOf "stands_alone" "stands_alone" (bA p5) (bc p5) (ax p5) .none XN XO XQ XI KH XR),XJ⟩)
  (Bp:codeIn K KH "stands_alone"=true)
  (Bq:keepIn K (.ref gS)=true)
  (Br:nsIn K mainGlobals "makes_bit_field"=some (some (.ref wk)))
  (Bt:K.lookup wk=some ⟨XW,XS,.func (fnOf "makes_bit_field" "makes_bit_field" (bA p7) (bc p7) (ax p7) .none XX XY XZ XT KI X0),XU⟩)
  (Bu:codeIn K KI "makes_bit_field"=true)
  (Bv:keepIn K (.ref wk)=true)
  (Bw:nsIn K mainGlobals "bits_times"=some (some (.ref wm)))
  (Bx:K.lookup wm=some ⟨X4,X1,.func (fnOf "bits_times" "bits_times" (bA p8) (bc p8) (ax p8) .none X5 X6 X7 X2 KJ X8),X3⟩)
  (By:codeIn K KJ "bits_times"=true)
  (Bz:keepIn K (.ref wm)=true)
  (Lb:findIn K (.ref aB) "__init__"=some (some (.ref qM)))
  (BA:K.lookup qM=some ⟨Yc,X9,.func (fnOf "__init__" "BitField.__init__" (bA i8) (bc i8) (ax i8) .none Yd Ye Yf Ya (.ref tO) Yg),Yb⟩)
  (BB:codeIn K (.ref tO) "BitField.__init__"=true)
  (BC:keepIn K (.ref qM)=true)
  (Lc:K.lookup tO=some ⟨Yj,Yh,.fields KL,Yi⟩)
  (Ld:KL[11]?=some (.ref fS))
  (BD:codeHdIn K tO fS=true)
  (BE:nsIn K mainGlobals "_law_field"=some (some (.ref wo)))
  (BF:K.lookup wo=some ⟨Yn,Yk,.func (fnOf "_law_field" "_law_field" (bA p9) (bc p9) (ax p9) .none Yo Yp Yq Yl KN Yr),Ym⟩)
  (BG:codeIn K KN "_law_field"=true)
  (BH:keepIn K (.ref wo)=true)
  (BJ:nsIn K mainGlobals "_law_many"=some (some (.ref wq)))
  (BK:K.lookup wq=some ⟨Yv,Ys,.func (fnOf "_law_many" "_law_many" (bA qa) (bc qa) (ax qa) .none Yw Yx Yy Yt KO Yz),Yu⟩)
  (BL:codeIn K KO "_law_many"=true)
  (BM:keepIn K (.ref wq)=true)
  (BN:nsIn K mainGlobals "_law_rest"=some (some (.ref wt)))
  (BO:K.lookup wt=some ⟨YD,YA,.func (fnOf "_law_rest" "_law_rest" (bA qe) (bc qe) (ax qe) .none YE YF YG YB KP YH),YC⟩)
  (BP:codeIn K KP "_law_rest"=true)
  (BQ:keepIn K (.ref wt)=true)
  (BR:nsIn K mainGlobals "_law_good"=some (some (.ref wu)))
  (BS:K.lookup wu=some ⟨YL,YI,.func (fnOf "_law_good" "_law_good" (bA qf) (bc qf) (ax qf) .none YM YN YO YJ KQ YQ),YK⟩)
  (BU:codeIn K KQ "_law_good"=true)
  (BV:keepIn K (.ref wu)=true)
  (BW:nsIn K mainGlobals "_law_refused"=some (some (.ref wx)))
  (BX:K.lookup wx=some ⟨YU,YR,.func (fnOf "_law_refused" "_law_refused" (bA qg) (bc qg) (ax qg) .none YV YW YX YS KR YY),YT⟩)
  (BY:codeIn K KR "_law_refused"=true)
  (BZ:keepIn K (.ref wx)=true)
  (Le:findIn K (.ref aB) "told"=some (some (.ref qN)))
  (B0:K.lookup qN=some ⟨Y2,YZ,.func (fnOf "told" "BitField.told" (bA qh) (bc qh) (ax qh) .none Y3 Y4 Y5 Y0 KS Y6),Y1⟩)
  (B3:codeIn K KS "BitField.told"=true)
  (wD:keepIn K (.ref qN)=true)
  (Lf:findIn K (.ref aD) "told"=some (some (.ref qO)))
  (B4:K.lookup qO=some ⟨Za,Y7,.func (fnOf "told" "PrimeField.told" (bA qi) (bc qi) (ax qi) .none Zb Zc Ze Y8 KU Zf),Y9⟩)
  (B5:codeIn K KU "PrimeField.told"=true)
  (wF:keepIn K (.ref qO)=true)
  (B6:nsIn K mainGlobals "_law_made"=some (some (.ref wy)))
  (B7:K.lookup wy=some ⟨Zj,Zg,.func (fnOf "_law_made" "_law_made" (bA qj) (bc qj) (ax qj) .none Zk Zl Zm Zh KW Zn),Zi⟩)
  (B8:codeIn K KW "_law_made"=true)
  (B9:keepIn K (.ref wy)=true)
  (Lg:findIn K (.ref cQ) "holds"=some (some (.ref gU)))
  (Ca:K.lookup gU=some ⟨Zr,Zo,.func (fnOf "holds" "Field.holds" (bA qk) (bc qk) (ax qk) .none Zs Zt Zu Zp KY Zv),Zq⟩)
  (Cb:codeIn K KY "Field.holds"=true)
  (tP:keepIn K (.ref gU)=true)
  (Cc:nsIn K mainGlobals "_law_times"=some (some (.ref wz)))
  (Cd:K.lookup wz=some ⟨Zz,Zw,.func (fnOf "_law_times" "_law_times" (bA ql) (bc ql) (ax ql) .none ZA ZC ZD Zx KZ ZE),Zy⟩)
  (Ce:codeIn K KZ "_law_times"=true)
  (Cf:keepIn K (.ref wz)=true)
  (Lh:findIn K (.ref cQ) "steps"=some (some (.ref kb)))
  (Cg:K.lookup kb=some ⟨ZI,ZF,.func (fnOf "steps" "Field.steps" (bA qo) (bc qo) (ax qo) .none ZJ ZK ZL ZG K0 ZM),ZH⟩)
  (Ci:codeIn K K0 "Field.steps"=true)
  (tQ:keepIn K (.ref kb)=true)
  (Cj:nsIn K mainGlobals "_law_powers"=some (some (.ref wA)))
  (Ck:K.lookup wA=some ⟨ZQ,ZN,.func (fnOf "_law_powers" "_law_powers" (bA qp) (bc qp) (ax qp) .none ZR ZS ZT ZO K1 ZU),ZP⟩)
  (Cm:codeIn K K1 "_law_powers"=true)
  (Cn:keepIn K (.ref wA)=true)
  (Co:nsIn K mainGlobals "_law_whole"=some (some (.ref wB)))
  (Cp:K.lookup wB=some ⟨ZY,ZV,.func (fnOf "_law_whole" "_law_whole" (bA qq) (bc qq) (ax qq) .none ZZ Z0 Z1 ZW K2 Z2),ZX⟩)
  (Cq:codeIn K K2 "_law_whole"=true)
  (Cr:keepIn K (.ref wB)=true)
  (Cs:nsIn K mainGlobals "_law_order"=some (some (.ref wC)))
  (Ct:K.lookup wC=some ⟨Z6,Z3,.func (fnOf "_law_order" "_law_order" (bA qt) (bc qt) (ax qt) .none Z7 Z8 Z9 Z4 K3 γ),Z5⟩)
  (Cu:codeIn K K3 "_law_order"=true)
  (Cv:keepIn K (.ref wC)=true)
  (wG:nsIn K mainGlobals "law"=some (some (.ref Bb)))
  (Cw:K.lookup Bb=some ⟨η,ε,.func (fnOf "law" "law" (bA i9) (bc i9) (ax i9) .none K5 K6 K7 K4 Ba K8),ζ⟩)
  (Cy:codeIn K Ba "law"=true)
  (Cz:keepIn K (.ref Bb)=true)
  (wH:PySem.W.plainGet K aB fV=true)
  (wI:PySem.W.hasDictIn K aB=true)
  (wJ:PySem.W.plainOver K aB=true)
  (wK:findIn K (.ref aB) "__setattr__"=some (some (.builtin "object.__setattr__")))
  (qy:PySem.W.makesIn K aB=true)
  (CA:findIn K (.ref aB) "__init__"=some (some (.ref qM)))
  (CB:isFn K (.ref qM)=true)
  (CC:keepIn K (.ref aB)=true)
  (CD:findIn K (.ref aB) "__class__"=some (some (.builtin "object.__class__")))
  (CF:specialIn K (.builtin "object.__class__") "__get__"=some (some (.builtin "getset_descriptor.__get__")))
  (CG:takesIn K (.builtin "object.__class__")=some true)
  (CH:mroIn K aB (.type "object")=some true)
  (CI:(bb aB==bb cQ)=false)
  (CJ:(clsIn K cQ).isSome=true)
  (CK:typeIn K (.ref cQ)=some (.type "type"))
  (CL:subIn K (.ref aB) (.ref cQ)=some true)
  (CM:(bb aB==bb aD)=false)
  (CN:(clsIn K aD).isSome=true)
  (CO:typeIn K (.ref aD)=some (.type "type"))
  (CP:subIn K (.ref aB) (.ref aD)=some false)
  (m4:findIn K (.ref aB) "bits"=some none)
  (m5:findIn K (.ref aB) "logs"=some none)
  (j7:findIn K (.ref aB) "many"=some none)
  (m6:findIn K (.ref aB) "powers"=some none)
  (vZ:findIn K (.ref aB) "prime"=some none)
  (tE:findIn K (.ref aB) "products"=some none)
  (qA:findIn K (.ref aB) "step"=some none)
  (qB:findIn K (.ref aB) "wide"=some none)
  (tF:findIn K (.ref aB) "holds"=some (some (.ref gU)))
  (CQ:isFn K (.ref gU)=true)
  (qC:findIn K (.ref aB) "step_power"=some (some (.ref f6)))
  (CS:isFn K (.ref f6)=true)
  (tG:findIn K (.ref aB) "steps"=some (some (.ref kb)))
  (CT:isFn K (.ref kb)=true)
  (tH:findIn K (.ref aB) "told"=some (some (.ref qN)))
  (CU:isFn K (.ref qN)=true)
  (wL:PySem.W.plainGet K aD fV=true)
  (wM:PySem.W.hasDictIn K aD=true)
  (wN:PySem.W.plainOver K aD=true)
  (wO:findIn K (.ref aD) "__setattr__"=some (some (.builtin "object.__setattr__")))
  (qD:PySem.W.makesIn K aD=true)
  (CV:findIn K (.ref aD) "__init__"=some (some (.ref f9)))
  (CW:isFn K (.ref f9)=true)
  (CY:keepIn K (.ref aD)=true)
  (CZ:findIn K (.ref aD) "__class__"=some (some (.builtin "object.__class__")))
  (C2:specialIn K (.builtin "object.__class__") "__get__"=some (some (.builtin "getset_descriptor.__get__")))
  (C3:takesIn K (.builtin "object.__class__")=some true)
  (C4:mroIn K aD (.type "object")=some true)
  (C5:(bb aD==bb aB)=false)
  (C6:(clsIn K aB).isSome=true)
  (C7:typeIn K (.ref aB)=some (.type "type"))
  (C8:subIn K (.ref aD) (.ref aB)=some false)
  (C9:(bb aD==bb cQ)=false)
  (Dc:(clsIn K cQ).isSome=true)
  (De:typeIn K (.ref cQ)=some (.type "type"))
  (Df:subIn K (.ref aD) (.ref cQ)=some true)
  (v3:findIn K (.ref aD) "bits"=some none)
  (qE:findIn K (.ref aD) "logs"=some none)
  (j8:findIn K (.ref aD) "many"=some none)
  (qF:findIn K (.ref aD) "powers"=some none)
  (m8:findIn K (.ref aD) "prime"=some none)
  (v7:findIn K (.ref aD) "products"=some none)
  (qG:findIn K (.ref aD) "step"=some none)
  (qH:findIn K (.ref aD) "wide"=some none)
  (tI:findIn K (.ref aD) "holds"=some (some (.ref gU)))
  (Dg:isFn K (.ref gU)=true)
  (qI:findIn K (.ref aD) "step_power"=some (some (.ref f6)))
  (Dh:isFn K (.ref f6)=true)
  (tJ:findIn K (.ref aD) "steps"=some (some (.ref kb)))
  (Di:isFn K (.ref kb)=true)
  (tK:findIn K (.ref aD) "told"=some (some (.ref qO)))
  (Dj:isFn K (.ref qO)=true)
  (Dk:specialIn K (.ref cQ) "__getattribute__"=some (some (.builtin "type.__getattribute__")))
  (Dm:PySem.W.readsIn K cQ (.type "type")=true)
  (Dn:PySem.W.findCls K (.ref cQ) (.type "type") "__init__"=some (.val (.ref f7)))
  (Dq:nsIn K mainGlobals "ValueError"=some none)
  (Dr:nsIn K mainGlobals "all"=some none)
  (Ds:nsIn K mainGlobals "bool"=some none)
  (Dt:nsIn K mainGlobals "enumerate"=some none)
  (Du:nsIn K mainGlobals "int"=some none)
  (Dv:nsIn K mainGlobals "isinstance"=some none)
  (Dw:nsIn K mainGlobals "len"=some none)
  (Dx:nsIn K mainGlobals "range"=some none)
  (Dy:nsIn K mainGlobals "str"=some none)
  (tR:(clsIn K bW).isSome=true)
  (wQ:typeIn K (.ref bW)=some (.type "type"))
  (tS:(clsIn K fe).isSome=true)
  (tT:typeIn K (.ref fe)=some (.type "type"))
  (tU:(clsIn K bP).isSome=true)
  (wR:typeIn K (.ref bP)=some (.type "type"))
  (wU:subIn K (.ref bP) (.type "BaseException")=some true)
  (Dz:PySem.W.excIn K bW [.type "ValueError",.type "Exception",.type "BaseException",.type "object"] "ValueError.__new__"=true)
  (DA:findIn K (.ref bW) "__getattribute__"=some (some (.builtin "BaseException.__getattribute__")))
  (DB:findIn K (.ref bW) "__getattr__"=some none)
  (DC:findIn K (.ref bW) "__class__"=some (some (.builtin "object.__class__")))
  (DD:specialIn K (.builtin "object.__class__") "__get__"=some (some (.builtin "getset_descriptor.__get__")))
  (DE:takesIn K (.builtin "object.__class__")=some true)
  (DF:mroIn K bW (.type "object")=some true)
  (DG:mroIn K bW (.type "BaseException")=some true)
  (DH:subIn K (.ref bW) (.ref fe)=some true)
  (DI:(bb bW==bb fe)=false)
  (DJ:subIn K (.ref bW) (.ref bP)=some false)
  (DK:subIn K (.ref bW) (.type "ValueError")=some true)
  (DL:PySem.W.excIn K bP [.type "ValueError",.type "Exception",.type "BaseException",.type "object"] "ValueError.__new__"=true)
  (DM:findIn K (.ref bP) "__getattribute__"=some (some (.builtin "BaseException.__getattribute__")))
  (DN:findIn K (.ref bP) "__getattr__"=some none)
  (DO:findIn K (.ref bP) "__class__"=some (some (.builtin "object.__class__")))
  (DP:specialIn K (.builtin "object.__class__") "__get__"=some (some (.builtin "getset_descriptor.__get__")))
  (DQ:takesIn K (.builtin "object.__class__")=some true)
  (DR:mroIn K bP (.type "object")=some true)
  (DS:mroIn K bP (.type "BaseException")=some true)
  (DT:subIn K (.ref bP) (.ref bW)=some false)
  (DU:(bb bP==bb bW)=false)
  (DV:subIn K (.ref bP) (.ref fe)=some true)
  (DW:(bb bP==bb fe)=false)
  (DX:subIn K (.ref bP) (.ref bP)=some true)
  (DY:subIn K (.ref bP) (.type "ValueError")=some true)
  (DZ:subIn K (.type "NoneType") (.ref bW)=some false)
  (D0:subIn K (.type "NoneType") (.ref fe)=some false)
  (nl:K.all (λp=>yX p.2)=true)
  (sub:∀P∈[fR,fS],P∈ts) :
  ∃fd:FuncData,(∀(s:Shared) (v:Value),BindsTo s fd ⟨[v],[]⟩ [("_law_script",v)])/\∀base:Heap,K.In base->base.Ns mainGlobals mg->Bm mg base->aI l.prog w K mg base aV 12 fa fd ["_law_script"] (vn ts K):=by
 have e:=V1.symm.trans (mg_of X G wG)
 cases e
 have F0:=bR (st:=pL) l0 c0 k0
 have b0:=F0.binds (ps:=["_law_cell_here"]) λ_ _ _ _ _ _=>eJ (λ_=>rfl)
 have F1:=bR (st:=pM) l1 c1 k1
 have b1:=F1.binds (ps:=["_law_script","_law_k"]) λ_ _ _ _ _ _=>eo (λ_ _=>rfl)
 have F2:=bR (st:=pO) l2 c2 k2
 have b2:=F2.binds (ps:=["_law_script"]) λ_ _ _ _ _ _=>eJ (λ_=>rfl)
 have F3:=bR (st:=pP) l3 c3 k3
 have b3:=F3.binds (ps:=["a","product"]) λ_ _ _ _ _ _=>eo (λ_ _=>rfl)
 have F4:=bR (st:=pQ) l4 c4 k4
 have b4:=F4.binds (ps:=["many","product"]) λ_ _ _ _ _ _=>eo (λ_ _=>rfl)
 have F5:=bR (st:=pS) l5 c5 k5
 have b5:=F5.binds (ps:=["powers"]) λ_ _ _ _ _ _=>eJ (λ_=>rfl)
 have F6:=bR (st:=pU) l6 c6 k6
 have b6:=F6.binds (ps:=["self","n"]) λ_ _ _ _ _ _=>eo (λ_ _=>rfl)
 have F7:=bR (st:=pV) l7 c7 k7
 have b7:=F7.binds (ps:=["self","many","product"]) λ_ _ _ _ _ _=>Jf (λ_ _ _=>rfl)
 have F8:=bR (st:=pW) l8 c8 k8
 have b8:=F8.binds (ps:=["prime"]) λ_ _ _ _ _ _=>eJ (λ_=>rfl)
 have F9:=bR (st:=i7) l9 c9 k9
 have b9:=F9.binds (ps:=["self","prime"]) λ_ _ _ _ _ _=>eo (λ_ _=>rfl)
 have Li:=bR (st:=pX) Be Bf Bg
 have θ:=Li.binds (ps:=["powers","logs"]) λ_ _ _ _ _ _=>eo (λ_ _=>rfl)
 have Lj:=bR (st:=pY) Bi Bj Bk
 have ι:=Lj.binds (ps:=["a","b"]) λ_ _ _ _ _ _=>eo (λ_ _=>rfl)
 have Lk:=bR (st:=p5) Bo Bp Bq
 have μ:=Lk.binds (ps:=["a"]) λ_ _ _ _ _ _=>eJ (λ_=>rfl)
 have Ll:=bR (st:=p7) Bt Bu Bv
 have ν:=Ll.binds (ps:=["bits"]) λ_ _ _ _ _ _=>eJ (λ_=>rfl)
 have Lm:=bR (st:=p8) Bx By Bz
 have ξ:=Lm.binds (ps:=["a","b"]) λ_ _ _ _ _ _=>eo (λ_ _=>rfl)
 have Ln:=bR (st:=i8) BA BB BC
 have ο:=Ln.binds (ps:=["self","bits"]) λ_ _ _ _ _ _=>eo (λ_ _=>rfl)
 have Lo:=bR (st:=p9) BF BG BH
 have π:=Lo.binds (ps:=["_law_told_here"]) λ_ _ _ _ _ _=>eJ (λ_=>rfl)
 have Lp:=bR (st:=qa) BK BL BM
 have ρ:=Lp.binds (ps:=["_law_told_here"]) λ_ _ _ _ _ _=>eJ (λ_=>rfl)
 have Lq:=bR (st:=qe) BO BP BQ
 have τ:=Lq.binds (ps:=["_law_a","_law_b"]) λ_ _ _ _ _ _=>eo (λ_ _=>rfl)
 have Lr:=bR (st:=qf) BS BU BV
 have υ:=Lr.binds (ps:=["_law_told_here"]) λ_ _ _ _ _ _=>eJ (λ_=>rfl)
 have Ls:=bR (st:=qg) BX BY BZ
 have χ:=Ls.binds (ps:=["_law_told_here"]) λ_ _ _ _ _ _=>eJ (λ_=>rfl)
 have Lu:=bR (st:=qh) B0 B3 wD
 have ω:=Lu.binds (ps:=["self"]) λ_ _ _ _ _ _=>eJ (λ_=>rfl)
 have Lv:=bR (st:=qi) B4 B5 wF
 have Γ:=Lv.binds (ps:=["self"]) λ_ _ _ _ _ _=>eJ (λ_=>rfl)
 have Lw:=bR (st:=qj) B7 B8 B9
 have Δ:=Lw.binds (ps:=["_law_field_here","_law_told_here"]) λ_ _ _ _ _ _=>eo (λ_ _=>rfl)
 have Lx:=bR (st:=qk) Ca Cb tP
 have Θ:=Lx.binds (ps:=["self","x"]) λ_ _ _ _ _ _=>eo (λ_ _=>rfl)
 have Ly:=bR (st:=ql) Cd Ce Cf
 have Λ:=Ly.binds (ps:=["_law_told_here","_law_a","_law_b"]) λ_ _ _ _ _ _=>Jf (λ_ _ _=>rfl)
 have Lz:=bR (st:=qo) Cg Ci tQ
 have Ξ:=Lz.binds (ps:=["self","a"]) λ_ _ _ _ _ _=>eo (λ_ _=>rfl)
 have LA:=bR (st:=qp) Ck Cm Cn
 have Φ:=LA.binds (ps:=["_law_field_here","_law_told_here"]) λ_ _ _ _ _ _=>eo (λ_ _=>rfl)
 have LB:=bR (st:=qq) Cp Cq Cr
 have Ψ:=LB.binds (ps:=["_law_x"]) λ_ _ _ _ _ _=>eJ (λ_=>rfl)
 have LC:=bR (st:=qt) Ct Cu Cv
 have Ω:=LC.binds (ps:=["_law_told_here","_law_a"]) λ_ _ _ _ _ _=>eo (λ_ _=>rfl)
 have LD:=bR (st:=i9) Cw Cy Cz
 have b30:=LD.binds (ps:=["_law_script"]) λ_ _ _ _ _ _=>eJ (λ_=>rfl)
 have T:Txt K mg ⟨f0,_,f1,_,f2,_,f3,_,f4,_,f5,_,f6,_,f7,_,f8,_,f9,_,wg,_,wj,_,gS,_,wk,_,wm,_,qM,_,wo,_,wq,_,wt,_,wu,_,wx,_,qN,_,qO,_,wy,_,gU,_,wz,_,kb,_,wA,_,wB,_,wC,_,fa,_,tN,fR,tO,fS,aB,bW,cQ,fe,bP,aD⟩:=⟨F0,mg_of X G a0,b0,F1,mg_of X G a1,b1,F2,mg_of X G a2,b2,F3,mg_of X G a3,b3,F4,mg_of X G a4,b4,F5,mg_of X G a5,b5,F6,b6,F7,b7,F8,mg_of X G a8,b8,F9,b9,Li,mg_of X G Bd,θ,Lj,mg_of X G Bh,ι,Lk,mg_of X G Bl,μ,Ll,mg_of X G Br,ν,Lm,mg_of X G Bw,ξ,Ln,ο,Lo,mg_of X G BE,π,Lp,mg_of X G BJ,ρ,Lq,mg_of X G BN,τ,Lr,mg_of X G BR,υ,Ls,mg_of X G BW,χ,Lu,ω,Lv,Γ,Lw,mg_of X G B6,Δ,Lx,Θ,Ly,mg_of X G Cc,Λ,Lz,Ξ,LA,mg_of X G Cj,Φ,LB,mg_of X G Co,Ψ,LC,mg_of X G Cs,Ω,LD,mg_of X G wG,b30,rfl,Bc,rfl,BD,⟨wH,wI,wJ,wK⟩,⟨qy,CA,CB,CC⟩,⟨⟨wH,wI,wJ,wK⟩,CD,CF,CG,CH⟩,zc,iZ CI CJ CK CL,iZ CM CN CO CP,m4,m5,j7,m6,vZ,tE,qA,qB,⟨tF,CQ,tP⟩,⟨qC,CS,k6⟩,⟨tG,CT,tQ⟩,⟨tH,CU,wD⟩,⟨wL,wM,wN,wO⟩,⟨qD,CV,CW,CY⟩,⟨⟨wL,wM,wN,wO⟩,CZ,C2,C3,C4⟩,iZ C5 C6 C7 C8,iZ C9 Dc De Df,zc,v3,qE,j8,qF,m8,v7,qG,qH,⟨tI,Dg,tP⟩,⟨qI,Dh,k6⟩,⟨tJ,Di,tQ⟩,⟨tK,Dj,wF⟩,⟨Dk,Dm,Dn,k7⟩,mg_none_of X G Dq,mg_none_of X G Dr,mg_none_of X G Ds,mg_none_of X G Dt,mg_none_of X G Du,mg_none_of X G Dv,mg_none_of X G Dw,mg_none_of X G Dx,mg_none_of X G Dy,mg_of X G m9,mg_of X G qJ,mg_of X G nh,mg_of X G tL,mg_of X G qK,mg_of X G ni,Ht (mg_of X G qJ) Dz,⟨tR,DA,DB,DC,DD,DE,DF,DG⟩,zc,iZ DI tS tT DH,Hw tU wR wU DJ,Hv rfl (by decide +kernel) DK,Ht (mg_of X G qK) DL,⟨tU,DM,DN,DO,DP,DQ,DR,DS⟩,iZ DU tR wQ DT,iZ DW tS tT DV,Hw tU wR wU DX,Hv rfl (by decide +kernel) DY,iZ rfl tR wQ DZ,iZ rfl tS tT D0⟩
 exact⟨fnOf "law" "law" (bA i9) (bc i9) (ax i9) .none K5 K6 K7 K4 Ba K8,λs v=>.of_eq rfl,λbase _ _ hB=>(V0 T hB).imp λvs H Q E h=>let z:=R4 nl h;⟨λP hP=>z.1 P (sub P hP),z.2⟩⟩
theorem aD7{K:Frag}{h:Heap}{c f k P:Addr}{od an:Option Addr}{sl:Array (Option Value)}{oc kV dc pm ct kt:Value}{ko:Option Addr}{ks:Array (Option Value)}{kf:Array Value}(X:K.In h)(a:nsIn K mainGlobals "PrimeField"=some (some (.ref c)))(b:findIn K (.ref c) "__init__"=some (some (.ref f)))
  (l:K.lookup f=some ⟨oc,od,.func (fnOf "__init__" "PrimeField.__init__" (bA i7) (bc i7) (ax i7) .none kV dc pm an (.ref k) ct),sl⟩) (lk:K.lookup k=some ⟨kt,ko,.fields kf,ks⟩) (lp:kf[11]?=some (.ref P)) (n:K.lookup P=none) (e:codeHdIn K k P=true):K.lookup P=none/\∃c,CodeHd h c P:=⟨n,k,PySem.W.codeHd_of_K X e⟩
theorem aF4{K:Frag}{h:Heap}{c f k P:Addr}{od an:Option Addr}{sl:Array (Option Value)}{oc kV dc pm ct kt:Value}{ko:Option Addr}{ks:Array (Option Value)}{kf:Array Value}(X:K.In h)(a:nsIn K mainGlobals "BitField"=some (some (.ref c)))(b:findIn K (.ref c) "__init__"=some (some (.ref f)))
  (l:K.lookup f=some ⟨oc,od,.func (fnOf "__init__" "BitField.__init__" (bA i8) (bc i8) (ax i8) .none kV dc pm an (.ref k) ct),sl⟩) (lk:K.lookup k=some ⟨kt,ko,.fields kf,ks⟩) (lp:kf[11]?=some (.ref P)) (n:K.lookup P=none) (e:codeHdIn K k P=true):K.lookup P=none/\∃c,CodeHd h c P:=⟨n,k,PySem.W.codeHd_of_K X e⟩
theorem walk{l:PySem.W.OpenLaw}{q:Program}{loose:List Str}{XP:(Str->Option Value)->Heap->Prop}{YP:World->Heap->Prop}{d:DefRec}{K:Params->Frag}{ts:List Addr}(hn:l.most=some 63)(rS:d.params.defaults=[])
  (hY:∀(w:World) (h:Heap),YP w h->(K w.params).In h/\∀P∈ts,h.get? P=some (PySem.W.tabObj #[]))
  (hC:∀(w:World) (h:Heap),(K w.params).In h->∀P∈ts,(K w.params).lookup P=none/\∃c,CodeHd h c P)
  (F:∀(w:World) (mg:Str->Option Value) (fa:Addr) (h:Heap),(K w.params).In h->h.Ns mainGlobals mg->mg d.name=some (.ref fa) ->
   ∃fd:FuncData,(∀(s:Shared) (u:Value),BindsTo s fd ⟨[u],[]⟩ [("_law_script",u)])/\∀base:Heap,(K w.params).In base->base.Ns mainGlobals mg->Bm mg base->aI l.prog w (K w.params) mg base aV 12 fa fd ["_law_script"] (vn ts (K w.params))) :
  PySem.W.WalkO q loose XP YP l.row.toRowW d [] (λf vs=>PySem.call f vs) :=
 L2.R3 (n:=63) (k:=12) (x:="_law_script") (CX:=λ_=>aV) (sp:=λw=>vn ts (K w.params)) hn (by decide) rS ⟨rfl,by decide,by decide⟩ hY hC F (λ_ _ a ns hl hO hS=>⟨a,ns,rfl,hO,hS,hl,λ_=>rfl⟩) λ_ _ _ _ _ z=>z
end HK05
set_option genInjectivity false in
set_option genSizeOf false in
structure PySem.W.Fast:Prop where
 (tw2565578449336044640 tw2238022134636808320 tw17679479806196771968 tw6101056421818470560 tw12069412749356898592 tw15813301183475078464 tw16433271914996153696 tw4741407942262454656 tw4484818853526918560 tw2500154051452068256 tw18156708329253264832 tw15044143292133660128 tw9214732121007495648 tw10737895119005305344 tw691128691847678560 tw11776943322215074528 tw3393130392988691232 tw10570808756961153856 tw17474552824862717792 tw7252270305219924928 tw5863973960176755648 tw6748424264602162144 tw15796271384404971521 tw14231088347835605089 tw17383623280484080769 tw18340891945009484961 tw17312137508314918049 tw5605068029660724417 tw4281642696758064353 tw17214278816913697057 tw12930299745830088001 tw749377588301395265 tw11789510237387328865 tw17290553137861198177 tw4554999418648682881 tw14420247757944500673 tw3996671856426435041 tw7168229106159536641 tw4253855504557280801 tw8554935728484016705:True)
 (tw12511965414037173857 tw5894821698382711521 tw12141920616339227361 tw7411622430853678881 tw6581793865991046977 tw979170335457772546 tw16100876250356443202 tw14363304042175082690 tw15084348015429671138 tw5325368015404008738 tw12780441475639153986 tw8775981378000224866 tw10987458903965874818 tw3003537479730341570 tw7213888741282522850 tw15400641363099694818 tw14776230347939046274 tw2144698706567854083 tw6391712138702810115 tw6963013136432944163 tw6988517060187502659 tw10517952511766974691 tw5444658974365235459 tw14604766248258780451 tw12846075081383434659 tw6356303591044747907 tw15993662108931627715 tw15472729639611033283 tw17834686529188365027 tw16116718649149352803 tw8892465274802632547 tw4499289010603495299 tw11218148869957040035 tw2426284350117044131 tw12131031075690751907 tw16218222069465576387 tw7132284846808955908 tw14180239500747789380 tw4502299176769754308 tw16650912866728561892:True)
 (tw11693084126624701732 tw16445295154174688548 tw4003651757741129188 tw15522467278666499556 tw6954311900000293476 tw4870940151324883556 tw941662950843453060 tw3951784101124089508 tw9160695014263046820 tw13005160684268876452 tw1908988031337205444 tw3922236941114057700 tw6603288782360781925 tw6375380864294048933 tw4685206513345693893 tw4215638533908409605 tw1304452909122015525 tw2110225064697130405 tw7441600497711406533 tw15746872602587728389 tw15369740326646944261 tw15794082140039024229 tw8648329546212716197 tw12244805763123236709 tw5625304238988118917 tw6992472799693251461 tw4825321305110513573 tw16144161190082215974 tw9976867701678977190 tw879717719395816614 tw950288892630043846 tw4503747556965345478 tw15223058280394834182 tw8118749923480670502 tw14812873146852017478 tw13065178965879888230 tw11750267029717116294 tw7363349434531205574 tw690804210093179398 tw7458088935824344646:True)
 (tw2920999041856200358 tw7067359534264667878 tw6002614533104689894 tw3963908685858635526 tw2186386283189987174 tw11022273676093593478 tw11365752423817159590 tw5799278159422137254 tw6620809097884277863 tw13581962036834988167 tw1509296985074124967 tw11726832192142478727 tw4223033652201314695 tw10253511123063251495 tw1970456169941079751 tw17880145993534678727 tw9443379477992925991 tw1086425598368554887 tw17812785946946388871 tw9792549575171524519 tw14179322734265416744 tw7825867850085768264 tw17637080150290971720 tw6793538449864914056 tw2154564305631791272 tw16762223522426890440 tw3028147845023540616 tw6193577742869477768 tw13860417516445060488 tw456810449509389736 tw1690605515302034856 tw2760650847144042920 tw6947060857330346472 tw7853258991299420680 tw12559235714988590632 tw10025535648642614824 tw13302280864861903400 tw14000381378474545768 tw3319342105232924264 tw14645918265751240296:True)
 (tw10359151694158754472 tw12721092867702618792 tw530149462038095560 tw2119336015808840392 tw14412649010320551656 tw1011444264499246888 tw2127349615861569352 tw14175971091420069704 tw18222753873624568712 tw10319988267007833097 tw14380144931554763817 tw12725347873342423113 tw2499347719255332009 tw1718336590314781929 tw1780346550165788905 tw13321395627046345993 tw14018665796916509001 tw12438121962435304873 tw11378629579632752073 tw6790138418531833449 tw9430961188040390281 tw15117973878208617129 tw1263763241518256905 tw9900308944862225193 tw2679621516040162153 tw16630565577171028873 tw814784586239272873 tw8911121383981029321 tw8621596223280175081 tw3662119960759347274 tw9899738268756139178 tw7662935056927756554 tw10739495949276283178 tw17794216117470294314 tw9515195542152084778 tw3117073286929812810 tw17367469836315831658 tw14885016058168371658 tw11111925103014707754 tw17904843854016083594:True)
 (tw14025901768206187146 tw11480710626985098922 tw10891826133570886410 tw10247447693527483274 tw13944833471430578090 tw2304139220385618987 tw13077795915362572363 tw12352332967013578859 tw15462121467191126155 tw11228858389518746795 tw1189961985110423755 tw15771197952083718507 tw2663720216251632011 tw7525199265973965259 tw16867862734601501227 tw14336025401901595179 tw4957340109479734859 tw9653985226918067787 tw7783422392429486795 tw3516167678744751819 tw7732194500240189259 tw18284914124711568235 tw7193333234725502827 tw476160033114977131 tw2992577645754858379 tw14846950321330042956 tw12143204410572989676 tw1431827987309344076 tw13913250436288630092 tw14883173727725587820 tw16734943918718161292 tw3084537642914675116 tw10013592267670780684 tw13055933234210276172 tw10865809754890395468 tw4634197590990702572 tw13713546421776588813 tw6899842295774277645 tw17927310774080011277 tw1791643062515958829:True)
 (tw16963302738509371533 tw7292906727948956941 tw7005414256377512205 tw3808447299018568045 tw12536440608406155629 tw4895075341088301485 tw17026009631352208845 tw16466830471902730701 tw14677044119758329517 tw11951930646514280141 tw4410732961392473837 tw7490648265685706541 tw17549550818155290509 tw6702250829998860205 tw3562165634106947501 tw6794936264143403949 tw16337715443802646509 tw5653616281512244302 tw296255053603838190 tw17122843645824353550 tw2989611085964840366 tw14145310775863236046 tw1951878163397797326 tw14651334313543025134 tw2457365453029482030 tw13514736668768670286 tw15376305198449437262 tw10830707232695702158 tw15968308187486030574 tw2836071033615282958 tw3785750989824710510 tw5785908999220241326 tw17100869551663488974 tw1599655094063287375 tw4290006220972826767 tw16089264848304407727 tw7723983791553534127 tw2595014867024695599 tw7108466060511391055 tw5769685511887024495:True)
 (tw13750770773168778607 tw11686879287297724847 tw12721967765144551855 tw7923631483929328175 tw17369936357318734447 tw12279238051531244207 tw13693679462910711471 tw13528002247744193327 tw17902520226280408943 tw9362482945994750831 tw9076769672314353615 tw9031616585388447760 tw8819594822327549008 tw13414865009232813200 tw7721555683439787216 tw7697722458514304240 tw2177096430729402672 tw12989243997381655888 tw9353114136462542160 tw11038858297998879152 tw12038739678811017648 tw17606871642351036848 tw17903834555619528272 tw4706741141392012912 tw9346525932391054032 tw3369784705413184208 tw11652506935248530160 tw3984116570886650672 tw13654224348880995216 tw6724713344917416848 tw11276365753819619248 tw17692194515764409296 tw16315096955211792497 tw4595513053178621105 tw16893158290068666545 tw1834070542895317233 tw6790749735172443409 tw12283336184533687601 tw3083450313208427857 tw10868237319974029681:True)
 (tw7551448542251877777 tw16137765606520042929 tw1328371163956017617 tw17444779968122463729 tw14771499139792012785 tw2366285140931163665 tw17225700475623232017 tw17227425927114903217 tw753594421593242353 tw14767708737151641361 tw14003017481995414289 tw453726807324353361 tw9941765384201725841 tw16503781597108675569 tw5726456890584628209 tw4592818329997678610 tw6085847648668812370 tw13871381748518671506 tw15664068318861742322 tw8933160986156754194 tw10228117732920231346 tw16635945512910580146 tw14487762962958507474 tw7292738937296456178 tw245393948427504178 tw8056344349215823474 tw14867340257521798834 tw4632452583323012818 tw6088080300176837490 tw9986077433298207602 tw12602000021642236051 tw5396660595125289235 tw7964936561571681619 tw2836220274911361459 tw4287633689629562387 tw8949199644942500435 tw4590550790384398931 tw8466396894076989139 tw18217891677759952627 tw14592539784697186067:True)
 (tw3491194264096379699 tw13693839486256666419 tw17342498851548065651 tw5875873032499634260 tw4898638197972664436 tw8374500184602733684 tw1561531290607732916 tw13501225861786497428 tw1329872775228119540 tw7443424423847389748 tw5256572318174795348 tw2102196934044588660 tw1932095595651727060 tw9922226496026648340 tw8975770708780591956 tw15550810067091452820 tw6785654064069977044 tw13935229320868554805 tw10212153228811756725 tw7668843353220503765 tw11814721859352750389 tw1442864939059169589 tw10887819856237655413 tw4438804294078648725 tw8496148431776127413 tw9089980436269004277 tw13990181240040814165 tw1267957966966479541 tw12809992563167307477 tw628787032122953525 tw17805880232410195765 tw18383231819456143189 tw337758812579685205 tw14104743319209387893 tw3528908633519278005 tw3589623098436468790 tw1597869887242355798 tw15227784600759465206 tw621426726165842230 tw1204689386161015158:True)
 (tw5442432123638693238 tw10046959660447467958 tw720276629500418486 tw13385779331770081750 tw11698036955386793462 tw6738357224409655862 tw12582746847013213814 tw731662660427512438 tw10216682148454333110 tw17275132385137421014 tw6672402926504345302 tw9575643910024890102 tw14057166456874176310 tw7614600285366962998 tw7940358801140091734 tw13951158172138403702 tw5143046022803957686 tw11362096673545622551 tw4679909609422732311 tw11536096584412675191 tw3994813550881998039 tw13478220482934831351 tw2964104299905809655 tw9427485289931818423 tw6260937720162773559 tw7981671537961373271 tw10255969773420792471 tw4932064144515656471 tw8323764008226806583 tw11207414286418874167 tw8496806416184685431 tw16301354895900615607 tw689700754296369079 tw4614237696965643223 tw9579717633817664471 tw6761706913356807127 tw18161874574916911063 tw4917152597014591479 tw1804608972697015448 tw8314072032930558104:True)
 (tw679713837723578520 tw8331613541205996696 tw1644090136528650424 tw847744937061142712 tw1584215856182351096 tw8822194905079602424 tw10802395907500552600 tw5644422350194557336 tw15541365890296192440 tw856542964642361848 tw9285748478943065688 tw5304821666809013912 tw11381689144031732408 tw11078977602282960728 tw16903466278588331896 tw12181996523743674296 tw2700372218446939321 tw11267207234691174617 tw7553727880481414489 tw11831901722139477337 tw132703029018347865 tw10541252178113848761 tw1317772896207525305 tw17217632839715072473 tw4684907086484515321 tw1362669157783111225 tw3647880557231393369 tw3382332394215071353 tw18054953303708859001 tw5914050787970673401 tw12147941436214326105 tw10045183324642503513 tw16276080988631595929 tw2971808363806298073 tw14666778663998904281 tw12636371279710806074 tw6598873879987813466 tw3900581521824352378 tw11841126557685611674 tw5158665837373968538:True)
 (tw15956378282827090138 tw7023863488936211674 tw9018374615764215098 tw11904105077176707418 tw14054504799695749530 tw14279588364763350490 tw16345009839477023258 tw5266661038046414522 tw18160071242354000602 tw88597073093770010 tw17662131244332083002 tw12872427930375261018 tw11920530438108636026 tw9211062406422673338 tw6417188782402611130 tw17553859797526669306 tw4778748239386483739 tw4062805464972284987 tw10715558162745661499 tw16687503845771057275 tw14050256644573028475 tw16302211445172262043 tw13478650977423123643 tw12843162209776960795 tw9803066714101763355 tw328725938840235323 tw10794151250881509787 tw3361975781199901147 tw3721262968878891515 tw1467773495974025755 tw11700492373443721819 tw3100123485655756411 tw9330828199252454075 tw6612181818198097627 tw3534911156788036347 tw16775510493412488091 tw989912055655307259 tw10087082272171887676 tw8004114525343143996 tw4043655792100107324:True)
 (tw999438771072367676 tw4456441029817600124 tw16431011566763441276 tw2902564427760548092 tw14174058620610408700 tw18349940634100900188 tw16505484030587734428 tw3142440483226385820 tw7036792323625219548 tw15766385057979308604 tw1554522485277686332 tw7923173196441622108 tw14867894934999900796 tw11910904637474880188 tw1172891925663861436 tw3196236286901319356 tw8076189101690724156 tw13489302364128751452 tw6654995729704162204 tw3607600275962821596 tw1804862369993292796 tw3603287290336929917 tw6477936243677312157 tw7224406252920953021 tw11189660419602753757 tw6669666076922875133 tw16365038669684591901 tw12687767293775599901 tw18358680179762879805 tw17413315192154848573 tw10283260209481665981 tw687845833908313565 tw777489405796450909 tw15865586685103788637 tw11288371795818339997 tw15761114815343236797 tw5272196083734421277 tw6427498066126270237 tw6774124181165637437 tw6341346665918524221:True)
 (tw15734922084882258813 tw7979732242436864925 tw61978368828649405 tw17182177046367681469 tw12675531095951298493 tw3056560265474470877 tw18189756146956295165 tw1624666654098752574 tw11510018173308633214 tw11388758239254378654 tw14004663562621287646 tw9662926803624036670 tw12888482794586259070 tw5242275987942362782 tw527301611951392446 tw15324830715858324190 tw5366951308738280190 tw10583381275611426654 tw6892885868219444126 tw10325453467151612862 tw166523776754012094 tw10859740973021529054 tw14666736846021798175 tw17247382920264794399 tw688626356254078239 tw9514471785326597535 tw14490029187885043199 tw1513014039615872639 tw11937403619838139039 tw14448331105213027999 tw11565260982555376351 tw209651737480773375 tw15951419208709656351 tw3009536797042665311 tw6829507586507520927 tw6770820399487383455 tw9850993368601951135 tw10163370477832115135 tw13812383751250057215 tw6431550375054617599:True)
 (tw5242915297216457727 tw8952357704598379803:True)
open PySem PySem.W PyProof.Rows
set_option maxRecDepth 100000 in
set_option maxHeartbeats 0 in
theorem PySem.Challenge.cw_mendfield_k05_field_made_holds : PySem.Challenge.rw_mendfield_k05_field_made.Holds := by
 w_on;o_law;k_head;(case hw=>w_witness2)
 k_fill
 refine HK05.walk (l:=PySem.Challenge.rw_mendfield_k05_field_made) rfl rfl (λw h Y=>⟨PySem.W.km_in_of Y,PySem.W.km_tabs_of Y⟩) ?C ?F
 case C =>
  intro w h hX
  repeat' (first | exact List.forall_mem_nil _ | refine List.forall_mem_cons.mpr ⟨?_,?_⟩)
  all_goals first | (refine' HK05.aD7 hX ?a ?b ?l ?lk ?lp ?n ?e;(case a=>k_is);(case b=>k_is);(case l=>k_is);(case lk=>k_is);(case lp=>first | rfl | with_unfolding_all rfl);(case n=>kernel_rfl);(case e=>kernel_rfl)) | (refine' HK05.aF4 hX ?a ?b ?l ?lk ?lp ?n ?e;(case a=>k_is);(case b=>k_is);(case l=>k_is);(case lk=>k_is);(case lp=>first | rfl | with_unfolding_all rfl);(case n=>kernel_rfl);(case e=>kernel_rfl))
 case F =>
  intro w mg fa h KX G rT
  refine' HK05.all_mk KX G rT ?m9 ?qJ ?nh ?tL ?qK ?ni ?a0 ?l0 ?c0 ?k0 ?a1 ?l1 ?c1 ?k1 ?a2 ?l2 ?c2 ?k2 ?a3 ?l3 ?c3 ?k3 ?a4 ?l4 ?c4 ?k4 ?a5 ?l5 ?c5 ?k5 ?a6 ?l6 ?c6 ?k6 ?a7 ?l7 ?c7 ?k7 ?a8 ?l8 ?c8 ?k8 ?a9 ?l9 ?c9 ?k9 ?K9 ?La ?Bc ?Bd ?Be ?Bf ?Bg ?Bh ?Bi ?Bj ?Bk ?Bl ?Bo ?Bp ?Bq ?Br ?Bt ?Bu ?Bv ?Bw ?Bx ?By ?Bz ?Lb ?BA ?BB ?BC ?Lc ?Ld ?BD ?BE ?BF ?BG ?BH ?BJ ?BK ?BL ?BM ?BN ?BO ?BP ?BQ ?BR ?BS ?BU ?BV ?BW ?BX ?BY ?BZ ?Le ?B0 ?B3 ?wD ?Lf ?B4 ?B5 ?wF ?B6 ?B7 ?B8 ?B9 ?Lg ?Ca ?Cb ?tP ?Cc ?Cd ?Ce ?Cf ?Lh ?Cg ?Ci ?tQ ?Cj ?Ck ?Cm ?Cn ?Co ?Cp ?Cq ?Cr ?Cs ?Ct ?Cu ?Cv ?wG ?Cw ?Cy ?Cz ?wH ?wI ?wJ ?wK ?qy ?CA ?CB ?CC ?CD ?CF ?CG ?CH ?CI ?CJ ?CK ?CL ?CM ?CN ?CO ?CP ?m4 ?m5 ?j7 ?m6 ?vZ ?tE ?qA ?qB ?tF ?CQ ?qC ?CS ?tG ?CT ?tH ?CU ?wL ?wM ?wN ?wO ?qD ?CV ?CW ?CY ?CZ ?C2 ?C3 ?C4 ?C5 ?C6 ?C7 ?C8 ?C9 ?Dc ?De ?Df ?v3 ?qE ?j8 ?qF ?m8 ?v7 ?qG ?qH ?tI ?Dg ?qI ?Dh ?tJ ?Di ?tK ?Dj ?Dk ?Dm ?Dn ?Dq ?Dr ?Ds ?Dt ?Du ?Dv ?Dw ?Dx ?Dy ?tR ?wQ ?tS ?tT ?tU ?wR ?wU ?Dz ?DA ?DB ?DC ?DD ?DE ?DF ?DG ?DH ?DI ?DJ ?DK ?DL ?DM ?DN ?DO ?DP ?DQ ?DR ?DS ?DT ?DU ?DV ?DW ?DX ?DY ?DZ ?D0 ?nl ?sub
  (case m9=>k_is)
  (case qJ=>k_is)
  (case nh=>k_is)
  (case tL=>k_is)
  (case qK=>k_is)
  (case ni=>k_is)
  (case a0=>k_is)
  (case l0=>k_is)
  (case c0=>k_is)
  (case k0=>k_is)
  (case a1=>k_is)
  (case l1=>k_is)
  (case c1=>k_is)
  (case k1=>k_is)
  (case a2=>k_is)
  (case l2=>k_is)
  (case c2=>k_is)
  (case k2=>k_is)
  (case a3=>k_is)
  (case l3=>k_is)
  (case c3=>k_is)
  (case k3=>k_is)
  (case a4=>k_is)
  (case l4=>k_is)
  (case c4=>k_is)
  (case k4=>k_is)
  (case a5=>k_is)
  (case l5=>k_is)
  (case c5=>k_is)
  (case k5=>k_is)
  (case a6=>k_is)
  (case l6=>k_is)
  (case c6=>k_is)
  (case k6=>k_is)
  (case a7=>k_is)
  (case l7=>k_is)
  (case c7=>k_is)
  (case k7=>k_is)
  (case a8=>k_is)
  (case l8=>k_is)
  (case c8=>k_is)
  (case k8=>k_is)
  (case a9=>k_is)
  (case l9=>k_is)
  (case c9=>k_is)
  (case k9=>k_is)
  (case K9=>k_is)
  (case La=>first | rfl | with_unfolding_all rfl)
  (case Bc=>kernel_rfl)
  (case Bd=>k_is)
  (case Be=>k_is)
  (case Bf=>k_is)
  (case Bg=>k_is)
  (case Bh=>k_is)
  (case Bi=>k_is)
  (case Bj=>k_is)
  (case Bk=>k_is)
  (case Bl=>k_is)
  (case Bo=>k_is)
  (case Bp=>k_is)
  (case Bq=>k_is)
  (case Br=>k_is)
  (case Bt=>k_is)
  (case Bu=>k_is)
  (case Bv=>k_is)
  (case Bw=>k_is)
  (case Bx=>k_is)
  (case By=>k_is)
  (case Bz=>k_is)
  (case Lb=>k_is)
  (case BA=>k_is)
  (case BB=>k_is)
  (case BC=>k_is)
  (case Lc=>k_is)
  (case Ld=>first | rfl | with_unfolding_all rfl)
  (case BD=>kernel_rfl)
  (case BE=>k_is)
  (case BF=>k_is)
  (case BG=>k_is)
  (case BH=>k_is)
  (case BJ=>k_is)
  (case BK=>k_is)
  (case BL=>k_is)
  (case BM=>k_is)
  (case BN=>k_is)
  (case BO=>k_is)
  (case BP=>k_is)
  (case BQ=>k_is)
  (case BR=>k_is)
  (case BS=>k_is)
  (case BU=>k_is)
  (case BV=>k_is)
  (case BW=>k_is)
  (case BX=>k_is)
  (case BY=>k_is)
  (case BZ=>k_is)
  (case Le=>k_is)
  (case B0=>k_is)
  (case B3=>k_is)
  (case wD=>k_is)
  (case Lf=>k_is)
  (case B4=>k_is)
  (case B5=>k_is)
  (case wF=>k_is)
  (case B6=>k_is)
  (case B7=>k_is)
  (case B8=>k_is)
  (case B9=>k_is)
  (case Lg=>k_is)
  (case Ca=>k_is)
  (case Cb=>k_is)
  (case tP=>k_is)
  (case Cc=>k_is)
  (case Cd=>k_is)
  (case Ce=>k_is)
  (case Cf=>k_is)
  (case Lh=>k_is)
  (case Cg=>k_is)
  (case Ci=>k_is)
  (case tQ=>k_is)
  (case Cj=>k_is)
  (case Ck=>k_is)
  (case Cm=>k_is)
  (case Cn=>k_is)
  (case Co=>k_is)
  (case Cp=>k_is)
  (case Cq=>k_is)
  (case Cr=>k_is)
  (case Cs=>k_is)
  (case Ct=>k_is)
  (case Cu=>k_is)
  (case Cv=>k_is)
  (case wG=>k_is)
  (case Cw=>k_is)
  (case Cy=>k_is)
  (case Cz=>k_is)
  (case wH=>k_is)
  (case wI=>k_is)
  (case wJ=>k_is)
  (case wK=>k_is)
  (case qy=>k_is)
  (case CA=>k_is)
  (case CB=>k_is)
  (case CC=>k_is)
  (case CD=>k_is)
  (case CF=>k_is)
  (case CG=>k_is)
  (case CH=>k_is)
  (case CI=>first | k_is | rfl | decide)
  (case CJ=>first | k_is | rfl | decide)
  (case CK=>k_is)
  (case CL=>k_is)
  (case CM=>first | k_is | rfl | decide)
  (case CN=>first | k_is | rfl | decide)
  (case CO=>k_is)
  (case CP=>k_is)
  (case m4=>k_is)
  (case m5=>k_is)
  (case j7=>k_is)
  (case m6=>k_is)
  (case vZ=>k_is)
  (case tE=>k_is)
  (case qA=>k_is)
  (case qB=>k_is)
  (case tF=>k_is)
  (case CQ=>k_is)
  (case qC=>k_is)
  (case CS=>k_is)
  (case tG=>k_is)
  (case CT=>k_is)
  (case tH=>k_is)
  (case CU=>k_is)
  (case wL=>k_is)
  (case wM=>k_is)
  (case wN=>k_is)
  (case wO=>k_is)
  (case qD=>k_is)
  (case CV=>k_is)
  (case CW=>k_is)
  (case CY=>k_is)
  (case CZ=>k_is)
  (case C2=>k_is)
  (case C3=>k_is)
  (case C4=>k_is)
  (case C5=>first | k_is | rfl | decide)
  (case C6=>first | k_is | rfl | decide)
  (case C7=>k_is)
  (case C8=>k_is)
  (case C9=>first | k_is | rfl | decide)
  (case Dc=>first | k_is | rfl | decide)
  (case De=>k_is)
  (case Df=>k_is)
  (case v3=>k_is)
  (case qE=>k_is)
  (case j8=>k_is)
  (case qF=>k_is)
  (case m8=>k_is)
  (case v7=>k_is)
  (case qG=>k_is)
  (case qH=>k_is)
  (case tI=>k_is)
  (case Dg=>k_is)
  (case qI=>k_is)
  (case Dh=>k_is)
  (case tJ=>k_is)
  (case Di=>k_is)
  (case tK=>k_is)
  (case Dj=>k_is)
  (case Dk=>k_is)
  (case Dm=>k_is)
  (case Dn=>k_is)
  (case Dq=>k_is)
  (case Dr=>k_is)
  (case Ds=>k_is)
  (case Dt=>k_is)
  (case Du=>k_is)
  (case Dv=>k_is)
  (case Dw=>k_is)
  (case Dx=>k_is)
  (case Dy=>k_is)
  (case tR=>first | k_is | rfl | decide)
  (case wQ=>k_is)
  (case tS=>first | k_is | rfl | decide)
  (case tT=>k_is)
  (case tU=>first | k_is | rfl | decide)
  (case wR=>k_is)
  (case wU=>k_is)
  (case Dz=>k_exc)
  (case DA=>k_is)
  (case DB=>k_is)
  (case DC=>k_is)
  (case DD=>k_is)
  (case DE=>k_is)
  (case DF=>k_is)
  (case DG=>k_is)
  (case DH=>k_is)
  (case DI=>first | k_is | rfl | decide)
  (case DJ=>k_is)
  (case DK=>k_is)
  (case DL=>k_exc)
  (case DM=>k_is)
  (case DN=>k_is)
  (case DO=>k_is)
  (case DP=>k_is)
  (case DQ=>k_is)
  (case DR=>k_is)
  (case DS=>k_is)
  (case DT=>k_is)
  (case DU=>first | k_is | rfl | decide)
  (case DV=>k_is)
  (case DW=>first | k_is | rfl | decide)
  (case DX=>k_is)
  (case DY=>k_is)
  (case DZ=>k_is)
  (case D0=>k_is)
  (case nl=>first | k_is | rfl | decide)
  (case sub=>decide)
