import PyProof.Rows.All
import Wide.All
import OpenK.AllK
import Wide.FinOn
import Lean
import PyProof.EqAt
import PyProof.EqKinds
import PyProof.TupleCall
import PyProof.NeKinds
import PyProof.Rows.Range3
import PyProof.FitsBits
import PyProof.StationsW
import PyProof.NsDelKeeps
import PyProof.Rows.CatchOwn
import KE.KTryMore
import PyProof.ExcArgsOwn
import PyProof.ExcAttrAll.ValueError
import OpenK.KOwn
import PyProof.ZipIter
import PyProof.WalksEnum
import PyProof.EnumMake
import KE.KIntText
import PyProof.Conv_int
import PyProof.StrWalks
import PyProof.StrLawsFirst
import KE.KLam
import KE.KNestM
import KE.KRevIter
import PyProof.ListRange
import PyProof.Rows.SortWalk
import PyProof.Rows.SetFrom
import PyProof.FactsAll.set
import PyProof.Rows.SeqMore
import PyProof.FString
import PyProof.ExcClass3
import PyProof.ExcInit
import OpenK.KCls
import PyProof.InstStoreFacts
import PySem.Challenge.RW_mendfield_k13_points_met
open Array renaming length_toList→qA,append_assoc→vK,getElem?_eq_some_iff→yW,find?_toList→C5,toList_append→MI
open Bool renaming and_eq_true→cJ,false_eq_true→i6,and_true→i7,false_ne_true→kO,true_and→kT,or_true→mY,false_and→qB,or_false→qE,true_or→qN,false_or→qO,not_false→tI,not_true→tJ
open Classical renaming byContradiction→Mz
open False renaming elim→cH
open ForInStep renaming yield→yU
open Int renaming emod_lt_of_pos→fm,natAbs_natCast→fq,emod_nonneg→gi,natCast_emod→mW,toNat_natCast→sV,natCast_add→zf,toNat_of_nonneg→zg,natCast_mul→zj,natCast_nonneg→C4,zero_add→Dt,fdiv_eq_ediv_of_nonneg→Mq
open List renaming replicate→aT,getElem?_eq_getElem→a9,getD_eq_getElem?_getD→bg,range→bD,mem_cons→bE,size_toArray→bY,map_cons→cj,length_map→cI,mem_append→cQ,mem_append_right→cR,length_cons→cS,append_assoc→cT,getElem?_map→cW,all_eq_true→cX,all_cons→cZ,mem_map→c9,mem_append_left→dz,map_append→eZ,getElem?_eq_some_iff→gb,append_nil→gg,lookup_cons→gh,mem_range→gM,length_append→gO,map_map→gP,mem_cons_of_mem→ig,mem_singleton→il,not_mem_nil→iq,length_take→iZ,getElem_mem→i5,lookup→jL,nodup_cons→jM,map_nil→jO,cons.inj→jQ,perm_append_comm→jR,mem_of_getElem?→kQ,replicate_succ→mO,nil_append→mP,length_range→mS,mem_of_mem_take→mT,all_nil→mU,cons_append→mV,length_nil→mX,set_cons_zero→mZ,set_cons_succ→m8,length_replicate→qD,flatten_cons→qF,take_length→qH,getElem?_range→qI,take_add_one→qJ,getElem?_eq_none→qL,length_reverse→qM,mem_cons_self→sR,getElem?_set_ne→sS,all_map→sY,take_append_drop→tu,find?_cons→tw,getElem?_cons_zero→tE,getElem?_cons_succ→tF,cons.injEq→tH,filterMap_cons→vJ,getElem?_set_self→vL,of_mem_zip→vM,getElem?_append_right→vN,getElem?_replicate→vO,getElem?_append_left→vP,length_drop→vQ,mem_of_mem_drop→vW,zipWith→vX,append_eq_nil_iff→y6,append_inj→y7,mem_replicate→y8,getElem?_take→za,map_zipWith→zb,getElem?_mapIdx→zc,map_congr_left→zd,mem_map_of_mem→zh,drop_eq_getElem_cons→zi,length→C9,getElem_of_mem→Dh,drop_zero→Dj,Sublist.refl→Dk,Perm.swap→Dm,map_drop→Dq,map_take→Dr,getElem?_drop→Ds,getElem?_reverse→Dv,any_cons→Dy,mem_take_iff_getElem→DA,map_replicate→DB,take_take→DC,take_append_of_le_length→DD,mem_filterMap→Mp,getElem?_take_of_lt→Mr,length_singleton→Mt,set_eq_of_length_le→MC,eq_nil_iff_forall_not_mem→MD,filter_eq_self→ME,take_of_length_le→MF,range_succ_eq_map→MG,drop_eq_nil_of_le→MH,zip_cons_cons→MJ,mem_or_eq_of_mem_set→MK,reverse_append→ML,length_mapIdx→MM
open Nat renaming le_refl→aZ,lt_of_lt_of_le→bK,ne_of_lt→cG,le_trans→dy,lt_irrefl→fk,zero_le→ij,shiftLeft_eq→ik,xor_zero→i4,mul_comm→jN,testBit_xor→jP,zero_xor→kR,lt_of_le_of_lt→kS,pow_succ→mQ,xor_assoc→mR,mul_assoc→qG,two_pow_pos→sX,min_eq_left→sZ,not_lt→s8,mul_mod→s9,mod_lt→tf,le_of_lt→vI,add_comm→vS,pow_le_pow_right→vT,eq_of_testBit_eq→vU,testBit_zero→vV,mod_eq_of_lt→vY,sub_self→vZ,testBit_lt_two_pow→yQ,testBit_succ→yR,strongRecOn→yS,xor_self→yT,sub_zero→y0,min_self→y9,mod_add_mod→ze,one_shiftLeft→zk,le_succ→C8,xor_comm→Df,testBit_and→Dg,add_assoc→Dn,mod_mod→Du,le_max_left→Dw,succ.inj→Dx,testBit_eq_decide_div_mod_eq→Mu,shiftLeft_xor_distrib→Mv,mul_lt_mul_right→Mw,testBit_shiftLeft→Mx,shiftRight_eq_div_pow→MA
open Ne renaming symm→cA
open Option renaming some.inj→bS,map_some→jS,getD_some→kU,getD_none→mM,map_eq_some_iff→qK,isSome_iff_exists→sU,map_none→tD,some.injEq→tG,bind_some→MB
open Or renaming inl→aB,inr→ck
open PyProof renaming Rows.callWith_type1→mK,Rows.callWith_builtin1→Ms
open PySem renaming Heap.lt_size→a4,Value.ref→bC,Heap.get?_push_of_some→bU,Heap.get?_push_size→eY,PassesOwn.never→fo,Heap.get?_update_other→i3,Str.ofString→jT,Value.int→kM,Value.none→kN,Builtin.bitAnd→kP,Value.builtin→kW,Builtin.bitXor→mL,Str.empty→qC,Data.fields→sT,Heap.get?_update_self→sW,Value.str→vH,Obj.mapSeq→vR,Value.bool→yM,Heap.get?_none_of_le→yN,Heap.SameBut→yO,Heap.size_push→yP,Obj.data_mapFields→yV,Heap.MadeExcOf→yX,Value.type.inj→yY,Builtin.Str.strSliceIndices→yZ,Calls.spliced_nil→C6,Calls.spliced_cons→C7,Calls.evalArgs_plain→Dc,Builtin.List.listTooLong→De,Obj.isFreed_of_fields→Di,Heap.get?_push_at→Dz,Calls.Name_function_global→Mo
open Sum renaming inl→qw,inr→qy
open True renaming intro→iY
set_option Elab.async false
set_option linter.all false
set_option maxRecDepth 100000
local macro_rules | `(tactic| omega)=>`(tactic| lia)
namespace L2
open PySem PySem.Spec PyProof.Rows
noncomputable abbrev Key:=Sum Int Str
noncomputable def qP:Key->Value->Bool
 | .inl k,v=>Value.isInt k v
 | .inr x,v=>Value.isStrOf x v
noncomputable def MN(w:World):Key->Int
 | .inl k=>hashInt k
 | .inr x=>hashStr w x
theorem jU:∀{k:Key} {v:Value},qP k v=true->(∃i t,k=qw i/\v=kM i t)\/(∃x t,k=qy x/\v=vH x t)
 | .inl i,v,h=>by
  obtain⟨t,e⟩:=Value.isInt_shape (k:=i) (v:=v) h
  exact .inl ⟨i,t,rfl,e⟩
 | .inr x,v,h=>by
  obtain⟨t,e⟩:=Value.isStrOf_shape (x:=x) (v:=v) h
  exact .inr ⟨x,t,rfl,e⟩
theorem MP(i:Int)(t:Tok):qP (.inl i) (.int i t)=true:=by simp[qP,Value.isInt]
theorem MQ(x:Str)(t:Tok):qP (.inr x) (.str x t)=true:=by simp[qP,Value.isStrOf]
theorem MR(a b:Int):decide ((qw a:Key)=qw b)=(a==b):=by
 by_cases e:a=b
 ·subst e;simp
 ·have h:¬ (qw a:Key)=qw b:=λq=>e (Sum.inl.inj q)
  rw[decide_eq_false h]
  exact(beq_eq_false_iff_ne.mpr e).symm
theorem MS(a b:Str):decide ((qy a:Key)=qy b)=decide (a=b):=by
 by_cases e:a=b
 ·subst e;simp
 ·have h:¬ (qy a:Key)=qy b:=λq=>e (Sum.inr.inj q)
  rw[decide_eq_false h,decide_eq_false e]
theorem MT(a:Int)(b:Str):decide ((qw a:Key)=qy b)=false:=decide_eq_false (λq=>nomatch q)
theorem MU(a:Str)(b:Int):decide ((qy a:Key)=qw b)=false:=decide_eq_false (λq=>nomatch q)
noncomputable def gj(prog:Program)(w:World):PySem.KeyKind prog w Key where
 is:=qP
 hash:=MN w
 inj:=λv a b ha hb=>by
  rcases jU ha with⟨i,t,rfl,rfl⟩ | ⟨x,t,rfl,rfl⟩
  ·rcases jU hb with⟨j,u,rfl,e⟩ | ⟨y,u,rfl,e⟩
   ·injection e with e1 _;rw[e1]
   ·exact nomatch e
  ·rcases jU hb with⟨j,u,rfl,e⟩ | ⟨y,u,rfl,e⟩
   ·exact nomatch e
   ·injection e with e1 _;rw[e1]
 byValue:=λk v h=>by
  rcases jU h with⟨i,t,rfl,rfl⟩ | ⟨x,t,rfl,rfl⟩<;>rfl
 pyHash:=λhv h=>by
  rcases jU hv with⟨i,t,rfl,rfl⟩ | ⟨x,t,rfl,rfl⟩
  ·exact wpAny_pyHash_int h
  ·exact wpAny_pyHash_str h
 eqBool:=λhu hv h=>by
  rcases jU hu with⟨i,t,rfl,rfl⟩ | ⟨x,t,rfl,rfl⟩
  ·rcases jU hv with⟨j,u,rfl,rfl⟩ | ⟨y,u,rfl,rfl⟩
   ·rw[MR]at h;exact wpAny_eqBool_int h
   ·rw[MT]at h;exact SeqAt.EqAt.int_str i t y u _ _ _ _ h
  ·rcases jU hv with⟨j,u,rfl,rfl⟩ | ⟨y,u,rfl,rfl⟩
   ·rw[MU]at h;exact SeqAt.EqAt.str_int x t j u _ _ _ _ h
   ·rw[MS]at h;exact wpAny_eqBool_str h
 «strs»:=λk x t v h=>by
  rcases jU h with⟨i,u,rfl,e⟩ | ⟨y,u,rfl,e⟩
  ·exact nomatch e
  ·injection e with e1 _
   subst e1
   cases v<;>rfl
theorem MV(prog:Program)(w:World)(i:Int)(t:Tok):(gj prog w).is (.inl i) (.int i t)=true:=MP i t
theorem MW(prog:Program)(w:World)(x:Str)(t:Tok):(gj prog w).is (.inr x) (.str x t)=true:=MQ x t
end L2
namespace L2
open PySem PySem.Spec PyProof.Rows
inductive V where
 | ao | bl (b:Bool) | int (i:Int) | str (x:Str) | v9 (b:Array UInt8) | m9 (b:UInt64) | ref (a:Addr) | ty (n:String)
 deriving DecidableEq
noncomputable def RelV:V->Value->Prop
 | .ao,u=>u=kN
 | .bl b,u=>u=yM b
 | .int i,u=>∃t,u=kM i t
 | .str x,u=>∃t,u=vH x t
 | .v9 b,u=>∃t,u=Value.bytes b t
 | .m9 b,u=>∃t,u=Value.float b t
 | .ref a,u=>u=bC a
 | .ty n,u=>u=Value.type n
noncomputable abbrev Vals:List V->List Value->Prop:=Paired RelV
theorem Vals.length{xs:List V}{us:List Value}(r:Vals xs us):xs.length=us.length:=Paired.length r
theorem Vals.get:∀{xs:List V} {us:List Value} {i:Nat} {x:V},Vals xs us->xs[i]?=some x->∃u,us[i]?=some u/\RelV x u
 | _,_,_,_,.nil,e=>by simp at e
 | _,_,0,_,.cons r _,e=>by simp at e;subst e;exact⟨_,rfl,r⟩
 | _,_,i+1,x,.cons _ t,e=>by
  obtain⟨u,h1,h2⟩:=Vals.get (i:=i) (x:=x) t (by simpa using e)
  exact⟨u,by simpa using h1,h2⟩
theorem Vals.set{x:V}{u:Value}(r:RelV x u):∀{xs:List V} {us:List Value} (i:Nat),Vals xs us->Vals (xs.set i x) (us.set i u)
 | _,_,_,.nil=>.nil
 | _,_,0,.cons _ t=>.cons r t
 | _,_,i+1,.cons q t=>.cons q (Vals.set r i t)
theorem Vals.append:∀{xs ys:List V} {us ws:List Value},Vals xs us->Vals ys ws->Vals (xs++ys) (us++ws)
 | _,_,_,_,.nil,s=>s
 | _,_,_,_,.cons r t,s=>.cons r (Vals.append t s)
theorem Vals.take:∀{xs:List V} {us:List Value} (n:Nat),Vals xs us->Vals (xs.take n) (us.take n)
 | _,_,0,_=>.nil
 | _,_,_+1,.nil=>.nil
 | _,_,n+1,.cons r t=>.cons r (Vals.take n t)
theorem Vals.drop:∀{xs:List V} {us:List Value} (n:Nat),Vals xs us->Vals (xs.drop n) (us.drop n)
 | _,_,0,r=>r
 | _,_,_+1,.nil=>.nil
 | _,_,n+1,.cons _ t=>Vals.drop n t
noncomputable def ft:Option V->Option Value->Prop
 | some v,some u=>RelV v u
 | none,none=>True
 | _,_=>False
noncomputable def KV{κ:Type}:List (κ × V)->List (κ × Value)->Prop:=Paired λ(p:κ × V) (q:κ × Value)=>p.1=q.1/\RelV p.2 q.2
noncomputable def kV:Key->V
 | .inl i=>.int i
 | .inr x=>.str x
inductive HO where
 | lst (xs:List V)
 | tup (xs:List V)
 | dK (aj:List (Key × V)) | dT (aj:List (List Key × V))
 | set (S:Int->Bool) (n:Nat)
 | ins (C dx:Addr) (fs:List (Str × V))
 | own (x:Addr)
 | xd (fs:List (Str × V))
 | met (f x:Addr)
 | tK (lo hi:Int)
 | bz (o:Obj) (u:HO)
 | bZ (ps:Array Value)
 | ext (φ:Heap->Prop)
noncomputable abbrev Hp:=Addr->Option HO
noncomputable def upd(H:Hp)(a:Addr)(o:HO):Hp:=λb=>if b=a then some o else H b
theorem a5{H:Hp}{a:Addr}{o:HO}:upd H a o a=some o:=by unfold upd;rw[if_pos rfl]
theorem ay{H:Hp}{a b:Addr}{o:HO}(h:b≠a):upd H a o b=H b:=by unfold upd;rw[if_neg h]
theorem MX{H:Hp}{a b:Addr}{o u:HO}(h:H a=some o)(h':H b=some u)(d:o≠u):a≠b:=by
 intro e;subst e;rw[h]at h';exact d (bS h')
theorem cq{H:Hp}{a b:Addr}{o:HO}(h:H a=some o)(h':H b=none):a≠b:=by
 intro e;subst e;rw[h]at h';cases h'
section
variable(P:Program)(w:World)
noncomputable def bq(H:Hp)(h:Heap)(a:Addr):HO->Prop
 | .lst xs=>xs.length<=sizeLine/\∃(its:List Value) (n:Nat),Vals xs its/\h.get? a=some { cls:=.type "list",data:=.seq its.toArray n }
 | .tup xs=>xs.length<=sizeLine/\∃its:List Value,Vals xs its/\IsTup h a its.toArray
 | .dK aj=>aj.length<=sizeLine/\(a==sysModules)=false/\∃vs,KV aj vs/\h.DictOf (gj P w) a vs
 | .dT aj=>aj.length<=sizeLine/\(a==sysModules)=false/\∃xs:List (List Key × Addr × Value),
   Paired (λ(p:List Key × V) (q:List Key × Addr × Value)=>p.1=q.1/\H q.2.1=some (.tup (p.1.map kV))/\RelV p.2 q.2.2) aj xs /\
   ∃o es ep,h.get? a=some o/\o.ExactDict/\o.data=.dict es ep/\es.toList=xs.map (entryOfKey (tupleKind (gj P w)))/\(xs.map (·.1)).Nodup
 | .set S n=>h.SetOf (intKind P w) a S n
 | .ins C dx fs=>H dx=some (.own a)/\fs.length<=1000/\dx≠a/\h.get? a=some (PySem.W.instObj C dx) /\
   ∃mA,h.Ns1 dx mA/\(∀f,ft (fs.lookup f) (mA f))/\PySem.Within mA (fs.map (·.1))
 | .own _=>∃o,h.get? a=some o
 | .xd fs=>∃mA,h.Ns1 a mA/\∀f,ft (fs.lookup f) (mA f)
 | .tK lo hi=>∃t u v,h.get? a=some { cls:=.type "range",data:=.fields #[.int lo t,.int hi u,.int 1 v] }
 | .bz o u=>h.get? a=some o/\bq H h a u
 | .bZ ps=>h.get? a=some { cls:=.none,data:=.fields ps }/\TriplesOk ps.toList/\∀pos cv,codeAmong pos ps.toList=some cv->∃c φ,cv=.ref c/\H c=some (.ext φ)/\∀h',φ h'->∃q,h'.CodeRec (.ref c) q
 | .met f x=>h.get? a=some (PySem.W.methodObj (.ref f) (.ref x))
 | .ext φ=>φ h/\(∃o,h.get? a=some o)/\∀h1 h2:Heap,φ h1->(∀b o,(b=a\/H b=some (.own a))->h1.get? b=some o->h2.get? b=some o)->φ h2
noncomputable def bA(H:Hp)(h:Heap):Prop:=∀a o,H a=some o->bq P w H h a o
end
section
variable{P:Program}{w:World}{H H':Hp}{h h':Heap}{a:Addr}{o:HO}
theorem bq.lt(x:bq P w H h a o):a<h.objs.size:=by
 cases o with
 | lst xs=>obtain⟨_,_,_,_,e⟩:=x;exact a4 e
 | tup xs=>obtain⟨_,_,_,p⟩:=x;exact p.lt
 | dK aj=>obtain⟨_,_,_,_,o,_,_,e,_⟩:=x;exact a4 e
 | dT aj=>obtain⟨_,_,_,_,o,_,_,e,_⟩:=x;exact a4 e
 | set S n=>obtain⟨o,_,_,_,e,_⟩:=x;exact a4 e
 | ins C dx fs=>obtain⟨_,_,_,e,_⟩:=x;exact a4 e
 | own y=>obtain⟨_,e⟩:=x;exact a4 e
 | xd fs=>obtain⟨_,⟨_,_,_,e,_⟩,_⟩:=x;exact a4 e
 | tK lo hi=>obtain⟨_,_,_,e⟩:=x;exact a4 e
 | bz ob u=>obtain⟨e,_⟩:=x;exact a4 e
 | bZ ps=>exact a4 (show h.get? a=some _ from x.1)
 | met f y=>exact a4 (show h.get? a=some _ from x)
 | ext φ=>obtain⟨_,⟨_,e⟩,_⟩:=x;exact a4 e
theorem Paired.wa{α β:Type}{F G:α->β->Prop}:∀{l₁:List α} {l₂:List β},Paired F l₁ l₂->(∀a b,F a b->G a b)->Paired G l₁ l₂
 | _,_,.nil,_=>.nil
 | _,_,.cons r t,f=>.cons (f _ _ r) (Paired.wa t f)
theorem bq.eB(x:bq P w H h a o)(k:∀b u,(b=a\/H b=some (.own a))->h.get? b=some u->h'.get? b=some u)
  (ho:∀b,H b=some (.own a)->H' b=some (.own a)) (ht:∀b xs,H b=some (.tup xs)->H' b=some (.tup xs)) (hx:∀b φ,H b=some (.ext φ)->H' b=some (.ext φ)):bq P w H' h' a o:=by
 induction o with
 | lst xs=>obtain⟨z,its,n,r,e⟩:=x;exact⟨z,its,n,r,k _ _ (.inl rfl) e⟩
 | tup xs=>obtain⟨z,its,r,ob,e,c⟩:=x;exact⟨z,its,r,ob,k _ _ (.inl rfl) e,c⟩
 | dK aj=>obtain⟨z,y,vs,r,ob,es,ep,e,c⟩:=x;exact⟨z,y,vs,r,ob,es,ep,k _ _ (.inl rfl) e,c⟩
 | dT aj =>
  obtain⟨z,y,xs,r,ob,es,ep,e,c⟩:=x
  exact⟨z,y,xs,Paired.wa r λp q z=>⟨z.1,ht _ _ z.2.1,z.2.2⟩,ob,es,ep,k _ _ (.inl rfl) e,c⟩
 | set S n=>obtain⟨ob,es,ep,t,e,c⟩:=x;exact⟨ob,es,ep,t,k _ _ (.inl rfl) e,c⟩
 | ins C dx fs =>
  obtain⟨d,z,ne,e,mA,⟨od,es,ep,e2,c⟩,r⟩:=x
  exact⟨ho _ d,z,ne,k _ _ (.inl rfl) e,mA,⟨od,es,ep,k _ _ (.inr d) e2,c⟩,r⟩
 | own y=>obtain⟨ob,e⟩:=x;exact⟨ob,k _ _ (.inl rfl) e⟩
 | xd fs=>obtain⟨mA,⟨od,es,ep,e,c⟩,r⟩:=x;exact⟨mA,⟨od,es,ep,k _ _ (.inl rfl) e,c⟩,r⟩
 | tK lo hi=>obtain⟨t,u,v,e⟩:=x;exact⟨t,u,v,k _ _ (.inl rfl) e⟩
 | bz ob u ih=>obtain⟨e,q⟩:=x;exact⟨k _ _ (.inl rfl) e,ih q⟩
 | bZ ps =>
  obtain⟨e,t,c⟩:=x
  refine⟨k a _ (.inl rfl) e,t,λpos cv q=>?_⟩
  obtain⟨d,φ,e1,e2,e3⟩:=c pos cv q
  exact⟨d,φ,e1,hx _ _ e2,e3⟩
 | met f y =>
  have e:h.get? a=some (PySem.W.methodObj (.ref f) (.ref y)):=x
  show h'.get? a=some (PySem.W.methodObj (.ref f) (.ref y))
  exact k a _ (.inl rfl) e
 | ext φ=>obtain⟨p,⟨o,e⟩,st⟩:=x;exact⟨st _ _ p λb o hb q=>k _ _ hb q,⟨o,k _ _ (.inl rfl) e⟩,λh1 h2 p1 kk=>st h1 h2 p1 λb o hb q=>kk b o (hb.imp id (ho b)) q⟩
theorem bA.lt(x:bA P w H h)(e:H a=some o):a<h.objs.size:=(x a o e).lt
theorem bA.fresh(x:bA P w H h)(e:h.objs.size<=a):H a=none:=by
 cases q:H a with
 | none=>rfl
 | some u=>exact absurd (bK (x.lt q) e) (fk _)
theorem bA.kept(x:bA P w H h)(k:∀b u,h.get? b=some u->h'.get? b=some u):bA P w H h':=λa o e =>
 (x a o e).eB (λb u _ q=>k b u q) (λ_ q=>q) (λ_ _ q=>q) λ_ _ q=>q
theorem bA.laid(x:bA P w H h)(k:∀b u,h.get? b=some u->h'.get? b=some u)(hp:h.objs.size<=a)(new:bq P w (upd H a o) h' a o):bA P w (upd H a o) h':=λb u e=>by
 have hn:=x.fresh hp
 by_cases hb:b=a
 ·subst hb;rw[a5]at e;cases e;exact new
 ·rw[ay hb]at e
  exact(x b u e).eB (λc v _ q=>k c v q) (λc q=>by rw[ay (cq q hn)];exact q) (λc xs q=>by rw[ay (cq q hn)];exact q) λc xs q=>by rw[ay (cq q hn)];exact q
end
noncomputable def Rd(H:Hp)(a:Addr)(u:HO):Prop:=H a=some u\/∃o,H a=some (.bz o u)
theorem Rd.ok{P:Program}{w:World}{H:Hp}{h:Heap}{a:Addr}{u:HO}(r:Rd H a u)(x:bA P w H h):bq P w H h a u:=by
 rcases r with r | ⟨o,r⟩
 ·exact x a u r
 ·obtain⟨_,q⟩:=x a _ r
  exact q
noncomputable def tL:Option HO->Prop
 | some (.lst _)=>True
 | some (.dK _)=>True
 | some (.dT _)=>True
 | some (.set _ _)=>True
 | some (.ins _ _ _)=>True
 | _=>False
section
variable{P:Program}{w:World}{H:Hp}{h h':Heap}{x e:Addr}{o':HO}
theorem bA.write(ok:bA P w H h)(mu:tL (H x))(he:e=x\/H e=some (.own x))(k:∀b u,b≠e->h.get? b=some u->h'.get? b=some u)(qQ:∃u,h'.get? e=some u)
  (new:bq P w (upd H x o') h' x o'):bA P w (upd H x o') h':=λb u q=>by
 have DE:∀c y,H c=some (.own y)->c≠x:=λc y r z=>by subst z;rw[r]at mu;exact mu
 have MY:∀c xs,H c=some (.tup xs)->c≠x:=λc xs r z=>by subst z;rw[r]at mu;exact mu
 by_cases hb:b=x
 ·subst hb;rw[a5]at q;cases q;exact new
 ·rw[ay hb]at q
  by_cases nh:b=e
  ·have q':H b=some (.own x):=by
    rcases he with z | z
    ·exact absurd (nh.trans z) hb
    ·rw[nh];exact z
   rw[q]at q';cases q'
   obtain⟨v,hv⟩:=qQ
   exact⟨v,by rw[nh];exact hv⟩
  ·refine(ok b u q).eB (λc v hc r=>k c v ?_ r) (λc r=>by rw[ay (DE c b r)];exact r) (λc xs r=>by rw[ay (MY c xs r)];exact r) λc φ r=>by rw[ay (λz=>by rw[z]at r;rw[r]at mu;exact mu)];exact r
   rcases hc with rfl | hc
   ·exact nh
   ·rintro rfl
    rcases he with z | z
    ·exact DE c b hc z
    ·rw[hc]at z;cases z;exact hb rfl
end
structure Un(fs ex:List Addr)(H H':Hp)(h h':Heap):Prop where
 keep:∀b o,h.get? b=some o->H b=none->b ∉ fs->b ∉ ex->h'.get? b=some o
 slot:∀b o,h.get? b=some o->H b=none->b∈fs->b ∉ ex->∃sl,h'.get? b=some { o with slots:=sl }
 free:∀b o,h.get? b=some o->H b=none->b ∉ ex->H' b=none
 there:∀b o,h.get? b=some o->b ∉ ex->∃o',h'.get? b=some o'
 dJ:∀b xs,H b=some (.tup xs)->H' b=some (.tup xs)
 dA:∀b o u,H b=some (.bz o u)->H' b=some (.bz o u)
 da:∀b ps,H b=some (.bZ ps)->∃more,H' b=some (.bZ (ps++more))
section
variable{fs MZ ex Zk:List Addr}{H H1 H2:Hp}{h h1 h2 h':Heap}{a x e:Addr}{o:HO}
theorem Un.any(u:Un fs ex H H1 h h1){b:Addr}{ob:Obj}(q:h.get? b=some ob)(n:H b=none)(hx:b ∉ ex):∃sl,h1.get? b=some { ob with slots:=sl }:=by
 by_cases hb:b∈fs
 ·exact u.slot b ob q n hb hx
 ·exact⟨ob.slots,u.keep b ob q n hb hx⟩
theorem Un.kept(k:∀b u,h.get? b=some u->h'.get? b=some u):Un fs ex H H h h' :=
 ⟨λb ob q _ _ _=>k b ob q,λb ob q _ _ _=>⟨ob.slots,k b ob q⟩,λ_ _ _ n _=>n,λb ob q _=>⟨ob,k b ob q⟩,λ_ _ q=>q,λ_ _ _ q=>q,λ_ ps q=>⟨#[],by rw[q];simp⟩⟩
theorem Un.refl:Un fs ex H H h h:=Un.kept λ_ _ q=>q
theorem Un.laid(k:∀b u,h.get? b=some u->h'.get? b=some u)(hp:h.objs.size<=a)(hn:H a=none):Un fs ex H (upd H a o) h h' where
 keep:=λb u q _ _ _=>k b u q
 slot:=λb u q _ _ _=>⟨u.slots,k b u q⟩
 free:=λb u q n _=>by rw[ay (cG (bK (a4 q) hp))];exact n
 there:=λb u q _=>⟨u,k b u q⟩
 dJ:=λb xs q=>by rw[ay (cq q hn)];exact q
 dA:=λb u xs q=>by rw[ay (cq q hn)];exact q
 da:=λb ps q=>⟨#[],by rw[ay (cq q hn),q];simp⟩
theorem Un.write(mu:tL (H x))(he:e=x\/H e=some (.own x))(k:∀b u,b≠e->h.get? b=some u->h'.get? b=some u)(qQ:∃u,h'.get? e=some u):Un fs ex H (upd H x o) h h':=by
 have hx:∀b,H b=none->b≠x:=λb n z=>by subst z;rw[n]at mu;exact mu
 have hb:∀b,H b=none->b≠e:=λb n z=>by
  subst z
  rcases he with r | r
  ·exact hx b n r
  ·rw[n]at r;cases r
 have hm:∀b u,H b=some u->¬ tL (some u)->b≠x:=λb u q nm z=>by subst z;rw[q]at mu;exact nm mu
 refine⟨λb u q n _ _=>k b u (hb b n) q,λb u q n _ _=>⟨u.slots,k b u (hb b n) q⟩,λb u q n _=>by rw[ay (hx b n)];exact n,λb u q _=>?_,
  λb xs q=>by rw[ay (hm b _ q λz=>z)];exact q,λb u xs q=>by rw[ay (hm b _ q λz=>z)];exact q,λb ps q=>⟨#[],by rw[ay (hm b _ q λz=>z),q];simp⟩⟩
 by_cases nh:b=e
 ·subst nh;exact qQ
 ·exact⟨u,k b u nh q⟩
end
noncomputable def wb(h:Heap)(H:Hp):List Addr:=(bD h.objs.size).filter λa=>(H a).isSome
noncomputable def i8(h:Heap)(H:Hp):Heap:=PySem.W.hideAll h (wb h H)
theorem M0(h:Heap)(H:Hp):(i8 h H).objs.size=h.objs.size:=PySem.W.hideAll_size _ _
theorem M3{h:Heap}{H:Hp}{b:Addr}{o:Obj}(e:h.get? b=some o)(n:H b=none):(i8 h H).get? b=some o :=
 PySem.W.hideAll_get _ e λhm=>by
  have q:(H b).isSome=true:=(List.mem_filter.mp hm).2
  rw[n]at q;simp at q
theorem M4{h:Heap}{H:Hp}{b:Addr}{o:Obj}(e:(i8 h H).get? b=some o):h.get? b=some o/\H b=none:=by
 have e':h.get? b=some o:=PySem.W.of_hideAll (wb h H) e
 refine⟨e',?_⟩
 cases q:H b with
 | none=>rfl
 | some x =>
  have hm:b∈wb h H:=List.mem_filter.mpr ⟨gM.mpr (a4 e'),by simp[q]⟩
  have z:(i8 h H).get? b=none:=PySem.W.hideAll_none (wb h H) hm
  rw[z]at e;cases e
end L2
namespace L2
open PySem PySem.Spec PyProof.Rows
structure Mod(K:PySem.W.Frag)(mg:Str->Option Value)(base:Heap):Prop where
 ir:K.In base
 glob:base.Ns mainGlobals mg
 blt:∃mb,base.Ns builtinsNs mb/\∀x:Str,x≠"__name__"->mb x=bootBuiltins x
 nolimit:base.NoLimit
structure Cx where
 prog:Program
 w:World
 K:PySem.W.Frag
 mg:Str->Option Value
 base:Heap
 A:Around
 N:List Str
 bc:Shared
 gQ:Hp
 env:Env
 outer:List Env
 stack:List Env
 ex:List Addr
 fn:Str->Bool
 calm:Bool
 pn:List (Addr × Obj)
 xe:Value->Shared->Prop
noncomputable def cw(l:List Env):List Addr:=l.filterMap (·.frame)
noncomputable abbrev Cx.fs(X:Cx):List Addr:=cw X.outer
noncomputable def gR(sc:Scope)(x:Str):Prop:=sc.names.lookup x=some .local\/sc.names.lookup x=some .cell\/sc.names.lookup x=some .free
noncomputable def Loc(sc:Scope)(x:Str):Prop:=sc.names.lookup x=some .local\/sc.names.lookup x=some .cell
noncomputable def M5(env:Env)(h:Heap)(m:Str->Option Value)(x:Str)(u:Value):Prop :=
 (env.kindOf x=some .local/\m x=some u)\/((env.kindOf x=some .cell\/env.kindOf x=some .free)/\∃c,env.cells.lookup x=some c/\h.IsCell c (some u))
structure Cx.Ok(X:Cx):Prop where
 mod:Mod X.K X.mg X.base
 kind:X.env.scope.kind=.function
 glob:X.env.globals=mainGlobals
 blt:X.env.builtins=builtinsNs
 above:X.bc.heap.objs.size<=X.env.locals
 inj:∀x y c,X.env.cells.lookup x=some c->X.env.cells.lookup y=some c->x=y
 has:∀x,(X.env.kindOf x=some .cell\/X.env.kindOf x=some .free)->∃c,X.env.cells.lookup x=some c
 jV:∀x c,X.fn x=true->X.env.cells.lookup x=some c->X.bc.heap.objs.size<=c
 hd:X.calm=true->X.A.handled=none
 frames:X.A.frames=some X.stack
 ni:X.stack=X.outer\/(X.stack=X.env::X.outer/\X.env.frame=some X.env.locals)
 nj:∀b∈X.ex,b≠X.env.locals/\∀x c,X.env.cells.lookup x=some c->c≠b
 bs:∀b o,X.base.get? b=some o->X.bc.heap.get? b=some o/\X.gQ b=none
 fu:X.base.objs.size<=X.bc.heap.objs.size
 kX:∀b o,X.base.get? b=some o->b ∉ X.ex
 kY:∀b∈X.ex,b ∉ X.fs
 dB:X.bc.heap.FunFrames X.base X.outer
 fv:∀b∈X.fs,X.gQ b=none
structure Inv(X:Cx)(pins:List (Addr × Obj))(σ:List (Option V))(H:Hp)(s:Shared):Prop where
 ok:X.Ok
 os:s.os=X.bc.os
 bare:AllBare s.gens
 base:Un X.fs X.ex X.gQ H X.bc.heap s.heap
 loc:∃m,s.heap.Ns X.env.locals m/\∀(i:Nat) (x:Str) (v:V),X.N[i]?=some x->σ[i]?=some (some v)->gR X.env.scope x->∃u,RelV v u/\M5 X.env s.heap m x u
 cell:∀x c,X.env.cells.lookup x=some c->∃v,s.heap.IsCell c v
 free:H X.env.locals=none
 cK:∀x c,X.env.cells.lookup x=some c->H c=none
 pin:∀p∈X.pn++pins,s.heap.get? p.1=some p.2/\H p.1=none/\p.1≠X.env.locals/\p.1 ∉ X.fs/\∀v,p.2.data≠.cell v
 au:bA X.prog X.w H s.heap
 len:σ.length=X.N.length
section
variable{X:Cx}{pins:List (Addr × Obj)}{σ:List (Option V)}{H H':Hp}{s:Shared}{h':Heap}
theorem Cx.Ok.M6(ok:X.Ok){b:Addr}{o:Obj}(e:X.base.get? b=some o):b ∉ X.fs:=λhb=>by
 have:=(ok.dB.mem hb).1
 rw[e]at this;cases this
theorem Inv.bs(I:Inv X pins σ H s):∀b o,X.base.get? b=some o->s.heap.get? b=some o/\H b=none:=λb o e =>
 ⟨I.base.keep b o (I.ok.bs b o e).1 (I.ok.bs b o e).2 (I.ok.M6 e) (I.ok.kX b o e),I.base.free b o (I.ok.bs b o e).1 (I.ok.bs b o e).2 (I.ok.kX b o e)⟩
theorem Inv.bk(I:Inv X pins σ H s):∀b o,X.base.get? b=some o->s.heap.get? b=some o:=λb o e=>(I.bs b o e).1
theorem Inv.mod(I:Inv X pins σ H s):Mod X.K X.mg X.base:=I.ok.mod
theorem Inv.bh(I:Inv X pins σ H s):X.K.In s.heap:=I.ok.mod.ir.keeps I.bk
theorem Inv.lt(I:Inv X pins σ H s):X.env.locals<s.heap.objs.size:=let⟨_,hn,_⟩:=I.loc;hn.lt
theorem Inv.sz(I:Inv X pins σ H s):X.bc.heap.objs.size<=s.heap.objs.size:=dy I.ok.above (vI I.lt)
theorem Inv.DF(I:Inv X pins σ H s){a:Addr}(h:s.heap.objs.size<=a):a ∉ X.fs:=λhb=>by
 obtain⟨_,o,ho,_⟩:=I.ok.dB.mem hb
 exact absurd (bK (a4 ho) (dy I.sz h)) (fk _)
theorem Inv.gS(I:Inv X pins σ H s):∀x c,X.env.cells.lookup x=some c->c≠X.env.locals:=λx c e z=>by
 obtain⟨v,o,ho,hd⟩:=I.cell x c e
 obtain⟨m,⟨o',es,ep,iu,tM,_⟩,_⟩:=I.loc
 rw[z,iu]at ho;cases ho;rw[tM]at hd;cases hd
theorem Inv.dB(I:Inv X pins σ H s):s.heap.FunFrames X.base X.outer:=by
 have all:∀(l:List Env),(∀b∈cw l,b∈X.fs)->X.bc.heap.FunFrames X.base l->s.heap.FunFrames X.base l:=by
  intro l
  induction l with
  | nil=>intro _ _;trivial
  | cons env r ih =>
   intro hs hl
   obtain⟨hk,⟨L,o,hf,hn,ho,hd⟩,hr⟩:=hl
   have hL:L∈X.fs:=hs L (by unfold cw;rw[vJ,hf];exact sR)
   obtain⟨sl,e⟩:=I.base.slot L o ho (I.ok.fv L hL) hL λz=>I.ok.kY L z hL
   exact⟨hk,⟨L,_,hf,hn,e,hd⟩,ih (λb hb=>hs b (by unfold cw;rw[vJ,hf];exact ig _ hb)) hr⟩
 exact all X.outer (λ_ hb=>hb) I.ok.dB
theorem Inv.stack(I:Inv X pins σ H s):s.heap.FunFrames X.base X.stack:=by
 rcases I.ok.ni with e | ⟨e,hf⟩
 ·rw[e];exact I.dB
 ·rw[e]
  obtain⟨m,hn,_⟩:=I.loc
  refine .cons (by rw[I.ok.kind];decide) hf hn ?_ I.dB
  exact yN (dy I.ok.fu I.ok.above)
theorem Inv.tN(I:Inv X pins σ H s):∀b∈cw X.stack,b∈X.env.locals::X.fs:=λb hb=>by
 rcases I.ok.ni with e | ⟨e,hf⟩
 ·rw[e]at hb;exact ig _ hb
 ·rw[e]at hb
  unfold cw at hb
  rw[vJ,hf]at hb
  exact hb
theorem Inv.wc(I:Inv X pins σ H s):∀b∈cw X.stack,H b=none:=λb hb=>by
 rcases bE.mp (I.tN b hb)with e | hb
 ·rw[e];exact I.free
 ·obtain⟨_,o,ho,_⟩:=I.ok.dB.mem hb
  exact I.base.free b o ho (I.ok.fv b hb) λz=>I.ok.kY b z hb
theorem Inv.step{g':Array GenState}{t':Nat}{d':Drawn}{ch:List Addr}(I:Inv X pins σ H s)
  (i9:∀b∈ch,(b∈X.ex\/X.bc.heap.objs.size<=b)/\b≠X.env.locals/\(∀x c,X.env.cells.lookup x=some c->c≠b)/\∀p∈X.pn++pins,p.1≠b)
  (keep:∀b o,b≠X.env.locals->b ∉ X.fs->b ∉ ch->s.heap.get? b=some o->H b=none->h'.get? b=some o)
  (slot:∀b o,b≠X.env.locals->b∈X.fs->b ∉ ch->s.heap.get? b=some o->H b=none->∃sl,h'.get? b=some { o with slots:=sl }) (free:∀b o,b ∉ ch->s.heap.get? b=some o->H b=none->H' b=none)
  (there:∀b o,b ∉ ch->s.heap.get? b=some o->∃o',h'.get? b=some o')
  (dJ:∀b xs,H b=some (.tup xs)->H' b=some (.tup xs)) (dA:∀b o u,H b=some (.bz o u)->H' b=some (.bz o u)) (da:∀b ps,H b=some (.bZ ps)->∃more,H' b=some (.bZ (ps++more)))
  (ns:∀m,s.heap.Ns X.env.locals m->h'.Ns X.env.locals m) (au:bA X.prog X.w H' h') (hg:AllBare g') :
  Inv X pins σ H' { s with heap:=h',gens:=g',drawn:=d',toks:=t' }:=by
 have qR:∀b o,X.bc.heap.get? b=some o->b≠X.env.locals:=λb o e=>cG (bK (a4 e) I.ok.above)
 have nk:∀b o,X.bc.heap.get? b=some o->b ∉ X.ex->b ∉ ch:=λb o e hx hb=>by
  rcases(i9 b hb).1 with z | z
  ·exact hx z
  ·exact absurd (bK (a4 e) z) (fk _)
 have cellK:∀x c,X.env.cells.lookup x=some c->∀v,s.heap.IsCell c v->h'.IsCell c v:=λx c e v ⟨o,ho,hd⟩=>by
  have tO:c ∉ ch:=λz=>(i9 c z).2.2.1 x c e rfl
  by_cases hc:c∈X.fs
  ·obtain⟨sl,q⟩:=slot c o (I.gS x c e) hc tO ho (I.cK x c e)
   exact⟨_,q,hd⟩
  ·exact⟨o,keep c o (I.gS x c e) hc tO ho (I.cK x c e),hd⟩
 refine⟨I.ok,I.os,hg,⟨λb o e n hb hx=>?_,λb o e n hb hx=>?_,λb o e n hx=>?_,λb o e hx=>?_,λb xs e=>dJ b xs (I.base.dJ b xs e),λb o xs e=>dA b o xs (I.base.dA b o xs e),λb ps e=>?_⟩,?_,λx c e=>?_,?_,λx c e=>?_,λp hp=>?_,au,I.len⟩
 ·exact keep b o (qR b o e) hb (nk b o e hx) (I.base.keep b o e n hb hx) (I.base.free b o e n hx)
 ·obtain⟨sl,e1⟩:=I.base.slot b o e n hb hx
  obtain⟨tP,e2⟩:=slot b _ (qR b o e) hb (nk b o e hx) e1 (I.base.free b o e n hx)
  exact⟨tP,e2⟩
 ·obtain⟨o',e1⟩:=I.base.there b o e hx
  exact free b o' (nk b o e hx) e1 (I.base.free b o e n hx)
 ·obtain⟨o',e1⟩:=I.base.there b o e hx
  exact there b o' (nk b o e hx) e1
 ·obtain⟨m1,e1⟩:=I.base.da b ps e
  obtain⟨m2,e2⟩:=da b _ e1
  exact⟨m1++m2,by rw[e2,vK]⟩
 ·obtain⟨m,hn,hl⟩:=I.loc
  refine⟨m,ns m hn,λi x v e1 e2 e3=>?_⟩
  obtain⟨u,r,l⟩:=hl i x v e1 e2 e3
  refine⟨u,r,?_⟩
  rcases l with l | ⟨k,c,e,z⟩
  ·exact .inl l
  ·exact .inr ⟨k,c,e,cellK x c e _ z⟩
 ·obtain⟨v,z⟩:=I.cell x c e
  exact⟨v,cellK x c e v z⟩
 ·obtain⟨m,⟨o,_,_,ho,_⟩,_⟩:=I.loc
  exact free _ o (λz=>(i9 _ z).2.1 rfl) ho I.free
 ·obtain⟨v,o,ho,hd⟩:=I.cell x c e
  exact free c o (λz=>(i9 c z).2.2.1 x c e rfl) ho (I.cK x c e)
 ·obtain⟨e,n,ne,nf,d⟩:=I.pin p hp
  have tO:p.1 ∉ ch:=λz=>(i9 p.1 z).2.2.2 p hp rfl
  exact⟨keep p.1 p.2 ne nf tO e n,free p.1 p.2 tO e n,ne,nf,d⟩
theorem Inv.un{t':Nat}(I:Inv X pins σ H s)(u:Un X.fs [] H H' s.heap h')(au:bA X.prog X.w H' h'):Inv X pins σ H' { s with heap:=h',toks:=t' }:=by
 obtain⟨m,⟨o,es,ep,ho,r⟩,_⟩:=id I.loc
 obtain⟨sl,hL⟩:=u.any ho I.free (by simp)
 exact I.step (g':=s.gens) (d':=s.drawn) (ch:=[]) (λ_ z=>nomatch z) (λb o _ hb _ e n=>u.keep b o e n hb (by simp)) (λb o _ hb _ e n=>u.slot b o e n hb (by simp)) (λb o _ e n=>u.free b o e n (by simp)) (λb o _ e=>u.there b o e (by simp)) u.dJ u.dA u.da (λm' hm=>by
  obtain⟨o',zl,zm,iu,r'⟩:=hm
  rw[ho]at iu;cases iu
  exact⟨_,zl,zm,hL,r'⟩) au I.bare
theorem Inv.call{g':Array GenState}{t':Nat}{d':Drawn}{ch:List Addr}(I:Inv X pins σ H s)(u:Un (cw X.stack) ch H H' s.heap h')(au:bA X.prog X.w H' h')(hg:AllBare g')
  (i9:∀b∈ch,(b∈X.ex\/X.bc.heap.objs.size<=b)/\b≠X.env.locals/\(∀x c,X.env.cells.lookup x=some c->c≠b)/\∀p∈X.pn++pins,p.1≠b) :
  Inv X pins σ H' { s with heap:=h',gens:=g',drawn:=d',toks:=t' }:=by
 obtain⟨m,⟨o,es,ep,ho,r⟩,_⟩:=id I.loc
 obtain⟨sl,hL⟩:=u.any ho I.free λz=>(i9 _ z).2.1 rfl
 exact I.step (ch:=ch) i9 (λb o hL hb hc e n=>u.keep b o e n (λz=>(bE.mp (I.tN b z)).elim hL hb) hc) (λb o _ _ hc e n=>u.any e n hc) (λb o hc e n=>u.free b o e n hc) (λb o hc e=>u.there b o e hc) u.dJ u.dA u.da (λm' hm=>by
  obtain⟨o',zl,zm,iu,r'⟩:=hm
  rw[ho]at iu;cases iu
  exact⟨_,zl,zm,hL,r'⟩) au hg
theorem Inv.turned{t':Nat}{it:Addr}(I:Inv X pins σ H s)(k:∀b o,b≠it->s.heap.get? b=some o->h'.get? b=some o)(hn:H it=none)(hL:it≠X.env.locals)
  (h1:it∈X.ex\/X.bc.heap.objs.size<=it) (h2:∀x c,X.env.cells.lookup x=some c->c≠it) (h3:∀p∈X.pn++pins,p.1≠it):Inv X pins σ H { s with heap:=h',toks:=t' }:=by
 have kZ:∀b u,H b=some u->b≠it:=λb u e z=>by rw[z,hn]at e;cases e
 refine I.step (g':=s.gens) (d':=s.drawn) (ch:=[it]) (λb hb=>?_) (λb o _ _ hc e _=>k b o (λz=>hc (by simp[z])) e) (λb o _ _ hc e _=>⟨o.slots,k b o (λz=>hc (by simp[z])) e⟩) (λ_ _ _ _ n=>n)
  (λb o hc e=>⟨o,k b o (λz=>hc (by simp[z])) e⟩) (λ_ _ e=>e) (λ_ _ _ e=>e) (λb ps e=>⟨#[],by rw[e];simp⟩) (λm hm=>?_) (λb u e=>?_) I.bare
 ·have e:b=it:=by simpa using hb
  subst e
  exact⟨h1,hL,h2,h3⟩
 ·obtain⟨o,es,ep,ho,r⟩:=hm
  exact⟨o,es,ep,k _ o (cA hL) ho,r⟩
 ·refine(I.au b u e).eB (λc v hc q=>k c v ?_ q) (λ_ q=>q) (λ_ _ q=>q) λ_ _ q=>q
  rcases hc with z | z
  ·rw[z];exact kZ b u e
  ·exact kZ c _ z
theorem Inv.tok(I:Inv X pins σ H s)(t:Nat):Inv X pins σ H { s with toks:=t }:=I.un (h':=s.heap) (t':=t) Un.refl I.au
theorem Inv.kept{t':Nat}(I:Inv X pins σ H s)(k:∀b u,s.heap.get? b=some u->h'.get? b=some u):Inv X pins σ H { s with heap:=h',toks:=t' }:=I.un (Un.kept k) (I.au.kept k)
theorem Inv.laid{a:Addr}{o:HO}{t':Nat}(I:Inv X pins σ H s)(k:∀b u,s.heap.get? b=some u->h'.get? b=some u)(hp:s.heap.objs.size<=a)(new:bq X.prog X.w (upd H a o) h' a o) :
  Inv X pins σ (upd H a o) { s with heap:=h',toks:=t' }:=I.un (Un.laid k hp (I.au.fresh hp)) (I.au.laid k hp new)
theorem Inv.write{x e:Addr}{o:HO}{t':Nat}(I:Inv X pins σ H s)(mu:tL (H x))(he:e=x\/H e=some (.own x))(k:∀b u,b≠e->s.heap.get? b=some u->h'.get? b=some u)(qQ:∃u,h'.get? e=some u)
  (new:bq X.prog X.w (upd H x o) h' x o):Inv X pins σ (upd H x o) { s with heap:=h',toks:=t' }:=I.un (Un.write mu he k qQ) (I.au.write mu he k qQ new)
theorem Inv.weak{av:List (Option V)}(I:Inv X pins σ H s)(hl:av.length=σ.length)(w:∀(i:Nat) v,av[i]?=some (some v)->σ[i]?=some (some v)):Inv X pins av H s :=
 ⟨I.ok,I.os,I.bare,I.base,let⟨m,hn,tQ⟩:=I.loc;⟨m,hn,λi x v e1 e2 e3=>tQ i x v e1 (w i v e2) e3⟩,I.cell,I.free,I.cK,I.pin,I.au,hl.trans I.len⟩
theorem Inv.DG{qS:List (Addr × Obj)}(I:Inv X pins σ H s)(h:∀p∈qS,s.heap.get? p.1=some p.2/\H p.1=none/\p.1≠X.env.locals/\p.1 ∉ X.fs/\∀v,p.2.data≠.cell v):Inv X qS σ H s :=
 ⟨I.ok,I.os,I.bare,I.base,I.loc,I.cell,I.free,I.cK,λp hp=>(cQ.mp hp).elim (λz=>I.pin p (dz _ z)) (h p),I.au,I.len⟩
theorem zo{N:List Str}(hN:N.Nodup){i j:Nat}{x:Str}(a:N[i]?=some x)(b:N[j]?=some x):i=j:=by
 obtain⟨h1,e1⟩:=gb.mp a
 obtain⟨h2,e2⟩:=gb.mp b
 exact(List.getElem_inj hN).mp (e1.trans e2.symm)
theorem M7{M:Model}{A:Around}{E:Value->Shared->Prop}{i:Nat}{x:Str}{v:V}{u:Value}{Q:Unit->Shared->Prop}(I:Inv X pins σ H s)(hN:X.N.Nodup)(hi:X.N[i]?=some x)(hx:Loc X.env.scope x)(r:RelV v u)
  (h:∀s',Inv X pins (σ.set i (some v)) H s'->(∃a,yO a s.heap s'.heap/\(a=X.env.locals\/X.env.cells.lookup x=some a))->Q () s') (hf:X.fn x=true\/X.env.scope.names.lookup x=some .local:=by first | exact .inl rfl | exact .inr rfl | assumption):wpAny M A (storeName X.env x u) Q E s:=by
 obtain⟨m,hn,hl⟩:=id I.loc
 have M8:(X.env.scope.kind==.class||(X.env.scope.kind==.module&&X.env.locals != X.env.globals))=false:=by rw[I.ok.kind];rfl
 have DH:i<σ.length:=by rw[I.len];exact(gb.mp hi).1
 have gS:=I.gS
 have tracked:∀{a:Addr} {h':Heap},(∃o,s.heap.get? a=some o/\H a=none)->yO a s.heap h'->bA X.prog X.w H h':=λ{a h'} ha hs b ob e=>by
  obtain⟨_,_,DI⟩:=ha
  refine(I.au b ob e).eB (λc w' hc q=>(hs.2 c ?_).trans q) (λ_ q=>q) (λ_ _ q=>q) λ_ _ q=>q
  rintro rfl
  rcases hc with rfl | hc
  ·rw[DI]at e;cases e
  ·rw[DI]at hc;cases hc
 rcases hx with hk | hk
 ·refine wpAny_storeName_local hk hn (λh' ja hs=>?_) M8
  obtain⟨oL,_,_,DJ,_⟩:=id hn
  refine h _ ⟨I.ok,I.os,I.bare,⟨λb o e n hb hx=>?_,λb o e n hb hx=>?_,I.base.free,λb o e hx=>?_,I.base.dJ,I.base.dA,I.base.da⟩,⟨_,ja,λj y v' e1 e2 e3=>?_⟩,λy c e=>?_,I.free,I.cK,λp hp=>?_,tracked ⟨oL,DJ,I.free⟩ hs,by simpa using I.len⟩ ⟨_,hs,.inl rfl⟩
  ·exact(hs.2 b (cG (bK (a4 e) I.ok.above))).trans (I.base.keep b o e n hb hx)
  ·obtain⟨sl,e1⟩:=I.base.slot b o e n hb hx
   exact⟨sl,(hs.2 b (cG (bK (a4 e) I.ok.above))).trans e1⟩
  ·obtain⟨o',e1⟩:=I.base.there b o e hx
   exact⟨o',(hs.2 b (cG (bK (a4 e) I.ok.above))).trans e1⟩
  ·by_cases hj:j=i
   ·subst hj
    rw[hi]at e1;cases e1
    rw[vL DH]at e2
    cases e2
    exact⟨u,r,.inl ⟨hk,by simp⟩⟩
   ·rw[sS (cA hj)]at e2
    obtain⟨u',r',q⟩:=hl j y v' e1 e2 e3
    refine⟨u',r',?_⟩
    rcases q with⟨k,e⟩ | ⟨k,c,e,z⟩
    ·refine .inl ⟨k,?_⟩
     have:y≠x:=λe=>hj (zo hN e1 (e ▸ hi))
     simp[this,e]
    ·exact .inr ⟨k,c,e,z.sameBut hs (gS y c e)⟩
  ·obtain⟨w',z⟩:=I.cell y c e
   exact⟨w',z.sameBut hs (gS y c e)⟩
  ·obtain⟨e,n,ne,nf,d⟩:=I.pin p hp
   exact⟨(hs.2 p.1 ne).trans e,n,ne,nf,d⟩
 ·have nq:X.fn x=true:=by
   rcases hf with z | z
   ·exact z
   ·rw[z]at hk;cases hk
  obtain⟨c,hc⟩:=I.ok.has x (.inl hk)
  obtain⟨w',z⟩:=I.cell x c hc
  refine wpAny_storeName_cell I.ok.kind hk hc z (λh' tR hs=>?_)
  obtain⟨oc,fw,M9⟩:=id z
  refine h { s with heap:=h' } ⟨I.ok,I.os,I.bare,⟨λb o e n hb hx=>?_,λb o e n hb hx=>?_,I.base.free,λb o e hx=>?_,I.base.dJ,I.base.dA,I.base.da⟩,⟨m,hn.sameBut hs (cA (gS x c hc)),λj y v' e1 e2 e3=>?_⟩,λy c' e=>?_,I.free,I.cK,λp hp=>?_,tracked ⟨oc,fw,I.cK x c hc⟩ hs,by simpa using I.len⟩ ⟨c,hs,.inr hc⟩
  ·exact(hs.2 b (cG (bK (a4 e) (I.ok.jV x c nq hc)))).trans (I.base.keep b o e n hb hx)
  ·obtain⟨sl,e1⟩:=I.base.slot b o e n hb hx
   exact⟨sl,(hs.2 b (cG (bK (a4 e) (I.ok.jV x c nq hc)))).trans e1⟩
  ·obtain⟨o',e1⟩:=I.base.there b o e hx
   exact⟨o',(hs.2 b (cG (bK (a4 e) (I.ok.jV x c nq hc)))).trans e1⟩
  ·by_cases hj:j=i
   ·subst hj
    rw[hi]at e1;cases e1
    rw[vL DH]at e2
    cases e2
    exact⟨u,r,.inr ⟨.inl hk,c,hc,tR⟩⟩
   ·rw[sS (cA hj)]at e2
    obtain⟨u',r',q⟩:=hl j y v' e1 e2 e3
    refine⟨u',r',?_⟩
    rcases q with q | ⟨k,c',e,z'⟩
    ·exact .inl q
    ·refine .inr ⟨k,c',e,z'.sameBut hs ?_⟩
     rintro rfl
     exact hj (zo hN e1 (I.ok.inj _ _ _ e hc ▸ hi))
  ·by_cases DK:c'=c
   ·subst DK;exact⟨_,tR⟩
   ·obtain⟨w2,z2⟩:=I.cell y c' e
    exact⟨w2,z2.sameBut hs DK⟩
  ·obtain⟨e,n,ne,nf,d⟩:=I.pin p hp
   refine⟨(hs.2 p.1 ?_).trans e,n,ne,nf,d⟩
   intro q
   rw[q,fw]at e
   have q':oc=p.2:=bS e
   exact d w' (by rw[<-q'];exact M9)
theorem wd{M:Model}{A:Around}{E:Value->Shared->Prop}{i:Nat}{x:Str}{v:V}{u:Value}{Q:Unit->Shared->Prop}(I:Inv X pins σ H s)(hN:X.N.Nodup)(hi:X.N[i]?=some x)(hx:Loc X.env.scope x)(r:RelV v u)
  (h:∀s',Inv X pins (σ.set i (some v)) H s'->Q () s') (hf:X.fn x=true\/X.env.scope.names.lookup x=some .local:=by first | exact .inl rfl | exact .inr rfl | assumption):wpAny M A (storeName X.env x u) Q E s :=
 M7 I hN hi hx r (λs' I' _=>h s' I') hf
theorem Inv.DL{s':Shared}{ch:List Addr}(I:Inv X pins σ H s)(ho:s'.os=s.os)(u:Un (cw X.stack) ch H H' s.heap s'.heap)(au:bA X.prog X.w H' s'.heap)(hg:AllBare s'.gens)
  (i9:∀b∈ch,(b∈X.ex\/X.bc.heap.objs.size<=b)/\b≠X.env.locals/\(∀x c,X.env.cells.lookup x=some c->c≠b)/\∀p∈X.pn++pins,p.1≠b):Inv X pins σ H' s':=by
 obtain⟨h',g',d',t',o'⟩:=s'
 have e:o'=s.os:=ho
 subst e
 exact I.call (g':=g') (t':=t') (d':=d') u au hg i9
end
noncomputable abbrev XK:=Value->Option Addr->Hp->Prop
noncomputable abbrev St:=List (Option V)
noncomputable abbrev VK:=V->Hp->Prop
noncomputable abbrev TE:=St->Hp->VK->Prop
noncomputable abbrev TT:=St->Hp->(Bool->Hp->Prop)->Prop
noncomputable abbrev TA:=St->Hp->(List V->Hp->Prop)->Prop
structure Ends where
 nx:St->Hp->Prop
 rt:VK
 bk:St->Hp->Prop:=λ_ _=>False
 ct:St->Hp->Prop:=λ_ _=>False
noncomputable abbrev TS:=Ends->St->Hp->Prop
inductive EP(X:Cx)(pins:List (Addr × Obj))(σ:St)(Q:VK)(u:Value)(s':Shared):Prop
 | mk (v H') (I:Inv X pins σ H' s') (r:RelV v u) (q:Q v H')
noncomputable def TP(X:Cx)(pins:List (Addr × Obj))(σ:St)(Q:Bool->Hp->Prop)(b:Bool)(s':Shared):Prop:=∃H',Inv X pins σ H' s'/\Q b H'
inductive AP(X:Cx)(pins:List (Addr × Obj))(σ:St)(Q:List V->Hp->Prop)(us:List Value)(s':Shared):Prop
 | mk (vs H') (I:Inv X pins σ H' s') (r:Vals vs us) (q:Q vs H')
noncomputable def SP(X:Cx)(pins:List (Addr × Obj))(D:Ends)(f:Flow)(s':Shared):Prop :=
 match f with
 | .next=>∃av H',Inv X pins av H' s'/\D.nx av H'
 | .brk=>∃av H',Inv X pins av H' s'/\D.bk av H'
 | .cont=>∃av H',Inv X pins av H' s'/\D.ct av H'
 | .ret u=>∃v av H',Inv X pins av H' s'/\RelV v u/\D.rt v H'
noncomputable def PE(X:Cx)(e:Expr)(t:TE):Prop :=
 ∀(pins:List (Addr × Obj)) (s:Shared) (σ:St) (H:Hp) (Q:VK),Inv X pins σ H s->t σ H Q->wpAny (model X.prog X.w) X.A (eval e X.env) (EP X pins σ Q) X.xe s
noncomputable def PT(X:Cx)(e:Expr)(t:TT):Prop :=
 ∀(pins:List (Addr × Obj)) (s:Shared) (σ:St) (H:Hp) (Q:Bool->Hp->Prop),Inv X pins σ H s->t σ H Q->wpAny (model X.prog X.w) X.A (isTrue e X.env (eval e X.env)) (TP X pins σ Q) X.xe s
noncomputable def PW(X:Cx)(e:Expr)(t:TT):Prop :=
 ∀(whole:Sem Value) (pins:List (Addr × Obj)) (s:Shared) (σ:St) (H:Hp) (Q:Bool->Hp->Prop),Inv X pins σ H s->t σ H Q->wpAny (model X.prog X.w) X.A (isTrue e X.env whole) (TP X pins σ Q) X.xe s
theorem PW.pt{X:Cx}{e:Expr}{t:TT}(h:PW X e t):PT X e t:=h _
noncomputable def PA(X:Cx)(es:List Expr)(t:TA):Prop :=
 ∀(pos:Pos) (pins:List (Addr × Obj)) (s:Shared) (σ:St) (H:Hp) (Q:List V->Hp->Prop),Inv X pins σ H s->t σ H Q->wpAny (model X.prog X.w) X.A (spliced (backTo pos (starEach es X.env))) (AP X pins σ Q) X.xe s
noncomputable def PS(X:Cx)(st:Stmt)(t:TS):Prop :=
 ∀(pins:List (Addr × Obj)) (s:Shared) (σ:St) (H:Hp) (D:Ends),Inv X pins σ H s->t D σ H->wpAny (model X.prog X.w) X.A (exec st X.env) (SP X pins D) X.xe s
noncomputable def PSs(X:Cx)(st:List Stmt)(t:TS):Prop :=
 ∀(pins:List (Addr × Obj)) (s:Shared) (σ:St) (H:Hp) (D:Ends),Inv X pins σ H s->t D σ H->wpAny (model X.prog X.w) X.A (execs st X.env) (SP X pins D) X.xe s
theorem aA{α:Type}{t:Sem α}{Q Q':α->Shared->Prop}{M:Model}{A:Around}{E:Value->Shared->Prop}{s:Shared}(h:wpAny M A t Q E s)(hQ:∀a s,Q a s->Q' a s):wpAny M A t Q' E s:=wpAny_mono h hQ λ_ _ x=>x
end L2
namespace L2
open PySem PySem.Spec PyProof.Rows
section
variable{X:Cx}
noncomputable def DM(i:Nat):TE:=λσ H Q=>∃v,σ[i]?=some (some v)/\Q v H
noncomputable def tC(v:V):TE:=λ_ H Q=>Q v H
theorem jb{i:Nat}{x:Str}{pos:Pos}(hN:X.N[i]?=some x)(hv:gR X.env.scope x)(hd:(x==("__debug__":Str))=false:=by decide)(br:(x==("__classdict__":Str))=false:=by decide):PE X (.Name x pos) (DM i):=by
 intro pins s σ H Q I h
 obtain⟨v,e,h⟩:=h
 obtain⟨m,hn,hl⟩:=I.loc
 obtain⟨u,r,l⟩:=hl i x v hN e hv
 have fin:EP X pins σ Q u s:=⟨v,H,I,r,h⟩
 rcases l with⟨hk,hm⟩ | ⟨hk,c,hc,jc⟩
 ·exact wpAny_Name (wpAny_loadName_local I.ok.kind hk hn hm fin) hd
 ·rcases hk with hk | hk
  ·exact wpAny_Name (wpAny_loadName_cell I.ok.kind hk hc jc fin) hd
  ·exact wpAny_Name (wpAny_loadName_free I.ok.kind hk hc jc fin br) hd
theorem tS{i j pos}:PE X (.Constant (.int i) j pos) (tC (.int i)):=λ_ _ _ H _ I h=>wpAny_Constant_int ⟨.int i,H,I.tok _,⟨_,rfl⟩,h⟩
theorem DN{b j pos}:PE X (.Constant (.bool b) j pos) (tC (.bl b)):=λ_ _ _ H _ I h=>Constant_bool ⟨.bl b,H,I,rfl,h⟩
theorem Na{j pos}:PE X (.Constant .none j pos) (tC .ao):=λ_ _ _ H _ I h=>Constant_none ⟨.ao,H,I,rfl,h⟩
theorem zr{x j pos}:PE X (.Constant (.str x) j pos) (tC (.str x)):=λ_ _ _ H _ I h=>Calls.Constant_str ⟨.str x,H,I.tok _,⟨_,rfl⟩,h⟩
noncomputable def Gl(X:Cx)(x:Str):Prop:=X.env.kindOf x=some .globalImplicit
theorem jW{E:Value->Shared->Prop}{pins:List (Addr × Obj)}{s:Shared}{σ:St}{H:Hp}{x:Str}{u:Value}{pos:Pos}{Q:Value->Shared->Prop}(I:Inv X pins σ H s)(hg:Gl X x)(hm:X.mg x=some u)(h:Q u s)
  (hd:(x==("__debug__":Str))=false:=by decide):wpAny (model X.prog X.w) X.A (eval (.Name x pos) X.env) Q E s :=
 Mo I.ok.kind hg (Calls.loadGlobal_global (by rw[I.ok.glob];exact I.mod.glob.keeps I.bk) hm h) hd
theorem je{E:Value->Shared->Prop}{pins:List (Addr × Obj)}{s:Shared}{σ:St}{H:Hp}{x:Str}{u:Value}{pos:Pos}{Q:Value->Shared->Prop}(I:Inv X pins σ H s)(hg:Gl X x)(hm:X.mg x=none)(hv:bootBuiltins x=some u)(h:Q u s)
  (hn:x≠"__name__":=by decide) (hd:(x==("__debug__":Str))=false:=by decide):wpAny (model X.prog X.w) X.A (eval (.Name x pos) X.env) Q E s:=by
 obtain⟨mb,h1,h2⟩:=I.mod.blt
 exact Mo I.ok.kind hg (Calls.loadGlobal_builtin (by rw[I.ok.glob];exact I.mod.glob.keeps I.bk) hm (by rw[I.ok.blt];exact h1.keeps I.bk) ((h2 x hn).trans hv) h) hd
theorem Nb{x:Str}{v:V}{u:Value}{pos:Pos}(hg:Gl X x)(hm:X.mg x=some u)(r:RelV v u)(hd:(x==("__debug__":Str))=false:=by decide):PE X (.Name x pos) (tC v) :=
 λ_ _ _ H _ I h=>jW I hg hm ⟨v,H,I,r,h⟩ hd
theorem Nc{x:Str}{v:V}{u:Value}{pos:Pos}(hg:Gl X x)(hm:X.mg x=none)(hv:bootBuiltins x=some u)(r:RelV v u)(hn:x≠"__name__":=by decide)(hd:(x==("__debug__":Str))=false:=by decide):PE X (.Name x pos) (tC v) :=
 λ_ _ _ H _ I h=>je I hg hm hv ⟨v,H,I,r,h⟩ hn hd
variable{a b:Expr}{ta tb:TE}{pos:Pos}
noncomputable def tB(t:TE):TT:=λσ H Q=>t σ H λx H1=>∃c,x=.bl c/\Q c H1
theorem zt{e:Expr}{t:TE}(h:PE X e t)(he:∀whole,isTrue e X.env whole=(do let v<-whole;standAt e.pos;holding [v] (truthy v)):=by intro _;rfl):PT X e (tB t):=by
 intro pins s σ H Q I hw
 refine isTrue_plain (aA (h pins s σ H _ I hw) λv s1 ⟨x,H1,I1,r1,q1⟩=>?_) (he _)
 obtain⟨d,rfl,q⟩:=q1
 cases r1
 exact wpAny_truthy_bool ⟨H1,I1,q⟩
variable{tA we:TT}{rest:List Expr}
noncomputable def Nd(t u:TT):TT:=λσ H Q=>t σ H λc H1=>if c=true then u σ H1 Q else Q false H1
noncomputable def Nf(t u:TT):TT:=λσ H Q=>t σ H λc H1=>if c=true then Q true H1 else u σ H1 Q
noncomputable def Ng(t:TT):TT:=λσ H Q=>t σ H λc H1=>Q (!c) H1
theorem DO(ha:PT X a tA):PW X (.BoolOp .And [a] pos) tA:=by
 intro wh pins s σ H Q I h
 refine isTrue_and (aA (ha pins s σ H Q I h) λc s1 e=>?_)
 cases c with
 | true=>exact isTrue_and_nil e
 | false=>exact e
theorem zu(ha:PT X a tA):PW X (.BoolOp .Or [a] pos) tA:=by
 intro wh pins s σ H Q I h
 refine isTrue_or (aA (ha pins s σ H Q I h) λc s1 e=>?_)
 cases c with
 | false=>exact isTrue_or_nil e
 | true=>exact e
theorem Nh(ha:PT X a tA)(hb:PW X (.BoolOp .And (b::rest) pos) we):PW X (.BoolOp .And (a::b::rest) pos) (Nd tA we):=by
 intro wh pins s σ H Q I h
 refine isTrue_and (aA (ha pins s σ H _ I h) λc s1 ⟨H1,I1,q1⟩=>?_)
 cases c with
 | true=>exact hb wh pins s1 σ H1 Q I1 q1
 | false=>exact⟨H1,I1,q1⟩
theorem Ni(ha:PT X a tA)(hb:PW X (.BoolOp .Or (b::rest) pos) we):PW X (.BoolOp .Or (a::b::rest) pos) (Nf tA we):=by
 intro wh pins s σ H Q I h
 refine isTrue_or (aA (ha pins s σ H _ I h) λc s1 ⟨H1,I1,q1⟩=>?_)
 cases c with
 | true=>exact⟨H1,I1,q1⟩
 | false=>exact hb wh pins s1 σ H1 Q I1 q1
theorem zw(ha:PT X a tA):PT X (.UnaryOp .Not a pos) (Ng tA):=by
 intro pins s σ H Q I h
 exact isTrue_not (ha pins s σ H (λc H1=>Q (!c) H1) I h)
noncomputable def Nj(ta tb:TE):TE:=λσ H Q=>ta σ H λx H1=>∃c,x=.bl c/\if c=true then tb σ H1 Q else Q (.bl false) H1
noncomputable def Nk(ta tb:TE):TE:=λσ H Q=>ta σ H λx H1=>∃c,x=.bl c/\if c=true then Q (.bl true) H1 else tb σ H1 Q
noncomputable def Nl(ta:TE):TE:=λσ H Q=>ta σ H λx H1=>∃c,x=.bl c/\Q (.bl (!c)) H1
theorem k6{op}{t:TE}(h:PE X a t):PE X (.BoolOp op [a] pos) t:=λpins s σ H Q I hw=>BoolOp_one (h pins s σ H Q I hw)
theorem Nm(ha:PE X a ta)(hb:PE X (.BoolOp .And (b::rest) pos) tb):PE X (.BoolOp .And (a::b::rest) pos) (Nj ta tb):=by
 intro pins s σ H Q I h
 refine BoolOp_and (aA (ha pins s σ H _ I h) λv s1 ⟨x,H1,I1,r1,q1⟩=>?_)
 obtain⟨c,rfl,q1⟩:=q1
 cases r1
 refine wpAny_truthy_bool ?_
 cases c with
 | true=>exact hb pins s1 σ H1 Q I1 q1
 | false=>exact⟨.bl false,H1,I1,rfl,q1⟩
theorem Nn(ha:PE X a ta)(hb:PE X (.BoolOp .Or (b::rest) pos) tb):PE X (.BoolOp .Or (a::b::rest) pos) (Nk ta tb):=by
 intro pins s σ H Q I h
 refine BoolOp_or (aA (ha pins s σ H _ I h) λv s1 ⟨x,H1,I1,r1,q1⟩=>?_)
 obtain⟨c,rfl,q1⟩:=q1
 cases r1
 refine wpAny_truthy_bool ?_
 cases c with
 | false=>exact hb pins s1 σ H1 Q I1 q1
 | true=>exact⟨.bl true,H1,I1,rfl,q1⟩
theorem Np(ha:PE X a ta):PE X (.UnaryOp .Not a pos) (Nl ta):=by
 intro pins s σ H Q I h
 refine UnaryOp_ (aA (ha pins s σ H _ I h) λv s1 ⟨x,H1,I1,r1,q1⟩=>?_)
 obtain⟨c,rfl,q1⟩:=q1
 cases r1
 exact not_of (wpAny_truthy_bool ⟨.bl (!c),H1,I1,rfl,q1⟩)
noncomputable def Nq(t:TT)(ta tb:TE):TE:=λσ H Q=>t σ H λc H1=>if c=true then ta σ H1 Q else tb σ H1 Q
theorem Nr{c:Expr}(hc:PT X c tA)(ha:PE X a ta)(hb:PE X b tb):PE X (.IfExp c a b pos) (Nq tA ta tb):=by
 intro pins s σ H Q I h
 refine wpAny_IfExp (aA (hc pins s σ H _ I h) λd s1 ⟨H1,I1,q1⟩=>?_)
 cases d with
 | true=>exact ha pins s1 σ H1 Q I1 q1
 | false=>exact hb pins s1 σ H1 Q I1 q1
end
end L2
namespace L2
open PySem PySem.Spec PyProof.Rows
noncomputable def a8(K:PySem.W.Frag)(H:Hp)(a:Addr)(xs:List V):Prop :=
 Rd H a (.lst xs) \/
  ∃(o:Obj) (its:Array Value) (n:Nat),K.lookup a=some o/\o.cls=.type "list"/\o.dict=none/\o.data=.seq its n/\its.size<=sizeLine/\Vals xs its.toList
noncomputable def e7(K:PySem.W.Frag)(H:Hp)(a:Addr)(xs:List V):Prop :=
 Rd H a (.tup xs) \/
  ∃(o:Obj) (its:Array Value) (n:Nat),K.lookup a=some o/\o.cls=.type "tuple"/\o.data=.seq its n/\its.size<=sizeLine/\Vals xs its.toList
noncomputable def Nt:Value->Option V
 | .none=>some .ao
 | .bool b=>some (.bl b)
 | .int i _=>some (.int i)
 | .str x _=>some (.str x)
 | .bytes b _=>some (.v9 b)
 | .float b _=>some (.m9 b)
 | .ref a=>some (.ref a)
 | .type n=>some (.ty n)
 | _=>none
theorem RelV.abs{x:V}{u:Value}(r:RelV x u):Nt u=some x:=by
 cases x with
 | ao=>cases r;rfl
 | bl _=>cases r;rfl
 | int _=>obtain⟨t,rfl⟩:=r;rfl
 | str _=>obtain⟨t,rfl⟩:=r;rfl
 | v9 _=>obtain⟨t,rfl⟩:=r;rfl
 | m9 _=>obtain⟨t,rfl⟩:=r;rfl
 | ref _=>cases r;rfl
 | ty _=>cases r;rfl
theorem RelV.inj{x y:V}{u:Value}(r:RelV x u)(q:RelV y u):x=y:=bS (r.abs.symm.trans q.abs)
theorem Vals.inj:∀{xs ys:List V} {us:List Value},Vals xs us->Vals ys us->xs=ys
 | _,_,_,.nil,.nil=>rfl
 | _,_,_,.cons r t,.cons r' t'=>by rw[r.inj r',Vals.inj t t']
section
variable{X:Cx}{pins:List (Addr × Obj)}{σ:St}{H:Hp}{s:Shared}{a:Addr}{xs ys:List V}
theorem a8.of{K:PySem.W.Frag}(h:H a=some (.lst xs)):a8 K H a xs:=.inl (.inl h)
theorem e7.of{K:PySem.W.Frag}(h:H a=some (.tup xs)):e7 K H a xs:=.inl (.inl h)
theorem Inv.list(I:Inv X pins σ H s)(h:a8 X.K H a xs):∃its:List Value,Vals xs its/\PlainL s.heap a its.toArray/\xs.length<=sizeLine:=by
 rcases h with h | ⟨o,its,n,hk,hc,hd,hs,hz,r⟩
 ·obtain⟨z,its,n,r,e⟩:=h.ok I.au
  exact⟨its,r,⟨_,n,e,rfl,rfl,rfl⟩,z⟩
 ·refine⟨its.toList,r,⟨o,n,I.bh a o hk,hc,hd,by simpa using hs⟩,?_⟩
  have e:=r.length
  simp only[qA]at e
  omega
theorem Inv.tuple(I:Inv X pins σ H s)(h:e7 X.K H a xs):∃its:List Value,Vals xs its/\IsTup s.heap a its.toArray/\xs.length<=sizeLine:=by
 rcases h with h | ⟨o,its,n,hk,hc,hs,hz,r⟩
 ·obtain⟨z,its,r,p⟩:=h.ok I.au
  exact⟨its,r,p,z⟩
 ·refine⟨its.toList,r,⟨o,I.bh a o hk,hc,n,by simpa using hs⟩,?_⟩
  have e:=r.length
  simp only[qA]at e
  omega
theorem Inv.tT(I:Inv X pins σ H s)(h:a8 X.K H a xs)(h':a8 X.K H a ys):xs=ys:=by
 obtain⟨its,r,⟨o,n,e,_,_,d⟩,_⟩:=I.list h
 obtain⟨its',r',⟨o',n',e',_,_,d'⟩,_⟩:=I.list h'
 rw[e]at e';cases e'
 rw[d]at d'
 injection d' with d1 _
 have:its=its':=by simpa using congrArg Array.toList d1
 subst this
 exact r.inj r'
end
noncomputable abbrev Cx.gU(X:Cx)(E:Value->Shared->Prop):Cx:={ X with xe:=E }
noncomputable abbrev Cx.eC(X:Cx):Cx:=X.gU λ_ _=>False
theorem Cx.Ok.gU{X:Cx}(ok:X.Ok)(E:Value->Shared->Prop):(X.gU E).Ok :=
 ⟨ok.mod,ok.kind,ok.glob,ok.blt,ok.above,ok.inj,ok.has,ok.jV,ok.hd,ok.frames,ok.ni,ok.nj,ok.bs,ok.fu,ok.kX,ok.kY,ok.dB,ok.fv⟩
theorem Cx.Ok.jf{X:Cx}{E:Value->Shared->Prop}(ok:(X.gU E).Ok):X.Ok :=
 ⟨ok.mod,ok.kind,ok.glob,ok.blt,ok.above,ok.inj,ok.has,ok.jV,ok.hd,ok.frames,ok.ni,ok.nj,ok.bs,ok.fu,ok.kX,ok.kY,ok.dB,ok.fv⟩
section
variable{X:Cx}{pins:List (Addr × Obj)}{σ:St}{H:Hp}{s:Shared}{E:Value->Shared->Prop}
theorem Inv.gU(I:Inv X pins σ H s)(E:Value->Shared->Prop):Inv (X.gU E) pins σ H s:=⟨I.ok.gU E,I.os,I.bare,I.base,I.loc,I.cell,I.free,I.cK,I.pin,I.au,I.len⟩
theorem Inv.jf(I:Inv (X.gU E) pins σ H s):Inv X pins σ H s:=⟨I.ok.jf,I.os,I.bare,I.base,I.loc,I.cell,I.free,I.cK,I.pin,I.au,I.len⟩
theorem SP.jf{D:Ends}{f:Flow}{s':Shared}(h:SP (X.gU E) pins D f s'):SP X pins D f s':=by
 cases f with
 | next=>obtain⟨av,H',I,q⟩:=h;exact⟨av,H',I.jf,q⟩
 | brk=>obtain⟨av,H',I,q⟩:=h;exact⟨av,H',I.jf,q⟩
 | cont=>obtain⟨av,H',I,q⟩:=h;exact⟨av,H',I.jf,q⟩
 | ret u=>obtain⟨v,av,H',I,r,q⟩:=h;exact⟨v,av,H',I.jf,r,q⟩
theorem PE.eC{e:Expr}{t:TE}(h:PE X.eC e t):PE X e t:=λpins s σ H Q I hw =>
 wpAny_mono (h pins s σ H Q (I.gU _) hw) (λ_ _ ⟨v,H',I',r,q⟩=>⟨v,H',I'.jf,r,q⟩) λ_ _ z=>cH z
theorem PSs.eC{st:List Stmt}{t:TS}(h:PSs X.eC st t):PSs X st t:=λpins s σ H D I hw =>
 wpAny_mono (h pins s σ H D (I.gU _) hw) (λ_ _ q=>q.jf) λ_ _ z=>cH z
end
section
variable{X:Cx}{st:Stmt}{rest:List Stmt}{t u:TS}{e:Expr}{te:TE}{pos:Pos}
noncomputable def Nu:TS:=λD σ H=>D.nx σ H
noncomputable def Nv(t u:TS):TS:=λD σ H=>t { D with nx:=u D } σ H
theorem tU:PSs X [] Nu:=λ_ _ σ H _ I h=>wpAny_execs_nil ⟨σ,H,I,h⟩
theorem fx(h1:PS X st t)(h2:PSs X rest u):PSs X (st::rest) (Nv t u):=by
 intro pins s σ H D I h
 refine wpAny_execs_cons (aA (h1 pins s σ H { D with nx:=u D } I h) λf s1 q=>?_)
 cases f with
 | next =>
  obtain⟨av,H',I',q⟩:=q
  exact h2 pins s1 av H' D I' q
 | ret v=>exact q
 | brk=>exact q
 | cont=>exact q
theorem jX(h1:PS X st t):PSs X [st] t:=by
 intro pins s σ H D I h
 refine wpAny_execs_cons (aA (h1 pins s σ H D I h) λf s1 q=>?_)
 cases f with
 | next=>exact wpAny_execs_nil q
 | ret v=>exact q
 | brk=>exact q
 | cont=>exact q
theorem Inv.quiet{pins:List (Addr × Obj)}{σ:St}{H:Hp}{s:Shared}(I:Inv X pins σ H s):interactive X.env=false:=by simp[interactive,I.ok.kind]
noncomputable def Nw(te:TE):TS:=λD σ H=>te σ H λ_ H1=>D.nx σ H1
theorem tV(he:PE X e te)(hs:swapsWith e none pos.line X.env=pure false:=by rfl):PS X (.Expr e pos) (Nw te):=by
 intro pins s σ H D I h
 exact wpAny_Expr_any (aA (he pins s σ H _ I h) λv s1 ⟨x,H1,I1,r1,q1⟩=>⟨σ,H1,I1,q1⟩) I.quiet hs
noncomputable def Nx(te:TE):TS:=λD σ H=>te σ H D.rt
theorem Ny(he:PE X e te):PS X (.Return (some e) pos) (Nx te):=by
 intro pins s σ H D I h
 exact wpAny_Return_some (aA (he pins s σ H _ I h) λv s1 ⟨x,H1,I1,r1,q1⟩=>⟨x,σ,H1,I1,r1,q1⟩)
noncomputable def Nz(c:TT)(t u:TS):TS:=λD σ H=>c σ H λb H1=>if b=true then t D σ H1 else u D σ H1
theorem wg{c:Expr}{a b:List Stmt}{tc:TT}(hc:PT X c tc)(ha:PSs X a t)(hb:PSs X b u):PS X (.If c a b pos) (Nz tc t u):=by
 intro pins s σ H D I h
 refine wpAny_If (aA (hc pins s σ H _ I h) λd s1 ⟨H1,I1,q1⟩=>?_)
 cases d with
 | true=>exact ha pins s1 σ H1 D I1 q1
 | false=>exact hb pins s1 σ H1 D I1 q1
noncomputable def NA:TS:=λ_ _ _=>False
theorem DP:PS X st NA:=λ_ _ _ _ _ _ h=>h.elim
end
noncomputable abbrev TG:=V->St->Hp->(St->Hp->Prop)->Prop
noncomputable abbrev nr:=List V->St->Hp->(St->Hp->Prop)->Prop
noncomputable def PG(X:Cx)(target:Expr)(t:TG):Prop :=
 ∀(pins:List (Addr × Obj)) (s:Shared) (σ:St) (H:Hp) (v:V) (u:Value) (Q:St->Hp->Prop),Inv X pins σ H s->RelV v u->t v σ H Q ->
  wpAny (model X.prog X.w) X.A (assign target X.env u) (λ_ s'=>∃av H',Inv X pins av H' s'/\Q av H') X.xe s
noncomputable def wj(X:Cx)(ts:List Expr)(t:nr):Prop :=
 ∀(pins:List (Addr × Obj)) (s:Shared) (σ:St) (H:Hp) (vs:List V) (us:List Value) (Q:St->Hp->Prop),Inv X pins σ H s->Vals vs us->t vs σ H Q ->
  wpAny (model X.prog X.w) X.A (assignInOrder ((assignEach ts X.env).map (·.2)) us) (λ_ s'=>∃av H',Inv X pins av H' s'/\Q av H') X.xe s
noncomputable abbrev zx:=V->V->V->Hp->(Hp->Prop)->Prop
noncomputable def DQ(X:Cx)(t:zx):Prop :=
 ∀(pins:List (Addr × Obj)) (s:Shared) (σ:St) (H:Hp) (o i v:V) (ov iv u:Value) (Q:Hp->Prop),Inv X pins σ H s->RelV o ov->RelV i iv->RelV v u->t o i v H Q ->
  wpAny (model X.prog X.w) X.A (setItem ov iv u) (λ_ s'=>∃H',Inv X pins σ H' s'/\Q H') X.xe s
noncomputable abbrev zy:=V->V->Hp->VK->Prop
noncomputable def NB(X:Cx)(op:Operator)(t:zy):Prop :=
 ∀(pins:List (Addr × Obj)) (s:Shared) (σ:St) (H:Hp) (x y:V) (v u:Value) (Q:VK),Inv X pins σ H s->RelV x v->RelV y u->t x y H Q ->
  wpAny (model X.prog X.w) X.A (inplaceOp op v u) (EP X pins σ Q) X.xe s
section
variable{X:Cx}{pos:Pos}
noncomputable def zA(i:Nat):TG:=λv σ H Q=>Q (σ.set i (some v)) H
theorem zB{i:Nat}{x:Str}(hN:X.N.Nodup)(hi:X.N[i]?=some x)(hx:Loc X.env.scope x)(hf:X.fn x=true\/X.env.scope.names.lookup x=some .local:=by first | exact .inl rfl | exact .inr rfl | assumption):PG X (.Name x pos) (zA i):=by
 intro pins s σ H v u Q I r h
 exact wpAny_assign_Name (wd I hN hi hx r (λs' I'=>⟨_,H,I',h⟩) hf)
noncomputable def NC:nr:=λvs σ H Q=>vs=[]/\Q σ H
noncomputable def ND(t:TG)(u:nr):nr:=λvs σ H Q=>∃v r,vs=v::r/\t v σ H λav H'=>u r av H' Q
theorem NF:wj X [] NC:=by
 intro pins s σ H vs us Q I r h
 obtain⟨e,h⟩:=h
 subst e
 cases r
 exact assignInOrder_nil ⟨σ,H,I,h⟩
theorem DR{e:Expr}{es:List Expr}{t:TG}{u:nr}(h1:PG X e t)(h2:wj X es u)
  (hs:(assignEach (e::es) X.env).map (·.2)=assign e X.env::(assignEach es X.env).map (·.2):=by rfl):wj X (e::es) (ND t u):=by
 intro pins s σ H vs us Q I r h
 obtain⟨v,vr,e1,h⟩:=h
 subst e1
 cases r with
 | cons r rr =>
  rw[hs]
  refine assignInOrder_cons (aA (h1 pins s σ H _ _ _ I r h) λ_ s1 ⟨eD,H1,I1,q1⟩=>?_)
  exact h2 pins s1 eD H1 _ _ Q I1 rr q1
noncomputable def NG(K:PySem.W.Frag)(n:Nat)(t:nr):TG:=λv σ H Q=>∃a xs,v=.ref a/\e7 K H a xs/\xs.length=n/\t xs σ H Q
theorem NH{es:List Expr}{k:Nat}{t:nr}{n:Nat}(hc:X.calm=true)(h:wj X es t)
  (hn:(assignEach es X.env).length=n:=by rfl) (bt:(assignEach es X.env).findIdx? (·.1)=none:=by rfl):PG X (.Tuple es k pos) (NG X.K n t):=by
 intro pins s σ H v u Q I r hw
 obtain⟨a,xs,e1,hq,hl,hw⟩:=hw
 subst e1
 cases r
 obtain⟨its,rv,ht,hz⟩:=I.tuple hq
 refine assign_Tuple_tuple (I.ok.hd hc) ht (by simp[hn,<- hl,rv.length]) bt λh' hx=>?_
 have I1:Inv X pins σ H { s with heap:=h' }:=I.kept (t':=s.toks) λb o e=>hx b o (cG (a4 e)) e
 exact h pins _ σ H xs _ Q I1 (by simpa using rv) hw
noncomputable def NI(to ti:TE)(t:zx):TG:=λv σ H Q=>to σ H λo H1=>ti σ H1 λi H2=>t o i v H2 λH3=>Q σ H3
theorem NJ{o i:Expr}{to ti:TE}{t:zx}(ho:PE X o to)(hi:PE X i ti)(hs:DQ X t)
  (ha:∀v,assign (.Subscript o i pos) X.env v=(do
   let ov<-holding [v] (eval o X.env)
   let iv<-holding [v,ov] (eval i X.env)
   standAt pos
   holding [v,ov,iv] (setItem ov iv v)
   release [v,ov,iv] []):=by intro _;rfl):PG X (.Subscript o i pos) (NI to ti t):=by
 intro pins s σ H v u Q I r h
 rw[ha]
 refine wpAny_bind (wpAny_holding (aA (ho pins s σ H _ I h) λov s1 ⟨x,H1,I1,r1,q1⟩=>?_))
 refine wpAny_bind (wpAny_holding (aA (hi pins s1 σ H1 _ I1 q1) λiv s2 ⟨y,H2,I2,r2,q2⟩=>?_))
 refine wpAny_bind (wpAny_standAt (wpAny_bind (wpAny_holding (aA (hs pins s2 σ H2 x y v ov iv u _ I2 r1 r2 r q2) λ_ s3 ⟨H3,I3,q3⟩=>?_))))
 exact wpAny_release ⟨σ,H3,I3,q3⟩
noncomputable def DS(te:TE)(g:TG):TS:=λD σ H=>te σ H λx H1=>g x σ H1 D.nx
theorem NK{tg e:Expr}{te:TE}{g:TG}(he:PE X e te)(hg:PG X tg g)(hs:swapsWithSole [tg] e pos.line X.env=pure false:=by rfl)(hw:swappedStores [tg] e X.env=pure none:=by rfl)
  (h1:(assignEach [tg] X.env).map (·.2)=[assign tg X.env]:=by rfl):PS X (.Assign [tg] e pos) (DS te g):=by
 intro pins s σ H D I h
 refine wpAny_Assign_stores (aA (he pins s σ H _ I h) λv s1 ⟨x,H1,I1,r1,q1⟩=>?_) hs hw
 rw[h1]
 exact aA (hg pins s1 σ H1 x v _ I1 r1 q1) λ_ s2 q=>q
theorem wk{i:Nat}{x:Str}{e:Expr}{te:TE}{pos':Pos}(hN:X.N.Nodup)(hi:X.N[i]?=some x)(hx:Loc X.env.scope x)(he:PE X e te)(hs:swapsWith e (some (.Name x pos')) pos.line X.env=pure false:=by rfl)(hf:X.fn x=true\/X.env.scope.names.lookup x=some .local:=by first | exact .inl rfl | exact .inr rfl | assumption) :
  PS X (.Assign [.Name x pos'] e pos) (DS te (zA i)):=by
 intro pins s σ H D I h
 refine wpAny_Assign_Name (aA (he pins s σ H _ I h) λv s1 ⟨y,H1,I1,r1,q1⟩=>?_) hs
 exact wd I1 hN hi hx r1 (λs2 I2=>⟨_,H1,I2,q1⟩) hf
noncomputable def NL(i:Nat)(te:TE)(ti:zy):TS:=λD σ H=>∃x,σ[i]?=some (some x)/\te σ H λy H1=>ti x y H1 λz H2=>D.nx (σ.set i (some z)) H2
theorem NM{i:Nat}{x:Str}{e:Expr}{te:TE}{op:Operator}{ti:zy}{pos':Pos}(hN:X.N.Nodup)(hi:X.N[i]?=some x)(hx:Loc X.env.scope x)(he:PE X e te)(ho:NB X op ti)(hf:X.fn x=true\/X.env.scope.names.lookup x=some .local:=by first | exact .inl rfl | exact .inr rfl | assumption) :
  PS X (.AugAssign (.Name x pos') op e pos) (NL i te ti):=by
 intro pins s σ H D I h
 obtain⟨v,e1,h⟩:=h
 obtain⟨m,hn,hl⟩:=I.loc
 have NN:gR X.env.scope x:=by rcases hx with k | k;exact .inl k;exact .inr (.inl k)
 obtain⟨u,r,l⟩:=hl i x v hi e1 NN
 refine wpAny_AugAssign_Name ?_
 have go:wpAny (model X.prog X.w) X.A (eval e X.env) (λw de=>wpAny (model X.prog X.w) X.A (inplaceOp op u w) (λr DT=>wpAny (model X.prog X.w) X.A (storeName X.env x r) (λ_=>SP X pins D .next) X.xe DT) X.xe de) X.xe s:=by
  refine aA (he pins s σ H _ I h) λw s1 ⟨y,H1,I1,r1,q1⟩=>?_
  refine aA (ho pins s1 σ H1 v y u w _ I1 r r1 q1) λz s2 ⟨zv,H2,I2,r2,q2⟩=>?_
  exact wd I2 hN hi hx r2 (λs3 I3=>⟨_,H2,I3,q2⟩) hf
 rcases l with⟨hk,hm⟩ | ⟨hk,c,hc,jc⟩
 ·exact wpAny_loadName_local I.ok.kind hk hn hm go
 ·rcases hk with hk | hk
  ·exact wpAny_loadName_cell I.ok.kind hk hc jc go
  ·rcases hx with k | k
   ·have:X.env.scope.names.lookup x=some .free:=hk
    rw[k]at this;cases this
   ·have:X.env.scope.names.lookup x=some .free:=hk
    rw[k]at this;cases this
end
section
variable{X:Cx}{pos:Pos}
noncomputable def NO(c:TT)(tb:TS):TS:=λD σ H=>∃W:Nat->St->Hp->Prop,(∃m,W m σ H)/\∀m σ H,W m σ H ->
 c σ H λb H1=>if b=true then ∃N:St->Hp->Prop,(∀av H',N av H'->∃m',m'<m/\W m' av H')/\tb { D with nx:=N,ct:=N,bk:=D.nx } σ H1 else D.nx σ H1
theorem NP{c:Expr}{body:List Stmt}{tc:TT}{tb:TS}(hp:PassesOwn (model X.prog X.w) X.A X.env X.xe)(hc:PT X c tc)(hb:PSs X body tb):PS X (.While c body [] pos) (NO tc tb):=by
 intro pins s σ H D I h
 obtain⟨W,⟨m0,w0⟩,turn⟩:=h
 refine wpAny_While (codeAny_whileLoop (λn s'=>∃av H',Inv X pins av H' s'/\W n av H') ?_ m0 ⟨σ,H,I,w0⟩)
 rintro n s1 ⟨eD,H1,I1,w1⟩
 refine wpAny_passesOwn hp (aA (hc pins s1 eD H1 _ I1 (turn n eD H1 w1)) λb s2 ⟨H2,I2,q2⟩=>?_)
 cases b with
 | true =>
  obtain⟨N,hN,q2⟩:=q2
  rw[if_pos rfl]
  refine wpAny_passesOwn hp (aA (hb pins s2 eD H2 _ I2 q2) λf s3 q3=>?_)
  cases f with
  | next =>
   obtain⟨iw,H3,I3,n3⟩:=q3
   obtain⟨m',hm,w3⟩:=hN iw H3 n3
   exact⟨m',hm,iw,H3,I3,w3⟩
  | cont =>
   obtain⟨iw,H3,I3,n3⟩:=q3
   obtain⟨m',hm,w3⟩:=hN iw H3 n3
   exact⟨m',hm,iw,H3,I3,w3⟩
  | brk=>exact q3
  | ret v=>exact q3
 | false =>
  rw[if_neg kO]
  exact wpAny_execs_nil ⟨eD,H2,I2,q2⟩
end
structure It where
 go:Nat->Hp->Prop
 fy:Nat->Hp->V->Hp->Prop
 stop:Nat->Hp->Prop
noncomputable def fA(X:Cx)(pins:List (Addr × Obj))(H:Hp)(b:Addr):Prop :=
 H b=none/\b≠X.env.locals/\b ∉ X.fs/\(b∈X.ex\/X.bc.heap.objs.size<=b)/\(∀x c,X.env.cells.lookup x=some c->c≠b)/\∀p∈X.pn++pins,p.1≠b
theorem Inv.tW{X:Cx}{pins:List (Addr × Obj)}{σ:St}{H H':Hp}{s:Shared}{b:Addr}(I:Inv X pins σ H s)(hb:s.heap.objs.size<=b)(hn:H' b=none):fA X pins H' b:=by
 refine⟨hn,Nat.ne_of_gt (bK I.lt hb),I.DF hb,.inr (dy I.sz hb),λx c e z=>?_,λp hp z=>?_⟩
 ·obtain⟨v,q⟩:=I.cell x c e
  exact absurd (bK q.lt (by rw[z];exact hb)) (fk _)
 ·exact absurd (bK (a4 (I.pin p hp).1) (by rw[z];exact hb)) (fk _)
structure Turn(P:Program)(w:World)(K:PySem.W.Frag)(tg:Expr)(J:It)(fp:List Addr)(it:Addr)(tn:Nat->Heap->Prop):Prop where
 mem:it∈fp
 obj:∀i h,tn i h->∀b∈fp,∃o,h.get? b=some o/\∀v,o.data≠.cell v
 keep:∀i h h',tn i h->(∀b∈fp,∀o,h.get? b=some o->h'.get? b=some o)->tn i h'
 item:∀(X:Cx),X.prog=P->X.w=w->X.K=K->X.calm=true->∀(i:Nat) (pins:List (Addr × Obj)) (s:Shared) (σ:St) (H:Hp) (E:Value->Shared->Prop),Inv X pins σ H s->(∀b∈fp,fA X pins H b)->tn i s.heap->J.go i H ->
  wpAny (model P w) X.A (pyNext (.ref it)) (λr s1=>∃u,r=some u /\
   wpAny (model P w) X.A (letOwnedTupleGo tg (.ref it) u) (λ_ s2=>∃x H',Inv X pins σ H' s2/\RelV x u/\J.fy i H x H'/\tn (i+1) s2.heap/\∀b∈fp,H' b=none) E s1) E s
 done:∀(X:Cx),X.prog=P->X.w=w->X.K=K->X.calm=true->∀(i:Nat) (pins:List (Addr × Obj)) (s:Shared) (σ:St) (H:Hp) (E:Value->Shared->Prop),Inv X pins σ H s->(∀b∈fp,fA X pins H b)->tn i s.heap->J.stop i H ->
  wpAny (model P w) X.A (pyNext (.ref it)) (λr s1=>r=none/\Inv X pins σ H s1) E s
 self:∀(A:Around) (i:Nat) (s:Shared) (Q:Value->Shared->Prop) (E:Value->Shared->Prop),tn i s.heap->Q (.ref it) s->wpAny (model P w) A (pyIter (.ref it)) Q E s
noncomputable abbrev TI:=St->Hp->(It->Hp->Prop)->Prop
noncomputable def DU(X:Cx)(pins:List (Addr × Obj))(σ:St)(tg:Expr)(R:It->Hp->Prop)(wm:Value)(s2:Shared):Prop :=
 ∃(it:Addr) (fp:List Addr) (tn:Nat->Heap->Prop) (J:It) (H':Hp),wm=.ref it/\Inv X pins σ H' s2/\Turn X.prog X.w X.K tg J fp it tn/\tn 0 s2.heap/\(∀b∈fp,fA X pins H' b)/\R J H'
noncomputable def PI(X:Cx)(tg iter:Expr)(wi:TI):Prop :=
 ∀(pins:List (Addr × Obj)) (s:Shared) (σ:St) (H:Hp) (R:It->Hp->Prop),Inv X pins σ H s->wi σ H R ->
  wpAny (model X.prog X.w) X.A (eval iter X.env) (λv s1=>wpAny (model X.prog X.w) X.A (pyIter v) (DU X pins σ tg R) X.xe s1) X.xe s
theorem zC{M:Model}{A:Around}{E:Value->Shared->Prop}{s:Shared}{tg:Expr}{it:Addr}{u:Value}{o:Obj}{n:String}{vs:Array Value}{Q:Unit->Shared->Prop}(ho:s.heap.get? it=some o)(hc:o.cls=.type n)(hd:o.data=.fields vs)
  (hn:["enumerate","zip","dict_itemiterator","dict_reverseitemiterator","odict_iterator","itertools.zip_longest","itertools.pairwise"].contains n=false) (hQ:Q () s):wpAny M A (letOwnedTupleGo tg (.ref it) u) Q E s:=by
 unfold letOwnedTupleGo
 cases tg<;>first
  | exact wpAny_pure hQ
  | (cases u<;>first
    | exact wpAny_pure hQ
    | (refine wpAny_bind (wpAny_load ho ?_)
       rw[hc,hd]
       show wpAny M A (if(["enumerate","zip","dict_itemiterator","dict_reverseitemiterator","odict_iterator","itertools.zip_longest","itertools.pairwise"].contains n&&vs[0]?==some (rawInt _))=true then _ else _) Q E s
       rw[if_neg (by intro h;rw[hn,qB]at h;cases h)]
       exact wpAny_pure hQ))
noncomputable def zD(K:PySem.W.Frag)(a:Addr):It :=
 ⟨λi H=>∃xs x,a8 K H a xs/\xs[i]?=some x,λi H x H'=>H'=H/\∀xs,a8 K H a xs->xs[i]?=some x,λi H=>∃xs,a8 K H a xs/\xs.length<=i⟩
noncomputable def tX(lo:Int)(n:Nat):It:=⟨λi _=>i<n,λi H x H'=>H'=H/\x=.int (lo+i),λi _=>n<=i⟩
theorem NQ{P:Program}{w:World}{K:PySem.W.Frag}{tg:Expr}(a it:Addr):Turn P w K tg (zD K a) [it] it (λi h=>h.IsListIter it a i) where
 mem:=by simp
 obj:=λi h st b hb=>by
  have e:b=it:=by simpa using hb
  subst e
  obtain⟨o,e,c,d⟩:=st
  exact⟨o,e,λv z=>by rw[d]at z;cases z⟩
 keep:=λi h h' st k=>st.at λo e=>k it (by simp) o e
 item:=by
  intro X hP hw hK hc i pins s σ H E I hf st hg
  subst hP hw hK
  obtain⟨xs,x,hq,hx⟩:=hg
  obtain⟨its,rv,p,hz⟩:=I.list hq
  obtain⟨u,hu,ru⟩:=rv.get hx
  obtain⟨f0,f1,f2,f3,f4,f5⟩:=hf it (by simp)
  refine wpAny_pyNext_list_item st p.isList (x:=u) (by simpa using hu) λh' gW sb=>?_
  have I1:Inv X pins σ H { s with heap:=h' }:=I.turned (t':=s.toks) (λb o hb e=>(sb.2 b hb).trans e) f0 f1 f3 f4 f5
  obtain⟨o,e,c,d⟩:=id gW
  exact⟨u,rfl,zC (s:={ s with heap:=h' }) e c d (by decide) ⟨x,H,I1,ru,⟨rfl,λys hy=>by rw[I.tT hy hq];exact hx⟩,gW,λb hb=>(hf b hb).1⟩⟩
 done:=by
  intro X hP hw hK hc i pins s σ H E I hf st hg
  subst hP hw hK
  obtain⟨xs,hq,hx⟩:=hg
  obtain⟨its,rv,p,hz⟩:=I.list hq
  obtain⟨f0,f1,f2,f3,f4,f5⟩:=hf it (by simp)
  have hl:=rv.length
  exact wpAny_pyNext_list_end (I.ok.hd hc) st p.isList (by simp;omega) λh' eb=>⟨rfl,I.turned (t':=s.toks) (λb o hb e=>eb b o hb e) f0 f1 f3 f4 f5⟩
 self:=λ_ _ _ _ _ st h=>wpAny_pyIter_listiter st h
theorem NR{P:Program}{w:World}{K:PySem.W.Frag}{tg:Expr}(it:Addr)(lo:Int)(n:Nat):Turn P w K tg (tX lo n) [it] it (λi h=>IsRangeIter h it (lo+(i:Nat)*1) ((n:Int)-(i:Nat)) 1) where
 mem:=by simp
 obj:=λi h st b hb=>by
  have e:b=it:=by simpa using hb
  subst e
  exact⟨_,st,λv z=>by
   have z':sT _=Data.cell v:=z
   cases z'⟩
 keep:=λi h h' st k=>k it (by simp) _ st
 item:=by
  intro X hP hw hK hc i pins s σ H E I hf st hg
  subst hP hw hK
  obtain⟨f0,f1,f2,f3,f4,f5⟩:=hf it (by simp)
  have W:=Walks.range (prog:=X.prog) (w:=X.w) (I.ok.hd hc) it lo 1 n
  refine W.item i s _ _ hg st λv h' tk hv gW kk=>?_
  obtain⟨t,rfl⟩:=hv
  have I1:Inv X pins σ H { s with heap:=h',toks:=tk }:=I.turned (λb o hb e=>kk b o (by simpa using hb) e) f0 f1 f3 f4 f5
  refine⟨_,rfl,zC (s:={ s with heap:=h',toks:=tk }) (n:="range_iterator") gW rfl rfl (by decide) ⟨.int (lo+i),H,I1,⟨t,?_⟩,⟨rfl,rfl⟩,gW,λb hb=>(hf b hb).1⟩⟩
  rw[Int.mul_one]
 done:=by
  intro X hP hw hK hc i pins s σ H E I hf st hg
  subst hP hw hK
  obtain⟨f0,f1,f2,f3,f4,f5⟩:=hf it (by simp)
  exact wpAny_pyNext_range_end (I.ok.hd hc) st (by have:n<=i:=hg;omega) λh' eb=>⟨rfl,I.turned (t':=s.toks) (λb o hb e=>eb b o hb e) f0 f1 f3 f4 f5⟩
 self:=λ_ _ _ _ _ st h=>wpAny_pyIter_rangeiter st h
end L2
namespace L2
open PySem PySem.Spec PyProof.Rows
section
variable{X:Cx}{tg:Expr}
noncomputable def NS(K:PySem.W.Frag)(tl:TE):TI:=λσ H R=>tl σ H λx H1=>∃a,x=.ref a/\(∃xs,a8 K H1 a xs)/\R (zD K a) H1
theorem DV{l:Expr}{tl:TE}(hl:PE X l tl):PI X tg l (NS X.K tl):=by
 intro pins s σ H R I h
 refine aA (hl pins s σ H _ I h) λv s1 ⟨x,H1,I1,r1,q1⟩=>?_
 obtain⟨a,e,⟨xs,hq⟩,q⟩:=q1
 subst e
 cases r1
 obtain⟨its,rv,p,hz⟩:=I1.list hq
 refine wpAny_pyIter_list p.isList ?_
 refine⟨s1.heap.objs.size,[s1.heap.objs.size],_,_,H1,rfl,I1.kept (t':=s1.toks) λb o e=>bU _ e,NQ a _,⟨_,eY _ rfl,rfl,rfl⟩,λb hb=>?_,q⟩
 have e:b=s1.heap.objs.size:=by simpa using hb
 subst e
 exact I1.tW (aZ _) (I1.au.fresh (aZ _))
theorem DW{pins:List (Addr × Obj)}{σ:St}{H:Hp}{s:Shared}{R:It->Hp->Prop}{E:Value->Shared->Prop}{lo hi:Int}{t u v:Tok}{tk:Nat}(I:Inv X pins σ H s)(h1:-(2 ^ 62)<=lo)(h2:lo<2 ^ 62)(h3:-(2 ^ 62)<=hi)(h4:hi<2 ^ 62)
  (q:R (tX lo (hi-lo).toNat) H):wpAny (model X.prog X.w) X.A (pyIter (.ref s.heap.objs.size)) (DU X pins σ tg R) E { s with heap:=s.heap.push { cls:=.type "range",data:=.fields #[.int lo t,.int hi u,.int 1 v] },toks:=tk }:=by
 refine wpAny_pyIter_range (IsRange.new ..) (small_one h1 h2 h3 h4) ?_
 have I1:Inv X pins σ H { s with heap:=s.heap.push { cls:=.type "range",data:=.fields #[.int lo t,.int hi u,.int 1 v] },toks:=tk }:=I.kept λb o e=>bU _ e
 refine⟨(s.heap.push { cls:=.type "range",data:=.fields #[.int lo t,.int hi u,.int 1 v] }).objs.size,[(s.heap.push { cls:=.type "range",data:=.fields #[.int lo t,.int hi u,.int 1 v] }).objs.size],_,_,H,rfl,
  I1.kept (t':=tk) λb o e=>bU _ e,NR _ lo (hi-lo).toNat,?_,λb hb=>?_,q⟩
 ·have e1:lo+((0:Nat):Int)*1=lo:=by simp
  have e2:(((hi-lo).toNat:Nat):Int)-((0:Nat):Int)=Builtin.Range.rangeSize lo hi 1:=by rw[rangeSize_one];split<;>omega
  show IsRangeIter _ _ (lo+((0:Nat):Int)*1) ((((hi-lo).toNat:Nat):Int)-((0:Nat):Int)) 1
  rw[e1,e2]
  exact eY _ rfl
 ·have e:b=(s.heap.push { cls:=.type "range",data:=.fields #[.int lo t,.int hi u,.int 1 v] }).objs.size:=by simpa using hb
  subst e
  exact I1.tW (aZ _) (I1.au.fresh (aZ _))
noncomputable def NT(ta:TA):TI:=λσ H R=>ta σ H λvs H1=>∃j:Int,vs=[.int j]/\-(2 ^ 62)<=j/\j<2 ^ 62/\R (tX 0 j.toNat) H1
noncomputable def NU(ta:TA):TI:=λσ H R=>ta σ H λvs H1=>∃i j:Int,vs=[.int i,.int j]/\(-(2 ^ 62)<=i/\i<2 ^ 62/\-(2 ^ 62)<=j/\j<2 ^ 62)/\R (tX i (j-i).toNat) H1
theorem NV{a:Expr}{ta:TA}{p pos:Pos}(hg:Gl X "range")(hm:X.mg "range"=none)(ha:PA X [a] ta)(hs:starEach [a] X.env=[(false,eval a X.env)]:=by rfl):PI X tg (.Call (.Name "range" p) [a] [] pos) (NT ta):=by
 intro pins s σ H R I h
 refine Call_ (je I hg hm boot_range (mK (aA (ha pos pins s σ H _ I h) λus s1 ⟨vs,H1,I1,r1,q1⟩=>?_) hs rfl))
 obtain⟨j,e,q1,q2,q⟩:=q1
 subst e
 cases r1 with
 | cons r rr =>
  cases rr
  obtain⟨t,rfl⟩:=r
  exact call_range_1 (DW I1 (by omega) (by omega) q1 q2 (by simpa using q))
theorem NW{a b:Expr}{ta:TA}{p pos:Pos}(hg:Gl X "range")(hm:X.mg "range"=none)(ha:PA X [a,b] ta)(hs:starEach [a,b] X.env=[(false,eval a X.env),(false,eval b X.env)]:=by rfl)(cm:starEach [b] X.env=[(false,eval b X.env)]:=by rfl) :
  PI X tg (.Call (.Name "range" p) [a,b] [] pos) (NU ta):=by
 intro pins s σ H R I h
 refine Call_ (je I hg hm boot_range (mK (aA (ha pos pins s σ H _ I h) λus s1 ⟨vs,H1,I1,r1,q1⟩=>?_) (by rw[hs,cm]) (by rw[cm];rfl)))
 obtain⟨i,j,e,⟨q1,q2,q3,q4⟩,q⟩:=q1
 subst e
 cases r1 with
 | cons r rr =>
  cases rr with
  | cons r' rr =>
   cases rr
   obtain⟨t,rfl⟩:=r
   obtain⟨t',rfl⟩:=r'
   exact call_range_2 (DW I1 q1 q2 q3 q4 q)
noncomputable def NX(wi:TI)(g:TG)(tb:TS):TS:=λD σ H=>wi σ H λJ H1=>∃W:Nat->Nat->St->Hp->Prop,(∃m,W 0 m σ H1)/\∀i m σ H,W i m σ H ->
 (J.stop i H/\D.nx σ H)\/(J.go i H/\∃N:St->Hp->Prop,(∀av H',N av H'->∃m',m'<m/\W (i+1) m' av H')/\∀x H',J.fy i H x H'->g x σ H' λgX H2=>tb { D with nx:=N,ct:=N,bk:=D.nx } gX H2)
noncomputable def tY(fp:List Addr)(h:Heap):List (Addr × Obj):=fp.filterMap λb=>(h.get? b).map λo=>(b,o)
theorem wo{fp:List Addr}{h:Heap}{b:Addr}{o:Obj}(hb:b∈fp)(e:h.get? b=some o):(b,o)∈tY fp h:=Mp.mpr ⟨b,hb,by rw[e];rfl⟩
theorem NY{fp:List Addr}{h:Heap}{p:Addr × Obj}(hp:p∈tY fp h):p.1∈fp/\h.get? p.1=some p.2:=by
 obtain⟨b,hb,e⟩:=Mp.mp hp
 cases q:h.get? b with
 | none=>rw[q]at e;cases e
 | some o =>
  rw[q]at e
  have e':(b,o)=p:=bS e
  subst e'
  exact⟨hb,q⟩
theorem Inv.pinned{pins:List (Addr × Obj)}{σ:St}{H:Hp}{s:Shared}{fp:List Addr}(I:Inv X pins σ H s)(hf:∀b∈fp,fA X pins H b)(ho:∀b∈fp,∃o,s.heap.get? b=some o/\∀v,o.data≠.cell v):Inv X (pins++tY fp s.heap) σ H s :=
 I.DG λp hp=>(cQ.mp hp).elim (λz=>I.pin p (cR _ z)) λz=>by
  obtain⟨hb,e⟩:=NY z
  obtain⟨f0,f1,f2,_⟩:=hf p.1 hb
  obtain⟨o,e',d⟩:=ho p.1 hb
  rw[e]at e';cases e'
  exact⟨e,f0,f1,f2,d⟩
theorem Inv.wq{pins pl:List (Addr × Obj)}{σ:St}{H:Hp}{s:Shared}(I:Inv X (pins++pl) σ H s):Inv X pins σ H s:=I.DG λp hp=>I.pin p (cR _ (dz _ hp))
theorem DX{iter:Expr}{body:List Stmt}{wi:TI}{g:TG}{tb:TS}{pos:Pos}(hp:PassesOwn (model X.prog X.w) X.A X.env X.xe)(hc:X.calm=true)(hi:PI X tg iter wi)(hg:PG X tg g)(hb:PSs X body tb)
  (hs:∀x,foldedSetIterable iter X.env x=pure x:=by intro _;rfl):PS X (.For tg iter body [] pos) (NX wi g tb):=by
 intro pins s σ H D I h
 refine wpAny_For (aA (hi pins s σ H _ I h) λv s1 h1=>aA h1 λwm s2 h2=>?_) hs
 obtain⟨it,fp,tn,J,H2,e,I2,T,tZ,f2,W,⟨m0,w0⟩,turn⟩:=h2
 subst e
 have zE:∀{H':Hp},(∀b∈fp,H' b=none)->∀b∈fp,fA X pins H' b:=λhn b hb=>⟨hn b hb,(f2 b hb).2⟩
 refine codeAny_forLoop_any (λn s'=>∃i av H',Inv X pins av H' s'/\tn i s'.heap/\(∀b∈fp,H' b=none)/\W i n av H') ?_ m0 ⟨0,σ,H2,I2,tZ,λb hb=>(f2 b hb).1,w0⟩
 rintro n s3 ⟨i,iw,H3,I3,DY,DZ,w3⟩
 rcases turn i n iw H3 w3 with⟨stop,qn⟩ | ⟨go,N,hN,step⟩
 ·refine wpAny_passesOwn hp (aA (T.done X rfl rfl rfl hc i pins s3 iw H3 X.xe I3 (zE DZ) DY stop) λr s4 ⟨hr,I4⟩=>?_)
  subst hr
  exact wpAny_execs_nil ⟨iw,H3,I4,qn⟩
 ·refine wpAny_passesOwn hp (aA (T.item X rfl rfl rfl hc i pins s3 iw H3 X.xe I3 (zE DZ) DY go) λr s4 ⟨u,hr,h4⟩=>?_)
  subst hr
  refine wpAny_passesOwn hp (aA h4 λ_ s5 ⟨x,H5,I5,r5,y5,nt,zF⟩=>?_)
  have zG:=I5.pinned (zE zF) (T.obj _ _ nt)
  refine wpAny_passesOwn hp (aA (hg _ s5 iw H5 x u _ zG r5 (step x H5 y5)) λ_ s6 ⟨wt,H6,I6,q6⟩=>?_)
  refine wpAny_passesOwn hp (aA (hb _ s6 wt H6 _ I6 q6) λf s7 q7=>?_)
  have again:∀{ix:St} {H7:Hp},Inv X (pins++tY fp s5.heap) ix H7 s7->N ix H7->∃m,m<n/\∃i av H',Inv X pins av H' s7/\tn i s7.heap/\(∀b∈fp,H' b=none)/\W i m av H':=λ{ix H7} I7 n7=>by
   obtain⟨m',hm,w7⟩:=hN ix H7 n7
   refine⟨m',hm,i+1,ix,H7,I7.wq,T.keep _ _ _ nt λb hb o e=>(I7.pin (b,o) (cR _ (cR _ (wo hb e)))).1,λb hb=>?_,w7⟩
   obtain⟨o,e,d⟩:=T.obj _ _ nt b hb
   exact(I7.pin (b,o) (cR _ (cR _ (wo hb e)))).2.1
  cases f with
  | next=>obtain⟨ix,H7,I7,n7⟩:=q7;exact again I7 n7
  | cont=>obtain⟨ix,H7,I7,n7⟩:=q7;exact again I7 n7
  | brk=>obtain⟨ix,H7,I7,q7⟩:=q7;exact⟨ix,H7,I7.wq,q7⟩
  | ret v=>obtain⟨x7,ix,H7,I7,r7,q7⟩:=q7;exact⟨x7,ix,H7,I7.wq,r7,q7⟩
end
end L2
namespace L2
open PySem PySem.Spec PyProof.Rows
noncomputable abbrev R2:=V->V->Hp->VK->Prop
noncomputable def bI(X:Cx)(f:Value->Value->Sem Value)(r:R2):Prop :=
 ∀(pins:List (Addr × Obj)) (s:Shared) (σ:St) (H:Hp) (x y:V) (v u:Value) (Q:VK),Inv X pins σ H s->RelV x v->RelV y u->r x y H Q ->
  wpAny (model X.prog X.w) X.A (f v u) (EP X pins σ Q) X.xe s
noncomputable def zH(X:Cx)(f:Value->Sem Value)(r:V->Hp->VK->Prop):Prop :=
 ∀(pins:List (Addr × Obj)) (s:Shared) (σ:St) (H:Hp) (x:V) (v:Value) (Q:VK),Inv X pins σ H s->RelV x v->r x H Q ->
  wpAny (model X.prog X.w) X.A (f v) (EP X pins σ Q) X.xe s
noncomputable def eE(X:Cx)(f:Value)(r:List V->Hp->VK->Prop):Prop :=
 ∀(pins:List (Addr × Obj)) (s:Shared) (σ:St) (H:Hp) (xs:List V) (us:List Value) (Q:VK),Inv X pins σ H s->Vals xs us->r xs H Q ->
  wpAny (model X.prog X.w) X.A (call f us) (EP X pins σ Q) X.xe s
noncomputable def t7(r:R2)(ta tb:TE):TE:=λσ H Q=>ta σ H λx H1=>tb σ H1 λy H2=>r x y H2 Q
noncomputable def NZ(r:V->Hp->VK->Prop)(ta:TE):TE:=λσ H Q=>ta σ H λx H1=>r x H1 Q
noncomputable def rI(C:Int->Int->Prop)(g:Int->Int->V):R2:=λx y H Q=>∃i j,x=.int i/\y=.int j/\C i j/\Q (g i j) H
noncomputable def fB(g:Int->Int->V):R2:=λx y H Q=>∃i j,x=.int i/\y=.int j/\Q (g i j) H
noncomputable def rU(g:Int->V):V->Hp->VK->Prop:=λx H Q=>∃i,x=.int i/\Q (g i) H
section
variable{X:Cx}{a b c:Expr}{ta tb tc:TE}{pos:Pos}
theorem zI(ha:PE X a ta)(hb:PE X b tb){pins:List (Addr × Obj)}{s:Shared}{σ:St}{H:Hp}{R:V->V->Hp->Prop}(I:Inv X pins σ H s)
  (h:ta σ H λx H1=>tb σ H1 λy H2=>R x y H2) {Q:Value->Shared->Prop} {f:Value->Value->Sem Value}
  (hf:∀v u s2 x y H2,Inv X pins σ H2 s2->RelV x v->RelV y u->R x y H2->wpAny (model X.prog X.w) X.A (f v u) Q X.xe s2) :
  wpAny (model X.prog X.w) X.A (eval a X.env) (λv aQ=>wpAny (model X.prog X.w) X.A (eval b X.env) (λu de=>wpAny (model X.prog X.w) X.A (f v u) Q X.xe de) X.xe aQ) X.xe s:=by
 refine aA (ha pins s σ H _ I h) λv s1 ⟨x,H1,I1,r1,q1⟩=>?_
 refine aA (hb pins s1 σ H1 _ I1 q1) λu s2 ⟨y,H2,I2,r2,q2⟩=>?_
 exact hf v u s2 x y H2 I2 r1 r2 q2
theorem wu{op:Operator}{r:R2}(ho:bI X (binaryOp op) r)(ha:PE X a ta)(hb:PE X b tb):PE X (.BinOp a op b pos) (t7 r ta tb):=by
 intro pins s σ H Q I h
 exact wpAny_BinOp (zI ha hb I h λv u s2 x y H2 I2 rx ry q=>ho pins s2 σ H2 x y v u Q I2 rx ry q)
theorem N0{op:UnaryOp}{r:V->Hp->VK->Prop}(ho:zH X (unaryOp op) r)(ha:PE X a ta):PE X (.UnaryOp op a pos) (NZ r ta):=by
 intro pins s σ H Q I h
 exact UnaryOp_ (aA (ha pins s σ H _ I h) λv s1 ⟨x,H1,I1,r1,q1⟩=>ho pins s1 σ H1 x v Q I1 r1 q1)
theorem t8{f:Value->Value->Sem Value}{C:Int->Int->Prop}{g:Int->Int->Int}
  (rule:∀(i j:Int) (t u:Tok) (s:Shared) (Q:Value->Shared->Prop) (E:Value->Shared->Prop),C i j->Q (.int (g i j) s.toks) { s with toks:=s.toks+1 }->wpAny (model X.prog X.w) X.A (f (.int i t) (.int j u)) Q E s) :
  bI X f (rI C λi j=>.int (g i j)):=by
 intro pins s σ H x y v u Q I rx ry h
 obtain⟨i,j,rfl,rfl,hc,q⟩:=h
 obtain⟨t,rfl⟩:=rx
 obtain⟨t',rfl⟩:=ry
 exact rule i j t t' s _ _ hc ⟨.int (g i j),H,I.tok _,⟨_,rfl⟩,q⟩
theorem nu{f:Value->Value->Sem Value}{g:Int->Int->Int}
  (rule:∀(i j:Int) (t u:Tok) (s:Shared) (Q:Value->Shared->Prop) (E:Value->Shared->Prop),Q (.int (g i j) s.toks) { s with toks:=s.toks+1 }->wpAny (model X.prog X.w) X.A (f (.int i t) (.int j u)) Q E s) :
  bI X f (fB λi j=>.int (g i j)):=by
 intro pins s σ H x y v u Q I rx ry h
 obtain⟨i,j,rfl,rfl,q⟩:=h
 obtain⟨t,rfl⟩:=rx
 obtain⟨t',rfl⟩:=ry
 exact rule i j t t' s _ _ ⟨.int (g i j),H,I.tok _,⟨_,rfl⟩,q⟩
theorem wx{f:Value->Value->Sem Value}{g:Int->Int->Bool}
  (rule:∀(i j:Int) (t u:Tok) (s:Shared) (Q:Value->Shared->Prop) (E:Value->Shared->Prop),Q (.bool (g i j)) s->wpAny (model X.prog X.w) X.A (f (.int i t) (.int j u)) Q E s) :
  bI X f (fB λi j=>.bl (g i j)):=by
 intro pins s σ H x y v u Q I rx ry h
 obtain⟨i,j,rfl,rfl,q⟩:=h
 obtain⟨t,rfl⟩:=rx
 obtain⟨t',rfl⟩:=ry
 exact rule i j t t' s _ _ ⟨.bl (g i j),H,I,rfl,q⟩
noncomputable def k7(i j:Int):Prop:=(-(2 ^ 64)<i/\i<2 ^ 64)\/(-(2 ^ 64)<j/\j<2 ^ 64)
theorem k7.ok{i j:Int}(h:k7 i j):IntMulOk i j:=by
 rcases h with⟨h1,h2⟩ | ⟨h1,h2⟩
 ·exact .of_left (intBits_le_64 h1 h2)
 ·exact .of_right (intBits_le_64 h1 h2)
theorem N2(k:Nat):(0:Int)<=2 ^ k:=by
 rw[two_pow_cast]
 exact C4 _
theorem N3:bI X (binaryOp .Add) (fB λi j=>.int (i+j)):=nu λ_ _ _ _ _ _ _ q=>add_int q
theorem zJ:bI X (binaryOp .Sub) (fB λi j=>.int (i-j)):=nu λ_ _ _ _ _ _ _ q=>sub_int q
theorem N4:bI X (binaryOp .Mod) (rI (λ_ j=>0<j) λi j=>.int (i%j)):=t8 λi j _ _ _ _ _ hc q=>by
 have h1:(0:Int)<j:=hc
 exact mod_int' (by omega) (by rw[Int.fmod_eq_emod_of_nonneg i (by omega)];exact q)
theorem N5:bI X (binaryOp .RShift) (rI (λ_ j=>0<=j) λi j=>.int (i/2 ^ j.toNat)):=t8 λi j _ _ _ _ _ hc q =>
 rshift_int hc (by rw[Mq i (N2 _)];exact q)
theorem N6:bI X (binaryOp .BitAnd) (fB λi j=>.int (kP i j)):=nu λ_ _ _ _ _ _ _ q=>and_int q
theorem N7:bI X (binaryOp .BitXor) (fB λi j=>.int (mL i j)):=nu λ_ _ _ _ _ _ _ q=>xor_int q
theorem N8:bI X (inplaceOp .Add) (fB λi j=>.int (i+j)):=nu λ_ _ _ _ _ _ _ q=>iadd_int q
theorem N9:bI X (inplaceOp .Sub) (fB λi j=>.int (i-j)):=nu λ_ _ _ _ _ _ _ q=>isub_int q
theorem Oa:bI X (inplaceOp .BitXor) (fB λi j=>.int (mL i j)):=nu λ_ _ _ _ _ _ _ q=>ixor_int q
theorem Ob{f:Value->Sem Value}{g:Int->Int}
  (rule:∀(i:Int) (t:Tok) (s:Shared) (Q:Value->Shared->Prop) (E:Value->Shared->Prop),Q (.int (g i) s.toks) { s with toks:=s.toks+1 }->wpAny (model X.prog X.w) X.A (f (.int i t)) Q E s) :
  zH X f (rU λi=>.int (g i)):=by
 intro pins s σ H x v Q I rx h
 obtain⟨i,rfl,q⟩:=h
 obtain⟨t,rfl⟩:=rx
 exact rule i t s _ _ ⟨.int (g i),H,I.tok _,⟨_,rfl⟩,q⟩
theorem Oc:zH X (unaryOp .USub) (rU λi=>.int (-i)):=Ob λ_ _ _ _ _ q=>neg_int q
end
section
variable{X:Cx}{a b c:Expr}{ta tb tc:TE}{pos:Pos}
theorem Od:bI X (compareOp .Lt) (fB λi j=>.bl (decide (i<j))):=wx λ_ _ _ _ _ _ _ q=>lt_int q
theorem Oe:bI X (compareOp .LtE) (fB λi j=>.bl (decide (i<=j))):=wx λ_ _ _ _ _ _ _ q=>le_int q
theorem Of:bI X (compareOp .Gt) (fB λi j=>.bl (decide (j<i))):=wx λ_ _ _ _ _ _ _ q=>gt_int q
theorem Og:bI X (compareOp .GtE) (fB λi j=>.bl (decide (j<=i))):=wx λ_ _ _ _ _ _ _ q=>ge_int q
theorem bI.or{f:Value->Value->Sem Value}{r r':R2}(h:bI X f r)(h':bI X f r'):bI X f (λx y H Q=>r x y H Q\/r' x y H Q):=by
 intro pins s σ H x y v u Q I rx ry q
 rcases q with q | q
 ·exact h pins s σ H x y v u Q I rx ry q
 ·exact h' pins s σ H x y v u Q I rx ry q
theorem cx(b:Expr){op:CmpOp}(h:op≠.In:=by decide)(h2:op≠.NotIn:=by decide):behindInMarks op b=false:=by
 have e1:(op==CmpOp.In)=false:=by cases op<;>first | rfl | exact absurd rfl h
 have e2:(op==CmpOp.NotIn)=false:=by cases op<;>first | rfl | exact absurd rfl h2
 cases b<;>simp[behindInMarks,e1,e2]
theorem Oh{op:CmpOp}{r:R2}(ho:bI X (compareOp op) r)(ha:PE X a ta)(hb:PE X b tb)(hm:behindInMarks op b=false):PE X (.Compare a [op] [b] pos) (t7 r ta tb):=by
 intro pins s σ H Q I h
 exact wpAny_Compare1 (zI ha hb I h λv u s2 x y H2 I2 rx ry q=>ho pins s2 σ H2 x y v u Q I2 rx ry q) hm
noncomputable def D0(t:TE):TT:=λσ H Q=>t σ H λx H'=>∃k,x=.bl k/\Q k H'
theorem D1{op:CmpOp}{r:R2}(ho:bI X (compareOp op) r)(ha:PE X a ta)(hb:PE X b tb)(hm:behindInMarks op b=false):PT X (.Compare a [op] [b] pos) (D0 (t7 r ta tb)):=by
 intro pins s σ H Q I h
 refine wpAny_isTrue_Compare1 (aA (ha pins s σ H _ I h) λv s1 ⟨x,H1,I1,r1,q1⟩=>aA (hb pins s1 σ H1 _ I1 q1) λu s2 ⟨y,H2,I2,r2,q2⟩ =>
  aA (ho pins s2 σ H2 x y v u _ I2 r1 r2 q2) λc s3 ⟨z,H3,I3,r3,k,e,q3⟩=>?_) hm
 subst e
 cases r3
 exact wpAny_truthy_bool ⟨H3,I3,q3⟩
noncomputable def D2(r r':R2)(ta tb tc:TE):TE:=λσ H Q=>ta σ H λx H1=>tb σ H1 λy H2=>r x y H2 λz H3=>∃k,z=.bl k /\
 (if k=true then tc σ H3 λw' H4=>r' y w' H4 Q else Q (.bl false) H3)
theorem Oi{op nv:CmpOp}{r r':R2}(ho:bI X (compareOp op) r)(iu:bI X (compareOp nv) r')(ha:PE X a ta)(hb:PE X b tb)(hc:PE X c tc)
  (hm:lastMarks [op,nv] [b,c]=false:=by with_unfolding_all rfl):PE X (.Compare a [op,nv] [b,c] pos) (D2 r r' ta tb tc):=by
 intro pins s σ H Q I h
 refine Compare_chain (aA (ha pins s σ H _ I h) λv s1 ⟨x,H1,I1,r1,q1⟩=>chain_link (aA (hb pins s1 σ H1 _ I1 q1) λu s2 ⟨y,H2,I2,r2,q2⟩ =>
  aA (ho pins s2 σ H2 x y v u _ I2 r1 r2 q2) λd s3 ⟨z,H3,I3,r3,k,e,q3⟩=>?_)) hm
 subst e
 cases r3
 refine wpAny_truthy_bool ?_
 cases k with
 | false=>exact ite_ff ⟨.bl false,H3,I3,rfl,q3⟩
 | true=>exact ite_tt (chain_last (aA (hc pins s3 σ H3 _ I3 q3) λw' s4 ⟨z',H4,I4,r4,q4⟩=>iu pins s4 σ H4 y z' u w' Q I4 r2 r4 q4))
theorem ny:(sizeLine:Nat)<2 ^ 63:=by rw[sizeLine_eq];decide
theorem Oj:bI X (binaryOp .Add) (λx y H Q=>∃i j,x=.str i/\y=.str j/\i.length+j.length<=sizeLine/\Q (.str (i++j)) H):=by
 intro pins s σ H x y v u Q I rx ry h
 obtain⟨i,j,rfl,rfl,hz,q⟩:=h
 obtain⟨t,rfl⟩:=rx
 obtain⟨t',rfl⟩:=ry
 exact add_str (λt' tk=>⟨.str (i++j),H,I.tok _,⟨_,rfl⟩,q⟩) hz
theorem zK{x:V}{us:List Value}(r:Vals [x] us):∃u,us=[u]/\RelV x u:=by
 cases r with
 | cons r1 r2=>cases r2;exact⟨_,rfl,r1⟩
theorem D3{x y:V}{us:List Value}(r:Vals [x,y] us):∃u w',us=[u,w']/\RelV x u/\RelV y w':=by
 cases r with
 | cons r1 r2 =>
  cases r2 with
  | cons r3 r4=>cases r4;exact⟨_,_,rfl,r1,r3⟩
theorem Ol(hc:X.calm=true):eE X (.builtin "max") (λxs H Q=>∃i j,xs=[.int i,.int j]/\Q (.int (if j>i then j else i)) H):=by
 intro pins s σ H xs us Q I r h
 obtain⟨i,j,rfl,q⟩:=h
 obtain⟨u,w',rfl,⟨t,rfl⟩,⟨t',rfl⟩⟩:=D3 r
 refine max_two_ints (I.ok.hd hc) λh' tk k=>⟨_,H,I.kept k,?_,q⟩
 by_cases hj:j>i
 ·rw[if_pos hj,if_pos hj];exact⟨_,rfl⟩
 ·rw[if_neg hj,if_neg hj];exact⟨_,rfl⟩
theorem Om(hc:X.calm=true):eE X (.builtin "min") (λxs H Q=>∃i j,xs=[.int i,.int j]/\Q (.int (if j<i then j else i)) H):=by
 intro pins s σ H xs us Q I r h
 obtain⟨i,j,rfl,q⟩:=h
 obtain⟨u,w',rfl,⟨t,rfl⟩,⟨t',rfl⟩⟩:=D3 r
 refine min_two_ints (I.ok.hd hc) λh' tk k=>⟨_,H,I.kept k,?_,q⟩
 by_cases hj:j<i
 ·rw[if_pos hj,if_pos hj];exact⟨_,rfl⟩
 ·rw[if_neg hj,if_neg hj];exact⟨_,rfl⟩
end
end L2
namespace L2
open PySem PySem.Spec PyProof.Rows
structure nz(h:Heap)(x dx C:Addr)(mA:Str->Option Value):Prop where
 obj:h.get? x=some (PySem.W.instObj C dx)
 ns:h.Ns1 dx mA
 ne:dx≠x
theorem Oo{h:Heap}{dx:Addr}{mA:Str->Option Value}(n:h.Ns1 dx mA):∃od,h.get? dx=some od/\∀name,PySem.W.lookIn name od=some (mA name):=by
 obtain⟨o,es,ep,ho,hd,hk,_,hm⟩:=n
 refine⟨o,ho,λname=>?_⟩
 have e:=hm name
 unfold nsFind findBy at e
 rw[<-C5]at e
 unfold PySem.W.lookIn
 rw[hd]
 dsimp only
 split
 ·rename_i y q
  rw[q]at e
  exact congrArg some e
 ·rename_i q
  rw[q]at e
  have a:es.toList.any (·.refKey)=false:=by
   rw[List.any_eq_false]
   intro y hy
   obtain⟨z,t,Oq⟩:=hk y (Array.mem_toList_iff.mp hy)
   simp[DictEntry.refKey,Oq]
  have a':¬ es.toList.any (·.refKey)=true:=by rw[a];exact kO
  rw[if_neg a']
  exact congrArg some e
theorem nz.look{h:Heap}{x dx C:Addr}{mA:Str->Option Value}(I:nz h x dx C mA):∃od,PySem.W.InstAt h x (PySem.W.instObj C dx) C (some od)/\∀name,PySem.W.lookIn name od=some (mA name) :=
 let⟨od,ho,hl⟩:=Oo I.ns
 ⟨od,⟨I.obj,rfl,rfl,ho⟩,hl⟩
section
variable{prog:Program}{w:World}{A:Around}{E:Value->Shared->Prop}{s:Shared}{K:PySem.W.Frag}{x dx C f:Addr}{mA:Str->Option Value}{name:Str}{v:Value}
theorem Ot{expr:Bool}{Q:Value->Shared->Prop}(X:K.In s.heap)(I:nz s.heap x dx C mA)(hg:PySem.W.plainGet K C name=true)(hh:PySem.W.hasDictIn K C=true)
  (ha:PySem.W.findIn K (.ref C) name=some none) (hv:mA name=some v) (Ou:PySem.W.handedIn v=true) (h:Q v { s with toks:=s.toks+1 }) :
  wpAny (model prog w) A (getAttr (.ref x) name expr) Q E s:=by
 obtain⟨od,J,hl⟩:=I.look
 exact PySem.W.get_value X J (PySem.W.plainGet_of hg).1 (PySem.W.findObj_own hh ha rfl (by rw[hl,hv])) Ou h
theorem Ov{pl:Sem Bool}{Q:Value × List Value->Shared->Prop}(X:K.In s.heap)(I:nz s.heap x dx C mA)(hg:PySem.W.plainGet K C name=true)
  (hf:PySem.W.findIn K (.ref C) name=some (some (.ref f))) (ht:PySem.W.isFn K (.ref f)=true) (hv:mA name=none) (h:Q (.ref f,[.ref x]) s) :
  wpAny (model prog w) A (getMethod (.ref x) name pl) Q E s:=by
 obtain⟨od,J,hl⟩:=I.look
 exact PySem.W.method_fn X J (PySem.W.plainGet_of hg).1 (PySem.W.plainGet_of hg).2 hf (beq_iff_eq.mp ht) (by show(PySem.W.lookIn name od).map (·.isSome)=some false;rw[hl,hv];rfl) h
theorem Ow{ns:List Str}{Q:Unit->Shared->Prop}(X:K.In s.heap)(I:nz s.heap x dx C mA)
  (hs:PySem.W.findIn K (.ref C) "__setattr__"=some (some (.builtin "object.__setattr__"))) (hp:PySem.W.plainOver K C=true) (ht:PySem.W.takerIn K C name=some none) (hh:PySem.W.hasDictIn K C=true)
  (hw:PySem.Within mA ns) (hsz:ns.length<=sizeLine)
  (h:∀h',nz h' x dx C (λy=>if y=name then some v else mA y)->yO dx s.heap h'->Q () { s with heap:=h',toks:=s.toks+2 }) :
  wpAny (model prog w) A (setAttr (.ref x) name v) Q E s:=by
 obtain⟨od,J,hl⟩:=I.look
 refine PySem.W.set_plain X J hs (PySem.W.osa_open (s:={ s with toks:=s.toks+1 }) (r:=none) X J hp ht λb=>?_)
 obtain⟨cd,hc,tM⟩:=PySem.W.any_some hh
 have hx:s.heap.get? x=some ⟨.ref C,some dx,.plain,#[]⟩:=I.obj
 refine wpAny_bind (wpAny_pure (wpAny_bind (wpAny_bind (wpAny_loadPart hx (wpAny_bind (PySem.W.Looks.here (s:={ s with toks:=s.toks+1 }) (PySem.W.looks_clsIn X hc) ?_))))))
 rw[tM]
 refine wpAny_pure (a:=some dx) (wpAny_bind (wpAny_pure (wpAny_bind ?_)))
 refine wpAny_nsSet1 (s:={ s with toks:=s.toks+1 }) I.ns λh' wy cm=>?_
 obtain⟨oD,Ox,Oy,zL,zM,iy⟩:=wy.count (PySem.Within.cons name v hw)
 refine wpAny_bind (wpAny_lookBehind zL (by rw[zM];exact pastItsLine_dict (dy iy (by rw[cS];omega))) ?_)
 exact wpAny_pure (h _ ⟨(cm.2 _ (cA I.ne)).trans I.obj,wy,I.ne⟩ cm)
theorem Oz{R:Result->Shared->Prop}{vs:List Value}{kw:List (Str × Value)}(X:K.In s.heap)(hm:PySem.W.makesIn K C=true)
  (hi:PySem.W.findIn K (.ref C) "__init__"=some (some (.ref f))) (hf:PySem.W.typeIn K (.ref f)=some (.type "function"))
  (h:codeAny (model prog w) (A.under (.builtin "type.__call__" ⟨.ref C::vs,kw⟩)) (.call (.ref f) ⟨.ref (s.heap.objs.size+1)::vs,kw⟩) (PySem.W.InitBack (s.heap.objs.size+1) R)
   { s with heap:=(s.heap.push PySem.W.emptyDict).push (PySem.W.instObj C s.heap.objs.size) }) :
  codeAny (model prog w) A (.call (.ref C) ⟨vs,kw⟩) R s:=by
 obtain⟨hh,g,d,t,os⟩:=s
 exact PySem.W.make_core (PySem.W.makes_of X hm) (PySem.W.looks_findIn X hi) (λself=>PySem.W.bind_fn X self hf) (.inl rfl) h
end
noncomputable def dD(f:Str)(v:V):List (Str × V)->List (Str × V)
 | []=>[(f,v)]
 | (g,x)::r=>if g=f then(g,v)::r else(g,x)::dD f v r
theorem D4(f g:Str)(v:V):∀fs:List (Str × V),(dD f v fs).lookup g=if g=f then some v else fs.lookup g
 | []=>by
  show jL g [(f,v)]=_
  by_cases h:g=f
  ·have hb:(g==f)=true:=beq_iff_eq.mpr h
   simp only[jL,hb,if_pos h]
  ·have hb:(g==f)=false:=beq_eq_false_iff_ne.mpr h
   simp only[jL,hb,if_neg h]
 | (k,x)::r=>by
  have ih:=D4 f g v r
  rw[show dD f v ((k,x)::r)=(if k=f then(k,v)::r else(k,x)::dD f v r) from rfl]
  by_cases hk:k=f
  ·rw[if_pos hk]
   by_cases h:g=k
   ·have hb:(g==k)=true:=beq_iff_eq.mpr h
    simp only[jL,hb,if_pos (h.trans hk)]
   ·have hb:(g==k)=false:=beq_eq_false_iff_ne.mpr h
    simp only[jL,hb,if_neg (λe:g=f=>h (e.trans hk.symm))]
  ·rw[if_neg hk]
   by_cases h:g=k
   ·have hb:(g==k)=true:=beq_iff_eq.mpr h
    simp only[jL,hb,if_neg (λe:g=f=>hk (h.symm.trans e))]
   ·have hb:(g==k)=false:=beq_eq_false_iff_ne.mpr h
    simp only[jL,hb]
    exact ih
theorem zN(f:Str)(v:V):∀fs:List (Str × V),f∈(dD f v fs).map (·.1)/\∀g,g∈fs.map (·.1)->g∈(dD f v fs).map (·.1)
 | []=>⟨by simp[dD],λg h=>by simp at h⟩
 | (k,x)::r=>by
  obtain⟨i1,i2⟩:=zN f v r
  rw[show dD f v ((k,x)::r)=(if k=f then(k,v)::r else(k,x)::dD f v r) from rfl]
  by_cases hk:k=f
  ·rw[if_pos hk]
   subst hk
   exact⟨by simp,λg h=>by simpa using h⟩
  ·rw[if_neg hk]
   refine⟨?_,λg h=>?_⟩
   ·rw[cj]
    exact ig _ i1
   ·rw[cj]at h ⊢
    rcases bE.mp h with e | e
    ·exact bE.mpr (.inl e)
    ·exact ig _ (i2 g e)
theorem D6(f:Str)(v:V):∀fs:List (Str × V),(dD f v fs).length<=fs.length+1
 | []=>by simp[dD]
 | (k,x)::r=>by
  have ih:=D6 f v r
  rw[show dD f v ((k,x)::r)=(if k=f then(k,v)::r else(k,x)::dD f v r) from rfl]
  by_cases hk:k=f
  ·rw[if_pos hk,cS,cS];omega
  ·rw[if_neg hk,cS,cS];omega
theorem ft.some_of{v:V}{o:Option Value}(r:ft (some v) o):∃u,o=some u/\RelV v u:=by
 cases o with
 | none=>exact(show False from r).elim
 | some u=>exact⟨u,rfl,r⟩
theorem ft.none_of{o:Option Value}(r:ft none o):o=none:=by
 cases o with
 | none=>rfl
 | some u=>exact(show False from r).elim
theorem OA{v:V}{u:Value}(r:RelV v u):PySem.W.handedIn u=true:=by
 cases v with
 | ao=>cases(show u=kN from r);rfl
 | bl b=>cases(show u=yM b from r);rfl
 | int i=>obtain⟨t,e⟩:=(show ∃t,u=kM i t from r);cases e;rfl
 | str x=>obtain⟨t,e⟩:=(show ∃t,u=vH x t from r);cases e;rfl
 | v9 b=>obtain⟨t,e⟩:=(show ∃t,u=Value.bytes b t from r);cases e;rfl
 | m9 b=>obtain⟨t,e⟩:=(show ∃t,u=Value.float b t from r);cases e;rfl
 | ref a=>cases(show u=bC a from r);rfl
 | ty n=>cases(show u=Value.type n from r);rfl
section
variable{P:Program}{w:World}{H H':Hp}{h h':Heap}{a C dx:Addr}{fs MZ:List (Str × V)}
theorem wz(au:bA P w H h)(e:H a=some (.ins C dx fs)):∃mA,nz h a dx C mA/\(∀f,ft (fs.lookup f) (mA f))/\PySem.Within mA (fs.map (·.1))/\fs.length<=1000/\H dx=some (.own a):=by
 obtain⟨d,z,ne,ob,mA,n,r,q⟩:=(show bq P w H h a (.ins C dx fs) from au a _ e)
 exact⟨mA,⟨ob,n,ne⟩,r,q,z,d⟩
end
structure cY(K:PySem.W.Frag)(C:Addr):Prop where
 pg:PySem.W.plainGet K C qC=true
 hd:PySem.W.hasDictIn K C=true
 po:PySem.W.plainOver K C=true
 sa:PySem.W.findIn K (.ref C) "__setattr__"=some (some (.builtin "object.__setattr__"))
theorem cY.get{K:PySem.W.Frag}{C:Addr}(c:cY K C)(f:Str):PySem.W.plainGet K C f=true:=c.pg
noncomputable def bL(K:PySem.W.Frag)(C:Addr)(f:Str):Prop:=PySem.W.findIn K (.ref C) f=some none
theorem bL.OB{K:PySem.W.Frag}{C:Addr}{f:Str}(n:bL K C f):PySem.W.takerIn K C f=some none:=by
 unfold PySem.W.takerIn
 rw[show PySem.W.findIn K (.ref C) f=some none from n]
 rfl
structure Meth(K:PySem.W.Frag)(C:Addr)(m:Str)(f:Addr):Prop where
 at_:PySem.W.findIn K (.ref C) m=some (some (.ref f))
 fn:PySem.W.isFn K (.ref f)=true
 kp:PySem.W.keepIn K (.ref f)=true
section
variable{X:Cx}{pins:List (Addr × Obj)}{σ:St}{H:Hp}{s:Shared}{a C dx:Addr}{fs:List (Str × V)}{f:Str}{v:V}{A:Around}{E:Value->Shared->Prop}
theorem OC{b:Bool}{Q:Value->Shared->Prop}(I:Inv X pins σ H s)(e:H a=some (.ins C dx fs))(c:cY X.K C)(n:bL X.K C f)(l:fs.lookup f=some v)
  (h:∀u s',Inv X pins σ H s'->RelV v u->Q u s'):wpAny (model X.prog X.w) A (getAttr (.ref a) f b) Q E s:=by
 obtain⟨mA,O,r,_,_,_⟩:=wz I.au e
 obtain⟨u,hu,ru⟩:=ft.some_of (v:=v) (o:=mA f) (by rw[<-l];exact r f)
 exact Ot I.bh O (c.get f) c.hd n hu (OA ru) (h u _ (I.tok _) ru)
theorem zO{m:Str}{g:Addr}{pl:Sem Bool}{Q:Value × List Value->Shared->Prop}(I:Inv X pins σ H s)(e:H a=some (.ins C dx fs))(c:cY X.K C)(k:Meth X.K C m g)(l:fs.lookup m=none)
  (h:Q (.ref g,[.ref a]) s):wpAny (model X.prog X.w) A (getMethod (.ref a) m pl) Q E s:=by
 obtain⟨mA,O,r,_,_,_⟩:=wz I.au e
 have hn:mA m=none:=ft.none_of (by rw[<-l];exact r m)
 exact Ov I.bh O (c.get m) k.at_ k.fn hn h
theorem OD{y:V}{u:Value}{Q:Unit->Shared->Prop}(I:Inv X pins σ H s)(e:H a=some (.ins C dx fs))(c:cY X.K C)(n:bL X.K C f)(hl:fs.length<1000)(ry:RelV y u)
  (h:∀s',Inv X pins σ (upd H a (.ins C dx (dD f y fs))) s'->Q () s'):wpAny (model X.prog X.w) A (setAttr (.ref a) f u) Q E s:=by
 obtain⟨mA,O,r,wi,_,ho⟩:=wz I.au e
 have hz:(fs.map (·.1)).length<=sizeLine:=by rw[cI,sizeLine_eq];omega
 refine Ow I.bh O c.sa c.po n.OB c.hd wi hz λh' O' sb=>h _ ?_
 have hd:∃o,h'.get? dx=some o:=let⟨o,_,_,e',_⟩:=O'.ns;⟨o,e'⟩
 refine I.write (x:=a) (e:=dx) (by rw[e];exact iY) (.inr ho) (λb q hb z=>(sb.2 b hb).trans z) hd ?_
 refine⟨by rw[ay O.ne];exact ho,?_,O.ne,O'.obj,_,O'.ns,λg=>?_,λg hg=>?_⟩
 ·have:=D6 f y fs;omega
 ·show ft ((dD f y fs).lookup g) (if g=f then some u else mA g)
  rw[D4]
  by_cases q:g=f
  ·rw[if_pos q,if_pos q];exact ry
  ·rw[if_neg q,if_neg q];exact r g
 ·by_cases q:g=f
  ·rw[q];exact(zN f y fs).1
  ·refine(zN f y fs).2 g (wi g λz=>hg ?_)
   show(if g=f then some u else mA g)=none
   rw[if_neg q];exact z
theorem Inv.made(I:Inv X pins σ H s):Inv X pins σ (upd (upd H s.heap.objs.size (.own (s.heap.objs.size+1))) (s.heap.objs.size+1) (.ins C s.heap.objs.size []))
  { s with heap:=(s.heap.push PySem.W.emptyDict).push (PySem.W.instObj C s.heap.objs.size) }:=by
 have e1:(s.heap.push PySem.W.emptyDict).get? s.heap.objs.size=some PySem.W.emptyDict:=eY s.heap rfl
 have e2:((s.heap.push PySem.W.emptyDict).push (PySem.W.instObj C s.heap.objs.size)).get? (s.heap.objs.size+1)=some (PySem.W.instObj C s.heap.objs.size):=by
  have:=eY (s.heap.push PySem.W.emptyDict) (o:=PySem.W.instObj C s.heap.objs.size) rfl
  rwa [yP]at this
 have e3:(s.heap.push PySem.W.emptyDict).Ns s.heap.objs.size (λ_=>none):=⟨PySem.W.emptyDict,#[],_,e1,rfl,(λe he=>absurd he (by simp)),λ_=>rfl⟩
 have I1:=I.laid (a:=s.heap.objs.size) (o:=.own (s.heap.objs.size+1)) (h':=s.heap.push PySem.W.emptyDict) (t':=s.toks) (λb u q=>bU _ q) (aZ _) ⟨_,e1⟩
 refine I1.laid (a:=s.heap.objs.size+1) (o:=.ins C s.heap.objs.size []) (t':=s.toks) (λb u q=>bU _ q) (Nat.le_of_eq (yP _ _)) ?_
 have ne:s.heap.objs.size≠s.heap.objs.size+1:=cG (Nat.lt_succ_self _)
 refine⟨by rw[ay ne,a5],ij _,ne,e2,λ_=>none,(Heap.Ns1.of_empty e3).at λo q=>bU _ q,λ_=>iY,λy hy=>absurd rfl hy⟩
theorem D7{prog:Program}{w:World}{env:Env}{e:Expr}{f:Str}{pos:Pos}{s:Shared}{Q:Value->Shared->Prop}(hb:attributeBase e f env (eval e env)=eval e env)
  (h:wpAny (model prog w) A (eval e env) (λo aQ=>wpAny (model prog w) A (getAttr o f true) Q E aQ) E s):wpAny (model prog w) A (eval (.Attribute e f pos) env) Q E s :=
 Attribute_any_ h (by rw[arm_eval_Attribute,hb])
end
noncomputable def OE(K:PySem.W.Frag)(ta:TE)(f:Str):TE:=λσ H Q=>ta σ H λx H1=>∃a C dx fs v,x=.ref a/\H1 a=some (.ins C dx fs)/\cY K C/\bL K C f/\fs.lookup f=some v/\Q v H1
noncomputable def OF(K:PySem.W.Frag)(ta tv:TE)(f:Str):TS:=λD σ H=>tv σ H λy H1=>ta σ H1 λx H2=>∃a C dx fs,x=.ref a/\H2 a=some (.ins C dx fs)/\cY K C/\bL K C f/\fs.length<1000 /\
 D.nx σ (upd H2 a (.ins C dx (dD f y fs)))
section
variable{X:Cx}{o e value:Expr}{f:Str}{pos pos' gY:Pos}{ta tv:TE}
theorem wA(he:PE X e ta)(hb:attributeBase e f X.env (eval e X.env)=eval e X.env):PE X (.Attribute e f pos) (OE X.K ta f):=by
 intro pins s σ H Q I h
 refine D7 hb (aA (he pins s σ H _ I h) λu s1 ⟨x,H1,I1,rx,a,C,dx,fs,v,ex,ea,c,n,l,q⟩=>?_)
 subst ex
 obtain rfl:u=bC a:=rx
 exact OC I1 ea c n l λu' s2 I2 ru=>⟨v,H1,I2,ru,q⟩
theorem k8(ha:PE X o ta)(hv:PE X value tv)(hs:swapsWith value (some (.Attribute o f pos')) pos.line X.env=pure false):PS X (.Assign [.Attribute o f pos'] value pos) (OF X.K ta tv f):=by
 intro pins s σ H D I h
 refine plainObj_wpAny_Assign_Attribute (aA (hv pins s σ H _ I h) λu s1 ⟨y,H1,I1,ry,q⟩=>aA (ha pins s1 σ H1 _ I1 q) λov s2 ⟨x,H2,I2,rx,a,C,dx,fs,ex,ea,c,n,l,q2⟩=>?_) hs
 subst ex
 obtain rfl:ov=bC a:=rx
 exact OD I2 ea c n l ry λs3 I3=>⟨σ,_,I3,q2⟩
end
section
variable{X:Cx}{pins:List (Addr × Obj)}{σ:St}{H:Hp}{s:Shared}{A:Around}{E:Value->Shared->Prop}{Q:Value->Shared->Prop}{c:Value}{b:Bool}
inductive eL(K:PySem.W.Frag)(H:Hp):V->Value->Prop where
 | ao:eL K H .ao (.type "NoneType")
 | bl (x:Bool):eL K H (.bl x) (.type "bool")
 | int (i:Int):eL K H (.int i) (.type "int")
 | str (x:Str):eL K H (.str x) (.type "str")
 | m9 (x:UInt64):eL K H (.m9 x) (.type "float")
 | lst {a:Addr} {xs:List V} (e:H a=some (.lst xs)):eL K H (.ref a) (.type "list")
 | bz {a:Addr} {o:Obj} {xs:List V} (e:H a=some (.bz o (.lst xs))):eL K H (.ref a) (.type "list")
 | tup {a:Addr} {xs:List V} (e:H a=some (.tup xs)):eL K H (.ref a) (.type "tuple")
 | dK {a:Addr} {aj:List (Key × V)} (e:H a=some (.dK aj)):eL K H (.ref a) (.type "dict")
 | dT {a:Addr} {aj:List (List Key × V)} (e:H a=some (.dT aj)):eL K H (.ref a) (.type "dict")
 | ins {a C dx:Addr} {fs:List (Str × V)} (e:H a=some (.ins C dx fs)) (cl:cY K C) (ha:PySem.W.findIn K (.ref C) "__class__"=some (some (.builtin "object.__class__")))
   (hn:PySem.W.specialIn K (.builtin "object.__class__") "__get__"=some (some (.builtin "getset_descriptor.__get__"))) (D8:PySem.W.takesIn K (.builtin "object.__class__")=some true)
   (hm:PySem.W.mroIn K C (.type "object")=some true):eL K H (.ref a) (.ref C)
theorem D9{x:V}{u t:Value}(I:Inv X pins σ H s)(rx:RelV x u)(ty:eL X.K H x t)(e:PySem.W.kitOne X.K t c=some b)(h:∀tk,Q (.bool b) { s with toks:=tk }) :
  wpAny (model X.prog X.w) A (call (.builtin "isinstance") [u,c]) Q E s:=by
 cases ty with
 | ao=>cases(show u=kN from rx);exact PySem.W.kia_one PySem.W.kitx_none I.bh iY e (λz=>nomatch z) h
 | bl y=>cases(show u=yM y from rx);exact PySem.W.kia_one PySem.W.kitx_bool I.bh iY e (λz=>nomatch z) h
 | int i=>obtain⟨t,q⟩:=(show ∃t,u=kM i t from rx);cases q;exact PySem.W.kia_one PySem.W.kitx_int I.bh iY e (λz=>nomatch z) h
 | str y=>obtain⟨t,q⟩:=(show ∃t,u=vH y t from rx);cases q;exact PySem.W.kia_one PySem.W.kitx_str I.bh iY e (λz=>nomatch z) h
 | m9 y=>obtain⟨t,q⟩:=(show ∃t,u=Value.float y t from rx);cases q;exact PySem.W.kia_one PySem.W.kitx_float I.bh iY e (λz=>nomatch z) h
 | @lst a xs ea =>
  cases(show u=bC a from rx)
  obtain⟨_,_,n,_,h1⟩:=(show bq X.prog X.w H s.heap a (.lst xs) from I.au a _ ea)
  exact PySem.W.kia_one PySem.W.kitx_list I.bh ⟨_,h1,rfl⟩ e (λz=>nomatch z) h
 | @bz a ob xs ea =>
  cases(show u=bC a from rx)
  obtain⟨_,_,_,n,_,h1⟩:=(show bq X.prog X.w H s.heap a (.bz ob (.lst xs)) from I.au a _ ea)
  exact PySem.W.kia_one PySem.W.kitx_list I.bh ⟨_,h1,rfl⟩ e (λz=>nomatch z) h
 | @tup a xs ea =>
  cases(show u=bC a from rx)
  obtain⟨_,_,_,p⟩:=(show bq X.prog X.w H s.heap a (.tup xs) from I.au a _ ea)
  obtain⟨o,h1,h2,_⟩:=p
  exact PySem.W.kia_one PySem.W.kitx_tuple I.bh ⟨o,h1,h2⟩ e (λz=>nomatch z) h
 | @dK a aj ea =>
  cases(show u=bC a from rx)
  obtain⟨_,_,vs,_,p⟩:=(show bq X.prog X.w H s.heap a (.dK aj) from I.au a _ ea)
  obtain⟨o,es,ep,h1,h2,_⟩:=p
  exact PySem.W.kia_one PySem.W.kitx_dict I.bh ⟨o,h1,h2.1⟩ e (λz=>nomatch z) h
 | @dT a aj ea =>
  cases(show u=bC a from rx)
  obtain⟨_,_,xs,_,o,es,ep,h1,h2,_⟩:=(show bq X.prog X.w H s.heap a (.dT aj) from I.au a _ ea)
  exact PySem.W.kia_one PySem.W.kitx_dict I.bh ⟨o,h1,h2.1⟩ e (λz=>nomatch z) h
 | @ins a C dx fs ea cl ha hn D8 hm =>
  cases(show u=bC a from rx)
  obtain⟨mA,O,_⟩:=wz I.au ea
  obtain⟨od,J,_⟩:=O.look
  exact PySem.W.kia_one (PySem.W.kitx_own (cl.get _) cl.hd ha hn D8 hm) I.bh J e (λz=>nomatch z) h
end
end L2
namespace L2
open PySem PySem.Spec PyProof.Rows
structure bu(k:Nat)(A:Around):Prop where
 hd:A.handled=none
 dp:A.depth+3*k+5<recursionLimit
 un:A.units+16*k+200<cLine
theorem bu.mono{j k:Nat}{A:Around}(r:bu k A)(h:j<=k):bu j A:=⟨r.hd,by have:=r.dp;omega,by have:=r.un;omega⟩
theorem bu.deeper{k:Nat}{A:Around}(r:bu (k+1) A)(env:Env):bu k (A.deeper env) :=
 ⟨r.hd,by have:=r.dp;show A.depth+1+3*k+5<_;omega,by have:=r.un;show A.units+3+16*k+200<_;omega⟩
theorem OG{A:Around}{C:Addr}{us:List Value}{kw:List (Str × Value)}:(A.under (.builtin "type.__call__" ⟨.ref C::us,kw⟩)).depth=A.depth+1:=by
 first | rfl | simp[Around.under,Code.weight,Code.isCreation,Code.isGuard,Code.isCaller,Code.frames,Code.isFrame,guardIds]
theorem OH{A:Around}{C:Addr}{us:List Value}{kw:List (Str × Value)}:(A.under (.builtin "type.__call__" ⟨.ref C::us,kw⟩)).units=A.units+1:=by
 first | rfl | simp[Around.under,Code.cUnits,Code.frames,Code.isFrame]
theorem bu.make{k:Nat}{A:Around}(r:bu (k+1) A)(C:Addr)(us:List Value)(kw:List (Str × Value)):bu k (A.under (.builtin "type.__call__" ⟨.ref C::us,kw⟩)) :=
 ⟨r.hd,by have:=r.dp;rw[OG];omega,by have:=r.un;rw[OH];omega⟩
theorem bu.depth{k:Nat}{A:Around}(r:bu k A):A.depth<recursionLimit:=by have:=r.dp;omega
noncomputable def OI:TA:=λ_ H Q=>Q [] H
noncomputable def OJ(ta:TE)(tr:TA):TA:=λσ H Q=>ta σ H λx H1=>tr σ H1 λxs H2=>Q (x::xs) H2
section
variable{X:Cx}{e:Expr}{es:List Expr}{te:TE}{t:TA}{pos:Pos}
theorem eM:PA X [] OI:=λ_ _ _ _ H Q I h=>C6 ⟨[],H,I,.nil,h⟩
theorem cL(ha:PE X e te)(hr:PA X es t)(hs:starEach (e::es) X.env=(false,eval e X.env)::starEach es X.env:=by rfl):PA X (e::es) (OJ te t):=by
 intro pos pins s σ H Q I h
 rw[hs]
 show wpAny _ _ (spliced ((false,eval e X.env)::backTo pos (starEach es X.env))) _ _ s
 refine C7 (aA (ha pins s σ H _ I h) λu s1 ⟨x,H1,I1,r1,q1⟩=>?_)
 exact aA (hr pos pins s1 σ H1 _ I1 q1) λus s2 ⟨xs,H2,I2,r2,q2⟩=>⟨x::xs,H2,I2,.cons r1 r2,q2⟩
noncomputable def OK(t:TA):TE:=λσ H Q=>t σ H λxs H1=>xs.length<=sizeLine/\∀p,H1 p=none->Q (.ref p) (upd H1 p (.tup xs))
noncomputable def OL(t:TA):TE:=λσ H Q=>t σ H λxs H1=>xs.length<=sizeLine/\∀p,H1 p=none->Q (.ref p) (upd H1 p (.lst xs))
theorem OM{x1}(h:PA X es t):PE X (.Tuple es x1 pos) (OK t):=by
 intro pins s σ H Q I hq
 refine wpAny_Tuple_spliced (aA (h pos pins s σ H _ I hq) λus s1 ⟨xs,H1,I1,r,z,q⟩=>⟨by rw[<-r.length];exact z,?_⟩)
 have hf:H1 s1.heap.objs.size=none:=I1.au.fresh (aZ _)
 refine⟨.ref s1.heap.objs.size,upd H1 s1.heap.objs.size (.tup xs),I1.laid (t':=s1.toks) (λb u e=>bU _ e) (aZ _) ?_,rfl,q _ hf⟩
 exact⟨z,us,r,⟨_,eY _ rfl,rfl,_,rfl⟩⟩
theorem ON(h:PA X es t):PE X (.List es pos) (OL t):=by
 intro pins s σ H Q I hq
 refine wpAny_List_spliced (aA (h pos pins s σ H _ I hq) λus s1 ⟨xs,H1,I1,r,z,q⟩=>⟨by rw[<-r.length];exact z,?_⟩)
 have hf:H1 s1.heap.objs.size=none:=I1.au.fresh (aZ _)
 refine⟨.ref s1.heap.objs.size,upd H1 s1.heap.objs.size (.lst xs),I1.laid (t':=s1.toks) (λb u e=>bU _ e) (aZ _) ?_,rfl,q _ hf⟩
 exact⟨z,us,0,r,eY _ rfl⟩
end
noncomputable abbrev Sp:=List V->Hp->VK->XK->Prop
noncomputable abbrev cn:=List Env->Hp->Shared->XK->Value->Shared->Prop
structure fC(P:Program)(w:World)(K:PySem.W.Frag)(mg:Str->Option Value)(base:Heap)(A:Around)(outer:List Env)(s:Shared)(H:Hp):Prop where
 frames:A.frames=some outer
 mod:Mod K mg base
 bs:∀b o,base.get? b=some o->s.heap.get? b=some o/\H b=none
 fu:base.objs.size<=s.heap.objs.size
 dB:s.heap.FunFrames base outer
 fv:∀b∈cw outer,H b=none
 au:bA P w H s.heap
 bare:AllBare s.gens
noncomputable def CE(outer:List Env)(P:Program)(w:World)(H:Hp)(s:Shared)(Q:VK)(u:Value)(s':Shared):Prop :=
 ∃v H',s'.os=s.os/\AllBare s'.gens/\Un (cw outer) [] H H' s.heap s'.heap/\bA P w H' s'.heap/\RelV v u/\Q v H'
noncomputable def CR(CX:cn)(outer:List Env)(P:Program)(w:World)(H:Hp)(s:Shared)(Q:VK)(E:XK)(r:Result)(s':Shared):Prop :=
 match r with
 | .ok (.ret u)=>CE outer P w H s Q u s'
 | .ok _=>False
 | .error e=>CX outer H s E e s'
structure aL(P:Program)(w:World)(K:PySem.W.Frag)(mg:Str->Option Value)(base:Heap)(CX:cn)(k:Nat)(f:Addr)(fd:FuncData)(ps:List Str)(sp:Sp):Prop where
 len:∀vs H Q E,sp vs H Q E->vs.length=ps.length
 run:∀(A:Around) (outer:List Env) (s:Shared) (H:Hp) (args:Args) (us:List Value) (vs:List V) (Q:VK) (E:XK),bu k A->fC P w K mg base A outer s H->BindsTo s fd args (ps.zip us)->Vals vs us->sp vs H Q E ->
  codeAny (model P w) A (.call (.ref f) args) (CR CX outer P w H s Q E) s
theorem aL.mono{P:Program}{w:World}{K:PySem.W.Frag}{mg:Str->Option Value}{base:Heap}{CX:cn}{j k:Nat}{f:Addr}{fd:FuncData}{ps:List Str}{sp:Sp}(F:aL P w K mg base CX j f fd ps sp)(h:j<=k) :
  aL P w K mg base CX k f fd ps sp:=⟨F.len,λA outer s H args us vs Q E hr=>F.run A outer s H args us vs Q E (hr.mono h)⟩
theorem aL.imp{P:Program}{w:World}{K:PySem.W.Frag}{mg:Str->Option Value}{base:Heap}{CX:cn}{k:Nat}{f:Addr}{fd:FuncData}{ps:List Str}{sp Ea:Sp}(F:aL P w K mg base CX k f fd ps sp)
  (h:∀vs H Q E,Ea vs H Q E->sp vs H Q E):aL P w K mg base CX k f fd ps Ea :=
 ⟨λvs H Q E q=>F.len vs H Q E (h _ _ _ _ q),λA outer s H args us vs Q E hr he hb hv hs=>F.run A outer s H args us vs Q E hr he hb hv (h _ _ _ _ hs)⟩
theorem fC.make{P:Program}{w:World}{K:PySem.W.Frag}{mg:Str->Option Value}{base:Heap}{A:Around}{outer:List Env}{s:Shared}{H:Hp}(e:fC P w K mg base A outer s H)(C:Addr)(us:List Value)(kw:List (Str × Value)) :
  fC P w K mg base (A.under (.builtin "type.__call__" ⟨.ref C::us,kw⟩)) outer s H:=⟨by first | exact e.frames | (simpa[Around.under,Code.envs,Code.isFrame,pushEnvs]using e.frames),e.mod,e.bs,e.fu,e.dB,e.fv,e.au,e.bare⟩
section
variable{X:Cx}{pins:List (Addr × Obj)}{σ:St}{H:Hp}{s s':Shared}
theorem Inv.nC(I:Inv X pins σ H s):fC X.prog X.w X.K X.mg X.base X.A X.stack s H :=
 ⟨I.ok.frames,I.ok.mod,I.bs,dy I.ok.fu I.sz,I.stack,I.wc,I.au,I.bare⟩
theorem Inv.after{Q:VK}{u:Value}(I:Inv X pins σ H s)(h:CE X.stack X.prog X.w H s Q u s'):EP X pins σ Q u s':=by
 obtain⟨v,H',os,bare,un,au,r,q⟩:=h
 obtain⟨hh,g,d,t,OO⟩:=s'
 obtain rfl:OO=s.os:=os
 exact⟨v,H',I.call (h':=hh) (g':=g) (d':=d) (t':=t) (ch:=[]) un au bare (λb z=>absurd z (by simp)),r,q⟩
end
noncomputable def OP(sp:Sp)(df:List V)(E:XK)(t:TA):TE:=λσ H Q=>t σ H λvs H1=>sp (vs++df) H1 Q E
noncomputable def OQ(C:Addr)(m:Str)(sp:Sp)(df:List V)(E:XK)(ta:TE)(t:TA):TE:=λσ H Q=>ta σ H λx H1=>∃a dx fs,x=.ref a/\H1 a=some (.ins C dx fs)/\fs.lookup m=none /\
 t σ H1 λvs H2=>sp (x::(vs++df)) H2 Q E
noncomputable def OR(C:Addr)(sp:Sp)(df:List V)(E:XK)(t:TA):TE:=λσ H Q=>t σ H λvs H1=>∀x dx,H1 x=none->H1 dx=none->dx≠x ->
 sp (.ref x::(vs++df)) (upd (upd H1 dx (.own x)) x (.ins C dx [])) (λv H2=>v=.ao/\Q (.ref x) H2) E
noncomputable def Binds(K:PySem.W.Frag)(fd:FuncData)(ps:List Str)(ds:List Value):Prop :=
 ∀(s:Shared) (us:List Value),K.In s.heap->(us++ds).length=ps.length->BindsTo s fd ⟨us,[]⟩ (ps.zip (us++ds))
theorem Binds.all{K:PySem.W.Frag}{fd:FuncData}{ps:List Str}(h:∀us:List Value,us.length=ps.length->bindArgs fd ⟨us,[]⟩=pure (ps.zip us)):Binds K fd ps []:=λs us _ hl=>by
 rw[gg]at hl ⊢
 exact .of_eq (h us hl)
noncomputable def iz(CX:cn)(X:Cx)(E:XK):Prop:=∀(pins:List (Addr × Obj)) (σ:St) (H:Hp) (s:Shared) (e:Value) (s':Shared),Inv X pins σ H s->CX X.stack H s E e s'->X.xe e s'
section
variable{X:Cx}{CX:cn}{k:Nat}{f C:Addr}{fd:FuncData}{ps:List Str}{sp:Sp}{df:List V}{ds:List Value}{E:XK}{x m:Str}{p pos apos:Pos}{e o:Expr}{es:List Expr}{ta:TE}{t:TA}
theorem wB{pins:List (Addr × Obj)}{σ:St}{H:Hp}{s:Shared}{Q:VK}{us:List Value}{vs:List V}(F:aL X.prog X.w X.K X.mg X.base CX k f fd ps sp)(hr:bu k X.A)(hb:Binds X.K fd ps ds)(hd:Vals df ds)(hx:iz CX X E)
  (I:Inv X pins σ H s) (r:Vals vs us) (h:sp (vs++df) H Q E):wpAny (model X.prog X.w) X.A (call (.ref f) us) (EP X pins σ Q) X.xe s:=by
 have r2:Vals (vs++df) (us++ds):=r.append hd
 have hl:(us++ds).length=ps.length:=by rw[<-r2.length];exact F.len _ _ _ _ h
 refine wpAny_call (codeAny_mono (F.run X.A X.stack s H ⟨us,[]⟩ (us++ds) (vs++df) Q E hr I.nC (hb s us I.bh hl) r2 h) λr s' hq=>?_)
 cases r with
 | error e=>exact hx pins σ H s e s' I hq
 | ok fl =>
  cases fl with
  | ret u=>exact I.after hq
  | next=>exact cH hq
  | brk=>exact cH hq
  | cont=>exact cH hq
theorem nD(F:aL X.prog X.w X.K X.mg X.base CX k f fd ps sp)(hr:bu k X.A)(hg:Gl X x)(hm:X.mg x=some (.ref f))(hk:PySem.W.keepIn X.K (.ref f)=true)(hb:Binds X.K fd ps ds)(hd:Vals df ds)(hx:iz CX X E)
  (ha:PA X (e::es) t) (bN:(x==("__debug__":Str))=false:=by decide) (he:starEach (e::es) X.env=(false,eval e X.env)::starEach es X.env:=by rfl) (aR:(backTo pos (starEach es X.env)).any (·.1)=false:=by rfl) :
  PE X (.Call (.Name x p) (e::es) [] pos) (OP sp df E t):=by
 intro pins s σ H Q I h
 refine wpAny_Call_Name_kw (jW I hg hm ?_ bN)
 refine PySem.W.callWith_K (h₀:=X.base) I.ok.mod.ir hk (aA (ha pos pins s σ H _ I h) λus s1 ⟨vs,H1,I1,r,q⟩=>⟨I1.bh,?_⟩) he aR
 exact wB F hr hb hd hx I1 r q
theorem OS{pl:Sem Bool}(he:PE X o ta)(c:cY X.K C)(hm:Meth X.K C m f)(F:aL X.prog X.w X.K X.mg X.base CX k f fd ps sp)(hr:bu k X.A)(hb:Binds X.K fd ps ds)(hd:Vals df ds)(hx:iz CX X E)(ha:PA X (e::es) t)
  (bt:starEach (e::es) X.env=(false,eval e X.env)::starEach es X.env:=by rfl) (aR:(backTo pos (starEach es X.env)).any (·.1)=false:=by rfl)
  (ht:eval (.Call (.Attribute o m apos) (e::es) [] pos) X.env=(do
   let ov<-eval o X.env
   standAt apos.atName
   let (f,first)<-holding [ov] (getMethod ov m pl)
   callWith pos f first (backTo pos (starEach (e::es) X.env)) (backToKw pos (keywordEach [] X.env))):=by rfl) :
  PE X (.Call (.Attribute o m apos) (e::es) [] pos) (OQ C m sp df E ta t):=by
 intro pins s σ H Q I h
 refine PySem.W.methodCall_KW (pl:=pl) (aA (he pins s σ H _ I h) λu s1 ⟨x,H1,I1,rx,a,dx,fs,ex,ea,l,q⟩=>?_) ht
 subst ex
 obtain rfl:u=bC a:=rx
 refine zO I1 ea c hm l ?_
 refine PySem.W.callWith_K (first:=[.ref a]) (h₀:=X.base) I.ok.mod.ir hm.kp (aA (ha pos pins s1 σ H1 _ I1 q) λus s2 ⟨vs,H2,I2,r,q2⟩=>⟨I2.bh,?_⟩) bt aR
 exact wB (us:=.ref a::us) (vs:=.ref a::vs) F hr hb hd hx I2 (.cons rfl r) q2
structure Mk(K:PySem.W.Frag)(C f:Addr):Prop where
 makes:PySem.W.makesIn K C=true
 init:PySem.W.findIn K (.ref C) "__init__"=some (some (.ref f))
 fn:PySem.W.isFn K (.ref f)=true
 kp:PySem.W.keepIn K (.ref C)=true
theorem OT{pins:List (Addr × Obj)}{σ:St}{H:Hp}{s:Shared}{Q:VK}{us:List Value}{vs:List V}(M:Mk X.K C f)(F:aL X.prog X.w X.K X.mg X.base CX k f fd ps sp)(hr:bu (k+1) X.A)(hb:Binds X.K fd ps ds)(hd:Vals df ds)
  (hx:iz CX X E) (I:Inv X pins σ H s) (r:Vals vs us)
  (h:∀x dx,H x=none->H dx=none->dx≠x->sp (.ref x::(vs++df)) (upd (upd H dx (.own x)) x (.ins C dx [])) (λv H2=>v=.ao/\Q (.ref x) H2) E) :
  wpAny (model X.prog X.w) X.A (call (.ref C) us) (EP X pins σ Q) X.xe s:=by
 have hq:=h (s.heap.objs.size+1) s.heap.objs.size (I.au.fresh (C8 _)) (I.au.fresh (aZ _)) (cG (Nat.lt_succ_self _))
 have I2:=Inv.made (C:=C) I
 have r2:Vals (V.ref (s.heap.objs.size+1)::(vs++df)) (bC (s.heap.objs.size+1)::(us++ds)):=.cons rfl (r.append hd)
 have hl:(bC (s.heap.objs.size+1)::us++ds).length=ps.length:=by
  have e:=r2.length
  rw[F.len _ _ _ _ hq]at e
  exact e.symm
 refine wpAny_call (Oz (f:=f) I.bh M.makes M.init (beq_iff_eq.mp M.fn) (codeAny_mono (F.run _ X.stack _ _ ⟨bC (s.heap.objs.size+1)::us,[]⟩ (bC (s.heap.objs.size+1)::(us++ds)) _ _ E (hr.make C us [])
  (I2.nC.make C us []) (hb _ (bC (s.heap.objs.size+1)::us) I2.bh hl) r2 hq) λr s' dE=>?_))
 cases r with
 | error e=>exact hx pins σ _ _ e s' I2 dE
 | ok fl =>
  cases fl with
  | ret u =>
   obtain⟨v,H',I3,rv,ev,q3⟩:=I2.after dE
   subst ev
   exact⟨rv,⟨V.ref (s.heap.objs.size+1),H',I3,rfl,q3⟩⟩
  | next=>exact cH dE
  | brk=>exact cH dE
  | cont=>exact cH dE
theorem OU(M:Mk X.K C f)(F:aL X.prog X.w X.K X.mg X.base CX k f fd ps sp)(hr:bu (k+1) X.A)(hg:Gl X x)(hm:X.mg x=some (.ref C))(hb:Binds X.K fd ps ds)(hd:Vals df ds)(hx:iz CX X E)
  (ha:PA X (e::es) t) (bN:(x==("__debug__":Str))=false:=by decide) (he:starEach (e::es) X.env=(false,eval e X.env)::starEach es X.env:=by rfl) (aR:(backTo pos (starEach es X.env)).any (·.1)=false:=by rfl) :
  PE X (.Call (.Name x p) (e::es) [] pos) (OR C sp df E t):=by
 intro pins s σ H Q I h
 refine wpAny_Call_Name_kw (jW I hg hm ?_ bN)
 refine PySem.W.callWith_K (h₀:=X.base) I.ok.mod.ir M.kp (aA (ha pos pins s σ H _ I h) λus s1 ⟨vs,H1,I1,r,q⟩=>⟨I1.bh,?_⟩) he aR
 exact OT M F hr hb hd hx I1 r q
end
section
variable{X:Cx}{CX:cn}{k:Nat}{f C:Addr}{fd:FuncData}{ps ks:List Str}{sp:Sp}{E:XK}{x m:Str}{p pos apos Zl:Pos}{e o:Expr}{es:List Expr}{Zm:List Keyword}{te ta:TE}{t tk:TA}{nm:Option Str}
variable{g:List Value->List Value->List Value}{gV:List V->List V->List V}
end
structure aX(N P:List Str)(sc:Scope):Prop where
 kind:sc.kind=.function
 co:sc.isCoroutine=false
 gen:sc.isGenerator=false
 nd:N.Nodup
 pre:N.take P.length=P
 par:∀x∈P,sc.names.lookup x=some .local\/sc.names.lookup x=some .cell
 OV:∀y∈sc.names,y.2≠.free
theorem Eb{kindOf:Str->Option NameKind}{x:Str}:∀{binds:List (Str × Value)} {m:Str->Option Value},(∀v,(x,v) ∉ binds)->bindL kindOf binds m x=m x
 | [],_,_=>rfl
 | (n,v)::r,m,h=>by
  unfold bindL
  rw[Eb λw hw=>h w (ig _ hw)]
  split
  ·have:x≠n:=by rintro rfl;exact h v sR
   simp[this]
  ·rfl
theorem Ec{kindOf:Str->Option NameKind}{x:Str}:∀{binds:List (Str × Value)} {m:Str->Option Value},(∀v,(x,v) ∉ binds)->bindC kindOf binds m x=m x
 | [],_,_=>rfl
 | (n,v)::r,m,h=>by
  unfold bindC
  rw[Ec λw hw=>h w (ig _ hw)]
  split
  ·rfl
  ·have:x≠n:=by rintro rfl;exact h v sR
   simp[this]
theorem Ee{kindOf:Str->Option NameKind}{x:Str}{v:Value}:∀{P:List Str} {vs:List Value} {i:Nat} {m:Str->Option Value},P.Nodup->P[i]?=some x->vs[i]?=some v->kindOf x=some .local ->
  bindL kindOf (P.zip vs) m x=some v
 | [],_,_,_,_,h,_,_=>by simp at h
 | _::_,[],_,_,_,_,h,_=>by simp at h
 | p::P,w::vs,0,m,nd,h1,h2,hk=>by
  simp at h1 h2;subst h1;subst h2
  show bindL kindOf ((p,w)::P.zip vs) m p=_
  unfold bindL
  rw[Eb λv hv=>(jM.mp nd).1 (vM hv).1,if_pos hk]
  simp
 | p::P,w::vs,i+1,m,nd,h1,h2,hk=>by
  show bindL kindOf ((p,w)::P.zip vs) m x=_
  unfold bindL
  exact Ee (i:=i) (jM.mp nd).2 (by simpa using h1) (by simpa using h2) hk
theorem Ef{kindOf:Str->Option NameKind}{x:Str}{v:Value}:∀{P:List Str} {vs:List Value} {i:Nat} {m:Str->Option Value},P.Nodup->P[i]?=some x->vs[i]?=some v->kindOf x≠some .local ->
  bindC kindOf (P.zip vs) m x=some v
 | [],_,_,_,_,h,_,_=>by simp at h
 | _::_,[],_,_,_,_,h,_=>by simp at h
 | p::P,w::vs,0,m,nd,h1,h2,hk=>by
  simp at h1 h2;subst h1;subst h2
  show bindC kindOf ((p,w)::P.zip vs) m p=_
  unfold bindC
  rw[Ec λv hv=>(jM.mp nd).1 (vM hv).1,if_neg hk]
  simp
 | p::P,w::vs,i+1,m,nd,h1,h2,hk=>by
  show bindC kindOf ((p,w)::P.zip vs) m x=_
  unfold bindC
  exact Ef (i:=i) (jM.mp nd).2 (by simpa using h1) (by simpa using h2) hk
noncomputable def start(N:List Str)(vs:List V):St:=vs.map some++aT (N.length-vs.length) none
noncomputable def fE(CX:cn)(P:Program)(w:World)(K:PySem.W.Frag)(mg:Str->Option Value)(base:Heap)(N:List Str)(qual:Str)(scope:Scope)(f:Addr)(cd:Value)(A:Around)(outer:List Env)(s:Shared)(H:Hp)(E:XK):Cx where
 prog:=P
 w:=w
 K:=K
 mg:=mg
 base:=base
 A:=A.deeper (envOfC qual scope s.heap.objs.size f cd)
 N:=N
 bc:=s
 gQ:=H
 env:=envOfC qual scope s.heap.objs.size f cd
 outer:=outer
 stack:=envOfC qual scope s.heap.objs.size f cd::outer
 ex:=[]
 calm:=true
 fn:=λ_=>true
 pn:=[]
 xe:=λe s'=>wpAny (model P w) (A.deeper (envOfC qual scope s.heap.objs.size f cd)) (leaving (envOfC qual scope s.heap.objs.size f cd) e) (λ_ nE=>CX outer H s E e nE) (λe' nE=>CX outer H s E e' nE) s'
theorem Eg{sc:Scope}{n:Nat}{x:Str}(h:sc.names.lookup x=some .cell):∃c,(cellsFrom n sc.names []).lookup x=some c:=by
 have q:=PySem.W.cellsFrom_some sc.names n [] (.inl h)
 exact sU.mp q
theorem OW{CX:cn}{P:Program}{w:World}{K:PySem.W.Frag}{mg:Str->Option Value}{base:Heap}{N ps:List Str}{qual:Str}{scope:Scope}{f:Addr}{cd:Value}{A:Around}{outer:List Env}{s s1:Shared}{H:Hp}{E:XK}{us:List Value}{vs:List V}
  (S:aX N ps scope) (hd:A.handled=none) (e0:fC P w K mg base A outer s H) (hl:vs.length=ps.length) (r:Vals vs us)
  (x:InCallC s s.heap.objs.size (bindL (envOfC qual scope s.heap.objs.size f cd).kindOf (ps.zip us) λ_=>none) (cellsFrom (s.heap.objs.size+1) scope.names []) (bindC (envOfC qual scope s.heap.objs.size f cd).kindOf (ps.zip us) λ_=>none) s1) :
  Inv (fE CX P w K mg base N qual scope f cd A outer s H E) [] (start N vs) H s1:=by
 have aR:ps.length<=N.length:=by have:=congrArg C9 S.pre;rw[iZ]at this;omega
 obtain⟨h1,tk,rfl,hk⟩:=x.done
 have t9:∀b:Addr,b ∉ (fE CX P w K mg base N qual scope f cd A outer s H E).ex:=λb z=>absurd (show b∈([]:List Addr) from z) (by simp)
 refine⟨⟨e0.mod,S.kind,rfl,rfl,aZ _,λy z c h1 h2=>?_,λy hy=>?_,λy c _ h=>?_,λ_=>hd,Around.frames_deeper e0.frames,.inr ⟨rfl,rfl⟩,λb z=>absurd z (t9 b),e0.bs,e0.fu,λb _ _=>t9 b,λb z=>absurd z (t9 b),e0.dB,e0.fv⟩,
  rfl,e0.bare,Un.kept hk,⟨_,x.toInCall.ns,λi y v h1 h2 h3=>?_⟩,λy c h=>⟨_,x.cell y c h⟩,e0.au.fresh (aZ _),λy c h=>?_,λp hp=>absurd (show p∈([]:List (Addr × Obj)) from hp) (by simp),e0.au.kept hk,?_⟩
 ·exact name_of_addr x.apart (PySem.mem_of_lookup h1) (PySem.mem_of_lookup h2)
 ·have hy:scope.names.lookup y=some .cell\/scope.names.lookup y=some .free:=hy
  rcases hy with hy | hy
  ·exact Eg hy
  ·exact absurd rfl (S.OV _ (PySem.mem_of_lookup hy))
 ·exact vI (x.above y c (PySem.mem_of_lookup h))
 ·have hi:i<vs.length:=by
   unfold start at h2
   by_cases hi:i<vs.length
   ·exact hi
   ·rw[vN (by simpa using hi)]at h2
    rw[vO]at h2
    split at h2<;>cases h2
  have ha:vs[i]?=some v:=by
   unfold start at h2
   rw[vP (by simpa using hi),cW]at h2
   cases e:vs[i]? with
   | none=>rw[e]at h2;cases h2
   | some a=>rw[e]at h2;cases h2;rfl
  obtain⟨u,hu,rv⟩:=r.get ha
  have hp:ps[i]?=some y:=by
   rw[<-S.pre,Mr (by omega)];exact h1
  have Eh:ps.Nodup:=by rw[<-S.pre];exact S.nd.sublist (List.take_sublist _ _)
  refine⟨u,rv,?_⟩
  rcases S.par y (kQ hp)with k | k
  ·exact .inl ⟨k,Ee Eh hp hu k⟩
  ·obtain⟨c,e⟩:=Eg (n:=s.heap.objs.size+1) k
   refine .inr ⟨.inl k,c,e,?_⟩
   have q:=x.cell y c e
   rw[Ef Eh hp hu (by show scope.names.lookup y≠_;rw[k];decide)]at q
   exact q
 ·exact e0.au.fresh (vI (x.above y c (PySem.mem_of_lookup h)))
 ·unfold start
  show _=N.length
  rw[gO,cI,qD]
  omega
theorem zP{CX:cn}{P:Program}{w:World}{K:PySem.W.Frag}{mg:Str->Option Value}{base:Heap}{k:Nat}{f:Addr}{name qual:Str}{params:Arguments}{body:List Stmt}{scope:Scope}{dV kV doc pm aE ct oc:Value}{an od:Option Addr}
  {gn:Array (Option Value)} {N ps:List Str} {sp:Sp} (lk:K.lookup f=some ⟨oc,od,.func (PySem.W.fnOf name qual params body scope dV kV doc pm an aE ct),gn⟩) (br:PySem.W.codeIn K aE qual=true) (S:aX N ps scope)
  (len:∀vs H Q E,sp vs H Q E->vs.length=ps.length)
  (e8:∀(A:Around) (outer:List Env) (s:Shared) (H:Hp) (vs:List V) (Q:VK) (E:XK),bu k (A.deeper (envOfC qual scope s.heap.objs.size f aE))->sp vs H Q E ->
   ∃t,PSs (fE CX P w K mg base N qual scope f aE A outer s H E) body t/\t { nx:=λ_ H'=>Q .ao H',rt:=Q } (start N vs) H) :
  aL P w K mg base CX (k+1) f (PySem.W.fnOf name qual params body scope dV kV doc pm an aE ct) ps sp:=by
 refine⟨len,λA outer s H args us vs Q E hr e0 hb r fF=>?_⟩
 have hl:=len _ _ _ _ fF
 have KX:K.In s.heap:=e0.mod.ir.keeps λb o e=>(e0.bs b o e).1
 have lim:s.heap.NoLimit:=e0.mod.nolimit.keeps λb o e=>(e0.bs b o e).1
 have iA:∀y∈ps.zip us,scope.names.lookup y.1=some .local\/(scope.names.lookup y.1=some .cell/\((cellsFrom (s.heap.objs.size+1) scope.names []).lookup y.1).isSome=true):=λ⟨n,v⟩ hy=>by
  rcases S.par n (vM hy).1 with q | q
  ·exact .inl q
  ·exact .inr ⟨q,PySem.W.cellsFrom_some _ _ _ (.inl q)⟩
 refine codeAny_call_function hr.depth (KX _ _ lk) rfl S.co S.gen rfl (PySem.W.codeRec_of KX br) (hb _ _ _ _ ?_)
 refine wpAny_newFunctionEnv_cells S.kind iA λenv he s1 x=>?_
 subst he
 refine⟨lim.keeps x.toInCall.keep,codeAny_func ?_⟩
 obtain⟨t,ht,hq⟩:=e8 A outer s H vs Q E (hr.deeper _) fF
 have I:Inv (fE CX P w K mg base N qual scope f aE A outer s H E) [] (start N vs) H s1:=OW S hr.hd e0 hl r x
 refine wpAny_mono (ht [] s1 (start N vs) H _ I hq) (λfl s' hs=>?_) λe s' hs=>hs
 have fin:∀{av:St} {H':Hp} {v:V} {u:Value},Inv (fE CX P w K mg base N qual scope f aE A outer s H E) [] av H' s'->RelV v u->Q v H'->CE outer P w H s Q u s' :=
  λ{av H' v u} J rv q=>⟨v,H',J.os,J.bare,J.base,J.au,rv,q⟩
 cases fl with
 | ret u =>
  obtain⟨v,av,H',J,rv,q⟩:=hs
  exact fin J rv q
 | next =>
  obtain⟨av,H',J,q⟩:=hs
  exact fin (v:=V.ao) (u:=kN) J rfl q
 | brk =>
  obtain⟨_,_,_,q⟩:=hs
  exact cH q
 | cont =>
  obtain⟨_,_,_,q⟩:=hs
  exact cH q
end L2
namespace L2
open PySem PySem.Spec PyProof.Rows
section
variable{X:Cx}{x:Str}{p pos:Pos}{e:Expr}{es:List Expr}{t:TA}{id T:String}{r:List V->Hp->VK->Prop}
noncomputable def zQ(r:List V->Hp->VK->Prop)(t:TA):TE:=λσ H Q=>t σ H λvs H1=>r vs H1 Q
theorem zR(hc:eE X (.builtin id) r)(hg:Gl X x)(hm:X.mg x=none)(hv:bootBuiltins x=some (.builtin id))(ha:PA X (e::es) t)(hn:x≠"__name__":=by decide)(bN:(x==("__debug__":Str))=false:=by decide)
  (he:starEach (e::es) X.env=(false,eval e X.env)::starEach es X.env:=by rfl) (aR:(backTo pos (starEach es X.env)).any (·.1)=false:=by rfl):PE X (.Call (.Name x p) (e::es) [] pos) (zQ r t):=by
 intro pins s σ H Q I h
 refine wpAny_Call_Name_kw (je I hg hm hv ?_ hn bN)
 exact Ms (aA (ha pos pins s σ H _ I h) λus s1 ⟨vs,H1,I1,r1,q1⟩=>hc pins s1 σ H1 vs us Q I1 r1 q1) he aR
theorem OX(hc:eE X (.type T) r)(hg:Gl X x)(hm:X.mg x=none)(hv:bootBuiltins x=some (.type T))(ha:PA X (e::es) t)(hn:x≠"__name__":=by decide)(bN:(x==("__debug__":Str))=false:=by decide)
  (he:starEach (e::es) X.env=(false,eval e X.env)::starEach es X.env:=by rfl) (aR:(backTo pos (starEach es X.env)).any (·.1)=false:=by rfl):PE X (.Call (.Name x p) (e::es) [] pos) (zQ r t):=by
 intro pins s σ H Q I h
 refine wpAny_Call_Name_kw (je I hg hm hv ?_ hn bN)
 exact mK (aA (ha pos pins s σ H _ I h) λus s1 ⟨vs,H1,I1,r1,q1⟩=>hc pins s1 σ H1 vs us Q I1 r1 q1) he aR
end
end L2
namespace HT
open PySem PyProof.Rows
section
open PySem.SeqAt
open PySem.AutoSeq1 (wpAny_loadPart')
open PySem.MeetsSeq PySem.MeetsSeq2 PySem.MeetsSeq3
end
section
variable{prog:Program}{w:World}{A:Around}{E:Value->Shared->Prop}{s:Shared}
noncomputable def bO(n d:Nat):Option Int->Nat
 | none=>d
 | some v=>if v<0 then(v+(n:Int)).toNat else min v.toNat n
theorem Ei(n d k:Nat):bO n d (some (k:Int))=min k n:=by
 show(if(k:Int)<0 then((k:Int)+(n:Int)).toNat else min (k:Int).toNat n)=min k n
 rw[if_neg (by omega),sV]
end
end HT
namespace L2
open PySem PySem.Spec PyProof.Rows
noncomputable abbrev TO:=St->Hp->(Option Int->Hp->Prop)->Prop
noncomputable def PO(X:Cx)(e:Option Expr)(t:TO):Prop :=
 ∀(pins:List (Addr × Obj)) (s:Shared) (σ:St) (H:Hp) (Q:Option Int->Hp->Prop),Inv X pins σ H s->t σ H Q ->
  wpAny (model X.prog X.w) X.A (evalPart e X.env) (λu s'=>∃o H',Inv X pins σ H' s'/\IsPart u o/\Q o H') X.xe s
noncomputable def OY:TO:=λ_ H Q=>Q none H
noncomputable def OZ(t:TE):TO:=λσ H Q=>t σ H λx H1=>∃i,x=.int i/\Q (some i) H1
section
variable{X:Cx}{e:Expr}{te:TE}{lo hi:Option Expr}{tl th:TO}{pos p2:Pos}
theorem O0:PO X none OY:=by
 intro pins s σ H Q I h
 rw[evalPart_none]
 exact wpAny_pure ⟨none,H,I,.none,h⟩
theorem O1(h:PE X e te):PO X (some e) (OZ te):=by
 intro pins s σ H Q I hw
 rw[evalPart_some]
 refine aA (h pins s σ H _ I hw) λu s1 ⟨x,H1,I1,r1,q1⟩=>?_
 obtain⟨i,rfl,q⟩:=q1
 obtain⟨t,rfl⟩:=r1
 exact⟨some i,H1,I1,.int i t,q⟩
noncomputable def nF(X:Cx)(r:V->Option Int->Option Int->Hp->VK->Prop):Prop :=
 ∀(pins:List (Addr × Obj)) (s:Shared) (σ:St) (H:Hp) (x:V) (v vl vu:Value) (lo hi:Option Int) (sl:Addr) (Q:VK),Inv X pins σ H s->RelV x v->s.heap.IsSliceOf sl vl vu .none->IsPart vl lo->IsPart vu hi->r x lo hi H Q ->
  ∃T id,typeLookup (.type T) "__getitem__"=pure (some (.builtin id))/\s.TypeIs v T/\wpAny (model X.prog X.w) X.A (getItem v (.ref sl)) (EP X pins σ Q) X.xe s
theorem nF.or{r r':V->Option Int->Option Int->Hp->VK->Prop}(h:nF X r)(h':nF X r'):nF X (λx lo hi H Q=>r x lo hi H Q\/r' x lo hi H Q):=by
 intro pins s σ H x v vl vu lo hi sl Q I rx hs pl pu q
 rcases q with q | q
 ·exact h pins s σ H x v vl vu lo hi sl Q I rx hs pl pu q
 ·exact h' pins s σ H x v vl vu lo hi sl Q I rx hs pl pu q
noncomputable def O2(r:V->Option Int->Option Int->Hp->VK->Prop)(te:TE)(tl th:TO):TE:=λσ H Q=>te σ H λx H1=>tl σ H1 λl H2=>th σ H2 λu H3=>r x l u H3 Q
theorem O3{r:V->Option Int->Option Int->Hp->VK->Prop}(hr:nF X r)(he:PE X e te)(hl:PO X lo tl)(hu:PO X hi th):PE X (.Subscript e (.Slice lo hi none p2) pos) (O2 r te tl th):=by
 intro pins s σ H Q I h
 refine Subscript_ (aA (he pins s σ H _ I h) λv s1 ⟨x,H1,I1,r1,q1⟩=>?_)
 refine wpAny_Slice (aA (hl pins s1 σ H1 _ I1 q1) λvl s2 ⟨l,H2,I2,pl,q2⟩=>aA (hu pins s2 σ H2 _ I2 q2) λvu s3 ⟨u,H3,I3,pu,q3⟩=>?_)
 rw[evalPart_none]
 refine wpAny_pure ?_
 have I4:Inv X pins σ H3 { s3 with heap:=s3.heap.push { cls:=.type "slice",data:=.fields #[vl,vu,.none] } }:=I3.kept (t':=s3.toks) λb ob q=>bU _ q
 obtain⟨T,id,hT,ht,hg⟩:=hr pins { s3 with heap:=s3.heap.push { cls:=.type "slice",data:=.fields #[vl,vu,.none] } } σ H3 x v vl vu l u s3.heap.objs.size Q I4 r1 (Heap.IsSliceOf.new ..) pl pu q3
 show wpAny (model X.prog X.w) X.A (subscriptTail e (.Slice lo hi none p2) v (.ref s3.heap.objs.size)) (EP X pins σ Q) X.xe { s3 with heap:=s3.heap.push { cls:=.type "slice",data:=.fields #[vl,vu,.none] } }
 exact tail_any (ops:=[.ref s3.heap.objs.size,v]) ht hT hg (by with_unfolding_all rfl)
noncomputable def qT(xs:List V)(lo hi:Option Int):List V:=(xs.drop (HT.bO xs.length 0 lo)).take (HT.bO xs.length xs.length hi-HT.bO xs.length 0 lo)
theorem O4(xs:List V)(lo hi:Option Int):(qT xs lo hi).length<=xs.length:=by
 unfold qT
 rw[iZ,vQ]
 omega
end
end L2
namespace L2
open PySem PySem.Spec PyProof.Rows
noncomputable def gq(n:Nat)(i:Int):Option Nat:=if 0<=i then(if i<n then some i.toNat else none)else if -(n:Int)<=i then some (i+n).toNat else none
noncomputable def cM{α:Type}(xs:List α)(i:Int):Option α:=(gq xs.length i).bind λj=>xs[j]?
theorem Ej{n:Nat}{i:Int}{j:Nat}(h:gq n i=some j):seqIndex? i n=some j/\j<n/\-(n:Int)<=i/\i<n:=by
 unfold gq at h
 by_cases h0:0<=i
 ·rw[if_pos h0]at h
  by_cases h1:i<n
  ·rw[if_pos h1]at h
   have e:i.toNat=j:=bS h
   exact⟨by rw[seqIndex_of h0 h1,e],by omega,by omega,h1⟩
  ·rw[if_neg h1]at h;cases h
 ·rw[if_neg h0]at h
  by_cases h1:-(n:Int)<=i
  ·rw[if_pos h1]at h
   have e:(i+n).toNat=j:=bS h
   exact⟨by rw[seqIndex_neg (by omega) h1,e],by omega,h1,by omega⟩
  ·rw[if_neg h1]at h;cases h
theorem jY{α:Type}{xs:List α}{i:Int}{v:α}(h:cM xs i=some v):∃j,seqIndex? i xs.length=some j/\xs[j]?=some v/\j<xs.length/\-(xs.length:Int)<=i/\i<xs.length:=by
 unfold cM at h
 cases e:gq xs.length i with
 | none=>rw[e]at h;cases h
 | some j =>
  rw[e]at h
  obtain⟨h1,h2,h3,h4⟩:=Ej e
  exact⟨j,h1,h,h2,h3,h4⟩
noncomputable def Ek(b:Expr):Prop:=∀o i,subscripted b false o i=operate [o,i] (getItem o i)
noncomputable def jZ(X:Cx)(r:R2):Prop :=
 ∀(value slice:Expr) (pins:List (Addr × Obj)) (s:Shared) (σ:St) (H:Hp) (x y:V) (v u:Value) (Q:VK),Inv X pins σ H s->RelV x v->RelV y u->r x y H Q ->
  subscripted slice false v u=operate [v,u] (getItem v u)->wpAny (model X.prog X.w) X.A (subscriptTail value slice v u) (EP X pins σ Q) X.xe s
noncomputable def wC(X:Cx)(id:String)(r:V->List V->Hp->VK->Prop):Prop :=
 ∀(pins:List (Addr × Obj)) (s:Shared) (σ:St) (H:Hp) (x:V) (xs:List V) (v:Value) (us:List Value) (Q:VK),Inv X pins σ H s->RelV x v->Vals xs us->r x xs H Q ->
  wpAny (model X.prog X.w) X.A (call (.builtin id) (v::us)) (EP X pins σ Q) X.xe s
section
variable{X:Cx}{a b:Expr}{ta tb:TE}{pos:Pos}
theorem jZ.or{r r':R2}(h:jZ X r)(h':jZ X r'):jZ X (λx y H Q=>r x y H Q\/r' x y H Q):=by
 intro value slice pins s σ H x y v u Q I rx ry q hs
 rcases q with q | q
 ·exact h value slice pins s σ H x y v u Q I rx ry q hs
 ·exact h' value slice pins s σ H x y v u Q I rx ry q hs
theorem O5{r:R2}(hr:jZ X r)(ha:PE X a ta)(hb:PE X b tb)(hs:Ek b):PE X (.Subscript a b pos) (t7 r ta tb):=by
 intro pins s σ H Q I h
 exact Subscript_ (zI ha hb I h λv u s2 x y H2 I2 rx ry q=>hr a b pins s2 σ H2 x y v u Q I2 rx ry q (hs _ _))
noncomputable def El(K:PySem.W.Frag):R2:=λx y H Q=>∃p xs i v,x=.ref p/\y=.int i/\a8 K H p xs/\cM xs i=some v/\Q v H
noncomputable def Em(K:PySem.W.Frag):R2:=λx y H Q=>∃p xs i v,x=.ref p/\y=.int i/\e7 K H p xs/\cM xs i=some v/\Q v H
noncomputable def Eo:R2:=λx y H Q=>∃z i c,x=.str z/\y=.int i/\z.length<=sizeLine/\cM z.cps.toList i=some c/\Q (.str ⟨#[c]⟩) H
theorem O6:jZ X (El X.K):=by
 intro value slice pins s σ H x y v u Q I rx ry h hs
 obtain⟨p,xs,i,z,rfl,rfl,hq,he,q⟩:=h
 cases rx
 obtain⟨t,rfl⟩:=ry
 obtain⟨its,r,pl,hz⟩:=I.list hq
 obtain⟨j,h1,h2,h3,h4,h5⟩:=jY he
 obtain⟨w,ew,dg⟩:=r.get h2
 have hl:=r.length
 have hn:=ny
 have fin:EP X pins σ Q w s:=⟨z,H,I,dg,q⟩
 by_cases h0:0<=i
 ·have hj:i.toNat=j:=by
   rw[seqIndex_of h0 h5]at h1
   exact bS h1
  exact item_listR pl.isList h0 (by omega) (by rw[hj];simpa using ew) fin hs
 ·have hj:(i+(its.toArray.size:Int)).toNat=j:=by
   rw[seqIndex_neg (by omega) h4]at h1
   rw[bY,<- hl]
   exact bS h1
  exact subscriptTail_builtinR (x:=w) pl.isList.typeIs slot_list_getitem.lookup
   (wpAny_getItem_list_neg (Q:=λr s'=>r=w/\EP X pins σ Q r s') pl.isList (by omega) (by rw[bY]<;>omega) (by omega) (by rw[hj];simpa using ew) ⟨rfl,fin⟩) hs
theorem O7:jZ X (Em X.K):=by
 intro value slice pins s σ H x y v u Q I rx ry h hs
 obtain⟨p,xs,i,z,rfl,rfl,hq,he,q⟩:=h
 cases rx
 obtain⟨t,rfl⟩:=ry
 obtain⟨its,r,pl,hz⟩:=I.tuple hq
 obtain⟨j,h1,h2,h3,h4,h5⟩:=jY he
 obtain⟨w,ew,dg⟩:=r.get h2
 have hl:=r.length
 have hn:=ny
 have fin:EP X pins σ Q w s:=⟨z,H,I,dg,q⟩
 exact subscriptTail_builtinR (x:=w) pl.typeIs slot_tuple_getitem.lookup
  (getItem_tuple (j:=j) (Q:=λr s'=>r=w/\EP X pins σ Q r s') pl (by omega) (by omega) (by rw[bY,<- hl];exact h1) (by simpa using ew) ⟨rfl,fin⟩) hs
theorem O8:jZ X Eo:=by
 intro value slice pins s σ H x y v u Q I rx ry h hs
 obtain⟨z,i,c,rfl,rfl,hz,he,q⟩:=h
 obtain⟨t,rfl⟩:=rx
 obtain⟨t',rfl⟩:=ry
 obtain⟨j,h1,h2,h3,h4,h5⟩:=jY he
 have hl:z.cps.toList.length=z.length:=by simp[Str.length]
 rw[hl]at h1 h4 h5
 have hn:=ny
 exact tail_any (typeIs_str s z t) slot_str_getitem.lookup (getItem_str (c:=c) (by
  have e1:decide (i < -(2 ^ 63:Int))=false:=decide_eq_false (by omega)
  have e2:decide (i ≥ 2 ^ 63)=false:=decide_eq_false (by omega)
  rw[e1,e2,qE]) (by rw[h1];simpa using h2) ⟨.str ⟨#[c]⟩,H,I.tok _,⟨_,rfl⟩,q⟩) hs
noncomputable def O9(K:PySem.W.Frag):R2:=λx y H Q=>El K x y H Q\/Em K x y H Q\/Eo x y H Q
theorem Pa:jZ X (O9 X.K):=O6.or (O7.or O8)
theorem Pb(its:List Value)(n j:Nat)(u:Value):vR (·.setIfInBounds j u) { cls:=.type "list",data:=.seq its.toArray n }={ cls:=.type "list",data:=.seq (its.set j u).toArray n }:=by
 simp[vR]
theorem Inv.lst{pins:List (Addr × Obj)}{σ:St}{H:Hp}{s:Shared}{p:Addr}{xs:List V}(I:Inv X pins σ H s)(h:H p=some (.lst xs)) :
  ∃(its:List Value) (n:Nat),Vals xs its/\s.heap.get? p=some { cls:=.type "list",data:=.seq its.toArray n }/\xs.length<=sizeLine:=by
 obtain⟨z,its,n,r,e⟩:=I.au p _ h
 exact⟨its,n,r,e,z⟩
theorem Inv.Pc{pins:List (Addr × Obj)}{σ:St}{H:Hp}{s:Shared}{p:Addr}{xs ys:List V}{its its':List Value}{n n':Nat}{f:Obj->Obj}(I:Inv X pins σ H s)(h:H p=some (.lst xs))
  (ho:s.heap.get? p=some { cls:=.type "list",data:=.seq its.toArray n }) (hf:f { cls:=.type "list",data:=.seq its.toArray n }={ cls:=.type "list",data:=.seq its'.toArray n' }) (r:Vals ys its') (hz:ys.length<=sizeLine) (t:Nat) :
  Inv X pins σ (upd H p (.lst ys)) { s with heap:=s.heap.update p f,toks:=t }:=by
 have e:(s.heap.update p f).get? p=some { cls:=.type "list",data:=.seq its'.toArray n' }:=by
  rw[sW f ho (by rw[hf]<;>rfl),hf]
 refine I.write (x:=p) (e:=p) (by rw[h];trivial) (.inl rfl) (λb u hb q=>(i3 _ _ (cA hb)).trans q) ⟨_,e⟩ ?_
 exact⟨hz,its',n',r,e⟩
noncomputable def Pd:V->V->V->Hp->(Hp->Prop)->Prop:=λo i v H Q=>∃p xs k j,o=.ref p/\i=.int k/\H p=some (.lst xs)/\gq xs.length k=some j/\Q (upd H p (.lst (xs.set j v)))
theorem Pe:DQ X Pd:=by
 intro pins s σ H o i v ov iv u Q I ro ri rv h
 obtain⟨p,xs,k,j,rfl,rfl,hp,hj,q⟩:=h
 cases ro
 obtain⟨t,rfl⟩:=ri
 obtain⟨its,n,r,ho,hz⟩:=I.lst hp
 obtain⟨h1,h2,h3,h4⟩:=Ej hj
 have hl:=r.length
 have hn:=ny
 have I':Inv X pins σ (upd H p (.lst (xs.set j v))) { s with heap:=s.heap.update p (vR (·.setIfInBounds j u)) } :=
  I.Pc hp ho (Pb its n j u) (r.set rv j) (by rw[List.length_set];exact hz) s.toks
 by_cases h0:0<=k
 ·have hk:k.toNat=j:=by
   rw[seqIndex_of h0 h4]at h1
   exact bS h1
  exact PySem.W.ki_setAt ho h0 (by omega) (by rw[bY,<- hl];exact h4) (by rw[hk];exact⟨_,I',q⟩)
 ·have hk:(k+(its.toArray.size:Int)).toNat=j:=by
   rw[seqIndex_neg (by omega) h3]at h1
   rw[bY,<- hl]
   exact bS h1
  exact PySem.W.ki_setBack ho (by omega) (by rw[bY,<- hl];exact h3) (by omega) (by rw[hk];exact⟨_,I',q⟩)
theorem zS(lo hi:Option Int)(n:Nat):(sliceBounds lo hi none n).1=((HT.bO n 0 lo:Nat):Int)/\(sliceBounds lo hi none n).2.1=((HT.bO n n hi:Nat):Int)/\(sliceBounds lo hi none n).2.2=1:=by
 refine⟨?_,?_,rfl⟩
 ·cases lo with
  | none=>simp[sliceBounds,HT.bO]
  | some i =>
   simp only[sliceBounds,HT.bO,mM,show(1:Int)>0 by decide,if_true]
   by_cases h:i<0
   ·simp only[h,if_true]<;>omega
   ·simp only[h,if_false]<;>omega
 ·cases hi with
  | none=>simp[sliceBounds,HT.bO]
  | some i =>
   simp only[sliceBounds,HT.bO,mM,show(1:Int)>0 by decide,if_true]
   by_cases h:i<0
   ·simp only[h,if_true]<;>omega
   ·simp only[h,if_false]<;>omega
theorem Pf(its:List Value)(lo hi:Option Int):slicePick its.toArray lo hi none=((its.drop (HT.bO its.length 0 lo)).take (HT.bO its.length its.length hi-HT.bO its.length 0 lo)).toArray:=by
 obtain⟨h1,h2,h3⟩:=zS lo hi its.toArray.size
 unfold slicePick
 rw[h1,h2,h3]
 simp only[sliceRange_one,pick_run,bY]<;>rfl
noncomputable def Pg(K:PySem.W.Frag):V->Option Int->Option Int->Hp->VK->Prop:=λx lo hi H Q=>∃a xs,x=.ref a/\a8 K H a xs/\∀p,H p=none->Q (.ref p) (upd H p (.lst (qT xs lo hi)))
theorem Ph:nF X (Pg X.K):=by
 intro pins s σ H x v vl vu lo hi sl Q I rx hs pl pu h
 obtain⟨a,xs,rfl,hx,q⟩:=h
 cases rx
 obtain⟨its,r,ht,hz⟩:=I.list hx
 have hlen:=r.length
 refine⟨"list",_,slot_list_getitem.lookup,ht.isList.typeIs,?_⟩
 refine wpAny_getItem_list_slice ht.isList hs pl pu .none (by simp) ?_ (by rw[bY]<;>omega)
 rw[Pf,<- hlen]
 refine⟨.ref s.heap.objs.size,_,I.laid (t':=s.toks) (o:=.lst (qT xs lo hi)) (λb ob q=>bU _ q) (aZ _) ?_,rfl,q _ (I.au.fresh (aZ _))⟩
 exact⟨dy (O4 xs lo hi) hz,_,0,(r.drop (HT.bO xs.length 0 lo)).take (HT.bO xs.length xs.length hi-HT.bO xs.length 0 lo),eY _ rfl⟩
theorem Pj:eE X (.builtin "len") (λxs H Q=>∃p ys,xs=[.ref p]/\(a8 X.K H p ys\/e7 X.K H p ys)/\Q (.int ys.length) H):=by
 intro pins s σ H xs us Q I r h
 obtain⟨p,ys,rfl,hq,q⟩:=h
 obtain⟨u,rfl,rx⟩:=zK r
 cases rx
 have hn:=ny
 rcases hq with hq | hq
 ·obtain⟨its,r',pl,hz⟩:=I.list hq
  have hlen:=r'.length
  exact Calls.call_len_list pl.isList (by simp only[bY]<;>omega) ⟨.int ys.length,H,I.tok _,⟨s.toks+1,by rw[bY,hlen]⟩,q⟩
 ·obtain⟨its,r',pl,hz⟩:=I.tuple hq
  have hlen:=r'.length
  exact len_tuple pl (by simp only[bY]<;>omega) ⟨.int ys.length,H,I.tok _,⟨s.toks+1,by rw[bY,hlen]⟩,q⟩
theorem Pk:eE X (.builtin "len") (λxs H Q=>∃z,xs=[.str z]/\z.length<=sizeLine/\Q (.int z.length) H):=by
 intro pins s σ H xs us Q I r h
 obtain⟨z,rfl,hz,q⟩:=h
 obtain⟨u,rfl,t,rfl⟩:=zK r
 have hn:=ny
 exact len_str (by omega) ⟨.int z.length,H,I.tok _,⟨_,rfl⟩,q⟩
theorem eE.or{f:Value}{r r':List V->Hp->VK->Prop}(h:eE X f r)(h':eE X f r'):eE X f (λxs H Q=>r xs H Q\/r' xs H Q):=by
 intro pins s σ H xs us Q I rs q
 rcases q with q | q
 ·exact h pins s σ H xs us Q I rs q
 ·exact h' pins s σ H xs us Q I rs q
theorem Pl:eE X (.type "list") (λxs H Q=>∃p ys,xs=[.ref p]/\(a8 X.K H p ys\/e7 X.K H p ys)/\∀l,H l=none->Q (.ref l) (upd H l (.lst ys))):=by
 intro pins s σ H xs us Q I r h
 obtain⟨p,ys,rfl,hq,q⟩:=h
 obtain⟨u,rfl,rx⟩:=zK r
 cases rx
 have fin:∀(its:List Value),Vals ys its->ys.length<=sizeLine->∀(h':Heap) (c':Nat),(∀b o',s.heap.get? b=some o'->h'.get? b=some o') ->
   h'.get? s.heap.objs.size=some { cls:=.type "list",dict:=none,data:=.seq its.toArray c',slots:=#[] }->EP X pins σ Q (.ref s.heap.objs.size) { s with heap:=h' }:=λits r' hz h' c' kp e =>
  ⟨.ref s.heap.objs.size,_,I.laid (t':=s.toks) kp (aZ _) (show bq X.prog X.w _ h' _ (.lst ys) from⟨hz,its,c',r',e⟩),rfl,q _ (I.au.fresh (aZ _))⟩
 rcases hq with hq | hq
 ·obtain⟨its,r',pl,hz⟩:=I.list hq
  have hlen:=r'.length
  obtain⟨o,ho,hc,n,hd⟩:=pl.isList
  exact call_list_seq p (.inl rfl) ho hc hd (λh' c' kp e=>fin its r' hz h' c' kp e) (by simp only[bY]<;>omega)
 ·obtain⟨its,r',pl,hz⟩:=I.tuple hq
  have hlen:=r'.length
  obtain⟨o,ho,hc,n,hd⟩:=pl
  exact call_list_seq p (.inr rfl) ho hc hd (λh' c' kp e=>fin its r' hz h' c' kp e) (by simp only[bY]<;>omega)
noncomputable def zT(K:PySem.W.Frag)(T:String)(x:V)(H:Hp):Prop:=match x with
 | .str _=>T="str"
 | .int _=>T="int"
 | .ref p=>(T="list"/\∃xs,a8 K H p xs)\/(T="tuple"/\∃o,K.lookup p=some o/\o.cls=.type "tuple"/\o.dict=none) \/
   (T="dict"/\((∃aj,H p=some (.dK aj))\/∃aj,H p=some (.dT aj)))\/(T="set"/\∃S n,H p=some (.set S n))
 | _=>False
theorem Ep{pins:List (Addr × Obj)}{σ:St}{H:Hp}{s:Shared}{T:String}{x:V}{v:Value}(I:Inv X pins σ H s)(r:RelV x v)(ty:zT X.K T x H) :
  s.TypeIs v T/\∀a,v=.ref a->∃ob,s.heap.get? a=some ob/\ob.dict=none:=by
 cases x with
 | str z =>
  obtain⟨t,rfl⟩:=r
  cases(show T="str" from ty)
  exact⟨typeIs_str s z t,λ_ e=>nomatch e⟩
 | int i =>
  obtain⟨t,rfl⟩:=r
  cases(show T="int" from ty)
  exact⟨typeIs_int s i t,λ_ e=>nomatch e⟩
 | ref p =>
  cases r
  rcases ty with⟨rfl,xs,hq⟩ | ⟨rfl,o,hk,hc,hd⟩ | ⟨rfl,hk⟩ | ⟨rfl,S,n,hk⟩
  ·obtain⟨its,_,pl,_⟩:=I.list hq
   refine⟨pl.isList.typeIs,λa e=>?_⟩
   cases e
   obtain⟨o,n,e,c,hd,_⟩:=pl
   exact⟨o,e,hd⟩
  ·refine⟨⟨o,I.bh p o hk,hc⟩,λa e=>?_⟩
   cases e
   exact⟨o,I.bh _ o hk,hd⟩
  ·have z:∃o,s.heap.get? p=some o/\o.ExactDict:=by
    rcases hk with⟨aj,hk⟩ | ⟨aj,hk⟩
    ·obtain⟨_,_,_,_,o,_,_,e,ex,_⟩:=I.au p _ hk
     exact⟨o,e,ex⟩
    ·obtain⟨_,_,_,_,o,_,_,e,ex,_⟩:=I.au p _ hk
     exact⟨o,e,ex⟩
   obtain⟨o,e,ex⟩:=z
   refine⟨⟨o,e,ex.1⟩,λa e2=>?_⟩
   cases e2
   exact⟨o,e,ex.2.1⟩
  ·obtain⟨o,_,_,_,e,ex,_⟩:=I.au p _ hk
   refine⟨⟨o,e,ex.1⟩,λa e2=>?_⟩
   cases e2
   exact⟨o,e,ex.2.1⟩
 | _=>exact cH ty
noncomputable def Er(K:PySem.W.Frag)(T:String)(r:V->List V->Hp->VK->Prop)(to:TE):TE:=λσ H Q=>to σ H λx H1=>zT K T x H1/\r x [] H1 Q
noncomputable def Pm(K:PySem.W.Frag)(T:String)(r:V->List V->Hp->VK->Prop)(to:TE)(t:TA):TE:=λσ H Q=>to σ H λx H1=>zT K T x H1/\t σ H1 λxs H2=>r x xs H2 Q
variable{o e:Expr}{es:List Expr}{to:TE}{t:TA}{name:Str}{apos aP:Pos}{T id:String}{r:V->List V->Hp->VK->Prop}
theorem Pn(pa:PlainAttrs T)(slot:Slot T name id)(zU:typeOf (.builtin id)=pure (.type "method_descriptor"))(hm:wC X id r)(ho:PE X o to)
  (gr:attributeBase o name X.env (eval o X.env)=eval o X.env:=by rfl) (gu:(apos.endLine==aP.line)=true:=by rfl):PE X (.Call (.Attribute o name apos) [] [] aP) (Er X.K T r to):=by
 intro pins s σ H Q I h
 refine wpAny_Call_method0_late gr gu (aA (ho pins s σ H _ I h) λv s1 ⟨x,H1,I1,r1,ty,q1⟩=>?_)
 obtain⟨h1,h2⟩:=Ep I1 r1 ty
 exact⟨T,id,pa,slot,zU,h1,h2,Calls.callWith_builtin rfl (PySem.evalArgs_none (hm pins s1 σ H1 x [] v [] Q I1 r1 .nil q1))⟩
theorem zV(pa:PlainAttrs T)(slot:Slot T name id)(zU:typeOf (.builtin id)=pure (.type "method_descriptor"))(hm:wC X id r)(ho:PE X o to)(ha:PA X (e::es) t)
  (gr:attributeBase o name X.env (eval o X.env)=eval o X.env:=by rfl)
  (nG:((backTo aP (starEach (e::es) X.env)).all (λx=>!x.1)&&(backToKw aP (keywordEach [] X.env)).all (λx=>x.1.isSome)
   && decide ((e::es).length+([]:List Keyword).length+(if([]:List Keyword).isEmpty then 0 else 1)<30))=true:=by rfl)
  (gu:(apos.endLine==aP.line)=true:=by rfl) (hs:starEach (e::es) X.env=(false,eval e X.env)::starEach es X.env:=by rfl) (nH:(backTo aP (starEach es X.env)).any (·.1)=false:=by rfl) :
  PE X (.Call (.Attribute o name apos) (e::es) [] aP) (Pm X.K T r to t):=by
 intro pins s σ H Q I h
 refine wpAny_Call_method_late gr nG gu rfl (aA (ho pins s σ H _ I h) λv s1 ⟨x,H1,I1,r1,ty,q1⟩=>?_)
 obtain⟨h1,h2⟩:=Ep I1 r1 ty
 refine⟨T,id,pa,slot,zU,h1,h2,?_⟩
 have hA:=ha aP pins s1 σ H1 _ I1 q1
 rw[hs]at hA ⊢
 refine Calls.callWith_builtin (by show(false||(backTo aP (starEach es X.env)).any (·.1))=false;rw[nH]<;>rfl) (Dc ?_)
 exact aA hA λus s2 ⟨vs,H2,I2,r2,q2⟩=>hm pins s2 σ H2 x vs v us Q I2 r1 r2 q2
/- xs.append(e),list.index on a Zn tuple .. are wC facts of 06m -/
end
end L2
namespace L2
open PySem PySem.Spec PyProof.Rows
noncomputable def zW(X:Cx)(id:String)(r:V->List V->Hp->VK->Prop):Prop :=
 ∀(pins:List (Addr × Obj)) (s:Shared) (σ:St) (H:Hp) (x:V) (xs:List V) (v:Value) (us:List Value) (Q:VK),Inv X pins σ H s->RelV x v->Vals xs us->r x xs H Q ->
  wpAny (model X.prog X.w) X.A (call (.builtin id) (v::us)) (EP X pins σ Q) X.xe s
theorem Vals.one:∀{x:V} {us:List Value},Vals [x] us->∃u,us=[u]/\RelV x u
 | _,_,h=>by cases h with | cons r h=>cases h;exact⟨_,rfl,r⟩
theorem Vals.two:∀{x y:V} {us:List Value},Vals [x,y] us->∃u v,us=[u,v]/\RelV x u/\RelV y v
 | _,_,_,h=>by cases h with | cons r h=>cases h with | cons q h=>cases h;exact⟨_,_,rfl,r,q⟩
theorem Vals.eraseIdx:∀{xs:List V} {us:List Value} (i:Nat),Vals xs us->Vals (xs.eraseIdx i) (us.eraseIdx i)
 | _,_,_,.nil=>.nil
 | _,_,0,.cons _ t=>t
 | _,_,i+1,.cons r t=>.cons r (Vals.eraseIdx i t)
theorem Vals.rep{xs:List V}{us:List Value}(h:Vals xs us):∀k:Nat,Vals (aT k xs).flatten (aT k us).flatten
 | 0=>.nil
 | k+1=>by
  rw[mO,mO,qF,qF]
  exact Vals.append h (Vals.rep h k)
theorem Es{α:Type}:∀(l:List α) (i:Nat),(l.eraseIdx i).length<=l.length
 | [],_=>aZ _
 | _::_,0=>C8 _
 | _::r,i+1=>Nat.succ_le_succ (Es r i)
theorem Et(its:List Value):∀(k:Nat) (acc:List Value),
  List.foldl (λx1 x2=>x1++x2) acc.toArray (aT k its.toArray)=(acc++(aT k its).flatten).toArray
 | 0,acc=>by simp
 | k+1,acc=>by
  have e:acc.toArray++its.toArray=(acc++its).toArray:=by simp
  have e2:(acc++its)++(aT k its).flatten=acc++(aT (k+1) its).flatten:=by
   rw[mO,qF,cT]
  rw[<-e2,<- Et its k (acc++its),<- e,mO,List.foldl_cons]
section
variable{X:Cx}{pins:List (Addr × Obj)}{σ:St}{H:Hp}{s:Shared}{l b:Addr}{xs ys zs:List V}
theorem Inv.zX{its its':List Value}{n:Nat}{f:Array Value->Array Value}{t':Nat}(I:Inv X pins σ H s)(hH:H l=some (.lst xs))
  (e:s.heap.get? l=some { cls:=.type "list",data:=.seq its.toArray n }) (hf:f its.toArray=its'.toArray) (hv:Vals ys its') (hz:ys.length<=sizeLine) :
  Inv X pins σ (upd H l (.lst ys)) { s with heap:=s.heap.update l (vR f),toks:=t' }:=by
 have q:=PySem.IsL.update e f
 rw[hf]at q
 refine I.write (x:=l) (e:=l) (by rw[hH];exact trivial) (.inl rfl) (λb' u hb hu=>(i3 s.heap (vR f) (cA hb)).trans hu) ⟨_,q⟩ ?_
 exact⟨hz,its',_,hv,q⟩
theorem Inv.Eu{its:List Value}{t':Nat}(I:Inv X pins σ H s)(hv:Vals ys its)(hz:ys.length<=sizeLine) :
  Inv X pins σ (upd H s.heap.objs.size (.lst ys)) { s with heap:=s.heap.push { cls:=.type "list",data:=.seq its.toArray },toks:=t' } :=
 I.laid (λ_ _ q=>bU _ q) (aZ _) ⟨hz,its,0,hv,eY _ rfl⟩
theorem Inv.fresh(I:Inv X pins σ H s):H s.heap.objs.size=none:=I.au.fresh (aZ _)
theorem Inv.qU(I:Inv X pins σ H s)(hH:H l=some (.lst xs)):xs.length<=sizeLine/\∃(its:List Value) (n:Nat),Vals xs its/\xs.length=its.length/\s.heap.get? l=some { cls:=.type "list",data:=.seq its.toArray n }:=by
 obtain⟨z,its,n,r,e⟩:=I.au l _ hH
 exact⟨z,its,n,r,r.length,e⟩
theorem Po{n:Nat}(h:n<=sizeLine):De n=false:=by
 unfold De
 exact decide_eq_false (by omega)
end
section
variable{X:Cx}
noncomputable def Pp:V->List V->Hp->VK->Prop:=λx vs H Q=>∃l xs y,x=.ref l/\vs=[y]/\H l=some (.lst xs)/\xs.length<sizeLine/\Q .ao (upd H l (.lst (xs++[y])))
theorem Ew:zW X "list.append" Pp:=by
 intro pins s σ H x vs v us Q I rx rv h
 obtain⟨l,xs,y,rfl,rfl,hH,hz,q⟩:=h
 cases rx
 obtain⟨u,rfl,ru⟩:=rv.one
 obtain⟨z,its,n,r,hl,e⟩:=I.qU hH
 refine call_meets F.slot_list_append ⟨_,e,rfl⟩ F.entry_list_append (F.args_list_append_2 _ _) (PySem.list_append l its.toArray n u (by rw[bY];omega)) ⟨e,?_⟩
 refine⟨.ao,_,I.zX (its':=its++[u]) hH e (by simp) (r.append (.cons ru .nil)) ?_,rfl,q⟩
 rw[gO,Mt]
 omega
noncomputable def Pq:V->List V->Hp->VK->Prop:=λx vs H Q=>∃l xs i k y,x=.ref l/\vs=[.int i]/\H l=some (.lst xs)/\-(2 ^ 63)<=i/\i<2 ^ 63/\seqIndex? i xs.length=some k/\xs[k]?=some y/\Q y (upd H l (.lst (xs.eraseIdx k)))
theorem Pr:zW X "list.pop" Pq:=by
 intro pins s σ H x vs v us Q I rx rv h
 obtain⟨l,xs,i,k,y,rfl,rfl,hH,h1,h2,hk,hy,q⟩:=h
 cases rx
 obtain⟨u,rfl,ru⟩:=rv.one
 obtain⟨t,rfl⟩:=ru
 obtain⟨z,its,n,r,hl,e⟩:=I.qU hH
 obtain⟨w,hw,dg⟩:=r.get hy
 refine call_meets F.slot_list_pop ⟨_,e,rfl⟩ F.entry_list_pop (F.args_list_pop_2 _ _)
  (MeetsSeq.list_pop_at l its.toArray n i t k w (fitsIndex_both h1 h2) (by rw[bY,<- hl];exact hk) (by rw[<-Array.getElem?_toList];exact hw) (by rw[bY];omega)) ⟨e,?_⟩
 refine⟨y,_,I.zX (its':=its.eraseIdx k) hH e ?_ (r.eraseIdx k) ?_,dg,q⟩
 ·show its.toArray.eraseIdxIfInBounds k=(its.eraseIdx k).toArray
  rw[List.eraseIdxIfInBounds_toArray]
 ·have:=Es xs k
  omega
noncomputable def Pt:R2:=λx y H Q=>∃l b xs zs,x=.ref l/\y=.ref b/\H l=some (.lst xs)/\H b=some (.lst zs)/\xs.length+zs.length<=sizeLine/\∀p,H p=none->Q (.ref p) (upd H p (.lst (xs++zs)))
theorem Pu:bI X (binaryOp .Add) Pt:=by
 intro pins s σ H x y v u Q I rx ry h
 obtain⟨l,b,xs,zs,rfl,rfl,hH,hB,hz,q⟩:=h
 cases rx
 cases ry
 obtain⟨z,its,n,r,hl,e⟩:=I.qU hH
 obtain⟨z2,Ey,n2,r2,k9,e2⟩:=I.qU hB
 refine PySem.P.add_list e e2 ?_ (by rw[bY,bY];omega)
 have ea:its.toArray++Ey.toArray=(its++Ey).toArray:=by simp
 rw[ea]
 exact⟨.ref _,_,I.Eu (t':=s.toks) (r.append r2) (by rw[gO];omega),rfl,q _ I.fresh⟩
noncomputable def Pw:R2:=λx y H Q=>∃l k xs,x=.ref l/\y=.int k/\H l=some (.lst xs)/\-(2 ^ 63)<=k/\k<2 ^ 63/\xs.length*k.toNat<=sizeLine /\
 ∀p,H p=none->Q (.ref p) (upd H p (.lst (aT k.toNat xs).flatten))
theorem Px{α:Type}(xs:List α)(k:Nat):(aT k xs).flatten.length=k*xs.length:=by
 induction k with
 | zero=>simp
 | succ k ih=>rw[mO,qF,gO,ih,Nat.succ_mul,vS]
theorem Py:bI X (binaryOp .Mult) Pw:=by
 intro pins s σ H x y v u Q I rx ry h
 obtain⟨l,k,xs,rfl,rfl,hH,h1,h2,hz,q⟩:=h
 cases rx
 obtain⟨t,rfl⟩:=ry
 obtain⟨z,its,n,r,hl,e⟩:=I.qU hH
 have hlen:its.toArray.size*k.toNat<=sizeLine:=by rw[bY,<- hl];exact hz
 have Pz:¬ its.toArray.size*k.toNat>(2 ^ 63-1)/8:=by
  have:(sizeLine:Nat)<=(2 ^ 63-1)/8:=by decide
  omega
 have PB:¬ (!Builtin.List.listFitsIndex k)=true:=by
  rw[fitsIndex_both h1 h2]
  exact kO
 have PC:¬ De (its.toArray.size*k.toNat)=true:=by
  rw[Po hlen]
  exact kO
 have PD:List.foldl (λx1 x2=>x1++x2) #[] (aT (if its.toArray.isEmpty=true then 0 else k.toNat) its.toArray)=(aT k.toNat its).flatten.toArray:=by
  have f0:∀m:Nat,List.foldl (λx1 x2=>x1++x2) #[] (aT m its.toArray)=(aT m its).flatten.toArray:=λm=>by
   have:=Et its m []
   rw[mP]at this
   exact this
  rw[f0]
  cases its with
  | nil=>simp
  | cons a r'=>rw[if_neg (by simp)]
 refine wpAny_binaryOp_repeat_ref (T:="list") (U:="int") (by decide) ⟨_,e,rfl⟩ (λs'=>typeIs_int s' k t) noFill_list_mul F.fills_int_mul F.slot_int_rmul repeat_list F.slot_int_index.lookup
  (call_meets F.slot_int_rmul (typeIs_int s k t) F.entry_int_rmul (F.args_int_rmul_2 _ _) (int___rmul___int_list k t l its.toArray n)
   ⟨e,rfl,⟨_,e,rfl⟩,call_meets F.slot_list_mul ⟨_,e,rfl⟩ F.entry_list_mul (F.args_list_mul_2 _ _) (AutoListH.list___mul___list_int_3 l its.toArray n k t PB Pz PC) ⟨e,?_⟩⟩)
 rw[PD]
 exact⟨.ref _,_,I.Eu (t':=s.toks) (r.rep k.toNat) (by rw[Px,jN];exact hz),rfl,q _ I.fresh⟩
end
section
variable{prog:Program}{w:World}{A:Around}{E:Value->Shared->Prop}{s:Shared}
end
section
variable{X:Cx}
end
end L2
namespace Att
open PySem PySem.W PySem.Calls PyProof.Rows
theorem PH{P:Params}{h:Heap}:∀(ns:List Int) (vs:List Value),WellAll P h vs (ns.map WData.int)->IntsAre vs ns:=by
 intro ns
 induction ns with
 | nil =>
  intro vs w
  rw[jO]at w
  cases w
  exact .nil
 | cons n ns ih =>
  intro vs w
  rw[cj]at w
  cases w with
  | cons a b =>
   cases a
   exact .cons _ _ (ih _ b)
theorem PK{l:OpenLaw}{n:Nat}(hn:l.most=some n){P:Params}{h:Heap}{args:List WData}{vals:List Value}
  (wD:l.row.toRowW.claim.pre args=true) (zY:WellAll P h vals args) :
  ∃a vs ns,vals=[bC a]/\args=[WData.list (ns.map WData.int)]/\h.get? a=some { cls:=.type "list",data:=.seq vs.toArray }/\IntsAre vs ns/\ns.length<=n:=by
 have nI:WShape.hasAll [] args [.list .int]=true:=(pre_splitW wD).1
 have hc:l.pre.holds [] { args:=args }=true:=(pre_splitW wD).2
 obtain⟨d,r,rfl,h1,h2⟩:=hasAllW_cons nI
 obtain rfl:=hasAllW_nil h2
 obtain⟨xs,rfl,h3⟩:=hasW_list h1
 obtain⟨ns,rfl⟩:=items_int h3
 have hlen:ns.length<=n:=by
  unfold OpenLaw.pre at hc
  have h4:(WTm.not (.lt (.lit (.int (n:Int))) (.len (.arg 0)))).holds [] { args:=[.list (ns.map .int)] }=true:=by
   have h4:=(holds_andW hc).1
   rw[hn]at h4
   exact h4
  have h5:=condW_of h4 (w_not (w_lt w_lit (w_len_list (w_arg rfl))))
  rw[cI]at h5
  refine Nat.le_of_not_lt λq=>?_
  have q':(n:Int)<((ns.length:Nat):Int):=by omega
  first
   | (rw[decide_eq_true q']at h5;exact absurd h5 (by decide))
   | (simp at h5;omega)
 cases zY with
 | cons w1 w2 =>
  cases w2
  cases w1 with
  | list ho PL=>exact⟨_,_,ns,rfl,rfl,ho,PH ns _ PL,hlen⟩
theorem PM(l:OpenLaw)(args:List WData):l.row.toRowW.claim.post args (.bool true) args=true :=
 postW_of (r:=l.row.toRowW) (X:=(true==true))
  (show WShape.has [] (.bool true) .bool=true by first | rfl | decide | simp[WShape.has,WShape.arms,WShape.armsAll])
  (show(WTm.eq .res (.lit (.bool true))).value [] { args:=args,res:=some (.bool true),after:=args }=some (.bool (true==true)) from w_eq_bool (w_res rfl) w_lit) rfl
theorem PN{l:OpenLaw}{n:Nat}{q:Program}{loose:List Str}{XP:(Str->Option Value)->Heap->Prop}{YP:World->Heap->Prop}{d:DefRec}
  (hn:l.most=some n) (ua:d.params.defaults=[])
  (call:∀(w:World) (bc aQ:Shared) (mg mb:Str->Option Value) (fa:Addr) (o:Obj) (pm cd doc:Value) (a:Addr) (vs:List Value) (ns:List Int),
   Ground q loose [] XP w bc mg mb aQ.heap->YP w aQ.heap ->
   aQ.heap.get? fa=some o->o.data=.func (docDef d.name d.params d.body d.scope pm cd doc)->aQ.heap.CodeRec cd d.name->mg d.name=some (.ref fa) ->
   aQ.heap.get? a=some { cls:=.type "list",data:=.seq vs.toArray }->IntsAre vs ns->ns.length<=n->aQ.gens=#[] ->
   codeAny (model l.prog w) callerA (.call (.ref fa) ⟨[.ref a],[]⟩) (λr s'=>r=.ok (.ret (.bool true))/\OldK aQ.heap s'.heap/\s'.os=aQ.os/\AllBare s'.gens) aQ) :
  WalkO q loose XP YP l.row.toRowW d [] (λf vs=>PySem.call f vs):=by
 intro w bc aQ mg mb G Y fa o pm cd doc dV kV ho hd br hD ub hg args vals as wD Zo Zp zY fG
 obtain rfl:dV=.none:=Dflts.none hD ua
 obtain rfl:kV=.none:=Dflts.noKw hD
 obtain⟨a,vs,ns,rfl,rfl,zZ,hints,hlen⟩:=PK hn wD zY
 refine enter_call (codeAny_mono (call w bc aQ mg mb fa o pm cd doc a vs ns G Y ho (fd_plain hd) br ub zZ hints hlen hg) λr s' hq=>?_)
 obtain⟨rfl,h2,h3,h4⟩:=hq
 exact⟨.inl ⟨.bool true,.bool true,[],rfl,λ_=>rfl,.bool true,PM l _,λ_=>⟨List.Pairwise.nil,λ_ hm=>(nomatch hm)⟩⟩,h2,h3,h4⟩
section
variable{prog:Program}{w:World}{A:Around}{E:Value->Shared->Prop}{s:Shared}{K:Frag}
end
end Att
namespace L2
open PySem PySem.Spec PyProof.Rows
theorem Ez:∀{vs:List Value} {ns:List Int},IntsAre vs ns->Vals (ns.map V.int) vs
 | _,_,.nil=>.nil
 | _,_,.cons n t h=>.cons ⟨t,rfl⟩ (Ez h)
end L2
namespace L2
open PySem PySem.Spec PyProof.Rows
end L2
/- Zq Zr Zs (shape;Zt,My.* are Zu):
   My.jg: a structure of EA addresses Zv Zw Zx names (classes,Zy);My.Txt K t: a structure (Prop) of EA equations over K;
   My.Zz:{K} {implicit addresses ..} (e1:nsIn K mainGlobals "law"=some (some (.ref f))) (e2:K.lookup f=some ⟨oc,od,.func (fnOf "law" "law" params body scope dV kV doc pm an aE ct),sl⟩) (e3:codeIn K aE "law"=true) ..:∃t,My.Txt K t
(EA tactic k_is has no namespace: write k_is) -/
namespace L2
open PySem PySem.Spec PyProof.Rows
noncomputable def fH(s:Stmt)(j:Nat):Stmt:=match s with
 | .ClassDef _ _ _ body _ _ _ _ _ _ _=>body.getD j (.Pass ⟨0,0,0,0⟩)
 | _=>.Pass ⟨0,0,0,0⟩
noncomputable def nJ(s:Stmt):Arguments:=match s with
 | .FunctionDef _ a _ _ _ _ _ _ _ _=>a
 | _=>{ posonlyargs:=[],args:=[],vararg:=none,kwonlyargs:=[],kw_defaults:=[],kwarg:=none,defaults:=[] }
noncomputable def gZ(s:Stmt):List Stmt:=match s with
 | .FunctionDef _ _ b _ _ _ _ _ _ _=>b
 | _=>[]
noncomputable def aM(s:Stmt):Scope:=match s with
 | .FunctionDef _ _ _ _ _ _ sc _ _ _=>sc
 | _=>{ kind:=.function,names:=[],isGenerator:=false,isCoroutine:=false }
noncomputable abbrev aV:cn:=λ_ _ _ _ _ _=>False
noncomputable abbrev E0:XK:=λ_ _ _=>False
theorem gv{X:Cx}:iz aV X E0:=λ_ _ _ _ _ _ _ h=>h.elim
structure gw(K:PySem.W.Frag)(x qual:Str)(st:Stmt)(f:Addr)(fd:FuncData):Prop where
 ex:∃(oc:Value) (od:Option Addr) (kV doc pm:Value) (an:Option Addr) (aE ct:Value) (gn:Array (Option Value)),
  fd=PySem.W.fnOf x qual (nJ st) (gZ st) (aM st) .none kV doc pm an aE ct/\K.lookup f=some ⟨oc,od,.func fd,gn⟩/\PySem.W.codeIn K aE qual=true
 kp:PySem.W.keepIn K (.ref f)=true
section
variable{P:Program}{w:World}{K:PySem.W.Frag}{mg:Str->Option Value}{base:Heap}
theorem gw.ok{x qual:Str}{st:Stmt}{f:Addr}{fd:FuncData}{N ps:List Str}{k:Nat}{sp:Sp}(F:gw K x qual st f fd)(S:aX N ps (aM st))(len:∀vs H Q E,sp vs H Q E->vs.length=ps.length)
  (e8:∀(aE:Value) (A:Around) (outer:List Env) (s:Shared) (H:Hp) (vs:List V) (Q:VK) (E:XK),bu k (A.deeper (envOfC qual (aM st) s.heap.objs.size f aE))->sp vs H Q E ->
   ∃t,PSs (fE aV P w K mg base N qual (aM st) f aE A outer s H E).eC (gZ st) t/\t { nx:=λ_ H'=>Q .ao H',rt:=Q } (start N vs) H):aL P w K mg base aV (k+1) f fd ps sp:=by
 obtain⟨oc,od,kV,doc,pm,an,aE,ct,gn,rfl,lk,br⟩:=F.ex
 refine zP lk br S len λA outer s H vs Q E hr fF=>?_
 obtain⟨t,h,q⟩:=e8 aE A outer s H vs Q E hr fF
 exact⟨t,h.eC,q⟩
theorem gw.binds{x qual:Str}{st:Stmt}{f:Addr}{fd:FuncData}{ps:List Str}(F:gw K x qual st f fd)
  (h:∀(kV doc pm:Value) (an:Option Addr) (aE ct:Value) (us:List Value),us.length=ps.length->bindArgs (PySem.W.fnOf x qual (nJ st) (gZ st) (aM st) .none kV doc pm an aE ct) ⟨us,[]⟩=pure (ps.zip us)):Binds K fd ps []:=by
 obtain⟨oc,od,kV,doc,pm,an,aE,ct,gn,rfl,lk,br⟩:=F.ex
 exact .all (h kV doc pm an aE ct)
theorem EB{x qual:Str}{st:Stmt}{f:Addr}{oc:Value}{od an:Option Addr}{gn:Array (Option Value)}{kV doc pm aE ct:Value}(l:K.lookup f=some ⟨oc,od,.func (PySem.W.fnOf x qual (nJ st) (gZ st) (aM st) .none kV doc pm an aE ct),gn⟩)
  (c:PySem.W.codeIn K aE qual=true) (k:PySem.W.keepIn K (.ref f)=true):gw K x qual st f (PySem.W.fnOf x qual (nJ st) (gZ st) (aM st) .none kV doc pm an aE ct):=⟨⟨oc,od,kV,doc,pm,an,aE,ct,gn,rfl,l,c⟩,k⟩
end
section
variable{X:Cx}
theorem pv(i:Nat){x:Str}{pos:Pos}(hN:X.N[i]?=some x:=by rfl)(hv:gR X.env.scope x:=by first | exact aB rfl | exact ck (aB rfl) | exact ck (ck rfl))(hd:(x==("__debug__":Str))=false:=by decide)
  (br:(x==("__classdict__":Str))=false:=by decide):PE X (.Name x pos) (DM i):=jb hN hv hd br
end
theorem iB{A B:Prop}(h:B):if false=true then A else B:=by
 rw[if_neg kO]
 exact h
theorem j0{A B:Prop}(h:A):if true=true then A else B:=by
 rw[if_pos rfl]
 exact h
end L2
namespace Mf
noncomputable def bl(n:Nat):Nat:=if n=0 then 0 else n.log2+1
theorem cU{n m:Nat}:bl n<=m↔n<2 ^ m:=by
 unfold bl
 by_cases h:n=0
 ·simp[h,sX]
 ·rw[if_neg h]
  rw[<-Nat.log2_lt h]
  omega
theorem z4{n m:Nat}:m<bl n↔2 ^ m<=n:=by
 have:=@cU n m
 omega
theorem fJ(n:Nat):n<2 ^ bl n:=cU.mp (aZ _)
theorem EC{n:Nat}(h:n≠0):2 ^ (bl n-1)<=n:=by
 have:0<bl n:=by unfold bl;rw[if_neg h];omega
 exact z4.mp (by omega)
theorem eN{n:Nat}(h:n≠0):0<bl n:=by
 unfold bl;rw[if_neg h];omega
theorem j3:bl 0=0:=rfl
theorem qV{n:Nat}(h:n≠0):n.testBit (bl n-1)=true:=by
 have h1:=EC h
 have h2:=fJ n
 have hp:=eN h
 have e:bl n=(bl n-1)+1:=by omega
 rw[e,mQ]at h2
 rw[Mu]
 have:n/2 ^ (bl n-1)=1:=by
  apply Nat.div_eq_of_lt_le
  ·omega
  ·omega
 rw[this];rfl
theorem PQ{x n:Nat}(h:∀i,n<=i->x.testBit i=false):x<2 ^ n:=by
 apply Nat.lt_pow_two_of_testBit
 intro i hi
 exact h i hi
theorem ED{x y n:Nat}(hx:x<2 ^ (n+1))(hy:y<2 ^ (n+1))(tx:x.testBit n=true)(ty:y.testBit n=true):x ^^^ y<2 ^ n:=by
 apply PQ
 intro i hi
 rw[jP]
 by_cases e:i=n
 ·rw[e,tx,ty];rfl
 ·have g5:n+1<=i:=by omega
  have p:2 ^ (n+1)<=2 ^ i:=vT (by decide) g5
  rw[yQ (bK hx p),yQ (bK hy p)]
  rfl
theorem EE(x y z:Nat):(x ^^^ y) ^^^ (z ^^^ y)=x ^^^ z:=by
 apply vU;intro i;simp only[jP]
 cases x.testBit i<;>cases y.testBit i<;>cases z.testBit i<;>rfl
theorem EF(x y z t:Nat):(x ^^^ y) ^^^ (z ^^^ t)=(x ^^^ z) ^^^ (y ^^^ t):=by
 apply vU;intro i;simp only[jP]
 cases x.testBit i<;>cases y.testBit i<;>cases z.testBit i<;>cases t.testBit i<;>rfl
noncomputable def P(a b:Nat):Nat->Nat
 | 0=>0
 | k+1=>P a b k ^^^ (if b.testBit k then a <<< k else 0)
noncomputable def cl(a b:Nat):Nat:=P a b (bl b)
theorem EG{a b k:Nat}(h:b<2 ^ k):∀j,P a b (k+j)=P a b k
 | 0=>rfl
 | j+1=>by
  show P a b (k+j) ^^^ (if b.testBit (k+j)then a <<< (k+j)else 0)=_
  rw[EG h j]
  have p:2 ^ k<=2 ^ (k+j):=vT (by decide) (by omega)
  rw[yQ (bK h p)]
  simp
theorem qW{a b k:Nat}(h:b<2 ^ k):P a b k=cl a b:=by
 have h1:=cU.mpr h
 have e:k=bl b+(k-bl b):=by omega
 rw[e,EG (fJ b)]
 rfl
theorem EH(a a' b:Nat):∀k,P (a ^^^ a') b k=P a b k ^^^ P a' b k
 | 0=>(i4 0).symm
 | k+1=>by
  show P (a ^^^ a') b k ^^^ _=(P a b k ^^^ _) ^^^ (P a' b k ^^^ _)
  rw[EH a a' b k]
  by_cases t:b.testBit k=true
  ·rw[if_pos t,if_pos t,if_pos t,Mv]
   ac_rfl
  ·rw[if_neg t,if_neg t,if_neg t]
   simp
theorem EI(a b b':Nat):∀k,P a (b ^^^ b') k=P a b k ^^^ P a b' k
 | 0=>(i4 0).symm
 | k+1=>by
  show P a (b ^^^ b') k ^^^ _=(P a b k ^^^ _) ^^^ (P a b' k ^^^ _)
  rw[EI a b b' k,jP]
  cases b.testBit k<;>cases b'.testBit k<;>simp
  ·ac_rfl
  ·ac_rfl
  ·exact(EE _ _ _).symm
theorem lh(a a' b:Nat):cl (a ^^^ a') b=cl a b ^^^ cl a' b:=EH a a' b _
theorem qX{x y n:Nat}(hx:x<2 ^ n)(hy:y<2 ^ n):x ^^^ y<2 ^ n:=Nat.xor_lt_two_pow hx hy
theorem PR(a b b':Nat):cl a (b ^^^ b')=cl a b ^^^ cl a b':=by
 let k:=bl b+bl b'
 have h1:b<2 ^ k:=cU.mp (by omega)
 have h2:b'<2 ^ k:=cU.mp (by omega)
 rw[<-qW (qX h1 h2),<- qW h1,<- qW h2,EI]
theorem PU(a:Nat):cl a 0=0:=rfl
theorem EJ(b:Nat):∀k,P 0 b k=0
 | 0=>rfl
 | k+1=>by
  show P 0 b k ^^^ _=0
  rw[EJ b k];simp
theorem lj(b:Nat):cl 0 b=0:=EJ b _
theorem PV(b k:Nat):(b/2).testBit k=b.testBit (k+1):=by
 rw[yR]
theorem EK(a b:Nat):∀k,P a b (k+1)=(if b%2=1 then a else 0) ^^^ P (2*a) (b/2) k
 | 0=>by
  show 0 ^^^ _=_ ^^^ 0
  rw[kR,i4,vV]
  simp
 | k+1=>by
  show P a b (k+1) ^^^ _=_ ^^^ (P (2*a) (b/2) k ^^^ _)
  rw[EK a b k,PV,mR]
  have e:a <<< (k+1)=(2*a) <<< k:=by
   rw[ik,ik,mQ]
   rw[jN 2 a,qG,jN 2]
  rw[e]
theorem EL{b k:Nat}(h:b<2 ^ (k+1)):b/2<2 ^ k:=by
 rw[mQ]at h;omega
theorem EM(a b:Nat):cl a b=(if b%2=1 then a else 0) ^^^ cl (2*a) (b/2):=by
 have h:b<2 ^ (bl b+1):=Nat.lt_trans (fJ b) (by rw[mQ];have:=sX (bl b);omega)
 rw[<-qW h,EK,qW (EL h)]
theorem EN(a b:Nat):∀k,P (2*a) b k=2*P a b k
 | 0=>rfl
 | k+1=>by
  show P (2*a) b k ^^^ _=2*(P a b k ^^^ _)
  rw[EN a b k]
  have d:∀x y:Nat,2*(x ^^^ y)=2*x ^^^ 2*y:=by
   intro x y
   have h:=@Mv 1 x y
   rw[ik,ik,ik,Nat.pow_one]at h
   rw[jN 2 (x ^^^ y),jN 2 x,jN 2 y]
   exact h
  rw[d]
  by_cases t:b.testBit k=true
  ·rw[if_pos t,if_pos t,ik,ik,qG]
  ·rw[if_neg t,if_neg t]
theorem z5(a b:Nat):cl (2*a) b=2*cl a b:=EN a b _
theorem ud(a c t:Nat)(ht:t<2):cl a (2*c+t)=2*cl a c ^^^ (if t=1 then a else 0):=by
 rw[EM,z5,Df]
 have e1:(2*c+t)/2=c:=by omega
 have e2:(2*c+t)%2=t:=by omega
 rw[e1,e2]
theorem PY(a c:Nat):cl a (2*c)=2*cl a c:=by
 have h:=ud a c 0 (by decide)
 simpa using h
theorem EO(c t:Nat)(ht:t<2):2*c ^^^ t=2*c+t:=by
 apply vU
 intro i
 cases i with
 | zero =>
  rw[jP,vV,vV,vV]
  have:t=0\/t=1:=by omega
  rcases this with h | h<;>subst h<;>simp<;>omega
 | succ i =>
  rw[jP,yR,yR,yR]
  have e1:2*c/2=c:=by omega
  have e2:t/2=0:=by omega
  have e3:(2*c+t)/2=c:=by omega
  rw[e1,e2,e3];simp
theorem z6:∀b:Nat,cl 1 b=b:=by
 intro b
 induction b using yS with
 | ind b ih =>
  by_cases h:b=0
  ·subst h;rfl
  ·have e:b=2*(b/2)+b%2:=by omega
   rw[e,ud 1 (b/2) (b%2) (by omega),ih (b/2) (by omega)]
   have:b%2=0\/b%2=1:=by omega
   rcases this with h | h
   ·rw[h];simp
   ·rw[h];rw[if_pos rfl];exact EO _ _ (by decide)
theorem ue:∀b a:Nat,cl a b=cl b a:=by
 intro b
 induction b using yS with
 | ind b ih =>
  intro a
  by_cases h:b=0
  ·subst h;rw[lj];rfl
  ·have e:b=2*(b/2)+b%2:=by omega
   have lt:b%2<2:=by omega
   have e':cl b a=cl (2*(b/2) ^^^ b%2) a:=by rw[EO _ _ lt,<- e]
   rw[e',lh,z5,<- ih (b/2) (by omega) a]
   have PZ:cl a b=cl a (2*(b/2)+b%2):=by rw[<-e]
   rw[PZ,ud _ _ _ lt]
   have:b%2=0\/b%2=1:=by omega
   rcases this with h | h
   ·rw[h,lj];rfl
   ·rw[h,z6];rfl
theorem z7{a m:Nat}(h:a<2 ^ m)(b:Nat):∀k,P a b (k+1)<2 ^ (m+k)
 | 0=>by
  show 0 ^^^ _<_
  rw[kR,Nat.add_zero]
  by_cases t:b.testBit 0=true
  ·rw[if_pos t];simpa using h
  ·rw[if_neg t];exact sX m
 | k+1=>by
  show P a b (k+1) ^^^ _<_
  have i:=z7 h b k
  have p:2 ^ (m+k)<=2 ^ (m+(k+1)):=vT (by decide) (by omega)
  apply qX (bK i p)
  by_cases t:b.testBit (k+1)=true
  ·rw[if_pos t,ik,Nat.pow_add 2 m]
   exact(Mw (sX _)).mpr h
  ·rw[if_neg t];exact sX _
theorem P0{a b m n:Nat}(h:a<2 ^ m)(h':b<2 ^ (n+1)):cl a b<2 ^ (m+n):=by
 rw[<-qW h'];exact z7 h b n
theorem P1{a b:Nat}(ha:a≠0)(hb:b≠0):2 ^ (bl a-1+(bl b-1))<=cl a b:=by
 have e:bl b=(bl b-1)+1:=by have:=eN hb;omega
 have ta:=qV ha
 have tb:=qV hb
 apply Nat.ge_two_pow_of_testBit
 unfold cl
 rw[e]
 show(P a b (bl b-1) ^^^ _).testBit _=true
 have e2:bl b-1+1-1=bl b-1:=by omega
 rw[e2,jP,if_pos tb]
 have f:(P a b (bl b-1)).testBit (bl a-1+(bl b-1))=false:=by
  cases q:bl b-1 with
  | zero=>show Nat.testBit 0 _=false;exact Nat.zero_testBit _
  | succ k =>
   apply yQ
   have l:=z7 (fJ a) b k
   have p:=eN ha
   have e3:bl a-1+(k+1)=bl a+k:=by omega
   rw[e3];exact l
 rw[f,Mx]
 have e4:bl a-1+(bl b-1)-(bl b-1)=bl a-1:=by omega
 rw[e4,ta]
 simp
theorem ER{a b:Nat}(ha:a≠0)(hb:b≠0):bl (cl a b)=bl a+bl b-1:=by
 have p1:=eN ha
 have p2:=eN hb
 have h1:bl (cl a b)<=bl a+(bl b-1):=cU.mpr (P0 (fJ a) (by
  have e:bl b-1+1=bl b:=by omega
  rw[e];exact fJ b))
 have h2:=z4.mpr (P1 ha hb)
 omega
theorem ES(s b:Nat):cl (2 ^ s) b=b <<< s:=by
 induction s with
 | zero=>rw[Nat.pow_zero,z6];rfl
 | succ s ih =>
  rw[mQ,jN,z5,ih,ik,ik,mQ]
  rw[<-qG,jN 2,qG,jN 2,<- qG,qG]
theorem P2{a q b r s:Nat}(h:a=cl q b ^^^ r):a=cl (q ^^^ 2 ^ s) b ^^^ (r ^^^ b <<< s):=by
 rw[lh,ES,h,EE]
theorem ET{b r:Nat}(hb:b≠0)(h:bl b<=bl r):bl (r ^^^ b <<< (bl r-bl b))<bl r:=by
 have p:=eN hb
 have hr:r≠0:=by
  intro z;rw[z,j3]at h;omega
 have:r ^^^ b <<< (bl r-bl b)<2 ^ (bl r-1):=by
  apply ED
  ·have e:bl r-1+1=bl r:=by omega
   rw[e];exact fJ r
  ·have e:bl r-1+1=bl b+(bl r-bl b):=by omega
   rw[e,ik,Nat.pow_add]
   exact(Mw (sX _)).mpr (fJ b)
  ·exact qV hr
  ·rw[Mx]
   have e:bl r-1-(bl r-bl b)=bl b-1:=by omega
   rw[e,qV hb]
   simp;omega
 have:=cU.mpr this
 omega
theorem P4{x y z:Nat}(h:x ^^^ y=z):x=z ^^^ y:=by
 rw[<-h,mR,yT,i4]
theorem z8{x y:Nat}(h:x ^^^ y=0):x=y:=by
 have:=P4 h
 rwa [kR]at this
theorem P5{b q r q' r':Nat}(h:cl q b ^^^ r=cl q' b ^^^ r')(hr:bl r<bl b)(wF:bl r'<bl b):q=q'/\r=r':=by
 have hb:b≠0:=by intro z;rw[z,j3]at hr;omega
 have e:cl (q ^^^ q') b=r ^^^ r':=by
  rw[lh]
  have z:(cl q b ^^^ r) ^^^ (cl q' b ^^^ r')=0:=by rw[h,yT]
  rw[EF]at z
  exact z8 z
 have lt:bl (r ^^^ r')<bl b:=by
  have h1:r<2 ^ (bl b-1):=cU.mp (by omega)
  have h2:r'<2 ^ (bl b-1):=cU.mp (by omega)
  have:=cU.mpr (qX h1 h2)
  have:=eN hb
  omega
 have z:q ^^^ q'=0:=by
  apply Mz
  intro hq
  have h1:=ER hq hb
  have h2:=eN hq
  rw[e]at h1
  omega
 have zq:=z8 z
 subst zq
 rw[z,lj]at e
 exact⟨rfl,z8 e.symm⟩
end Mf
namespace Mf
open PySem PySem.Builtin.Int
theorem P6(x y:Nat):(x ^^^ y)+2*(x &&& y)=x+y:=by
 induction x using yS generalizing y with
 | ind x ih =>
  by_cases h:x=0
  ·subst h;simp
  ·have h1:=ih (x/2) (by omega) (y/2)
   have e1:(x ^^^ y)/2=x/2 ^^^ y/2:=Nat.xor_div_two
   have e2:(x &&& y)/2=x/2 &&& y/2:=Nat.and_div_two
   have t:∀n:Nat,n%2=if n.testBit 0=true then 1 else 0:=by
    intro n
    rw[vV]
    by_cases h:n%2=1
    ·simp[h]
    ·simp[h];omega
   have m1:(x ^^^ y)%2=(x%2+y%2)%2:=by
    rw[t (x ^^^ y),t x,t y,jP]
    cases x.testBit 0<;>cases y.testBit 0<;>rfl
   have m2:(x &&& y)%2=x%2*(y%2):=by
    rw[t (x &&& y),t x,t y,Dg]
    cases x.testBit 0<;>cases y.testBit 0<;>rfl
   have d1:=Nat.div_add_mod (x ^^^ y) 2
   have d2:=Nat.div_add_mod (x &&& y) 2
   rw[e1]at d1
   rw[e2]at d2
   have hx:x%2=0\/x%2=1:=by omega
   have hy:y%2=0\/y%2=1:=by omega
   rcases hx with hx | hx<;>rcases hy with hy | hy<;>rw[hx,hy]at m1 m2<;>omega
theorem EU{x y:Int}(hx:0<=x)(hy:0<=y):kP x y=((x.toNat &&& y.toNat:Nat):Int):=by
 unfold kP
 rw[decide_eq_true hx,decide_eq_true hy]
theorem P7{x y:Int}(hx:0<=x)(hy:0<=y):Builtin.bitOr x y=((x.toNat ||| y.toNat:Nat):Int):=by
 unfold Builtin.bitOr kP Builtin.bitNot
 rw[decide_eq_false (by omega),decide_eq_false (by omega)]
 show-(-((((- (-x-1)-1).toNat ||| (-(-y-1)-1).toNat:Nat):Int))-1)-1=_
 have e1:(- (-x-1)-1).toNat=x.toNat:=by omega
 have e2:(- (-y-1)-1).toNat=y.toNat:=by omega
 rw[e1,e2]
 omega
theorem P8(x y:Nat):(x ||| y)=(x ^^^ y)+(x &&& y):=by
 have d:(x ^^^ y) &&& (x &&& y)=0:=by
  apply vU;intro i
  simp only[jP,Dg,Nat.zero_testBit]
  cases x.testBit i<;>cases y.testBit i<;>rfl
 have e:(x ||| y)=(x ^^^ y) ^^^ (x &&& y):=by
  apply vU;intro i
  simp only[jP,Dg,Nat.testBit_or]
  cases x.testBit i<;>cases y.testBit i<;>rfl
 have h:=P6 (x ^^^ y) (x &&& y)
 rw[d]at h
 rw[e];omega
theorem P9{x y:Int}(hx:0<=x)(hy:0<=y):mL x y=((x.toNat ^^^ y.toNat:Nat):Int):=by
 unfold mL
 rw[P7 hx hy,EU hx hy,P8]
 omega
theorem lr(x y:Nat):mL (x:Int) (y:Int)=((x ^^^ y:Nat):Int):=by
 rw[P9 (by omega) (by omega)];rfl
theorem EV(x y:Nat):kP (x:Int) (y:Int)=((x &&& y:Nat):Int):=by
 rw[EU (by omega) (by omega)];rfl
theorem qY(x k:Nat):(x:Int)*2 ^ ((k:Int)).toNat=((x <<< k:Nat):Int):=by
 rw[ik]
 simp
theorem Qa(x k:Nat):(x:Int)/2 ^ ((k:Int)).toNat=((x >>> k:Nat):Int):=by
 rw[MA]
 simp
theorem Qb(x k:Nat):((x >>> k) &&& 1=1)↔x.testBit k=true:=by
 rw[Mu,MA]
 have:(x/2 ^ k) &&& 1=(x/2 ^ k)%2:=Nat.and_two_pow_sub_one_eq_mod _ 1
 rw[this]
 simp
end Mf
namespace Mf
end Mf
namespace Mf
theorem EW(a b:Nat):∀c,cl (cl a b) c=cl a (cl b c):=by
 intro c
 induction c using yS with
 | ind c ih =>
  by_cases h:c=0
  ·subst h;rfl
  ·have e:c=2*(c/2)+c%2:=by omega
   have lt:c%2<2:=by omega
   have i:=ih (c/2) (by omega)
   rw[e,ud _ _ _ lt,ud _ _ _ lt,i,PR,PY]
   have:c%2=0\/c%2=1:=by omega
   rcases this with h | h
   ·rw[h];rfl
   ·rw[h];rfl
noncomputable def qZ:Nat->Nat->Nat->Nat
 | 0,a,_=>a
 | n+1,a,b=>if bl a<bl b then a else qZ n (a ^^^ b <<< (bl a-bl b)) b
noncomputable def md(a b:Nat):Nat:=qZ (bl a+1) a b
theorem EX{b:Nat}(hb:b≠0):∀n a,bl a<n->(∃q,a=cl q b ^^^ qZ n a b)/\bl (qZ n a b)<bl b
 | 0,_,h=>absurd h (by omega)
 | n+1,a,h=>by
  unfold qZ
  by_cases l:bl a<bl b
  ·rw[if_pos l]
   exact⟨⟨0,by rw[lj,kR]⟩,l⟩
  ·rw[if_neg l]
   have less:=ET hb (show bl b<=bl a by omega)
   obtain⟨⟨q,e⟩,l2⟩:=EX hb n (a ^^^ b <<< (bl a-bl b)) (by omega)
   refine⟨⟨q ^^^ 2 ^ (bl a-bl b),?_⟩,l2⟩
   rw[lh,ES]
   have e2:a=(a ^^^ b <<< (bl a-bl b)) ^^^ b <<< (bl a-bl b):=by rw[mR,yT,i4]
   rw[e]at e2
   refine e2.trans ?_
   generalize qZ n _ b=r
   rw[mR,Df r,<- mR]
theorem uf{b:Nat}(hb:b≠0)(a:Nat):(∃q,a=cl q b ^^^ md a b)/\bl (md a b)<bl b:=EX hb _ a (by omega)
theorem ug{a b q r:Nat}(h:a=cl q b ^^^ r)(hr:bl r<bl b):md a b=r:=by
 have hb:b≠0:=by intro z;rw[z,j3]at hr;omega
 obtain⟨⟨q',e⟩,l⟩:=uf hb a
 exact(P5 (e.symm.trans h) l hr).2
theorem Qc(q:Nat){b:Nat}(hb:b≠0):md (cl q b) b=0 :=
 ug (q:=q) (by rw[i4]) (by rw[j3];exact eN hb)
end Mf
namespace Mf
theorem Qe(y:Nat):bl (y/2)=bl y-1:=by
 by_cases h:y=0
 ·subst h;rfl
 ·have p:=eN h
  have h1:bl (y/2)<=bl y-1:=cU.mpr (EL (by
   have e:bl y-1+1=bl y:=by omega
   rw[e];exact fJ y))
  have h2:bl y<=bl (y/2)+1:=cU.mpr (by
   have:=fJ (y/2)
   rw[mQ];omega)
  omega
theorem Qf(x:Nat):bl (2*x)<=bl x+1:=cU.mpr (by
 have:=fJ x
 rw[mQ];omega)
theorem z9{x y:Nat}(h:x<=y):bl x<=bl y:=cU.mpr (kS h (fJ y))
end Mf
namespace Mf
noncomputable def al(a:Nat):Bool:=decide (2<=a)&&(bD (2 ^ ((bl a-1)/2+1)-2)).all λi=>md a (2+i) != 0
theorem Qg{a:Nat}(h:a<2):al a=false:=by
 unfold al;rw[decide_eq_false (by omega)];rfl
theorem Qh{a:Nat}(h:2<=a)(k:∀i,i<2 ^ ((bl a-1)/2+1)-2->md a (2+i)≠0):al a=true:=by
 unfold al
 rw[decide_eq_true h,kT,cX]
 intro i hi
 have:=k i (gM.mp hi)
 simpa using this
theorem Qi{a i:Nat}(k:i<2 ^ ((bl a-1)/2+1)-2)(z:md a (2+i)=0):al a=false:=by
 unfold al
 rw[Bool.and_eq_false_iff]
 right
 rw[List.all_eq_false]
 exact⟨i,gM.mpr k,by simp[z]⟩
theorem Qj{a:Nat}(h:2<=a){b:Nat}(hb:b<2 ^ ((bl a-1)/2+1)):b<a/\2*bl b<=bl a+1:=by
 have h2:2<=bl a:=by
  have:=z4.mpr (show 2 ^ 1<=a by omega)
  omega
 have l:=cU.mpr hb
 refine⟨bK hb (dy (vT (by decide) ?_) (EC (by omega))),by omega⟩
 omega
end Mf
namespace L2
open PySem PySem.Spec PyProof.Rows Mf
theorem fK:bootBuiltins "len"=some (.builtin "len"):=by decide +kernel
theorem EY:bootBuiltins "isinstance"=some (.builtin "isinstance"):=by decide +kernel
theorem Qk:bootBuiltins "max"=some (.builtin "max"):=by decide +kernel
theorem Ql:bootBuiltins "min"=some (.builtin "min"):=by decide +kernel
theorem Aa:bootBuiltins "all"=some (.builtin "all"):=by decide +kernel
theorem Qm:bootBuiltins "int"=some (.type "int"):=by decide +kernel
theorem Qn:bootBuiltins "bool"=some (.type "bool"):=by decide +kernel
theorem wG:bootBuiltins "list"=some (.type "list"):=by decide +kernel
theorem Qo:bootBuiltins "range"=some (.type "range"):=by decide +kernel
theorem Qp:bootBuiltins "ValueError"=some (.type "ValueError"):=by decide +kernel
section
variable{X:Cx}{a b o:Expr}{ta tb to:TE}{pos apos aP:Pos}
theorem EZ(i:Int):Builtin.Int.intBits i=bl i.natAbs:=by
 unfold Builtin.Int.intBits bl
 by_cases h:i=0
 ·subst h;rfl
 ·have h':¬ i.natAbs=0:=by omega
  rw[if_neg h',if_neg (by simpa using h)]
noncomputable def E1:V->List V->Hp->VK->Prop:=λx vs H Q=>∃i,x=.int i/\vs=[]/\Q (.int (bl i.natAbs:Nat)) H
theorem Qq:wC X "int.bit_length" E1:=by
 intro pins s σ H x xs v us Q I rx rs h
 obtain⟨i,rfl,rfl,q⟩:=h
 obtain⟨t,rfl⟩:=rx
 cases rs
 refine call_int_bit_length ?_
 rw[EZ]
 exact⟨.int _,H,I.tok _,⟨_,rfl⟩,q⟩
theorem Ab(ho:PE X o to)(gr:attributeBase o "bit_length" X.env (eval o X.env)=eval o X.env:=by rfl)(gu:(apos.endLine==aP.line)=true:=by rfl) :
  PE X (.Call (.Attribute o "bit_length" apos) [] [] aP) (Er X.K "int" E1 to) :=
 Pn PySem.F.plainAttrs_int PySem.F.slot_int_bit_length PySem.F.type_int_bit_length Qq ho gr gu
noncomputable def E2(i j:Int):Prop:=0<=j/\((bl i.natAbs:Nat):Int)+j<=134217728
theorem E3:bI X (binaryOp .LShift) (rI E2 λi j=>.int (i*2 ^ j.toNat)):=t8 λi j _ _ _ _ _ hc q =>
 lshift_int hc.1 (by rw[EZ];exact Int.le_trans hc.2 (by decide)) q
theorem E4{x:Str}{n:String}(hg:Gl X x)(hm:X.mg x=none)(hv:bootBuiltins x=some (.type n))(hn:x≠"__name__":=by decide)(hd:(x==("__debug__":Str))=false:=by decide):PE X (.Name x pos) (tC (.ty n)) :=
 Nc hg hm hv rfl hn hd
noncomputable def Qr(K:PySem.W.Frag):List V->Hp->VK->Prop:=λxs H Q=>∃x n t b,xs=[x,.ty n]/\eL K H x t/\PySem.W.kitOne K t (.type n)=some b/\Q (.bl b) H
theorem Qs:eE X (.builtin "isinstance") (Qr X.K):=by
 intro pins s σ H xs us Q I r h
 obtain⟨x,n,t,b,rfl,ty,e,q⟩:=h
 obtain⟨u,v,rfl,ru,rv⟩:=r.two
 cases(show v=Value.type n from rv)
 exact D9 I ru ty e λtk=>⟨.bl b,H,I.tok _,rfl,q⟩
end
theorem Qt(b i:Nat):decide (V.int (kP ((b:Int)/2 ^ ((0:Int)+(i:Int)).toNat) 1)=V.int 1)=b.testBit i:=by
 have e:((0:Int)+(i:Int)).toNat=((i:Int)).toNat:=by omega
 rw[e,Qa,show(1:Int)=((1:Nat):Int) from rfl,EV,Bool.eq_iff_iff,decide_eq_true_iff,<- Qb]
 constructor
 ·intro h;injection h with h;omega
 ·intro h;rw[h]
theorem Qu{a b i:Nat}(h:b.testBit i=true):mL ((P a b i:Nat):Int) ((a:Int)*2 ^ ((0:Int)+(i:Int)).toNat)=((P a b (i+1):Nat):Int):=by
 have e:((0:Int)+(i:Int)).toNat=((i:Int)).toNat:=by omega
 rw[e,qY,lr]
 show _=((P a b i ^^^ (if b.testBit i then a <<< i else 0):Nat):Int)
 rw[if_pos h]
theorem Qv{a b i:Nat}(h:¬ b.testBit i=true):P a b (i+1)=P a b i:=by
 show P a b i ^^^ (if b.testBit i then a <<< i else 0)=_
 rw[if_neg h,i4]
theorem dI{i j:Int}:decide (V.int i=V.int j)=true↔i=j:=by
 rw[decide_eq_true_iff]
 exact⟨λh=>by injection h,λh=>by rw[h]⟩
end L2
namespace L2
open PySem PySem.Spec PyProof.Rows
section
variable{X:Cx}
end
end L2
namespace L2
open PySem PySem.Spec PyProof.Rows
noncomputable def dh(X:Cx)(scope:Scope)(N:List Str)(cl:List (Str × Addr))(C:Addr)(s:Shared)(H:Hp)(fp:List Addr):Cx where
 prog:=X.prog
 w:=X.w
 K:=X.K
 mg:=X.mg
 base:=X.base
 A:=X.A
 N:=N
 bc:=s
 gQ:=H
 env:=compEnvC scope cl C X.env
 outer:=X.stack
 stack:=X.stack
 ex:=fp
 fn:=λ_=>false
 calm:=X.calm
 pn:=[]
 xe:=λ_ _=>False
noncomputable def nK(X:Cx)(scope:Scope)(cl:List (Str × Addr)):List (Str × Nat)->Prop
 | []=>True
 | (y,i)::r=>(X.N[i]?=some y/\(X.env.scope.names.lookup y=some .cell\/X.env.scope.names.lookup y=some .free)/\((relabel scope X.env).names.lookup y=some .cell\/(relabel scope X.env).names.lookup y=some .free)/\∃c,cl.lookup y=some c/\X.env.cells.lookup y=some c)/\nK X scope cl r
theorem nK.at{X:Cx}{scope:Scope}{cl:List (Str × Addr)}:∀{az:List (Str × Nat)},nK X scope cl az->∀p∈az,X.N[p.2]?=some p.1/\(X.env.scope.names.lookup p.1=some .cell\/X.env.scope.names.lookup p.1=some .free)/\((relabel scope X.env).names.lookup p.1=some .cell\/(relabel scope X.env).names.lookup p.1=some .free)/\∃c,cl.lookup p.1=some c/\X.env.cells.lookup p.1=some c
 | [],_,p,hp=>absurd hp (by simp)
 | (y,i)::r,h,p,hp=>by
  rcases bE.mp hp with e | e
  ·subst e;exact h.1
  ·exact nK.at h.2 p e
noncomputable def uh(Y:Cx)(ifs:List Expr)(t:TT):Prop :=
 ∀(pins:List (Addr × Obj)) (s:Shared) (σ:St) (H:Hp) (Q:Bool->Hp->Prop),Inv Y pins σ H s->t σ H Q ->
  wpAny (model Y.prog Y.w) Y.A (forIn ifs true λc r=>if r=true then do let ok<-isTrue c Y.env (eval c Y.env);pure (yU ok)else pure (yU r)) (TP Y pins σ Q) Y.xe s
noncomputable def Qw:TT:=λ_ H Q=>Q true H
theorem Qx{Y:Cx}:uh Y [] Qw:=λ_ _ _ H _ I h=>wpAny_tests_nil ⟨H,I,h⟩
section
variable{X:Cx}{elt iter:Expr}{x:Str}{px pos:Pos}{ifs:List Expr}{scope:Scope}{cl:List (Str × Addr)}{az:List (Str × Nat)}{wi:TI}{tt:TT}{te:TE}
theorem Qy{pins:List (Addr × Obj)}{σ:St}{H:Hp}{s:Shared}{fp:List Addr}{C:Addr}(I:Inv X pins σ H s)(iA:scope.kind=.function)(hC:s.heap.objs.size<=C)
  (dU:∀y c,cl.lookup y=some c->X.env.cells.lookup y=some c) (Ac:∀y,((relabel scope X.env).names.lookup y=some .cell\/(relabel scope X.env).names.lookup y=some .free)->∃c,cl.lookup y=some c)
  (hf:∀b∈fp,fA X pins H b) (ho:∀b∈fp,∃o,s.heap.get? b=some o/\∀v,o.data≠.cell v) (N:List Str):(dh X scope N cl C s H fp).Ok where
 mod:=I.ok.mod
 kind:=iA
 glob:=I.ok.glob
 blt:=I.ok.blt
 above:=hC
 inj:=λy z c h1 h2=>I.ok.inj y z c (dU _ _ h1) (dU _ _ h2)
 has:=Ac
 jV:=λ_ _ z=>nomatch z
 hd:=I.ok.hd
 frames:=I.ok.frames
 ni:=.inl rfl
 nj:=λb hb=>⟨by
  obtain⟨o,e,_⟩:=ho b hb
  exact cG (bK (a4 e) hC),λy c e z=>(hf b hb).2.2.2.2.1 y c (dU _ _ e) z⟩
 bs:=I.bs
 fu:=dy I.ok.fu I.sz
 kX:=λb o e hb=>by
  rcases(hf b hb).2.2.2.1 with z | z
  ·exact I.ok.kX b o e z
  ·exact absurd (bK (a4 (I.ok.bs b o e).1) z) (fk _)
 kY:=λb hb z=>(bE.mp (I.tN b z)).elim (hf b hb).2.1 (hf b hb).2.2.1
 dB:=I.stack
 fv:=I.wc
end
section
variable{prog:Program}{w:World}{A:Around}{R:Result->Shared->Prop}{s:Shared}
theorem Qz{elt target iter:Expr}{ifs:List Expr}{scope:Scope}{pos:Pos}{it acc:Value}{env:Env}(Iv:Nat->Shared->Prop)
  (turn:∀n s,Iv n s->wpAny (model prog w) A (pyNext it) (λr s1=>match r with
   | none=>R (.ok .next) s1
   | some v=>wpAny (model prog w) A (letOwnedTupleGo target it v) (λ_ t1=>wpAny (model prog w) A (assign target env v) (λ_ s2 =>
     wpAny (model prog w) A (forIn ifs true λc r=>if r=true then do let ok<-isTrue c env (eval c env);pure (yU ok)else pure (yU r)) (λok s3 =>
      if ok=true then wpAny (model prog w) A (eval elt env) (λy s4=>wpAny (model prog w) A (call (.builtin "list.append") [acc,y]) (λ_ s5=>∃m,m<n/\Iv m s5) (λ_ _=>False) s4) (λ_ _=>False) s3
      else ∃m,m<n/\Iv m s3) (λ_ _=>False) s2) (λ_ _=>False) t1) (λ_ _=>False) s1) (λ_ _=>False) s)
  (n:Nat) (h:Iv n s):codeAny (model prog w) A (.compLoop (.ListComp elt [⟨target,iter,ifs,0⟩] scope pos) 0 it acc env) R s:=by
 refine codeAny_loop rfl Iv (λn s hI=>?_) n h
 change wpAny _ A (Sem.onRaise (compTurn (.ListComp elt [⟨target,iter,ifs,0⟩] scope pos) 0 it acc env) λx=>do noteFrame x env;theTreesLotGoes x) _ _ s
 refine wpAny_noted (wpAny_mono (E:=λ_ _=>False) ?_ (λ_ _ q=>q) λ_ _ z=>z.elim)
 rw[compTurn_list]
 refine wpAny_bind (wpAny_standAt (wpAny_bind (aA (turn n s hI) λr s1 h1=>?_)))
 cases r with
 | none=>exact wpAny_pure h1
 | some v =>
  refine wpAny_bind (aA h1 λ_ t1 k1=>wpAny_bind (aA k1 λ_ s2 h2=>wpAny_bind (aA h2 λok s3 h3=>?_)))
  cases ok with
  | false=>exact wpAny_pure ⟨rfl,h3⟩
  | true=>exact wpAny_bind (wpAny_bind (aA h3 λy s4 h4=>wpAny_bind (aA h4 λ_ s5 h5=>wpAny_pure (wpAny_pure ⟨rfl,h5⟩))))
end
section
variable{X:Cx}{elt iter:Expr}{x:Str}{px pos:Pos}{ifs:List Expr}{scope:Scope}{cl:List (Str × Addr)}{az:List (Str × Nat)}{wi:TI}{tt:TT}{te:TE}
end
end L2
namespace L2
open PySem PySem.Spec PyProof.Rows
section
variable{X:Cx}
theorem QB{bs:List Bool}{us:List Value}(r:Vals (bs.map V.bl) us):bs.length=us.length/\∀(i:Nat) (v:Value),us[i]?=some v->∃b,bs[i]?=some b/\v=.bool b:=by
 have l:=r.length
 rw[cI]at l
 refine⟨l,λi v e=>?_⟩
 have hi:i<us.length:=(gb.mp e).1
 have hb:i<bs.length:=by omega
 obtain⟨u,e2,q⟩:=r.get (i:=i) (x:=V.bl bs[i]) (by rw[cW,a9 hb];rfl)
 rw[e]at e2
 cases e2
 exact⟨bs[i],a9 hb,q⟩
theorem QC{s:Shared}{h':Heap}{o:Obj}(hk:∀b x,b ∉ [s.heap.objs.size]->(s.heap.push o).get? b=some x->h'.get? b=some x)(b:Addr)(x:Obj)(e:s.heap.get? b=some x):h'.get? b=some x :=
 hk b x (λhm=>fk _ (by have:=a4 e;rw[il.mp hm]at this;exact this)) (bU _ e)
theorem QD(bs:List Bool):((bD bs.length).all λi=>(bs[i]?).getD true)=bs.all id:=by
 rw[Bool.eq_iff_iff,cX,cX]
 constructor
 ·intro h b hb
  obtain⟨i,hi,rfl⟩:=Dh hb
  have:=h i (gM.mpr hi)
  rwa [a9 hi]at this
 ·intro h i hi
  have g5:=gM.mp hi
  rw[a9 g5]
  exact h _ (i5 g5)
theorem QE(hc:X.calm=true):eE X (.builtin "all") (λxs H Q=>∃(p:Addr) (bs:List Bool),xs=[.ref p]/\a8 X.K H p (bs.map V.bl)/\Q (.bl (bs.all id)) H):=by
 intro pins s σ H xs us Q I r h
 obtain⟨p,bs,rfl,hS,q⟩:=h
 obtain⟨u,rfl,ru⟩:=r.one
 cases ru
 obtain⟨its,rv,pl,hz⟩:=I.list hS
 obtain⟨hlen,QF⟩:=QB rv
 have hl:=pl.isList
 have dW:p<s.heap.objs.size:=by obtain⟨_,e,_⟩:=hl;exact a4 e
 refine call_all_walk (wpAny_pyIter_list hl ?_)
 refine⟨s.heap.objs.size,[s.heap.objs.size,p],[s.heap.objs.size],its.toArray.size,_,_,λi=>(bs[i]?).getD true,rfl,Walks.list (A:=X.A.in1) (I.ok.hd hc) _ p (cG dW) its.toArray,
  ⟨⟨_,eY _ rfl,rfl,rfl⟩,hl.push _⟩,λi v s' Q' E' hP hQ=>?_,λh' tk hk=>?_⟩
 ·obtain⟨b,e,rfl⟩:=QF i v (by simpa using hP)
  simp only[e,kU]at hQ
  exact wpAny_truthy_bool hQ
 ·have e:((bD its.toArray.size).all λi=>(bs[i]?).getD true)=bs.all id:=by
   rw[bY,<- hlen];exact QD bs
  rw[e]
  exact⟨.bl _,H,I.kept (h':=h') (t':=tk) (QC hk),rfl,q⟩
end
noncomputable def nL(X:Cx):List (Str × Addr)->Prop
 | []=>True
 | (y,c)::r=>X.env.cells.lookup y=some c/\nL X r
theorem nL.all{X:Cx}:∀{cl:List (Str × Addr)},nL X cl->∀y c,cl.lookup y=some c->X.env.cells.lookup y=some c
 | [],_,y,c,h=>by simp at h
 | (z,d)::r,h,y,c,e=>by
  rw[gh]at e
  cases q:y==z with
  | true =>
   rw[q]at e
   cases e
   rw[eq_of_beq q]
   exact h.1
  | false =>
   rw[q]at e
   exact nL.all h.2 y c e
noncomputable def nM(cl:List (Str × Addr)):List (Str × NameKind)->Prop
 | []=>True
 | (y,k)::r=>(k=.local\/k=.globalImplicit\/∃c,cl.lookup y=some c)/\nM cl r
theorem nM.all{cl:List (Str × Addr)}:∀{ns:List (Str × NameKind)},nM cl ns->∀y,(ns.lookup y=some .cell\/ns.lookup y=some .free)->∃c,cl.lookup y=some c
 | [],_,y,h=>by simp at h
 | (z,k)::r,h,y,e=>by
  rw[gh]at e
  cases q:y==z with
  | true =>
   rw[q]at e
   rw[eq_of_beq q]
   rcases h.1 with g | g | g
   ·rw[g]at e;rcases e with e | e<;>cases e
   ·rw[g]at e;rcases e with e | e<;>cases e
   ·exact g
  | false =>
   rw[q]at e
   exact nM.all h.2 y e
section
variable{X:Cx}{elt iter:Expr}{x:Str}{px pos:Pos}{ifs:List Expr}{scope:Scope}{cl:List (Str × Addr)}{wi:TI}{tt:TT}{te:TE}
end
end L2
namespace L2
open PySem PySem.Spec PyProof.Rows Mf
end L2
namespace L2
end L2
namespace L2
open PySem PySem.Spec PyProof.Rows
noncomputable def eO(az:List (Str × Nat))(n:Nat)(σ:L2.St):St:=(az.map λp=>(σ[p.2]?).getD none)++aT n none
noncomputable def E5(J:It)(az:List (Str × Nat))(n:Nat)(g:TG)(tt:TT)(te:TE)(σ:L2.St)(H1:Hp)(Q:VK):Prop:=∀D,H1 D=none->∃W:Nat->Nat->List V->Hp->Prop,(∃m,W 0 m [] (upd H1 D (.lst []))) /\
 ∀i m acc H2,W i m acc H2->H2 D=some (.lst acc)/\((J.stop i H2/\Q (.ref D) H2)\/(J.go i H2/\∀x H3,J.fy i H2 x H3->H3 D=some (.lst acc)/\g x (eO az n σ) H3 λeD H4 =>
  (eD.length=(eO az n σ).length/\∀j,j<az.length->eD[j]?=(eO az n σ)[j]?)/\tt eD H4 λb H5=>H5 D=some (.lst acc) /\
  if b=true then te eD H5 λy H6=>H6 D=some (.lst acc)/\acc.length<sizeLine/\∃m',m'<m/\W (i+1) m' (acc++[y]) (upd H6 D (.lst (acc++[y])))else ∃m',m'<m/\W (i+1) m' acc H5))
noncomputable def E6(wi:TI)(az:List (Str × Nat))(n:Nat)(g:TG)(tt:TT)(te:TE):TE:=λσ H Q=>wi σ H λJ H1=>E5 J az n g tt te σ H1 Q
section
variable{X:Cx}{elt iter tg:Expr}{pos:Pos}{ifs:List Expr}{scope:Scope}{cl:List (Str × Addr)}{wi:TI}{tt:TT}{te:TE}{g:TG}
theorem QG(az:List (Str × Nat))(bV:List Str)(hc:X.calm=true)(hi:PI X tg iter wi)
  (hg:∀C s H fp,PG (dh X scope (az.map (·.1)++bV) cl C s H fp) tg g)
  (ht:∀C s H fp,uh (dh X scope (az.map (·.1)++bV) cl C s H fp) ifs tt) (he:∀C s H fp,PE (dh X scope (az.map (·.1)++bV) cl C s H fp) elt te)
  (ui:closureFor scope X.env=pure cl) (uj:nL X cl) (uk:nM cl (relabel scope X.env).names) (um:nK X scope cl az)
  (jc:∀y∈scope.names,y.2≠.cell) (iA:scope.kind=.function) (uo:∀y∈scope.names,y.2=.local->scope.names.lookup y.1=some .local)
  (hs:∀x,foldedSetIterable iter X.env x=pure x:=by intro _;rfl) {pins:List (Addr × Obj)} {s:Shared} {σ:L2.St} {H:Hp} {Q:VK} {use:Option (Value->Sem Unit)} {aP:Pos} {Rf:Value->Shared->Prop} (I:Inv X pins σ H s) (h:E6 wi az bV.length g tt te σ H Q)
  (QH:∀(s':Shared) (H':Hp) (C Da:Addr) (m:Str->Option Value),Inv X pins σ H' s'->s'.heap.Ns C m->H' C=none->C≠X.env.locals->X.bc.heap.objs.size<=C->(∀x c,X.env.cells.lookup x=some c->c≠C)->(∀p∈X.pn++pins,p.1≠C)->C ∉ X.fs->Q (.ref Da) H' ->
   compPost (model X.prog X.w) X.A X.xe use Rf (.ref Da) C (.ok .next) s') :
  wpAny (model X.prog X.w) X.A (comprehension (.ListComp elt [⟨tg,iter,ifs,0⟩] scope pos) scope X.env aP (newList []) false (eval iter X.env) use) Rf X.xe s:=by
 have dU:=uj.all
 have Ac:=uk.all
 refine wpAny_comprehension_free (use:=use) rfl hs ui iA uo (aA (hi pins s σ H _ I h) λv s1 h1=>aA h1 λwm s2 h2=>?_)
 obtain⟨it,fp,tn,J,H2,e,I2,T,tZ,f2,q⟩:=h2
 subst e
 refine wpAny_newList ?_
 refine wpAny_newFunctionEnv jc (λy hy=>nomatch hy) (λg1 Ad wH=>?_) iA
 dsimp only at Ad wH ⊢
 have hD:H2 s2.heap.objs.size=none:=I2.au.fresh (aZ _)
 obtain⟨W,⟨m0,w0⟩,turn⟩:=q s2.heap.objs.size hD
 generalize Ae:s2.heap.push { cls:=.type "list",data:=.seq ([]:List Value).toArray }=g0 at Ad wH ⊢
 have ZA:g0.objs.size=s2.heap.objs.size+1:=by rw[<-Ae,yP]
 have E7:s2.heap.objs.size≠g0.objs.size:=by omega
 have hle:s2.heap.objs.size<=g0.objs.size:=by omega
 have nk:∀b o,s2.heap.get? b=some o->b≠g0.objs.size:=λb o e=>cG (bK (a4 e) hle)
 have old:∀b o,s2.heap.get? b=some o->g1.get? b=some o:=λb o e=>wH.extBut b o (nk b o e) (bU _ (Ae ▸ bU _ e))
 have QI:g1.get? s2.heap.objs.size=some { cls:=.type "list",data:=.seq ([]:List Value).toArray }:=wH.extBut _ _ E7 (bU _ (Ae ▸ eY _ rfl))
 have E8:∀b∈fp,∃o,s2.heap.get? b=some o/\∀v,o.data≠.cell v:=T.obj _ _ tZ
 have wI:=Qy (scope:=scope) (cl:=cl) (C:=g0.objs.size) I2 iA hle dU Ac f2 E8 (az.map (·.1)++bV)
 have I4:Inv (dh X scope (az.map (·.1)++bV) cl g0.objs.size s2 H2 fp) [] (eO az bV.length σ) (upd H2 s2.heap.objs.size (.lst [])) { s2 with heap:=g1,toks:=s2.toks+([]:List (Str × Value)).length }:=by
  refine⟨wI,rfl,I2.bare,Un.laid old (aZ _) hD,⟨_,Ad,λi y v h1 h2 h3=>?_⟩,λy c e=>?_,?_,λy c e=>?_,λp hp=>absurd hp (by simp[dh]),I2.au.laid old (aZ _) ⟨ij _,[],0,.nil,QI⟩,by simp[eO,dh]⟩
  ·by_cases Af:i<az.length
   case neg =>
    have gx:((az.map λp=>(σ[p.2]?).getD none)++aT bV.length none)[i]?=some (some v):=h2
    rw[vN (by simpa using Af),vO]at gx
    split at gx<;>cases gx
   case pos =>
    have gy:(az.map (·.1))[i]?=some y:=by
     have z:(az.map (·.1)++bV)[i]?=some y:=h1
     rwa [vP (by simpa using Af)]at z
    have gx:(az.map λp=>(σ[p.2]?).getD none)[i]?=some (some v):=by
     have z:((az.map λp=>(σ[p.2]?).getD none)++aT bV.length none)[i]?=some (some v):=h2
     rwa [vP (by simpa using Af)]at z
    rw[cW]at gy gx
    cases hj:az[i]? with
    | none=>rw[hj]at gy;cases gy
    | some p =>
     rw[hj]at gy gx
     have ey:p.1=y:=bS gy
     have ev:(σ[p.2]?).getD none=some v:=bS gx
     obtain⟨hN,hk,E9,c,e1,e2⟩:=um.at p (kQ hj)
     obtain⟨m,hn,hl⟩:=I2.loc
     have es:σ[p.2]?=some (some v):=by
      cases z:σ[p.2]? with
      | none=>rw[z]at ev;cases ev
      | some o=>rw[z]at ev;exact congrArg some ev
     obtain⟨u,ru,lk⟩:=hl p.2 p.1 v hN es (hk.elim (λz=>.inr (.inl z)) λz=>.inr (.inr z))
     refine⟨u,ru,?_⟩
     rcases lk with⟨lk,_⟩ | ⟨_,c',e3,ic⟩
     ·rcases hk with hk | hk
      ·have:=hk.symm.trans lk;cases this
      ·have:=hk.symm.trans lk;cases this
     ·rw[e2]at e3
      cases e3
      subst ey
      obtain⟨oc,fw,Ag⟩:=ic
      exact .inr ⟨E9,c,e1,oc,old _ _ fw,Ag⟩
  ·obtain⟨v,o,ho,hd⟩:=I2.cell y c (dU y c e)
   exact⟨v,o,old _ _ ho,hd⟩
  ·show upd H2 _ _ g0.objs.size=none
   rw[ay (cA E7)]
   exact I2.au.fresh hle
  ·obtain⟨v,o,ho,hd⟩:=I2.cell y c (dU y c e)
   rw[ay (cG (a4 ho))]
   exact I2.cK y c (dU y c e)
 have fin:∀(s':Shared) (H':Hp) (av:L2.St),Inv (dh X scope (az.map (·.1)++bV) cl g0.objs.size s2 H2 fp) [] av H' s'->Q (.ref s2.heap.objs.size) H' ->
   compPost (model X.prog X.w) X.A X.xe use Rf (.ref s2.heap.objs.size) g0.objs.size (.ok .next) s':=by
  intro s' H' av I' q'
  obtain⟨m,hn,_⟩:=I'.loc
  have u:=I'.base
  have Ah:H' g0.objs.size=none:=I'.free
  have IX:Inv X pins σ H' s':=I2.DL (s':=s') (ch:=fp) I'.os ⟨u.keep,u.slot,u.free,u.there,u.dJ,u.dA,u.da⟩ I'.au I'.bare λb hb=>by
   obtain⟨_,y1,y2,y3,y4,y5⟩:=f2 b hb
   exact⟨y3,y1,y4,y5⟩
  have Fb:∀b,(∃o,s2.heap.get? b=some o)->b≠g0.objs.size:=λb ⟨o,e⟩=>nk b o e
  refine QH s' H' g0.objs.size s2.heap.objs.size m IX hn Ah (λz=>?_) (dy I2.sz hle) (λx c e z=>?_) (λp hp z=>?_) (λz=>?_) q'
  ·have h0:X.env.locals<s2.heap.objs.size:=I2.lt
   rw[<-z]at h0
   exact fk _ (bK h0 hle)
  ·obtain⟨v,o,ho,_⟩:=I2.cell x c e
   exact Fb c ⟨o,ho⟩ z
  ·exact Fb p.1 ⟨_,(I2.pin p hp).1⟩ z
  ·exact I2.DF hle z
 have Ai:∀(H':Hp),(∀b∈fp,H' b=none)->∀b∈fp,fA (dh X scope (az.map (·.1)++bV) cl g0.objs.size s2 H2 fp) [] H' b:=λH' hn b hb =>
  ⟨hn b hb,(wI.nj b hb).1,wI.kY b hb,.inl hb,(wI.nj b hb).2,λp hp=>absurd hp (by simp[dh])⟩
 have loop:codeAny (model X.prog X.w) X.A (.compLoop (.ListComp elt [⟨tg,iter,ifs,0⟩] scope pos) 0 (.ref it) (.ref s2.heap.objs.size) (compEnvC scope cl g0.objs.size X.env))
   (compPost (model X.prog X.w) X.A X.xe use Rf (.ref s2.heap.objs.size) g0.objs.size) { s2 with heap:=g1,toks:=s2.toks+([]:List (Str × Value)).length }:=by
  refine Qz (λn s'=>∃i acc H',Inv (dh X scope (az.map (·.1)++bV) cl g0.objs.size s2 H2 fp) [] (eO az bV.length σ) H' s'/\tn i s'.heap/\(∀b∈fp,H' b=none)/\W i n acc H') ?_ m0
   ⟨0,[],_,I4,T.keep _ _ _ tZ λb hb o e=>old b o e,λb hb=>?_,w0⟩
  ·rintro n s' ⟨i,acc,H',I',gW,wJ,w'⟩
   obtain⟨uq,⟨stop,qn⟩ | ⟨go,step⟩⟩:=turn i n acc H' w'
   ·refine aA (T.done (dh X scope (az.map (·.1)++bV) cl g0.objs.size s2 H2 fp) rfl rfl rfl hc i [] s' _ H' (λ_ _=>False) I' (Ai H' wJ) gW stop) λr t1 zz=>?_
    obtain⟨hr,I1⟩:=zz
    subst hr
    exact fin _ _ _ I1 qn
   ·refine aA (T.item (dh X scope (az.map (·.1)++bV) cl g0.objs.size s2 H2 fp) rfl rfl rfl hc i [] s' _ H' (λ_ _=>False) I' (Ai H' wJ) gW go) λr t1 zz=>?_
    obtain⟨u,hr,h4⟩:=zz
    subst hr
    refine aA h4 λ_ t2 zz=>?_
    obtain⟨x5,H5,I5,r5,y5,nt,zF⟩:=zz
    obtain⟨wK,QJ⟩:=step x5 H5 y5
    have zG:=I5.pinned (Ai H5 zF) (T.obj _ _ nt)
    refine aA (hg _ _ _ _ _ t2 _ H5 x5 u _ zG r5 QJ) λ_ t3 zz=>?_
    obtain⟨wt,H6,I6,⟨QK,QL⟩,QM⟩:=zz
    have back:∀(s7:Shared) (H7:Hp) (Aj:List V) (m7:Nat),Inv (dh X scope (az.map (·.1)++bV) cl g0.objs.size s2 H2 fp) ([]++tY fp t2.heap) wt H7 s7->W (i+1) m7 Aj H7 ->
      ∃i acc H',Inv (dh X scope (az.map (·.1)++bV) cl g0.objs.size s2 H2 fp) [] (eO az bV.length σ) H' s7/\tn i s7.heap/\(∀b∈fp,H' b=none)/\W i m7 acc H':=λs7 H7 Aj m7 I7 w7 =>
     ⟨i+1,Aj,H7,(I7.wq).weak QK.symm λj v z=>by
       by_cases hj:j<az.length
       ·rw[QL j hj];exact z
       ·have z':((az.map λp=>(σ[p.2]?).getD none)++aT bV.length none)[j]?=some (some v):=z
        rw[vN (by simpa using hj),vO]at z'
        split at z'<;>(cases z'),
      T.keep _ _ _ nt λb hb o e=>(I7.pin (b,o) (cR _ (cR _ (wo hb e)))).1,λb hb=>by
       obtain⟨o,e,d⟩:=T.obj _ _ nt b hb
       exact(I7.pin (b,o) (cR _ (cR _ (wo hb e)))).2.1,w7⟩
    refine aA (ht _ _ _ _ _ t3 _ H6 _ I6 QM) λok t4 zz=>?_
    obtain⟨H7,I7,ZC,q7⟩:=zz
    cases ok with
    | false =>
     obtain⟨m',hm,w7⟩:=(show ∃m',m'<n/\W (i+1) m' acc H7 from q7)
     exact⟨m',hm,back t4 H7 acc m' I7 w7⟩
    | true =>
     refine aA (he _ _ _ _ _ t4 _ H7 _ I7 q7) λy t5 zz=>?_
     obtain⟨v8,H8,I8,r8,QN,QO,m',hm,w8⟩:=zz
     exact aA (Ew _ t5 _ H8 (.ref s2.heap.objs.size) [v8] (.ref s2.heap.objs.size) [y] (λ_ H9=>H9=upd H8 s2.heap.objs.size (.lst (acc++[v8]))) I8 rfl (.cons r8 .nil) ⟨_,acc,v8,rfl,rfl,QN,QO,rfl⟩) λ_ t6 zz=>by
      obtain⟨_,H9,I9,_,e9⟩:=zz
      subst e9
      exact⟨m',hm,back t6 _ _ m' I9 w8⟩
  ·obtain⟨o,e,_⟩:=E8 b hb
   rw[ay (cG (a4 e))]
   exact(f2 b hb).1
 exact codeAny_compStart_list loop (T.self _ 0 _ _ _ (T.keep _ _ _ tZ λb hb o e=>old b o e) loop)
theorem QP(az:List (Str × Nat))(bV:List Str)(hc:X.calm=true)(hi:PI X tg iter wi)
  (hg:∀C s H fp,PG (dh X scope (az.map (·.1)++bV) cl C s H fp) tg g)
  (ht:∀C s H fp,uh (dh X scope (az.map (·.1)++bV) cl C s H fp) ifs tt) (he:∀C s H fp,PE (dh X scope (az.map (·.1)++bV) cl C s H fp) elt te)
  (ui:closureFor scope X.env=pure cl) (uj:nL X cl) (uk:nM cl (relabel scope X.env).names) (um:nK X scope cl az)
  (jc:∀y∈scope.names,y.2≠.cell) (iA:scope.kind=.function) (uo:∀y∈scope.names,y.2=.local->scope.names.lookup y.1=some .local)
  (hs:∀x,foldedSetIterable iter X.env x=pure x:=by intro _;rfl):PE X (.ListComp elt [⟨tg,iter,ifs,0⟩] scope pos) (E6 wi az bV.length g tt te):=by
 intro pins s σ H Q I h
 rw[eval_ListComp]
 refine QG az bV hc hi hg ht he ui uj uk um jc iA uo hs I h λs' H' C Da m IX hn hC hL h1 h2 h3 h4 q'=>?_
 exact⟨m,hn,λh' sb=>⟨.ref Da,H',IX.turned (t':=s'.toks) (λb o hb e=>sb.extBut b o hb e) hC hL (.inr h1) h2 h3,rfl,q'⟩⟩
end
end L2
namespace L2
open PySem PySem.Spec PyProof.Rows
section
variable{X:Cx}{tg:Expr}
end
end L2
namespace L2
open PySem PySem.Spec PyProof.Rows
noncomputable def Ak(h:Heap)(a T:Addr)(cls fl:Value)(dc:Option Addr):Prop :=
 ∃oe vs oT ts,h.get? a=some oe/\oe.cls=cls/\oe.dict=dc/\oe.data=.fields vs/\vs[1]?=some (.ref T)/\T≠a/\h.get? T=some oT/\oT.data=.fields ts/\ts[3]?=some fl
noncomputable abbrev dX(h:Heap)(a T:Addr)(cls:Value)(dc:Option Addr):Prop:=Ak h a T cls .none dc
noncomputable def ur(h:Heap)(a:Addr)(cls:Value)(dc:Option Addr):Prop :=
 ∃oe vs,h.get? a=some oe/\oe.cls=cls/\oe.dict=dc/\oe.data=.fields vs/\vs[1]?=some .none
theorem QQ(o:Obj)(f:Array Value->Array Value):(o.mapFields f).dict=o.dict:=by
 obtain⟨c,d,dt,sl⟩:=o
 cases dt<;>rfl
section
variable{M:Model}{A:Around}{E:Value->Shared->Prop}{s:Shared}{base:Heap}{env:Env}{outer:List Env}{L a T:Addr}{cls:Value}{dc:Option Addr}{oe:Obj}{vs:Array Value}{Q:Unit->Shared->Prop}
structure Ent(fs:List Addr)(h h':Heap)(a T:Addr)(oe:Obj)(L:Addr):Prop where
 new:h.get? T=none
 ne:T≠a
 keep:∀b o,b≠a->b ∉ fs->h.get? b=some o->h'.get? b=some o
 slot:∀b o,b≠a->h.get? b=some o->∃sl,h'.get? b=some { o with slots:=sl }
 exc:h'.get? a=some (oe.mapFields λz=>z.setIfInBounds 1 (.ref T))
 ent:∃oT ts,h'.get? T=some oT/\oT.data=.fields ts/\ts[3]?=some (rawInt L)
theorem Fc{head:Value}{QR:Bool}(cV:A.frames=some (env::outer))(hl:s.heap.FunFrames base (env::outer))(hf:env.frame=some L)(he:s.heap.get? a=some oe)(hd:oe.data=.fields vs)(hsz:1<vs.size)
  (na:a ∉ (env::outer).filterMap (·.frame)) (k:∀h' T',Ent ((env::outer).filterMap (·.frame)) s.heap h' a T' oe L->Q () { s with heap:=h' }) :
  wpAny M A (do let x<-frameOf env;let pl<-entryPlaceOf L QR;let b<-EntryCells.newEntry head x .none (rawInt L) .none pl;setField (.ref a) 1 b) Q E s:=by
 refine wpAny_bind (wpAny_frameOf_fun cV hl hf λg1 so=>wpAny_bind (wpAny_entryPlaceOf λpl ip=>?_))
 unfold EntryCells.newEntry newFields
 have e1:g1.get? a=some oe:=(so.2.1 a na).trans he
 refine wpAny_bind (wpAny_newObj_type ?_ (ip.sizeOk5 _ _ _ _ _))
 generalize wL:({ cls:=.type "traceback",dict:=none,data:=.fields ([head,bC L,.none,rawInt L,.none]++(if pl.isEmpty then aT 6 kN else pl)).toArray }:Obj)=te
 have e2:(g1.push te).get? a=some oe:=bU te e1
 have QS:te.data=.fields ([head,bC L,.none,rawInt L,.none]++(if pl.isEmpty then aT 6 kN else pl)).toArray:=by rw[<-wL]
 have nf:te.isFreed=false:=by rw[<-wL];rfl
 refine wpAny_setField e2 hd hsz ?_
 have d3:=yV hd λz=>z.setIfInBounds 1 (bC g1.objs.size)
 have nT:g1.objs.size≠a:=Nat.ne_of_gt (a4 e1)
 refine k _ g1.objs.size ⟨?_,nT,λb o hb hz q=>?_,λb o hb q=>?_,sW _ e2 (Di d3),⟨te,_,?_,QS,?_⟩⟩
 ·cases q:s.heap.get? g1.objs.size with
  | none=>rfl
  | some o=>obtain⟨sl,z⟩:=so.2.2 _ _ q;exact absurd (a4 z) (fk _)
 ·rw[i3 _ _ (cA hb)]
  exact bU te ((so.2.1 b hz).trans q)
 ·obtain⟨sl,z⟩:=so.2.2 b o q
  refine⟨sl,?_⟩
  rw[i3 _ _ (cA hb)]
  exact bU te z
 ·rw[i3 _ _ (cA nT)]
  exact eY g1 nf
 ·first | (simp;done) | (rcases ip with rfl | ⟨_,_,_,_,_,_,_,rfl⟩<;>simp)
structure Fd(fs Z:List Addr)(h h':Heap)(a T:Addr)(cls:Value)(dc:Option Addr):Prop where
 new:h.get? T=none
 keep:∀b o,b ∉ Z->b ∉ fs->h.get? b=some o->h'.get? b=some o
 slot:∀b o,b ∉ Z->h.get? b=some o->∃sl,h'.get? b=some { o with slots:=sl }
 q0:dX h' a T cls dc
theorem Al{fl:Value}(tr:Ak s.heap a T cls fl dc)(k:∀h',(∀b o,b≠T->s.heap.get? b=some o->h'.get? b=some o)->dX h' a T cls dc->Q () { s with heap:=h' }):wpAny M A (setFlight (.ref a) none) Q E s:=by
 obtain⟨oe,vs,oT,ts,h1,h2,h3,h4,h5,h6,h7,h8,h9⟩:=tr
 have sz:3<ts.size:=(yW.mp h9).1
 unfold setFlight
 refine wpAny_bind (wpAny_field h1 h4 h5 ?_)
 rw[if_pos (by simp)]
 refine wpAny_setField h7 h8 sz (k _ (λb o hb q=>(i3 _ _ (cA hb)).trans q) ?_)
 have d:=yV h8 λz=>z.setIfInBounds 3 ((none:Option Addr).elim kN λf=>rawInt f)
 exact⟨oe,vs,_,_,(i3 _ _ h6).trans h1,h2,h3,h4,h5,h6,sW _ h7 (Di d),d,by simp[sz]⟩
theorem Ent.fin{fs:List Addr}{h h':Heap}{a T L:Addr}{oe:Obj}{vs:Array Value}(e:Ent fs h h' a T oe L)(hd:oe.data=.fields vs)(hsz:1<vs.size)(Am:oe.dict=dc):Ak h' a T oe.cls (rawInt L) dc:=by
 obtain⟨oT,ts,e1,e2,e3⟩:=e.ent
 exact⟨_,_,oT,ts,e.exc,Obj.cls_mapFields _ _,by rw[QQ];exact Am,yV hd _,by simp[hsz],e.ne,e1,e2,e3⟩
theorem Fe(cV:A.frames=some (env::outer))(hl:s.heap.FunFrames base (env::outer))(hf:env.frame=some L)(na:a ∉ (env::outer).filterMap (·.frame))(tr:dX s.heap a T cls dc)
  (k:∀h' T',Fd ((env::outer).filterMap (·.frame)) [a,T] s.heap h' a T' cls dc->Q () { s with heap:=h' }):wpAny M A (noteFrame (.ref a) env) (λ_ de=>wpAny M A (setFlight (.ref a) none) Q E de) E s:=by
 obtain⟨oe,vs,oT,ts,h1,h2,h3,h4,h5,h6,h7,h8,h9⟩:=tr
 have s1:1<vs.size:=(yW.mp h5).1
 have s3:3<ts.size:=(yW.mp h9).1
 unfold noteFrame
 simp only[hf]
 refine wpAny_bind (wpAny_field h1 h4 h5 ?_)
 rw[if_pos (by simp)]
 refine wpAny_bind (wpAny_field h7 h8 h9 ?_)
 rw[if_neg (by simp[rawInt])]
 refine wpAny_bind (wpAny_setField h7 h8 s3 ?_)
 generalize hg:s.heap.update T (Obj.mapFields λz=>z.setIfInBounds 3 kN)=g
 have nN:∀b,b≠T->g.get? b=s.heap.get? b:=λb hb=>by rw[<-hg];exact i3 _ _ (cA hb)
 have bT:∀b o,s.heap.get? b=some o->(∀ws,o.data≠.fields ws)->b≠T:=λb o q hn z=>by subst z;rw[h7]at q;cases q;exact hn ts h8
 have gT:∃QT,g.get? T=some QT:=⟨_,by rw[<-hg];exact sW _ h7 (Di (yV h8 _))⟩
 refine Fc (s:={ s with heap:=g }) cV (hl.of_keeps λb o q hn=>⟨o,(nN b (bT b o q hn)).trans q,rfl⟩) hf ((nN a (cA h6)).trans h1) h4 s1 na λh' T' en=>?_
 have QU:T'≠T:=λz=>by subst z;obtain⟨o,q⟩:=gT;rw[en.new]at q;cases q
 refine Al (s:={ s with heap:=h' }) (h2 ▸ en.fin h4 s1 h3) λAn kp Ao=>?_
 refine k An T' ⟨(nN T' QU).symm.trans en.new,λb o hz hb q=>?_,λb o hz q=>?_,Ao⟩
 ·have z1:b≠a:=λz=>hz (by simp[z])
  have z2:b≠T:=λz=>hz (by simp[z])
  have z3:b≠T':=λz=>by have:=en.new;rw[<-z,nN b z2,q]at this;cases this
  exact kp b o z3 (en.keep b o z1 hb ((nN b z2).trans q))
 ·have z1:b≠a:=λz=>hz (by simp[z])
  have z2:b≠T:=λz=>hz (by simp[z])
  have z3:b≠T':=λz=>by have:=en.new;rw[<-z,nN b z2,q]at this;cases this
  obtain⟨sl,r⟩:=en.slot b o z1 ((nN b z2).trans q)
  exact⟨sl,kp b _ z3 r⟩
theorem QV(cV:A.frames=some (env::outer))(hl:s.heap.FunFrames base (env::outer))(hf:env.frame=some L)(na:a ∉ (env::outer).filterMap (·.frame))(hx:ur s.heap a cls dc)
  (k:∀h' T',Fd ((env::outer).filterMap (·.frame)) [a] s.heap h' a T' cls dc->Q () { s with heap:=h' }):wpAny M A (noteFrame (.ref a) env) (λ_ de=>wpAny M A (setFlight (.ref a) none) Q E de) E s:=by
 obtain⟨oe,vs,e1,e2,e3,e4,e5⟩:=hx
 have s1:1<vs.size:=(yW.mp e5).1
 unfold noteFrame
 simp only[hf]
 refine wpAny_bind (wpAny_field e1 e4 e5 ?_)
 rw[if_neg (by decide)]
 refine Fc cV hl hf e1 e4 s1 na λh' T' en=>?_
 refine Al (s:={ s with heap:=h' }) (e2 ▸ en.fin e4 s1 e3) λAn kp Ao=>?_
 have bT:∀b o,s.heap.get? b=some o->b≠T':=λb o q z=>by rw[z,en.new]at q;cases q
 refine k An T' ⟨en.new,λb o hz hb q=>kp b o (bT b o q) (en.keep b o (by simpa using hz) hb q),λb o hz q=>?_,Ao⟩
 obtain⟨sl,r⟩:=en.slot b o (by simpa using hz) q
 exact⟨sl,kp b _ (bT b o q) r⟩
theorem QW{h h1:Heap}{args:List Value}(hx:yX h h1 a cls args):ur h1 a cls none:=by
 obtain⟨t,e1,_,_⟩:=hx.there
 exact⟨_,_,e1,rfl,rfl,rfl,rfl⟩
end
end L2
namespace L2
open PySem PySem.Spec PyProof.Rows
theorem bq.there{P:Program}{w:World}{H:Hp}{h:Heap}{a:Addr}{o:HO}(x:bq P w H h a o):∃u,h.get? a=some u:=by
 cases o with
 | lst xs=>obtain⟨_,_,_,_,e⟩:=x;exact⟨_,e⟩
 | tup xs=>obtain⟨_,_,_,o,e,_⟩:=x;exact⟨o,e⟩
 | dK aj=>obtain⟨_,_,_,_,o,_,_,e,_⟩:=x;exact⟨_,e⟩
 | dT aj=>obtain⟨_,_,_,_,o,_,_,e,_⟩:=x;exact⟨_,e⟩
 | set S n=>obtain⟨o,_,_,_,e,_⟩:=x;exact⟨_,e⟩
 | ins C dx fs=>obtain⟨_,_,_,e,_⟩:=x;exact⟨_,e⟩
 | own y=>exact x
 | xd fs=>obtain⟨_,⟨_,_,_,e,_⟩,_⟩:=x;exact⟨_,e⟩
 | tK lo hi=>obtain⟨_,_,_,e⟩:=x;exact⟨_,e⟩
 | bz ob u=>obtain⟨e,_⟩:=x;exact⟨_,e⟩
 | bZ ps=>exact⟨_,show h.get? a=some _ from x.1⟩
 | met f y=>exact⟨_,show h.get? a=some _ from x⟩
 | ext φ=>obtain⟨_,e,_⟩:=x;exact e
theorem bA.none{P:Program}{w:World}{H:Hp}{h:Heap}{a:Addr}(x:bA P w H h)(e:h.get? a=.none):H a=.none:=by
 cases q:H a with
 | none=>rfl
 | some u=>obtain⟨o,z⟩:=(x a u q).there;rw[e]at z;cases z
structure Apart(X:Cx)(pins:List (Addr × Obj))(H:Hp)(b:Addr):Prop where
 old:X.bc.heap.get? b=none
 free:H b=none
 loc:b≠X.env.locals
 cell:∀x c,X.env.cells.lookup x=some c->c≠b
 pin:∀p∈X.pn++pins,p.1≠b
 fr:b ∉ cw X.stack
section
variable{X:Cx}{pins:List (Addr × Obj)}{σ:St}{H H':Hp}{s:Shared}{a T b:Addr}{cls:Value}{dc:Option Addr}{M:Model}{Q:Unit->Shared->Prop}{E:Value->Shared->Prop}{h':Heap}
theorem QX(I:Inv X pins σ H s)(hb:b∈cw X.stack):∃o,s.heap.get? b=some o/\∀vs,o.data≠.fields vs:=(I.stack.mem hb).2
theorem Inv.old(I:Inv X pins σ H s)(hex:X.ex=[])(e:s.heap.get? b=none):X.bc.heap.get? b=none:=by
 cases q:X.bc.heap.get? b with
 | none=>rfl
 | some o=>obtain⟨o',z⟩:=I.base.there b o q (by rw[hex];simp);rw[e]at z;cases z
theorem Inv.apart(I:Inv X pins σ H s)(hex:X.ex=[])(e:s.heap.get? b=none)(n:H' b=none):Apart X pins H' b where
 old:=I.old hex e
 free:=n
 loc:=λz=>by obtain⟨m,⟨o,_,_,ho,_⟩,_⟩:=I.loc;rw[z,ho]at e;cases e
 cell:=λx c hc z=>by obtain⟨v,o,ho,_⟩:=I.cell x c hc;rw[z,e]at ho;cases ho
 pin:=λp hp z=>by have:=(I.pin p hp).1;rw[z,e]at this;cases this
 fr:=λhb=>by obtain⟨o,ho,_⟩:=QX I hb;rw[e]at ho;cases ho
theorem Ff(I:Inv X pins σ H s)(bt:X.stack=X.env::X.outer)(hex:X.ex=[])(hf:X.env.frame=some X.env.locals)(Z:List Addr)(hZ:∀b∈Z,X.bc.heap.get? b=none/\H b=none)
  (keep:∀b o,b ∉ Z->b ∉ cw X.stack->s.heap.get? b=some o->h'.get? b=some o) (slots:∀b o,b ∉ Z->s.heap.get? b=some o->∃sl,h'.get? b=some { o with slots:=sl }) :
  Un (cw X.outer) [] X.gQ H X.bc.heap h'/\bA X.prog X.w H h':=by
 have nO:∀b o,X.bc.heap.get? b=some o->b ∉ Z:=λb o e z=>by rw[(hZ b z).1]at e;cases e
 have sub:∀b,b∈cw X.stack->b=X.env.locals\/b∈cw X.outer:=λb hb=>by
  rw[bt]at hb
  unfold cw at hb
  rw[vJ,hf]at hb
  exact bE.mp hb
 have sup:∀b,b∈cw X.outer->b∈cw X.stack:=λb hb=>by
  rw[bt]
  unfold cw
  rw[vJ,hf]
  exact ig _ hb
 have qR:∀b o,X.bc.heap.get? b=some o->b≠X.env.locals:=λb o e=>cG (bK (a4 e) I.ok.above)
 have nx:∀b:Addr,b ∉ X.ex:=λb=>by rw[hex];simp
 refine⟨⟨λb o e n hb _=>?_,λb o e n hb _=>?_,λb o e n _=>I.base.free b o e n (nx b),λb o e _=>?_,I.base.dJ,I.base.dA,I.base.da⟩,λb ob e=>?_⟩
 ·exact keep b o (nO b o e) (λz=>(sub b z).elim (qR b o e) hb) (I.base.keep b o e n hb (nx b))
 ·obtain⟨sl,e1⟩:=I.base.slot b o e n hb (nx b)
  exact(slots b _ (nO b o e) e1).imp λsl h=>h
 ·obtain⟨o',e1⟩:=I.base.there b o e (nx b)
  exact(slots b o' (nO b o e) e1).elim λsl q=>⟨_,q⟩
 ·refine(I.au b ob e).eB (λc u hc q=>keep c u (λz=>?_) (λz=>?_) q) (λ_ q=>q) (λ_ _ q=>q) λ_ _ q=>q
  ·have n:=(hZ c z).2
   rcases hc with rfl | hc
   ·rw[n]at e;cases e
   ·rw[n]at hc;cases hc
  ·have n:=I.wc c z
   rcases hc with rfl | hc
   ·rw[n]at e;cases e
   ·rw[n]at hc;cases hc
structure Fg(X:Cx)(H:Hp)(h':Heap)(a T:Addr)(cls:Value)(dc:Option Addr):Prop where
 un:Un (cw X.outer) [] X.gQ H X.bc.heap h'
 au:bA X.prog X.w H h'
 q0:dX h' a T cls dc
 a0:X.bc.heap.get? a=none
 a1:H a=none
 t0:X.bc.heap.get? T=none
 t1:H T=none
theorem QY(I:Inv X pins σ H s)(bt:X.stack=X.env::X.outer)(hex:X.ex=[])(hf:X.env.frame=some X.env.locals)(tr:dX s.heap a T cls dc)(pa:Apart X pins H a)(pT:Apart X pins H T)
  (hQ:∀h' T',Fg X H h' a T' cls dc->Q () { s with heap:=h' }):wpAny M X.A (leaving X.env (.ref a)) Q E s:=by
 have hZ:∀b∈[a,T],X.bc.heap.get? b=none/\H b=none:=λb hb=>by
  rcases bE.mp hb with rfl | hb
  ·exact⟨pa.old,pa.free⟩
  ·rw[il.mp hb];exact⟨pT.old,pT.free⟩
 have na:a ∉ (X.env::X.outer).filterMap (·.frame):=by have:=pa.fr;rw[bt]at this;exact this
 refine wpAny_bind (Fe (base:=X.base) (by rw[I.ok.frames,bt]) (bt ▸ I.stack) hf na tr λh' T' st=>?_)
 have kp:∀b o,b ∉ [a,T]->b ∉ cw X.stack->s.heap.get? b=some o->h'.get? b=some o:=λb o hz hb q=>st.keep b o hz (by rw[bt]at hb;exact hb) q
 obtain⟨un,au⟩:=Ff (h':=h') I bt hex hf [a,T] hZ kp st.slot
 exact hQ h' T' ⟨un,au,st.q0,pa.old,pa.free,I.old hex st.new,I.au.none st.new⟩
theorem QZ(I:Inv X pins σ H s)(bt:X.stack=X.env::X.outer)(hex:X.ex=[])(hf:X.env.frame=some X.env.locals)(hx:ur s.heap a cls dc)(pa:Apart X pins H a)
  (hQ:∀h' T',Fg X H h' a T' cls dc->Q () { s with heap:=h' }):wpAny M X.A (leaving X.env (.ref a)) Q E s:=by
 have hZ:∀b∈[a],X.bc.heap.get? b=none/\H b=none:=λb hb=>by rw[il.mp hb];exact⟨pa.old,pa.free⟩
 have na:a ∉ (X.env::X.outer).filterMap (·.frame):=by have:=pa.fr;rw[bt]at this;exact this
 refine wpAny_bind (QV (base:=X.base) (by rw[I.ok.frames,bt]) (bt ▸ I.stack) hf na hx λh' T' st=>?_)
 obtain⟨un,au⟩:=Ff (h':=h') I bt hex hf [a] hZ (λb o hz hb q=>st.keep b o hz (by rw[bt]at hb;exact hb) q) st.slot
 exact hQ h' T' ⟨un,au,st.q0,pa.old,pa.free,I.old hex st.new,I.au.none st.new⟩
end
noncomputable def gz(P:Program)(w:World):cn:=λouter H s E e s'=>∃a T cls dc H',e=.ref a/\s'.os=s.os/\AllBare s'.gens/\Un (cw outer) [] H H' s.heap s'.heap/\bA P w H' s'.heap/\dX s'.heap a T cls dc /\
 s.heap.get? a=none/\H' a=none/\s.heap.get? T=none/\H' T=none/\E cls dc H'
section
variable{X:Cx}{pins:List (Addr × Obj)}{σ:St}{H H':Hp}{s:Shared}{a T b:Addr}{cls:Value}{dc:Option Addr}{M:Model}{Q:Unit->Shared->Prop}{E:Value->Shared->Prop}{h':Heap}
theorem Inv.wM(I:Inv X pins σ H s)(hex:X.ex=[])(Z:List Addr)(hZ:∀b∈Z,Apart X pins H b)
  (keep:∀b o,b ∉ Z->b ∉ cw X.stack->s.heap.get? b=some o->h'.get? b=some o) (slots:∀b o,b ∉ Z->s.heap.get? b=some o->∃sl,h'.get? b=some { o with slots:=sl }) (g':Array GenState) (t':Nat) (d':Drawn) (hg:AllBare g') :
  Inv X pins σ H { s with heap:=h',gens:=g',toks:=t',drawn:=d' }:=by
 have nx:∀b:Addr,b ∉ X.ex:=λb=>by rw[hex];simp
 have any:=slots
 have nO:∀b o,X.bc.heap.get? b=some o->b ∉ Z:=λb o e z=>by rw[(hZ b z).old]at e;cases e
 have qR:∀b o,X.bc.heap.get? b=some o->b≠X.env.locals:=λb o e=>cG (bK (a4 e) I.ok.above)
 have cz:∀x c,X.env.cells.lookup x=some c->c ∉ Z:=λx c e z=>(hZ c z).cell x c e rfl
 have cellK:∀x c,X.env.cells.lookup x=some c->∀v,s.heap.IsCell c v->h'.IsCell c v:=λx c e v zz=>by
  obtain⟨o,ho,hd⟩:=zz
  obtain⟨sl,q⟩:=any c o (cz x c e) ho
  exact⟨_,q,hd⟩
 have Fh:∀b,b ∉ X.fs->b≠X.env.locals->b ∉ cw X.stack:=λb h1 h2 h3=>(bE.mp (I.tN b h3)).elim h2 h1
 refine⟨I.ok,I.os,hg,⟨λb o e n hb hx=>?_,λb o e n hb hx=>?_,I.base.free,λb o e hx=>?_,I.base.dJ,I.base.dA,I.base.da⟩,?_,λx c e=>?_,I.free,I.cK,λp hp=>?_,λb ob e=>?_,I.len⟩
 ·exact keep b o (nO b o e) (Fh b hb (qR b o e)) (I.base.keep b o e n hb hx)
 ·obtain⟨sl,e1⟩:=I.base.slot b o e n hb hx
  obtain⟨tP,e2⟩:=any b _ (nO b o e) e1
  exact⟨tP,e2⟩
 ·obtain⟨o',e1⟩:=I.base.there b o e hx
  obtain⟨sl,e2⟩:=any b o' (nO b o e) e1
  exact⟨_,e2⟩
 ·obtain⟨m,hn,hl⟩:=I.loc
  obtain⟨o,es,ep,ho,hd,r⟩:=id hn
  obtain⟨sl,q⟩:=slots _ o (λz=>(hZ _ z).loc rfl) ho
  refine⟨m,⟨_,es,ep,q,hd,r⟩,λi x v e1 e2 e3=>?_⟩
  obtain⟨u,r,l⟩:=hl i x v e1 e2 e3
  refine⟨u,r,?_⟩
  rcases l with l | ⟨k,c,e,z⟩
  ·exact .inl l
  ·exact .inr ⟨k,c,e,cellK x c e _ z⟩
 ·obtain⟨v,z⟩:=I.cell x c e
  exact⟨v,cellK x c e v z⟩
 ·obtain⟨e,n,ne,nf,d⟩:=I.pin p hp
  exact⟨keep p.1 p.2 (λz=>(hZ _ z).pin p hp rfl) (Fh _ nf ne) e,n,ne,nf,d⟩
 ·refine(I.au b ob e).eB (λc u hc q=>keep c u (λz=>?_) (λz=>?_) q) (λ_ q=>q) (λ_ _ q=>q) λ_ _ q=>q
  ·have n:=(hZ c z).free
   rcases hc with rfl | hc
   ·rw[n]at e;cases e
   ·rw[n]at hc;cases hc
  ·have n:=I.wc c z
   rcases hc with rfl | hc
   ·rw[n]at e;cases e
   ·rw[n]at hc;cases hc
theorem Q0(pa:Apart X pins H a)(pT:Apart X pins H T):∀b∈[a,T],Apart X pins H b:=λb hb=>by
 rcases bE.mp hb with rfl | hb
 ·exact pa
 ·rw[il.mp hb];exact pT
theorem Q3(I:Inv X pins σ H s)(bt:X.stack=X.env::X.outer)(hex:X.ex=[])(hf:X.env.frame=some X.env.locals)(tr:dX s.heap a T cls dc)(pa:Apart X pins H a)(pT:Apart X pins H T)
  (hQ:∀h' T',Inv X pins σ H { s with heap:=h' }->dX h' a T' cls dc->Apart X pins H T'->Q () { s with heap:=h' }) :
  wpAny M X.A (noteFrame (.ref a) X.env) (λ_ de=>wpAny M X.A (setFlight (.ref a) none) Q E de) E s:=by
 have na:a ∉ (X.env::X.outer).filterMap (·.frame):=by have:=pa.fr;rw[bt]at this;exact this
 refine Fe (base:=X.base) (by rw[I.ok.frames,bt]) (bt ▸ I.stack) hf na tr λh' T' st=>?_
 exact hQ h' T' (I.wM hex [a,T] (Q0 pa pT) (λb o hz hb q=>st.keep b o hz (by rw[bt]at hb;exact hb) q) st.slot s.gens s.toks s.drawn I.bare) st.q0 (I.apart hex st.new (I.au.none st.new))
theorem Q4{A:Around}(I:Inv X pins σ H s)(hex:X.ex=[])(tr:dX s.heap a T cls dc)(pT:Apart X pins H T)
  (hQ:∀h',Inv X pins σ H { s with heap:=h' }->dX h' a T cls dc->Q () { s with heap:=h' }):wpAny M A (setFlight (.ref a) none) Q E s:=by
 refine Al tr λh' kp Ap=>hQ h' (I.wM hex [T] (λb hb=>by rw[il.mp hb];exact pT) (λb o hz _ q=>kp b o (by simpa using hz) q) (λb o hz q=>⟨o.slots,kp b o (by simpa using hz) q⟩) s.gens s.toks s.drawn I.bare) Ap
theorem Q5{A:Around}{i:Nat}{n:Str}{pos:Pos}(I:Inv X pins σ H s)(hN:X.N.Nodup)(hi:X.N[i]?=some n)(hl:X.env.kindOf n=some .local)
  (hQ:∀s',Inv X pins (σ.set i none) H s'->Q () s'):wpAny M A (do bindName X.env n .none;unbindBehindTheSuite X.env n pos) Q E s:=by
 obtain⟨m,hn,Q6⟩:=id I.loc
 have gS:=I.gS
 refine PySem.wpAny_nameGoes_keeps hl hn (by rw[I.ok.kind];rfl) λh' v ja hs=>hQ _ ?_
 obtain⟨oL,_,_,DJ,_⟩:=id hn
 refine⟨I.ok,I.os,I.bare,⟨λb o e n' hb hx=>?_,λb o e n' hb hx=>?_,I.base.free,λb o e hx=>?_,I.base.dJ,I.base.dA,I.base.da⟩,⟨_,ja,λj y w e1 e2 e3=>?_⟩,λy c e=>?_,I.free,I.cK,λp hp=>?_,λb ob e=>?_,by simpa using I.len⟩
 ·exact(hs.2 b (cG (bK (a4 e) I.ok.above))).trans (I.base.keep b o e n' hb hx)
 ·obtain⟨sl,e1⟩:=I.base.slot b o e n' hb hx
  exact⟨sl,(hs.2 b (cG (bK (a4 e) I.ok.above))).trans e1⟩
 ·obtain⟨o',e1⟩:=I.base.there b o e hx
  exact⟨o',(hs.2 b (cG (bK (a4 e) I.ok.above))).trans e1⟩
 ·by_cases hj:j=i
  ·subst hj
   rw[List.getElem?_set_self']at e2
   cases q:σ[j]?<;>rw[q]at e2<;>cases e2
  ·rw[sS (cA hj)]at e2
   obtain⟨u',r',q⟩:=Q6 j y w e1 e2 e3
   refine⟨u',r',?_⟩
   rcases q with⟨k,e⟩ | ⟨k,c,e,z⟩
   ·refine .inl ⟨k,?_⟩
    have:y≠n:=λe=>hj (zo hN e1 (e ▸ hi))
    simp[this,e]
   ·exact .inr ⟨k,c,e,z.sameBut hs (gS y c e)⟩
 ·obtain⟨w',z⟩:=I.cell y c e
  exact⟨w',z.sameBut hs (gS y c e)⟩
 ·obtain⟨e,n',ne,nf,d⟩:=I.pin p hp
  exact⟨(hs.2 p.1 ne).trans e,n',ne,nf,d⟩
 ·refine(I.au b ob e).eB (λc w' hc q=>(hs.2 c ?_).trans q) (λ_ q=>q) (λ_ _ q=>q) λ_ _ q=>q
  rintro rfl
  rcases hc with rfl | hc
  ·rw[I.free]at e;cases e
  ·rw[I.free]at hc;cases hc
end
end L2
namespace L2
open PySem PySem.W PySem.Spec PySem.Calls PyProof.Rows
section
variable{prog:Program}{w:World}{A:Around}{E:Value->Shared->Prop}{s:Shared}{K:Frag}{x D:Addr}{ox:Obj}{gA:Option Obj}
theorem Q7{tk:Tok}{Q:Fin->Shared->Prop}(X:K.In s.heap)(I:PySem.W.InstAt s.heap x ox D gA)(hf:findObj K D gA "__class__"=some (.bind (.builtin "getset_descriptor.__get__") (.builtin "object.__class__")))(hm:mroIn K D (.type "object")=some true)
  (hq:Q (.done (.ret (.ref D))) s):wpAny (model prog w) A (Builtin.«object.__getattribute__» ⟨[.ref x,.str "__class__" tk],[]⟩) Q E s:=by
 have cg:=λ(R:Result->Shared->Prop) (hR:R (.ok (.ret (.ref D))) s) (A:Around)=>PySem.W.class_get (prog:=prog) (w:=w) (A:=A) (R:=R) (tp:=.ref D) X I hm hR
 obtain⟨hh,g,d,t,os⟩:=s
 have L0:=I.type (M:=model prog w)
 have L1:=looks_find (M:=model prog w) X I hf
 unfold Builtin.«object.__getattribute__»
 repeat (any_goals (first | assumption | refine wpAny_bind (L0.at ?_) | refine wpAny_bind (L1.at ?_) | wp_step))
 exact cg _ (wpAny_pure hq) _
theorem Fj{M:Model}{Fl:Value}{Q:Unit->Shared->Prop}(X:K.In s.heap)(I:PySem.W.InstAt s.heap x ox D gA)(hb:mroIn K D (.type "BaseException")=some true)(hq:Q () s) :
  wpAny M A (checkBuiltinCall "BaseException.__getattribute__" ⟨[.ref x,Fl],[]⟩) Q E s:=by
 obtain⟨hh,g,d,t,os⟩:=s
 have L0:=I.type (M:=M)
 have L1:=looks_mroIn (M:=M) X hb
 have hk:builtinKind "BaseException.__getattribute__"=some .slot:=by decide +kernel
 have Q8:splitId "BaseException.__getattribute__"=some ("BaseException","__getattribute__"):=by decide +kernel
 have ha:=F.args_bexc_ga (.ref x) Fl
 simp only[checkBuiltinCall,hk,Q8]
 refine wpAny_bind ?_
 ·unfold isInstance
  repeat (first | refine wpAny_bind (L0.at ?_) | refine wpAny_bind (L1.at ?_) | refine L1.at ?_ | wp_step)
  exact hq
theorem Q9{tk:Tok}{R:Result->Shared->Prop}(X:K.In s.heap)(I:PySem.W.InstAt s.heap x ox D gA)(hf:findObj K D gA "__class__"=some (.bind (.builtin "getset_descriptor.__get__") (.builtin "object.__class__")))(hm:mroIn K D (.type "object")=some true)(hb:mroIn K D (.type "BaseException")=some true)
  (hq:R (.ok (.ret (.ref D))) s):codeAny (model prog w) A (.call (.builtin "BaseException.__getattribute__") ⟨[.ref x,.str "__class__" tk],[]⟩) R s :=
 codeAny_call_builtin (by decide +kernel) F.entry_bexc_ga (Fj X I hb (Q7 X I hf hm hq))
end
end L2
namespace L2
open PySem PySem.W PySem.Spec PySem.Calls PyProof.Rows
section
variable{prog:Program}{w:World}{A:Around}{E:Value->Shared->Prop}{s:Shared}{K:Frag}{x D:Addr}{ox:Obj}{gA:Option Obj}
theorem Fo{Q:Option Value->Shared->Prop}(X:K.In s.heap)(I:PySem.W.InstAt s.heap x ox D gA)(Aq:findIn K (.ref D) "__getattribute__"=some (some (.builtin "BaseException.__getattribute__")))(Ar:findIn K (.ref D) "__getattr__"=some none)
  (hf:findObj K D gA "__class__"=some (.bind (.builtin "getset_descriptor.__get__") (.builtin "object.__class__"))) (hm:mroIn K D (.type "object")=some true) (hb:mroIn K D (.type "BaseException")=some true)
  (h:Q (some (.ref D)) { s with toks:=s.toks+1 }):wpAny (model prog w) A (getAttr? (.ref x) "__class__") Q E s:=by
 have xc:=λ(R:Result->Shared->Prop) (tk:Tok) (hR:R (.ok (.ret (.ref D))) { s with toks:=s.toks+1 }) (A:Around)=>Q9 (prog:=prog) (w:=w) (A:=A) (R:=R) (tk:=tk) (s:={ s with toks:=s.toks+1 }) X I hf hm hb hR
 obtain⟨hh,g,d,t,os⟩:=s
 have L0:=I.type (M:=model prog w)
 have L1:=looks_findIn (M:=model prog w) X Aq
 have L2:=looks_findIn (M:=model prog w) X Ar
 have f3:=(F.excAttr_ValueError).ga.bind (.ref x)
 have dM:(kW "BaseException.__getattribute__"==kW "object.__getattribute__")=false:=by decide +kernel
 have cO:(onTheHeap (bC D)&&kW "BaseException.__getattribute__"==kW "object.__getattribute__")=false:=by rw[dM];rfl
 unfold getAttr? getAttrBy? getAttrBy
 refine wpAny_bind (wpAny_mkText (wpAny_bind (wpAny_attempt (wpAny_holding (wpAny_bind (L0.at (wpAny_bind (L1.at ?_))))))))
 dsimp only
 rw[cO]
 simp only[i6,if_false]
 unfold getAttrByItsOwn
 repeat (any_goals (first | assumption | refine wpAny_bind (L0.at ?_) | refine wpAny_bind (L2.at ?_) | wp_step))
 refine xc _ t ?_ _
 show wpAny _ _ (handedOut (.ref D)) _ _ _
 exact handed_on rfl (wpAny_pure h)
structure gB(K:Frag)(C:Addr):Prop where
 cls:(clsIn K C).isSome=true
 ga:findIn K (.ref C) "__getattribute__"=some (some (.builtin "BaseException.__getattribute__"))
 gt:findIn K (.ref C) "__getattr__"=some none
 ca:findIn K (.ref C) "__class__"=some (some (.builtin "object.__class__"))
 hn:specialIn K (.builtin "object.__class__") "__get__"=some (some (.builtin "getset_descriptor.__get__"))
 tk:takesIn K (.builtin "object.__class__")=some true
 mo:mroIn K C (.type "object")=some true
 mb:mroIn K C (.type "BaseException")=some true
noncomputable def jh(a C:Addr)(h:Heap):Prop:=∃o,h.get? a=some o/\o.cls=.ref C/\notCls o=true/\o.dict=none
theorem Fp{K:Frag}{C:Addr}{od:Option Obj}{name:Str}{a g:Value}(hc:(clsIn K C).isSome=true)(ha:findIn K (.ref C) name=some (some a))(hg:specialIn K a "__get__"=some (some g))(ht:takesIn K a=some true):findObj K C od name=some (.bind g a):=by
 obtain⟨cd,hc⟩:=sU.mp hc
 unfold findObj
 rw[hc,MB,ha,MB]
 simp[hg,ht]
theorem Fq{a C:Addr}{h:Heap}(p:jh a C h):∃ox,PySem.W.InstAt h a ox C none:=by
 obtain⟨o,h1,h2,h3,h4⟩:=p
 exact⟨o,h1,h2,h3,by rw[h4];trivial⟩
theorem gB.q8{M:Model}{h:Heap}{C:Addr}(c:gB K C)(X:K.In h):Looks M h (isType (.ref C)) true:=by
 obtain⟨Ra,iy⟩:=sU.mp c.cls
 unfold clsIn at iy
 split at iy
 ·rename_i c' d' Rb tP ho
  intro A' Q' E' s' k q
  unfold isType loadHead
  exact wpAny_bind (wpAny_loadPart (k _ _ (X _ _ ho)) (wpAny_pure q))
 ·cases iy
theorem Fs{a C:Addr}(c:gB K C):KitX K (.ref a) (.ref C) (jh a C) where
 ty:=λ_ _ _ p=>let⟨_,I⟩:=Fq p;I.type
 it:=λ_ _ X _=>c.q8 X
 ne:=λh tp dd its n sl X Rc=>by
  obtain⟨Ra,iy⟩:=sU.mp c.cls
  refine Bool.eq_false_iff.mpr λq=>?_
  have e:C=tp:=Value.ref.inj (beq_iff_eq.mp q)
  subst e
  unfold clsIn at iy
  split at iy
  ·rename_i c' d' Rb tP ho
   have z:=(X _ _ ho).symm.trans Rc
   cases z
  ·cases iy
 ca:=λX p k=>let⟨_,I⟩:=Fq p;Fo X I c.ga c.gt (Fp c.cls c.ca c.hn c.tk) c.mo c.mb k
end
end L2
namespace L2
open PySem PySem.Spec PyProof.Rows
section
variable{X:Cx}{pins:List (Addr × Obj)}{σ:St}{H:Hp}{s:Shared}{h':Heap}{its:List Addr}{T:Addr}{o:HO}{t':Nat}
theorem Inv.wN(I:Inv X pins σ H s)(k:∀b o,b ∉ its->s.heap.get? b=some o->h'.get? b=some o)(hf:∀b∈its,fA X pins H b):Inv X pins σ H { s with heap:=h',toks:=t' }:=by
 have kZ:∀b u,H b=some u->b ∉ its:=λb u e z=>by have:=(hf b z).1;rw[this]at e;cases e
 refine I.step (g':=s.gens) (d':=s.drawn) (ch:=its) (λb hb=>?_) (λb o _ _ hc e _=>k b o hc e) (λb o _ _ hc e _=>⟨o.slots,k b o hc e⟩) (λ_ _ _ _ n=>n)
  (λb o hc e=>⟨o,k b o hc e⟩) (λ_ _ e=>e) (λ_ _ _ e=>e) (λb ps e=>⟨#[],by rw[e];simp⟩) (λm hm=>?_) (λb u e=>?_) I.bare
 ·obtain⟨_,h1,_,h2,h3,h4⟩:=hf b hb
  exact⟨h2,h1,h3,h4⟩
 ·obtain⟨o,es,ep,ho,r⟩:=hm
  exact⟨o,es,ep,k _ o (λz=>(hf _ z).2.1 rfl) ho,r⟩
 ·refine(I.au b u e).eB (λc v hc q=>k c v ?_ q) (λ_ q=>q) (λ_ _ q=>q) λ_ _ q=>q
  rcases hc with z | z
  ·rw[z];exact kZ b u e
  ·exact kZ c _ z
theorem Inv.Ft(I:Inv X pins σ H s)(k:∀b o,b ∉ its->s.heap.get? b=some o->h'.get? b=some o)(hf:∀b∈its,fA X pins H b)(hT:s.heap.objs.size<=T)(new:bq X.prog X.w (upd H T o) h' T o) :
  Inv X pins σ (upd H T o) { s with heap:=h',toks:=t' }:=by
 have kZ:∀b u,H b=some u->b ∉ its:=λb u e z=>by have:=(hf b z).1;rw[this]at e;cases e
 have fT:H T=none:=I.au.fresh hT
 have neT:∀b u,H b=some u->b≠T:=λb u e z=>by rw[z,fT]at e;cases e
 have Rh:∀b u,s.heap.get? b=some u->b≠T:=λb u e z=>absurd (bK (a4 e) hT) (by rw[z];exact fk _)
 refine I.step (g':=s.gens) (d':=s.drawn) (ch:=its) (λb hb=>?_) (λb o _ _ hc e _=>k b o hc e) (λb o _ _ hc e _=>⟨o.slots,k b o hc e⟩) (λb u _ e n=>by rw[ay (Rh b u e)];exact n)
  (λb o hc e=>⟨o,k b o hc e⟩) (λb _ e=>by rw[ay (neT b _ e)];exact e) (λb _ _ e=>by rw[ay (neT b _ e)];exact e) (λb ps e=>⟨#[],by rw[ay (neT b _ e),e];simp⟩) (λm hm=>?_) (λb u e=>?_) I.bare
 ·obtain⟨_,h1,_,h2,h3,h4⟩:=hf b hb
  exact⟨h2,h1,h3,h4⟩
 ·obtain⟨o,es,ep,ho,r⟩:=hm
  exact⟨o,es,ep,k _ o (λz=>(hf _ z).2.1 rfl) ho,r⟩
 ·by_cases hb:b=T
  ·subst hb;rw[a5]at e;cases e;exact new
  ·rw[ay hb]at e
   refine(I.au b u e).eB (λc v hc q=>k c v ?_ q) (λc q=>by rw[ay (neT c _ q)];exact q) (λc _ q=>by rw[ay (neT c _ q)];exact q) λc _ q=>by rw[ay (neT c _ q)];exact q
   rcases hc with z | z
   ·rw[z];exact kZ b u e
   ·exact kZ c _ z
noncomputable def As(K:PySem.W.Frag)(a b:Addr):It :=
 ⟨λi H=>∃xs ys x y,a8 K H a xs/\a8 K H b ys/\xs[i]?=some x/\ys[i]?=some y,
  λi H v H'=>∃T x y,v=.ref T/\H T=none/\H'=upd H T (.tup [x,y])/\(∀xs,a8 K H a xs->xs[i]?=some x)/\∀ys,a8 K H b ys->ys[i]?=some y,
  λi H=>∃xs ys,a8 K H a xs/\a8 K H b ys/\(xs.length<=i\/ys.length<=i)⟩
theorem lu{K:PySem.W.Frag}{a c:Addr}{xs:List V}(hk:X.K=K)(I:Inv X pins σ H s)(h:a8 K H a xs)(hf:fA X pins H c)(ho:∃o,s.heap.get? c=some o/\o.cls≠.type "list"):a≠c:=by
 subst hk
 obtain⟨its,rv,p,hz⟩:=I.list h
 obtain⟨o,e,d⟩:=ho
 obtain⟨o',e',c',_⟩:=p.isList
 intro z
 subst z
 rw[e]at e';cases e'
 exact d c'
theorem Ri{P:Program}{w:World}{K:PySem.W.Frag}{elts:List Expr}{k:Nat}{pos:Pos}(a b z TI TO i1 i2:Addr)(D5:[z,TI,TO,i1,i2].Nodup) :
  Turn P w K (.Tuple elts k pos) (As K a b) [z,TI,TO,i1,i2] z (λi h=>IsZip h z TI TO .none/\IsPair h TI (.ref i1) (.ref i2)/\(∃u v,IsPair h TO u v)/\h.IsListIter i1 a i/\h.IsListIter i2 b i):=by
 have ap:∀(X:Cx) (pins:List (Addr × Obj)) (s:Shared) (σ:St) (H:Hp) (i:Nat) (xs ys:List V),X.K=K->Inv X pins σ H s->(∀b∈[z,TI,TO,i1,i2],fA X pins H b)->IsZip s.heap z TI TO .none->(∃u v,IsPair s.heap TO u v)->s.heap.IsListIter i1 a i->s.heap.IsListIter i2 b i ->
   a8 K H a xs->a8 K H b ys->ZipApart z TI TO i1 i2 a b:=by
  intro X pins s σ H i xs ys hK I hf hz fL h1 h2 hx hy
  simp only[jM,bE,not_or,iq,not_false_eq_true,and_true]at D5
  obtain⟨⟨d1,d2,d3,d4⟩,⟨d5,d6,d7⟩,⟨d8,d9⟩,Rj,_⟩:=D5
  have oz:∃o,s.heap.get? z=some o/\o.cls≠.type "list":=⟨_,hz,by intro q;exact absurd (yY q) (by decide)⟩
  have Fu:∃o,s.heap.get? TO=some o/\o.cls≠.type "list":=by obtain⟨u,v,e⟩:=fL;exact⟨_,e,by intro q;exact absurd (yY q) (by decide)⟩
  have o1:∃o,s.heap.get? i1=some o/\o.cls≠.type "list":=by obtain⟨o,e,c,d⟩:=h1;exact⟨_,e,by rw[c];intro q;exact absurd (yY q) (by decide)⟩
  have o2:∃o,s.heap.get? i2=some o/\o.cls≠.type "list":=by obtain⟨o,e,c,d⟩:=h2;exact⟨_,e,by rw[c];intro q;exact absurd (yY q) (by decide)⟩
  exact⟨cA d1,cA d2,cA d3,cA d4,d5,d6,d7,d8,d9,Rj,
   lu hK I hx (hf z (by simp)) oz,lu hK I hx (hf TO (by simp)) Fu,lu hK I hx (hf i1 (by simp)) o1,lu hK I hx (hf i2 (by simp)) o2,
   lu hK I hy (hf z (by simp)) oz,lu hK I hy (hf TO (by simp)) Fu,lu hK I hy (hf i1 (by simp)) o1,lu hK I hy (hf i2 (by simp)) o2⟩
 refine⟨by simp,λi h st c hc=>?_,λi h h' st kk=>?_,?_,?_,λ_ _ _ _ _ st h=>wpAny_pyIter_zip st.1 h⟩
 ·obtain⟨hz,iC,⟨u,v,fL⟩,⟨o1,e1,c1,d1⟩,⟨o2,e2,c2,d2⟩⟩:=st
  simp only[bE,iq,or_false]at hc
  rcases hc with rfl | rfl | rfl | rfl | rfl
  ·exact⟨_,hz,λv q=>by cases q⟩
  ·exact⟨_,iC,λv q=>by cases q⟩
  ·exact⟨_,fL,λv q=>by cases q⟩
  ·exact⟨_,e1,λv q=>by rw[d1]at q;cases q⟩
  ·exact⟨_,e2,λv q=>by rw[d2]at q;cases q⟩
 ·obtain⟨hz,iC,⟨u,v,fL⟩,h1,h2⟩:=st
  exact⟨kk _ (by simp) _ hz,kk _ (by simp) _ iC,⟨u,v,kk _ (by simp) _ fL⟩,h1.at λo e=>kk _ (by simp) o e,h2.at λo e=>kk _ (by simp) o e⟩
 ·intro X hP hw hK hc i pins s σ H E I hf st hg
  obtain⟨xs,ys,x,y,hx,hy,ex,ey⟩:=hg
  obtain⟨hz,iC,⟨u,v,fL⟩,h1,h2⟩:=st
  have D:=ap X pins s σ H i xs ys hK I hf hz ⟨u,v,fL⟩ h1 h2 hx hy
  subst hP hw hK
  obtain⟨as,ra,pa,_⟩:=I.list hx
  obtain⟨bs,rb,pb,_⟩:=I.list hy
  obtain⟨ux,Au,rx⟩:=ra.get ex
  obtain⟨uy,Rk,ry⟩:=rb.get ey
  refine wpAny_pyNext_zip_item D hz iC fL h1 h2 pa.isList pb.isList (x:=ux) (y:=uy) (by simpa using Au) (by simpa using Rk) λh' z' Rl gy gx T' sz kk=>?_
  have fT:H s.heap.objs.size=none:=I.au.fresh (aZ _)
  have I1:Inv X pins σ (upd H s.heap.objs.size (.tup [x,y])) { s with heap:=h',toks:=s.toks }:=I.Ft (its:=[z,TO,i1,i2]) (λc o hc e=>kk c o (λq=>hc (by simp[q])) (λq=>hc (by simp[q])) (λq=>hc (by simp[q])) (λq=>hc (by simp[q])) e)
   (λc hc=>hf c (by simp only[bE,iq,or_false]at hc ⊢;rcases hc with rfl | rfl | rfl | rfl<;>simp)) (aZ _) ⟨by show 2<=sizeLine;decide,[ux,uy],.cons rx (.cons ry .nil),⟨_,T',rfl,_,rfl⟩⟩
  have nT:∀c∈[z,TI,TO,i1,i2],c≠s.heap.objs.size:=λc hc q=>by
   have:∃o,s.heap.get? c=some o:=by
    simp only[bE,iq,or_false]at hc
    rcases hc with rfl | rfl | rfl | rfl | rfl
    ·exact⟨_,hz⟩
    ·exact⟨_,iC⟩
    ·exact⟨_,fL⟩
    ·obtain⟨o,e,_⟩:=h1;exact⟨o,e⟩
    ·obtain⟨o,e,_⟩:=h2;exact⟨o,e⟩
   obtain⟨o,e⟩:=this
   exact absurd (a4 e) (by rw[q];exact fk _)
  refine⟨_,rfl,wpAny_letOwnedTupleGo_zip z' λAv Aw sb=>?_⟩
  have Ax:∀c∈[z],fA X pins (upd H s.heap.objs.size (.tup [x,y])) c:=λc hc=>by
   have e:c=z:=by simpa using hc
   subst e
   obtain⟨f0,fr⟩:=hf c (by simp)
   exact⟨by rw[ay (nT c (by simp))];exact f0,fr⟩
  have I2:=Inv.wN (h':=Av) (its:=[z]) (t':=s.toks) I1 (λc o hc e=>sb.extBut _ _ (λq=>hc (by simp[q])) e) Ax
  refine⟨.ref s.heap.objs.size,_,I2,rfl,⟨_,x,y,rfl,fT,rfl,λRm dF=>by rw[I.tT dF hx];exact ex,λFv Rn=>by rw[I.tT Rn hy];exact ey⟩,⟨Aw,sb.extBut _ _ D.TIz (kk _ _ D.TIz D.TITO D.TIi1 D.TIi2 iC),⟨ux,uy,sb.extBut _ _ D.TOz Rl⟩,gy.extBut sb.extBut D.i1z,gx.extBut sb.extBut D.i2z⟩,λc hc=>?_⟩
  rw[ay (nT c hc)]
  exact(hf c hc).1
 ·intro X hP hw hK hc i pins s σ H E I hf st hg
  obtain⟨xs,ys,hx,hy,hl⟩:=hg
  obtain⟨hz,iC,⟨u,v,fL⟩,h1,h2⟩:=st
  have D:=ap X pins s σ H i xs ys hK I hf hz ⟨u,v,fL⟩ h1 h2 hx hy
  subst hP hw hK
  obtain⟨as,ra,pa,_⟩:=I.list hx
  obtain⟨bs,rb,pb,_⟩:=I.list hy
  have la:=ra.length
  have lb:=rb.length
  refine wpAny_pyNext_zip_end (I.ok.hd hc) D hz iC fL h1 h2 pa.isList pb.isList (hl.imp (λq=>by simp;omega) λq=>by simp;omega) λh' kk=>⟨rfl,?_⟩
  exact I.wN (its:=[z,TO,i1,i2]) (t':=s.toks) (λc o hc e=>kk c o (λq=>hc (by simp[q])) (λq=>hc (by simp[q])) (λq=>hc (by simp[q])) (λq=>hc (by simp[q])) e)
   (λc hc=>hf c (by simp only[bE,iq,or_false]at hc ⊢;rcases hc with rfl | rfl | rfl | rfl<;>simp))
noncomputable def Ay(K:PySem.W.Frag)(a:Addr):It :=
 ⟨λi H=>∃xs x,a8 K H a xs/\xs[i]?=some x,
  λi H v H'=>∃T x,v=.ref T/\H T=none/\H'=upd H T (.tup [.int i,x])/\∀xs,a8 K H a xs->xs[i]?=some x,
  λi H=>∃xs,a8 K H a xs/\xs.length<=i⟩
theorem Ro{P:Program}{w:World}{K:PySem.W.Frag}{elts:List Expr}{k:Nat}{pos:Pos}(a z it:Addr)(eF:z≠it) :
  Turn P w K (.Tuple elts k pos) (Ay K a) [z,it] z (λi h=>(∃old,IsEnum h z it i old)/\h.IsListIter it a i):=by
 refine⟨by simp,λi h st c hc=>?_,λi h h' st kk=>?_,?_,?_,λ_ _ _ _ _ st h=>by obtain⟨⟨old,e⟩,_⟩:=st;exact wpAny_pyIter_enum e h⟩
 ·obtain⟨⟨old,hz⟩,⟨o1,e1,c1,d1⟩⟩:=st
  simp only[bE,iq,or_false]at hc
  rcases hc with rfl | rfl
  ·exact⟨_,hz,λv q=>by cases q⟩
  ·exact⟨_,e1,λv q=>by rw[d1]at q;cases q⟩
 ·obtain⟨⟨old,hz⟩,h1⟩:=st
  exact⟨⟨old,kk _ (by simp) _ hz⟩,h1.at λo e=>kk _ (by simp) o e⟩
 ·intro X hP hw hK hc i pins s σ H E I hf st hg
  subst hP hw hK
  obtain⟨xs,x,hx,ex⟩:=hg
  obtain⟨⟨old,hz⟩,h1⟩:=st
  obtain⟨as,ra,pa,_⟩:=I.list hx
  obtain⟨ux,Au,rx⟩:=ra.get ex
  refine wpAny_pyNext_enum_item hz h1 pa.isList (x:=ux) (by simpa using Au) eF λh' z' gy T' sz kk=>?_
  have fT:H s.heap.objs.size=none:=I.au.fresh (aZ _)
  have I1:Inv X pins σ (upd H s.heap.objs.size (.tup [.int i,x])) { s with heap:=h',toks:=s.toks+1 }:=I.Ft (its:=[z,it]) (λc o hc e=>kk c o (λq=>hc (by simp[q])) (λq=>hc (by simp[q])) e)
   (λc hc=>hf c hc) (aZ _) ⟨by show 2<=sizeLine;decide,[.int i s.toks,ux],.cons ⟨_,rfl⟩ (.cons rx .nil),⟨_,T',rfl,_,rfl⟩⟩
  have nT:∀c∈[z,it],c≠s.heap.objs.size:=λc hc q=>by
   have:∃o,s.heap.get? c=some o:=by
    simp only[bE,iq,or_false]at hc
    rcases hc with rfl | rfl
    ·exact⟨_,hz⟩
    ·obtain⟨o,e,_⟩:=h1;exact⟨o,e⟩
   obtain⟨o,e⟩:=this
   exact absurd (a4 e) (by rw[q];exact fk _)
  refine⟨_,rfl,wpAny_letOwnedTupleGo_enum z' λAv Aw sb=>?_⟩
  have Ax:∀c∈[z],fA X pins (upd H s.heap.objs.size (.tup [.int i,x])) c:=λc hc=>by
   have e:c=z:=by simpa using hc
   subst e
   obtain⟨f0,fr⟩:=hf c (by simp)
   exact⟨by rw[ay (nT c (by simp))];exact f0,fr⟩
  have I2:=Inv.wN (h':=Av) (its:=[z]) (t':=s.toks+1) I1 (λc o hc e=>sb.extBut _ _ (λq=>hc (by simp[q])) e) Ax
  refine⟨.ref s.heap.objs.size,_,I2,rfl,⟨_,x,rfl,fT,rfl,λRm dF=>by rw[I.tT dF hx];exact ex⟩,⟨⟨ux,by simpa using Aw⟩,gy.extBut sb.extBut (cA eF)⟩,λc hc=>?_⟩
  rw[ay (nT c hc)]
  exact(hf c hc).1
 ·intro X hP hw hK hc i pins s σ H E I hf st hg
  subst hP hw hK
  obtain⟨xs,hx,hl⟩:=hg
  obtain⟨⟨old,hz⟩,h1⟩:=st
  obtain⟨as,ra,pa,_⟩:=I.list hx
  have la:=ra.length
  refine wpAny_pyNext_enum_end (I.ok.hd hc) hz h1 pa.isList (by simp;omega) λh' kk=>⟨rfl,?_⟩
  exact I.wN (its:=[it]) (t':=s.toks) (λc o hc e=>kk c o (λq=>hc (by simp[q])) e) (λc hc=>hf c (by simp at hc ⊢;simp[hc]))
end
section
variable{X:Cx}{a b:Expr}{ta:TA}{p pos gY:Pos}{elts:List Expr}{x1:Nat}
noncomputable def Rp(K:PySem.W.Frag)(ta:TA):TI:=λσ H R=>ta σ H λvs H1=>∃a b,vs=[.ref a,.ref b]/\(∃xs,a8 K H1 a xs)/\(∃ys,a8 K H1 b ys)/\R (As K a b) H1
theorem Rq:bootBuiltins "zip"=some (.type "zip"):=by decide +kernel
theorem Rt(hg:Gl X "zip")(hm:X.mg "zip"=none)(ha:PA X [a,b] ta)(hs:starEach [a,b] X.env=[(false,eval a X.env),(false,eval b X.env)]:=by rfl)(cm:starEach [b] X.env=[(false,eval b X.env)]:=by rfl) :
  PI X (.Tuple elts x1 gY) (.Call (.Name "zip" p) [a,b] [] pos) (Rp X.K ta):=by
 intro pins s σ H R I h
 refine Call_ (je I hg hm Rq (mK (aA (ha pos pins s σ H _ I h) λus s1 zq=>?_) (by rw[hs,cm]) (by rw[cm];rfl)))
 obtain⟨vs,H1,I1,r1,q1⟩:=zq
 obtain⟨a,b,e,⟨xs,hx⟩,⟨ys,hy⟩,q⟩:=q1
 subst e
 cases r1 with
 | cons r rr =>
  cases rr with
  | cons r2 rr =>
   cases rr
   cases r
   cases r2
   obtain⟨as,ra,pa,_⟩:=I1.list hx
   obtain⟨bs,rb,pb,_⟩:=I1.list hy
   refine call_zip_2 pa.isList pb.isList λh' hz iC fL h1 h2 sz kk=>wpAny_pyIter_zip hz ?_
   refine⟨_,[s1.heap.objs.size+4,s1.heap.objs.size+2,s1.heap.objs.size+3,s1.heap.objs.size,s1.heap.objs.size+1],_,_,H1,rfl,I1.kept (t':=s1.toks) kk,Ri a b _ _ _ _ _ (by simp),⟨hz,iC,⟨_,_,fL⟩,h1,h2⟩,λc hc=>?_,q⟩
   have hle:s1.heap.objs.size<=c:=by
    simp only[bE,iq,or_false]at hc
    rcases hc with rfl | rfl | rfl | rfl | rfl<;>omega
   exact I1.tW hle (I1.au.fresh hle)
noncomputable def Ru(K:PySem.W.Frag)(ta:TA):TI:=λσ H R=>ta σ H λvs H1=>∃a,vs=[.ref a]/\(∃xs,a8 K H1 a xs)/\R (Ay K a) H1
theorem Rw:bootBuiltins "enumerate"=some (.type "enumerate"):=by decide +kernel
theorem Rx(hg:Gl X "enumerate")(hm:X.mg "enumerate"=none)(ha:PA X [a] ta)(hs:starEach [a] X.env=[(false,eval a X.env)]:=by rfl) :
  PI X (.Tuple elts x1 gY) (.Call (.Name "enumerate" p) [a] [] pos) (Ru X.K ta):=by
 intro pins s σ H R I h
 refine Call_ (je I hg hm Rw (mK (aA (ha pos pins s σ H _ I h) λus s1 zq=>?_) hs rfl))
 obtain⟨vs,H1,I1,r1,q1⟩:=zq
 obtain⟨a,e,⟨xs,hx⟩,q⟩:=q1
 subst e
 cases r1 with
 | cons r rr =>
  cases rr
  cases r
  obtain⟨as,ra,pa,_⟩:=I1.list hx
  refine call_enumerate_list pa.isList λh' hz h1 sz kk=>wpAny_pyIter_enum hz ?_
  refine⟨_,[s1.heap.objs.size+1,s1.heap.objs.size],_,_,H1,rfl,I1.kept (t':=s1.toks) kk,Ro a (s1.heap.objs.size+1) s1.heap.objs.size (Nat.succ_ne_self _),⟨⟨_,hz⟩,h1⟩,λc hc=>?_,q⟩
  have hle:s1.heap.objs.size<=c:=by
   simp only[bE,iq,or_false]at hc
   rcases hc with rfl | rfl<;>omega
  exact I1.tW hle (I1.au.fresh hle)
end
end L2
namespace L2
open PySem PySem.Spec PyProof.Rows PySem.W PySem.Calls
section
variable{X:Cx}
noncomputable def q9{α:Type}(xs:List α)(lo hi:Option Int):List α:=(xs.drop (HT.bO xs.length 0 lo)).take (HT.bO xs.length xs.length hi-HT.bO xs.length 0 lo)
theorem Ry(x:Str)(lo hi:Option Int):Txt.slice x lo hi=⟨(q9 x.cps.toList lo hi).toArray⟩:=by
 have hx:x.length=x.cps.size:=rfl
 have e:(yZ lo hi 1 x.length).filterMap (x.cps[·]?)=q9 x.cps.toList lo hi:=by
  obtain⟨h1,h2,h3⟩:=zS lo hi x.length
  have e0:yZ lo hi 1 x.length=sliceRange (sliceBounds lo hi none x.length).1 (sliceBounds lo hi none x.length).2.1 1:=by
   cases lo<;>cases hi<;>rfl
  rw[e0,h1,h2]
  simp only[sliceRange_one,pick_run]
  unfold q9
  rw[hx,qA]
 unfold Txt.slice
 split
 ·rename_i h
  have hl:(yZ lo hi 1 x.length).length=x.length:=by
   rw[cJ]at h;exact eq_of_beq h.2
  have hs:(q9 x.cps.toList lo hi)=x.cps.toList:=by
   have e2:HT.bO x.cps.toList.length x.cps.toList.length hi-HT.bO x.cps.toList.length 0 lo=x.length:=by
    obtain⟨h1,h2,h3⟩:=zS lo hi x.length
    have e0:yZ lo hi 1 x.length=sliceRange (sliceBounds lo hi none x.length).1 (sliceBounds lo hi none x.length).2.1 1:=by
     cases lo<;>cases hi<;>rfl
    rw[e0,h1,h2]at hl
    simp only[sliceRange_one,cI,mS]at hl
    rw[qA,<- hx]
    omega
   unfold q9
   have le:HT.bO x.cps.toList.length x.cps.toList.length hi<=x.cps.toList.length:=by
    cases hi with
    | none=>simp[HT.bO]
    | some i=>simp only[HT.bO];split<;>omega
   have Rz:HT.bO x.cps.toList.length 0 lo<=x.cps.toList.length:=by
    cases lo with
    | none=>simp[HT.bO]
    | some i=>simp only[HT.bO];split<;>omega
   rw[qA,<- hx]at e2 le Rz ⊢
   have z:HT.bO x.length 0 lo=0:=by omega
   have z2:HT.bO x.length x.length hi=x.length:=by omega
   rw[z,z2,Dj,y0,hx,<- qA,qH]
  rw[hs]
 ·rw[e]
theorem RA:nF X (λx lo hi H Q=>∃z,x=.str z/\z.length<=sizeLine/\Q (.str ⟨(q9 z.cps.toList lo hi).toArray⟩) H):=by
 intro pins s σ H x v vl vu lo hi sl Q I rx hs pl pu h
 obtain⟨z,rfl,hz,q⟩:=h
 obtain⟨t,rfl⟩:=rx
 refine⟨"str",_,F.slot_str_getitem.lookup,typeIs_str _ _ _,?_⟩
 have fin:∀(l u:Option (Int × Tok)),l.map (·.1)=lo->u.map (·.1)=hi->partValue l=vl->partValue u=vu->wpAny (model X.prog X.w) X.A (getItem (.str z t) (.ref sl)) (EP X pins σ Q) X.xe s:=by
  intro l u h1 h2 h3 h4
  obtain⟨o,e1,e2,e3⟩:=hs
  refine wpAny_getItem_str_slice (l:=l) (u:=u) (st:=none) ⟨o,e1,e2,by rw[e3,h3,h4];rfl⟩ rfl ?_
  have e:Txt.slice z lo hi=(if(((none:Option (Int × Tok)).map (·.1)).getD 1==1&&(slicePicked z l u none).length==z.length)=true then z else⟨((slicePicked z l u none).filterMap (z.cps[·]?)).toArray⟩):=by
   unfold Txt.slice slicePicked;rw[h1,h2];rfl
  refine post_val_or_str ⟨?_,λt' k=>?_⟩
  ·rw[<-e];exact dy (Txt.slice_le z _ _) hz
  ·rw[<-e,Ry];exact⟨.str _,H,I.tok _,⟨_,rfl⟩,q⟩
 cases pl with
 | none =>
  cases pu with
  | none=>exact fin none none rfl rfl rfl rfl
  | int j tj=>exact fin none (some (j,tj)) rfl rfl rfl rfl
 | int i ti =>
  cases pu with
  | none=>exact fin (some (i,ti)) none rfl rfl rfl rfl
  | int j tj=>exact fin (some (i,ti)) (some (j,tj)) rfl rfl rfl rfl
end
end L2
namespace L3
open PySem L2
noncomputable def fM:HO->Bool
 | .bZ _=>false
 | _=>true
structure ae(H H':Hp):Prop where
 get:∀b o,H b=some o->(h:fM o=true:=by rfl)->H' b=some o
 tb:∀b ps,H b=some (.bZ ps)->∃more,H' b=some (.bZ (ps++more))
noncomputable instance {H H':Hp}:CoeFun (ae H H') λ_=>∀b o,H b=some o->(h:fM o=true:=by rfl)->H' b=some o:=⟨λs=>@ae.get _ _ s⟩
theorem Az{o:HO}(h:fM o=false):∃ps,o=.bZ ps:=by
 cases o with
 | bZ ps=>exact⟨ps,rfl⟩
 | _=>cases h
theorem ae.of{H H':Hp}(h:∀b o,H b=some o->H' b=some o):ae H H':=⟨λb o e _=>h b o e,λb ps e=>⟨#[],by rw[h b _ e];simp⟩⟩
theorem ae.refl(H:Hp):ae H H:=.of λ_ _ h=>h
theorem ae.trans{H H1 H2:Hp}(a:ae H H1)(b:ae H1 H2):ae H H2 :=
 ⟨λc o h n=>b.get c o (a.get c o h n) n,λc ps h=>by
  obtain⟨m1,e1⟩:=a.tb c ps h
  obtain⟨m2,e2⟩:=b.tb c _ e1
  exact⟨m1++m2,by rw[e2,vK]⟩⟩
theorem ae.any{H H':Hp}(e:ae H H'){l:Addr}{o:HO}(h:H l=some o):∃o',H' l=some o':=by
 cases n:fM o with
 | true=>exact⟨o,e.get l o h n⟩
 | false =>
  obtain⟨ps,rfl⟩:=Az n
  obtain⟨m,q⟩:=e.tb l ps h
  exact⟨_,q⟩
theorem ae.free{H H':Hp}(e:ae H H'){l:Addr}(h:H' l=Option.none):H l=Option.none:=by
 cases q:H l with
 | none=>rfl
 | some o =>
  obtain⟨o',z⟩:=e.any q
  rw[z]at h
  cases h
inductive j4 where
 | ext (φ:Addr->Heap->Prop)
 | lam (of oc:Obj) (c k:Addr)
 | g6 (C:Addr) (nm:Str) (n:Int)
noncomputable instance:Coe (Addr->Heap->Prop) j4:=⟨.ext⟩
noncomputable def AA(H:Hp)(k:Addr):Prop:=∃ψ,H k=some (.ext ψ)/\∀h,ψ h->∃q,h.CodeRec (.ref k) q
noncomputable def gC(of oc:Obj)(c p:Addr):Heap->Prop:=λh=>h.get? p=some of/\h.get? c=some oc
structure g7(H:Hp)(p:Addr)(of oc:Obj)(c k:Addr):Prop where
 fn:H p=some (.ext (gC of oc c p))
 cell:H c=some (.own p)
 wO:AA H k
noncomputable def lz(a C dx:Addr)(h:Heap):Prop:=∃o,h.get? a=some o/\o.cls=.ref C/\PySem.W.notCls o=true/\o.dict=some dx
noncomputable def gD(nm:Str)(n:Int)(dx:Addr)(h:Heap):Prop:=∃od tk,h.get? dx=some od/\PySem.W.lookIn nm od=some (some (.int n tk))
noncomputable def iD(H:Hp)(p:Addr):j4->Prop
 | .ext φ=>H p=some (.ext (φ p))
 | .lam of oc c k=>g7 H p of oc c k
 | .g6 C nm n=>∃dx,H p=some (.ext (lz p C dx))/\H dx=some (.ext (gD nm n dx))
theorem iD.mono{H H':Hp}{p:Addr}:∀{z:j4},iD H p z->(∀a o,H a=some o->(∀ws,o≠.lst ws)->fM o=true->H' a=some o)->iD H' p z
 | .ext φ,x,k=>k _ _ x (λws q=>by cases q) rfl
 | .lam of oc c k',x,k=>⟨k _ _ x.fn (λws q=>by cases q) rfl,k _ _ x.cell (λws q=>by cases q) rfl,let⟨ψ,e,h⟩:=x.wO;⟨ψ,k _ _ e (λws q=>by cases q) rfl,h⟩⟩
 | .g6 C nm n,⟨dx,x,y⟩,k=>⟨dx,k _ _ x (λws q=>by cases q) rfl,k _ _ y (λws q=>by cases q) rfl⟩
inductive D where
 | ao | bl (b:Bool) | int (i:Int) | str (x:Str)
 | lst (o:Bool) (xs:List D)
 | tup (xs:List D)
 | obj (C:Addr) (ns:List Str) (xs:List D)
 | fz (xs:List D)
 | aS (z:j4)
 deriving Inhabited
noncomputable def D.pl:D->Bool
 | .lst o xs=>!o&&uu xs
 | .tup xs=>uu xs
 | _=>true
where uu:List D->Bool
 | []=>true
 | d::ds=>d.pl&&uu ds
noncomputable def D.fr:D->Bool
 | .lst o xs=>o&&uv xs
 | .tup xs=>uv xs
 | .obj _ _ _=>false
 | .fz _=>false
 | _=>true
where uv:List D->Bool
 | []=>true
 | d::ds=>d.fr&&uv ds
noncomputable def D.sh:D->D
 | .lst _ xs=>.lst false (uw xs)
 | .tup xs=>.tup (uw xs)
 | d=>d
where uw:List D->List D
 | []=>[]
 | d::ds=>d.sh::uw ds
theorem Fw(ds:List D):D.pl.uu ds=ds.all D.pl:=by induction ds with | nil=>rfl | cons d ds ih=>simp[D.pl.uu,ih]
theorem Fx(ds:List D):D.fr.uv ds=ds.all D.fr:=by induction ds with | nil=>rfl | cons d ds ih=>simp[D.fr.uv,ih]
theorem Fy(ds:List D):D.sh.uw ds=ds.map D.sh:=by induction ds with | nil=>rfl | cons d ds ih=>simp[D.sh.uw,ih]
theorem gE(o:Bool)(xs:List D):(D.lst o xs).pl=(!o&&xs.all D.pl):=by simp[D.pl,Fw]
theorem iE(xs:List D):(D.tup xs).pl=xs.all D.pl:=by simp[D.pl,Fw]
theorem fb(o:Bool)(xs:List D):(D.lst o xs).fr=(o&&xs.all D.fr):=by simp[D.fr,Fx]
theorem lC(xs:List D):(D.tup xs).fr=xs.all D.fr:=by simp[D.fr,Fx]
theorem eG(o:Bool)(xs:List D):(D.lst o xs).sh=.lst false (xs.map D.sh):=by simp[D.sh,Fy]
theorem ji(xs:List D):(D.tup xs).sh=.tup (xs.map D.sh):=by simp[D.sh,Fy]
inductive R(F H:Hp):List D->List V->List Addr->Prop
 | nil:R F H [] [] []
 | ao {ds vs B}:R F H ds vs B->R F H (.ao::ds) (.ao::vs) B
 | bl {b ds vs B}:R F H ds vs B->R F H (.bl b::ds) (.bl b::vs) B
 | int {i ds vs B}:R F H ds vs B->R F H (.int i::ds) (.int i::vs) B
 | str {x ds vs B}:R F H ds vs B->R F H (.str x::ds) (.str x::vs) B
 | shr {p ws xs ds vs B}:F p=some (.lst ws)->R F H xs ws []->R F H ds vs B->R F H (.lst false xs::ds) (.ref p::vs) B
 | own {p ws xs A ds vs B}:H p=some (.lst ws)->F p=none->R F H xs ws A->R F H ds vs B->R F H (.lst true xs::ds) (.ref p::vs) (p::(A++B))
 | tup {p ws xs A ds vs B}:H p=some (.tup ws)->R F H xs ws A->R F H ds vs B->R F H (.tup xs::ds) (.ref p::vs) (A++B)
 | obj {p C dx ns ws xs ds vs B}:H p=some (.ins C dx (ns.zip ws))->ns.length=ws.length->R F H xs ws []->R F H ds vs B->R F H (.obj C ns xs::ds) (.ref p::vs) B
 | fz {p o ws xs ds vs B}:F p=some (.bz o (.lst ws))->R F H xs ws []->R F H ds vs B->R F H (.fz xs::ds) (.ref p::vs) B
 | aS {p z ds vs B}:iD H p z->R F H ds vs B->R F H (.aS z::ds) (.ref p::vs) B
inductive S(F H:Hp):List D->List V->Prop
 | nil:S F H [] []
 | ao {ds vs}:S F H ds vs->S F H (.ao::ds) (.ao::vs)
 | bl {b ds vs}:S F H ds vs->S F H (.bl b::ds) (.bl b::vs)
 | int {i ds vs}:S F H ds vs->S F H (.int i::ds) (.int i::vs)
 | str {x ds vs}:S F H ds vs->S F H (.str x::ds) (.str x::vs)
 | shr {p ws xs ds vs}:F p=some (.lst ws)->R F H xs ws []->S F H ds vs->S F H (.lst false xs::ds) (.ref p::vs)
 | own {p ws xs ds vs}:H p=some (.lst ws)->S F H xs ws->S F H ds vs->S F H (.lst true xs::ds) (.ref p::vs)
 | tup {p ws xs ds vs}:H p=some (.tup ws)->S F H xs ws->S F H ds vs->S F H (.tup xs::ds) (.ref p::vs)
 | obj {p C dx ns ws xs ds vs}:H p=some (.ins C dx (ns.zip ws))->ns.length=ws.length->R F H xs ws []->S F H ds vs->S F H (.obj C ns xs::ds) (.ref p::vs)
 | fz {p o ws xs ds vs}:F p=some (.bz o (.lst ws))->R F H xs ws []->S F H ds vs->S F H (.fz xs::ds) (.ref p::vs)
 | aS {p z ds vs}:iD H p z->S F H ds vs->S F H (.aS z::ds) (.ref p::vs)
section
variable{F F' H H':Hp}{d:D}{ds es:List D}{v:V}{vs ws:List V}{A B:List Addr}
theorem R.length(r:R F H ds vs A):ds.length=vs.length:=by
 induction r<;>simp_all
theorem S.length(r:S F H ds vs):ds.length=vs.length:=by
 induction r<;>simp_all
theorem R.iF{vs:List V}{A:List Addr}(r:R F H [] vs A):vs=[]/\A=[]:=by cases r;exact⟨rfl,rfl⟩
noncomputable def Rv(F H:Hp)(ds:List D)(v:V)(vs:List V)(B:List Addr):D->Prop
 | .lst true xs=>∃p ws A B',v=.ref p/\H p=some (.lst ws)/\F p=none/\R F H xs ws A/\R F H ds vs B'/\B=p::(A++B')
 | .tup xs=>∃p ws A B',v=.ref p/\H p=some (.tup ws)/\R F H xs ws A/\R F H ds vs B'/\B=A++B'
 | _=>R F H ds vs B
theorem R.rv{d:D}{ds:List D}{v:V}{vs:List V}{B:List Addr}(r:R F H (d::ds) (v::vs) B):Rv F H ds v vs B d:=by
 cases r with
 | ao q=>exact q
 | bl q=>exact q
 | int q=>exact q
 | str q=>exact q
 | shr _ _ q=>exact q
 | own h f x q=>exact⟨_,_,_,_,rfl,h,f,x,q,rfl⟩
 | tup h x q=>exact⟨_,_,_,_,rfl,h,x,q,rfl⟩
 | obj _ _ _ q=>exact q
 | fz _ _ q=>exact q
 | aS _ q=>exact q
theorem R.cons(r:R F H [d] [v] A)(q:R F H ds vs B):R F H (d::ds) (v::vs) (A++B):=by
 cases r with
 | ao r=>rw[r.iF.2];exact .ao q
 | bl r=>rw[r.iF.2];exact .bl q
 | int r=>rw[r.iF.2];exact .int q
 | str r=>rw[r.iF.2];exact .str q
 | shr h x r=>rw[r.iF.2];exact .shr h x q
 | own h f x r=>rw[r.iF.2,gg];exact R.own h f x q
 | tup h x r=>rw[r.iF.2,gg];exact R.tup h x q
 | obj h l x r=>rw[r.iF.2];exact .obj h l x q
 | fz h x r=>rw[r.iF.2];exact .fz h x q
 | aS h r=>rw[r.iF.2];exact .aS h q
theorem R.bW(r:R F H (d::ds) vs A):∃v bF A1 A2,vs=v::bF/\A=A1++A2/\R F H [d] [v] A1/\R F H ds bF A2:=by
 cases r with
 | ao r=>exact⟨_,_,[],_,rfl,rfl,.ao .nil,r⟩
 | bl r=>exact⟨_,_,[],_,rfl,rfl,.bl .nil,r⟩
 | int r=>exact⟨_,_,[],_,rfl,rfl,.int .nil,r⟩
 | str r=>exact⟨_,_,[],_,rfl,rfl,.str .nil,r⟩
 | shr h x r=>exact⟨_,_,[],_,rfl,rfl,.shr h x .nil,r⟩
 | @own p _ _ A1 _ _ B1 h f x r=>exact⟨_,_,p::A1,B1,rfl,rfl,by simpa using R.own h f x .nil,r⟩
 | @tup p _ _ A1 _ _ B1 h x r=>exact⟨_,_,A1,B1,rfl,rfl,by simpa using R.tup h x .nil,r⟩
 | obj h l x r=>exact⟨_,_,[],_,rfl,rfl,.obj h l x .nil,r⟩
 | fz h x r=>exact⟨_,_,[],_,rfl,rfl,.fz h x .nil,r⟩
 | aS h r=>exact⟨_,_,[],_,rfl,rfl,.aS h .nil,r⟩
theorem S.cons(r:S F H [d] [v])(q:S F H ds vs):S F H (d::ds) (v::vs):=by
 cases r with
 | ao r=>exact .ao q
 | bl r=>exact .bl q
 | int r=>exact .int q
 | str r=>exact .str q
 | shr h x r=>exact .shr h x q
 | own h x r=>exact .own h x q
 | tup h x r=>exact .tup h x q
 | obj h l x r=>exact .obj h l x q
 | fz h x r=>exact .fz h x q
 | aS h r=>exact .aS h q
theorem S.bW(r:S F H (d::ds) vs):∃v bF,vs=v::bF/\S F H [d] [v]/\S F H ds bF:=by
 cases r with
 | ao r=>exact⟨_,_,rfl,.ao .nil,r⟩
 | bl r=>exact⟨_,_,rfl,.bl .nil,r⟩
 | int r=>exact⟨_,_,rfl,.int .nil,r⟩
 | str r=>exact⟨_,_,rfl,.str .nil,r⟩
 | shr h x r=>exact⟨_,_,rfl,.shr h x .nil,r⟩
 | own h x r=>exact⟨_,_,rfl,.own h x .nil,r⟩
 | tup h x r=>exact⟨_,_,rfl,.tup h x .nil,r⟩
 | obj h l x r=>exact⟨_,_,rfl,.obj h l x .nil,r⟩
 | fz h x r=>exact⟨_,_,rfl,.fz h x .nil,r⟩
 | aS h r=>exact⟨_,_,rfl,.aS h .nil,r⟩
theorem R.append:∀{ds:List D} {vs:List V} {A:List Addr},R F H ds vs A->R F H es ws B->R F H (ds++es) (vs++ws) (A++B)
 | [],_,_,r,q=>by cases r;exact q
 | d::ds,_,_,r,q=>by
  obtain⟨v,bF,A1,A2,rfl,rfl,h1,h2⟩:=r.bW
  simpa using h1.cons (R.append h2 q)
theorem S.append:∀{ds:List D} {vs:List V},S F H ds vs->S F H es ws->S F H (ds++es) (vs++ws)
 | [],_,r,q=>by cases r;exact q
 | d::ds,_,r,q=>by
  obtain⟨v,bF,rfl,h1,h2⟩:=r.bW
  exact h1.cons (S.append h2 q)
theorem R.split:∀{ds:List D} {vs:List V} {A:List Addr},R F H (ds++es) vs A->∃v1 v2 A1 A2,vs=v1++v2/\A=A1++A2/\R F H ds v1 A1/\R F H es v2 A2
 | [],vs,A,r=>⟨[],vs,[],A,rfl,rfl,.nil,r⟩
 | d::ds,_,_,r=>by
  obtain⟨v,bF,A1,A2,rfl,rfl,h1,h2⟩:=R.bW (ds:=ds++es) r
  obtain⟨v1,v2,B1,B2,rfl,rfl,h3,h4⟩:=R.split (ds:=ds) h2
  exact⟨v::v1,v2,A1++B1,B2,rfl,by simp,h1.cons h3,h4⟩
theorem R.get:∀{ds:List D} {vs:List V} {A:List Addr} {i:Nat},R F H ds vs A->ds[i]?=some d->∃v A1,vs[i]?=some v/\R F H [d] [v] A1/\A1 ⊆ A
 | [],_,_,_,_,e=>by simp at e
 | d'::ds,_,_,i,r,e=>by
  obtain⟨v,bF,A1,A2,rfl,rfl,h1,h2⟩:=r.bW
  cases i with
  | zero=>simp at e;subst e;exact⟨v,A1,rfl,h1,by simp⟩
  | succ i =>
   obtain⟨w,B1,e2,q,sb⟩:=R.get (ds:=ds) (i:=i) h2 (by simpa using e)
   exact⟨w,B1,by simpa using e2,q,λx hx=>cR _ (sb hx)⟩
theorem S.get:∀{ds:List D} {vs:List V} {i:Nat},S F H ds vs->ds[i]?=some d->∃v,vs[i]?=some v/\S F H [d] [v]
 | [],_,_,_,e=>by simp at e
 | d'::ds,_,i,r,e=>by
  obtain⟨v,bF,rfl,h1,h2⟩:=r.bW
  cases i with
  | zero=>simp at e;subst e;exact⟨v,rfl,h1⟩
  | succ i =>
   obtain⟨w,e2,q⟩:=S.get (ds:=ds) (i:=i) h2 (by simpa using e)
   exact⟨w,by simpa using e2,q⟩
theorem S.get':∀{ds:List D} {vs:List V} {i:Nat},S F H ds vs->vs[i]?=some v->∃d,ds[i]?=some d/\S F H [d] [v]
 | [],_,_,r,e=>by cases r;simp at e
 | d'::ds,_,i,r,e=>by
  obtain⟨v,bF,rfl,h1,h2⟩:=r.bW
  cases i with
  | zero=>simp at e;subst e;exact⟨d',rfl,h1⟩
  | succ i =>
   obtain⟨w,e2,q⟩:=S.get' (ds:=ds) (i:=i) h2 (by simpa using e)
   exact⟨w,by simpa using e2,q⟩
theorem S.take:∀{ds:List D} {vs:List V} (n:Nat),S F H ds vs->S F H (ds.take n) (vs.take n)
 | _,_,0,r=>by simpa using S.nil
 | [],_,n+1,r=>by cases r;exact .nil
 | d::ds,_,n+1,r=>by
  obtain⟨v,bF,rfl,h1,h2⟩:=r.bW
  exact h1.cons (S.take n h2)
theorem S.drop:∀{ds:List D} {vs:List V} (n:Nat),S F H ds vs->S F H (ds.drop n) (vs.drop n)
 | _,_,0,r=>by simpa using r
 | [],_,n+1,r=>by cases r;exact .nil
 | d::ds,_,n+1,r=>by
  obtain⟨v,bF,rfl,h1,h2⟩:=r.bW
  exact S.drop n h2
theorem dY{p:Addr}{o:HO}(h:Rd F p o)(s:ae F F')(n:fM o=true:=by rfl):Rd F' p o:=by
 rcases h with h | ⟨u,h⟩
 ·exact .inl (s.get _ _ h n)
 ·exact .inr ⟨u,s _ _ h⟩
theorem R.s(r:R F H ds vs A):S F H ds vs:=by
 induction r with
 | nil=>exact .nil
 | ao _ ih=>exact .ao ih
 | bl _ ih=>exact .bl ih
 | int _ ih=>exact .int ih
 | str _ ih=>exact .str ih
 | shr h x _ _ ih=>exact .shr h x ih
 | own h f _ _ i1 i2=>exact .own h i1 i2
 | tup h _ _ i1 i2=>exact .tup h i1 i2
 | obj h l x _ _ ih=>exact .obj h l x ih
 | fz h x _ _ ih=>exact .fz h x ih
 | aS h _ ih=>exact .aS h ih
structure eQ(W:List Addr)(H H':Hp):Prop where
 get:∀a o,H a=some o->a ∉ W->(h:fM o=true:=by rfl)->H' a=some o
noncomputable instance {W:List Addr} {H H':Hp}:CoeFun (eQ W H H') λ_=>∀a o,H a=some o->a ∉ W->(h:fM o=true:=by rfl)->H' a=some o:=⟨λs=>@eQ.get _ _ _ s⟩
noncomputable def fN(W:List Addr)(H:Hp):Prop:=∀a∈W,∃ws,H a=some (.lst ws)
theorem R.keep{W:List Addr}(hf:ae F F')(hb:eQ W H H')(hl:fN W H)(r:R F H ds vs A)(hn:∀a∈A,F' a=none)(hd:∀a∈A,a ∉ W):R F' H' ds vs A:=by
 induction r with
 | nil=>exact .nil
 | ao _ ih=>exact .ao (ih hn hd)
 | bl _ ih=>exact .bl (ih hn hd)
 | int _ ih=>exact .int (ih hn hd)
 | str _ ih=>exact .str (ih hn hd)
 | shr h x _ i1 ih=>exact .shr (hf _ _ h) (i1 (by simp) (by simp)) (ih hn hd)
 | own h f _ _ i1 i2 =>
  refine .own (hb _ _ h (hd _ (by simp))) (hn _ (by simp)) (i1 (λa ha=>hn a ?_) λa ha=>hd a ?_) (i2 (λa ha=>hn a ?_) λa ha=>hd a ?_)<;>simp[ha]
 | @tup p ws _ _ _ _ _ h _ _ i1 i2 =>
  refine .tup (hb _ _ h λz=>?_) (i1 (λa ha=>hn a ?_) λa ha=>hd a ?_) (i2 (λa ha=>hn a ?_) λa ha=>hd a ?_)<;>try simp[ha]
  obtain⟨q,e⟩:=hl _ z
  rw[h]at e;cases e
 | obj h l x _ i1 ih =>
  refine .obj (hb _ _ h λz=>?_) l (i1 (by simp) (by simp)) (ih hn hd)
  obtain⟨q,e⟩:=hl _ z
  rw[h]at e;cases e
 | fz h x _ i1 ih=>exact .fz (hf _ _ h) (i1 (by simp) (by simp)) (ih hn hd)
 | aS h _ ih =>
  exact .aS (h.mono λa o e n t=>hb.get a o e (λz=>by
   obtain⟨q,e'⟩:=hl _ z
   rw[e]at e';cases e';exact n _ rfl) t) (ih hn hd)
theorem eQ.same(h:ae H H'):eQ [] H H':=⟨λa o e _ n=>h.get a o e n⟩
theorem fN.nil:fN [] H:=λa h=>absurd h (by simp)
theorem R.grow(hf:ae F F')(hb:ae H H')(r:R F H ds vs A)(hn:∀a∈A,F' a=none):R F' H' ds vs A :=
 r.keep hf (eQ.same hb) fN.nil hn (by simp)
theorem R.shared(hf:ae F F')(hb:ae H H')(r:R F H ds vs []):R F' H' ds vs []:=r.grow hf hb (by simp)
theorem S.mono(hf:ae F F')(hb:ae H H')(r:S F H ds vs):S F' H' ds vs:=by
 induction r with
 | nil=>exact .nil
 | ao _ ih=>exact .ao ih
 | bl _ ih=>exact .bl ih
 | int _ ih=>exact .int ih
 | str _ ih=>exact .str ih
 | shr h x _ ih=>exact .shr (hf _ _ h) (x.shared hf hb) ih
 | own h _ _ i1 i2=>exact .own (hb _ _ h) i1 i2
 | tup h _ _ i1 i2=>exact .tup (hb _ _ h) i1 i2
 | obj h l x _ ih=>exact .obj (hb _ _ h) l (x.shared hf hb) ih
 | fz h x _ ih=>exact .fz (hf _ _ h) (x.shared hf hb) ih
 | aS h _ ih=>exact .aS (h.mono λa o e _ t=>hb.get a o e t) ih
theorem S.r(s:S F H ds vs)(p:ds.all D.pl=true):R F H ds vs []:=by
 induction s with
 | nil=>exact .nil
 | ao _ ih=>exact .ao (ih (by simpa[D.pl]using p))
 | bl _ ih=>exact .bl (ih (by simpa[D.pl]using p))
 | int _ ih=>exact .int (ih (by simpa[D.pl]using p))
 | str _ ih=>exact .str (ih (by simpa[D.pl]using p))
 | shr h x _ ih=>exact .shr h x (ih (by simp[gE]at p;simpa using p.2))
 | own h _ _ i1 i2=>simp[gE]at p
 | tup h _ _ i1 i2 =>
  rw[cZ,iE,cJ]at p
  simpa using R.tup h (i1 p.1) (i2 p.2)
 | obj h l x _ ih=>exact .obj h l x (ih (by simpa[D.pl]using p))
 | fz h x _ ih=>exact .fz h x (ih (by simpa[D.pl]using p))
 | aS h _ ih=>exact .aS h (ih (by simpa[D.pl]using p))
theorem R.pl(r:R F H ds vs []):ds.all D.pl=true:=by
 generalize e:([]:List Addr)=A at r
 induction r with
 | nil=>rfl
 | ao _ ih=>simp[D.pl];simpa using ih e
 | bl _ ih=>simp[D.pl];simpa using ih e
 | int _ ih=>simp[D.pl];simpa using ih e
 | str _ ih=>simp[D.pl];simpa using ih e
 | shr h x _ i1 ih=>simp only[cZ,gE,i1 rfl,ih e];rfl
 | own h f _ _ i1 i2=>cases e
 | tup h _ _ i1 i2 =>
  obtain⟨e1,e2⟩:=y6.mp e.symm
  simp only[cZ,iE,i1 e1.symm,i2 e2.symm];rfl
 | obj h l x _ i1 ih=>simp[D.pl];simpa using ih e
 | fz h x _ i1 ih=>simp[D.pl];simpa using ih e
 | aS h _ ih=>simp[D.pl];simpa using ih e
theorem D.wQ:∀{d:D},d.pl=true->d.sh=d
 | .ao,_=>rfl
 | .bl _,_=>rfl
 | .int _,_=>rfl
 | .str _,_=>rfl
 | .obj _ _ _,_=>rfl
 | .fz _,_=>rfl
 | .aS _,_=>rfl
 | .lst o xs,h=>by
  rw[gE,cJ]at h
  have:∀(l:List D),(∀x∈l,x∈xs)->l.all D.pl=true->l.map D.sh=l:=by
   intro l hl hp
   induction l with
   | nil=>rfl
   | cons x l ih =>
    simp only[cZ,cJ]at hp
    have hx:x∈xs:=hl x (by simp)
    rw[cj,D.wQ hp.1,ih (λy hy=>hl y (by simp[hy])) hp.2]
  rw[eG,this xs (λ_ h=>h) h.2]
  cases o<;>simp_all
 | .tup xs,h=>by
  rw[iE]at h
  have:∀(l:List D),(∀x∈l,x∈xs)->l.all D.pl=true->l.map D.sh=l:=by
   intro l hl hp
   induction l with
   | nil=>rfl
   | cons x l ih =>
    simp only[cZ,cJ]at hp
    have hx:x∈xs:=hl x (by simp)
    rw[cj,D.wQ hp.1,ih (λy hy=>hl y (by simp[hy])) hp.2]
  rw[ji,this xs (λ_ h=>h) h]
termination_by d=>sizeOf d
theorem iG{l:List D}(h:l.all D.pl=true):l.map D.sh=l:=by
 induction l with
 | nil=>rfl
 | cons x l ih =>
  simp only[cZ,cJ]at h
  rw[cj,D.wQ h.1,ih h.2]
theorem S.frozen(e:ae F H)(s:S F H ds vs):R H H (ds.map D.sh) vs []:=by
 induction s with
 | nil=>exact .nil
 | ao _ ih=>exact .ao ih
 | bl _ ih=>exact .bl ih
 | int _ ih=>exact .int ih
 | str _ ih=>exact .str ih
 | shr h x _ ih =>
  rw[cj,eG,iG x.pl]
  exact .shr (e _ _ h) (x.shared e (ae.refl _)) ih
 | own h _ _ i1 i2=>rw[cj,eG];exact .shr h i1 i2
 | tup h _ _ i1 i2=>rw[cj,ji];simpa using R.tup h i1 i2
 | obj h l x _ ih=>exact .obj h l (x.shared e (ae.refl _)) ih
 | fz h x _ ih=>exact .fz (e _ _ h) (x.shared e (ae.refl _)) ih
 | aS h _ ih=>exact .aS h ih
noncomputable def bz(F H:Hp)(A:List Addr):Hp:=λa=>if a∈A then H a else F a
theorem jj(e:ae F H):ae F (bz F H A):=⟨λa o h n=>by unfold bz;split;exact e.get _ _ h n;exact h,λa ps h=>by unfold bz;split;exact e.tb _ _ h;exact⟨#[],by rw[h];simp⟩⟩
theorem Fz(e:ae F H):ae (bz F H A) H:=⟨λa o h n=>by unfold bz at h;split at h;exact h;exact e.get _ _ h n,λa ps h=>by unfold bz at h;split at h;exact⟨#[],by rw[h];simp⟩;exact e.tb _ _ h⟩
theorem wR{a:Addr}(h:a ∉ A):bz F H A a=F a:=by unfold bz;rw[if_neg h]
theorem RB{a:Addr}(h:a∈A):bz F H A a=H a:=by unfold bz;rw[if_pos h]
theorem R.bz(e:ae F H)(r:R F H ds vs A):∀A',A ⊆ A'->R (L3.bz F H A') H (ds.map D.sh) vs []:=by
 induction r with
 | nil=>exact λ_ _=>.nil
 | ao _ ih=>exact λA' h=>.ao (ih A' h)
 | bl _ ih=>exact λA' h=>.bl (ih A' h)
 | int _ ih=>exact λA' h=>.int (ih A' h)
 | str _ ih=>exact λA' h=>.str (ih A' h)
 | shr h x _ i1 ih =>
  intro A' hA
  rw[cj,eG,iG x.pl]
  exact .shr (jj e _ _ h) (x.shared (jj e) (ae.refl _)) (ih A' hA)
 | own h f _ _ i1 i2 =>
  intro A' hA
  rw[cj,eG]
  exact .shr ((RB (hA (by simp))).trans h) (i1 A' λa ha=>hA (by simp[ha])) (i2 A' λa ha=>hA (by simp[ha]))
 | tup h _ _ i1 i2 =>
  intro A' hA
  rw[cj,ji]
  simpa using R.tup h (i1 A' λa ha=>hA (by simp[ha])) (i2 A' λa ha=>hA (by simp[ha]))
 | obj h l x _ i1 ih=>exact λA' hA=>.obj h l (x.shared (jj e) (ae.refl _)) (ih A' hA)
 | fz h x _ i1 ih=>exact λA' hA=>.fz (jj e _ _ h) (x.shared (jj e) (ae.refl _)) (ih A' hA)
 | aS h _ ih=>exact λA' hA=>.aS h (ih A' hA)
theorem R.lists(r:R F H ds vs A):∀a∈A,(∃ws,H a=some (.lst ws))/\F a=none:=by
 induction r with
 | nil=>simp
 | ao _ ih=>exact ih
 | bl _ ih=>exact ih
 | int _ ih=>exact ih
 | str _ ih=>exact ih
 | shr h x _ i1 ih=>exact ih
 | own h f _ _ i1 i2 =>
  intro a ha
  rcases bE.mp ha with rfl | ha
  ·exact⟨⟨_,h⟩,f⟩
  ·exact(cQ.mp ha).elim (i1 a) (i2 a)
 | tup h _ _ i1 i2=>exact λa ha=>(cQ.mp ha).elim (i1 a) (i2 a)
 | obj h l x _ i1 ih=>exact ih
 | fz h x _ i1 ih=>exact ih
 | aS h _ ih=>exact ih
theorem R.wU(r:R F H ds vs A)(hd:ds.all D.fr=true)(e:ae F' F):R F' H ds vs A:=by
 induction r with
 | nil=>exact .nil
 | ao _ ih=>exact .ao (ih (by simpa[D.fr]using hd))
 | bl _ ih=>exact .bl (ih (by simpa[D.fr]using hd))
 | int _ ih=>exact .int (ih (by simpa[D.fr]using hd))
 | str _ ih=>exact .str (ih (by simpa[D.fr]using hd))
 | shr h x _ i1 ih=>simp[fb]at hd
 | own h f _ _ i1 i2 =>
  rw[cZ,fb,cJ,kT]at hd
  exact .own h (e.free f) (i1 hd.1) (i2 hd.2)
 | tup h _ _ i1 i2 =>
  rw[cZ,lC,cJ]at hd
  exact .tup h (i1 hd.1) (i2 hd.2)
 | obj h l x _ i1 ih=>simp[D.fr]at hd
 | fz h x _ i1 ih=>simp[D.fr]at hd
 | aS h _ ih=>exact .aS h (ih (by simpa[D.fr]using hd))
theorem R.inj(r:R F H ds vs A):∀{B:List Addr},R F H ds vs B->A=B:=by
 induction r with
 | nil=>exact λq=>q.iF.2.symm
 | ao _ ih=>exact λq=>ih q.rv
 | bl _ ih=>exact λq=>ih q.rv
 | int _ ih=>exact λq=>ih q.rv
 | str _ ih=>exact λq=>ih q.rv
 | shr h x _ i1 ih=>exact λq=>ih q.rv
 | own h f _ _ i1 i2 =>
  intro B q
  obtain⟨p,ws,A,B',e,h',f',x',q',rfl⟩:=q.rv
  cases e
  rw[h]at h';cases h'
  rw[i1 x',i2 q']
 | tup h _ _ i1 i2 =>
  intro B q
  obtain⟨p,ws,A,B',e,h',x',q',rfl⟩:=q.rv
  cases e
  rw[h]at h';cases h'
  rw[i1 x',i2 q']
 | obj h l x _ i1 ih=>exact λq=>ih q.rv
 | fz h x _ i1 ih=>exact λq=>ih q.rv
 | aS h _ ih=>exact λq=>ih q.rv
theorem R.perm{ps qs:List (D × V)}(hp:ps.Perm qs):∀{A:List Addr},R F H (ps.map (·.1)) (ps.map (·.2)) A->∃A',R F H (qs.map (·.1)) (qs.map (·.2)) A'/\A.Perm A':=by
 induction hp with
 | nil=>exact λr=>⟨_,r,.refl _⟩
 | cons x _ ih =>
  intro A r
  obtain⟨v,bF,A1,A2,e,rfl,h1,h2⟩:=R.bW r
  obtain⟨rfl,rfl⟩:=jQ e
  obtain⟨A',r',p⟩:=ih h2
  exact⟨A1++A',h1.cons r',p.append_left _⟩
 | swap x y l =>
  intro A r
  obtain⟨v,bF,A1,A2,e,rfl,h1,h2⟩:=R.bW r
  obtain⟨rfl,rfl⟩:=jQ e
  obtain⟨v2,FA,B1,B2,e,rfl,h3,h4⟩:=R.bW h2
  obtain⟨rfl,rfl⟩:=jQ e
  exact⟨B1++(A1++B2),h3.cons (h1.cons h4),by rw[<-cT,<- cT];exact jR.append_right _⟩
 | trans _ _ i1 i2 =>
  intro A r
  obtain⟨A',r',p⟩:=i1 r
  obtain⟨A2,r2,p2⟩:=i2 r'
  exact⟨A2,r2,p.trans p2⟩
noncomputable def Full(F H:Hp):Prop:=∀a o,H a=some o->(∀ws,o≠.lst ws)->F a=some o
theorem Full.refl(H:Hp):Full H H:=λ_ _ h _=>h
theorem R.full(hF:Full F H)(hs:ae F H')(r:R F H ds vs A)(e:A=[]):R F H' ds vs []:=by
 induction r with
 | nil=>exact .nil
 | ao _ ih=>exact .ao (ih e)
 | bl _ ih=>exact .bl (ih e)
 | int _ ih=>exact .int (ih e)
 | str _ ih=>exact .str (ih e)
 | shr h x _ i1 ih=>exact .shr h (i1 rfl) (ih e)
 | own h f _ _ i1 i2=>cases e
 | tup h _ _ i1 i2 =>
  obtain⟨e1,e2⟩:=y6.mp e
  exact R.tup (A:=[]) (B:=[]) (hs _ _ (hF _ _ h (by intro ws z;cases z))) (i1 e1) (i2 e2)
 | obj h l x _ i1 ih=>exact .obj (hs _ _ (hF _ _ h (by intro ws z;cases z))) l (i1 rfl) (ih e)
 | fz h x _ i1 ih=>exact .fz h (i1 rfl) (ih e)
 | aS h _ ih=>exact .aS (h.mono λa o e n t=>hs.get a o (hF a o e n) t) (ih e)
open Classical in
noncomputable def snap(F H:Hp):Hp:=λa=>if(∃o,H a=some o/\∀ws,o≠.lst ws)then H a else F a
theorem nQ:Full (snap F H) H:=λa o h n=>by unfold snap;rw[if_pos ⟨o,h,n⟩];exact h
theorem lD(e:ae F H):ae F (snap F H):=⟨λa o h n=>by
 unfold snap;split
 ·exact e.get a o h n
 ·exact h,λa ps h=>by
 unfold snap;split
 ·exact e.tb a ps h
 ·exact⟨#[],by rw[h];simp⟩⟩
theorem RC(e:ae F H):ae (snap F H) H:=⟨λa o h n=>by
 unfold snap at h;split at h
 ·exact h
 ·exact e.get a o h n,λa ps h=>by
 unfold snap at h;split at h
 ·exact⟨#[],by rw[h];simp⟩
 ·exact e.tb a ps h⟩
theorem RD(e:ae F H){a:Addr}{ws:List V}(h:snap F H a=some (.lst ws)):F a=some (.lst ws):=by
 unfold snap at h;split at h
 ·rename_i z
  obtain⟨o,h1,h2⟩:=z
  rw[h]at h1;exact absurd (bS h1).symm (h2 ws)
 ·exact h
theorem RE{a:Addr}{ws:List V}(h:H a=some (.lst ws))(n:F a=none):snap F H a=none:=by
 unfold snap;split
 ·rename_i z
  obtain⟨o,h1,h2⟩:=z
  rw[h]at h1;exact absurd (bS h1).symm (h2 ws)
 ·exact n
end
end L3
namespace L3
open PySem L2
noncomputable abbrev Dl:=List (Option D)
inductive RS(F H:Hp):Dl->St->List Addr->Prop
 | nil:RS F H [] [] []
 | ao {δ σ o C}:RS F H δ σ C->RS F H (none::δ) (o::σ) C
 | dN {d v A δ σ C}:R F H [d] [v] A->RS F H δ σ C->RS F H (some d::δ) (some v::σ) (A++C)
theorem eI{A B:List Addr}:(A++B).Nodup↔A.Nodup/\B.Nodup/\∀a∈A,a ∉ B:=by
 rw[List.nodup_append]
 constructor
 ·rintro⟨h1,h2,h3⟩;exact⟨h1,h2,λa ha hb=>h3 a ha a hb rfl⟩
 ·rintro⟨h1,h2,h3⟩;exact⟨h1,h2,λa ha b hb e=>h3 a ha (e ▸ hb)⟩
section
variable{F F' H H':Hp}{d:D}{v:V}{δ:Dl}{σ:St}{A C:List Addr}{i:Nat}
theorem RS.length(r:RS F H δ σ C):δ.length=σ.length:=by induction r<;>simp_all
theorem RS.pick:∀{δ:Dl} {σ:St} {C:List Addr} {i:Nat},RS F H δ σ C->δ[i]?=some (some d)->∃v A C',σ[i]?=some (some v)/\R F H [d] [v] A/\RS F H (δ.set i none) σ C'/\C.Perm (A++C')
 | _,_,_,_,.nil,e=>by simp at e
 | _,_,_,i,.ao r,e=>by
  cases i with
  | zero=>simp at e
  | succ i =>
   obtain⟨v,A,C',e1,h1,h2,p⟩:=RS.pick r (by simpa using e)
   exact⟨v,A,C',by simpa using e1,h1,.ao h2,p⟩
 | _,_,_,i,.dN (A:=A0) (C:=C0) h r,e=>by
  cases i with
  | zero =>
   simp at e;subst e
   exact⟨_,A0,C0,rfl,h,.ao r,.refl _⟩
  | succ i =>
   obtain⟨v,A,C',e1,h1,h2,p⟩:=RS.pick r (by simpa using e)
   refine⟨v,A,A0++C',by simpa using e1,h1,.dN h h2,(p.append_left A0).trans ?_⟩
   rw[<-cT,<- cT]
   exact jR.append_right _
theorem RS.fill:∀{δ:Dl} {σ:St} {C:List Addr} {i:Nat},RS F H δ σ C->δ[i]?=some none->σ[i]?=some (some v)->R F H [d] [v] A->∃C',RS F H (δ.set i (some d)) σ C'/\C'.Perm (A++C)
 | _,_,_,_,.nil,e,_,_=>by simp at e
 | _,_,_,i,.ao r,e,e2,h=>by
  cases i with
  | zero=>simp at e2;subst e2;exact⟨_,.dN h r,.refl _⟩
  | succ i =>
   obtain⟨C',h1,p⟩:=RS.fill r (by simpa using e) (by simpa using e2) h
   exact⟨C',.ao h1,p⟩
 | _,_,_,i,.dN (A:=A0) (C:=C0) h0 r,e,e2,h=>by
  cases i with
  | zero=>simp at e
  | succ i =>
   obtain⟨C',h1,p⟩:=RS.fill r (by simpa using e) (by simpa using e2) h
   refine⟨A0++C',.dN h0 h1,(p.append_left A0).trans ?_⟩
   rw[<-cT,<- cT]
   exact jR.append_right _
theorem RS.drop:∀{δ:Dl} {σ:St} {C:List Addr} (i:Nat),RS F H δ σ C->∃C',RS F H (δ.set i none) σ C'/\C'.Sublist C
 | _,_,_,_,.nil=>⟨_,.nil,.refl _⟩
 | _,_,_,i,.ao r=>by
  cases i with
  | zero=>exact⟨_,.ao r,.refl _⟩
  | succ i=>obtain⟨C',h,s⟩:=RS.drop i r;exact⟨C',.ao h,s⟩
 | _,_,_,i,.dN (A:=A0) h0 r=>by
  cases i with
  | zero=>exact⟨_,.ao r,List.sublist_append_right _ _⟩
  | succ i=>obtain⟨C',h,s⟩:=RS.drop i r;exact⟨_,.dN h0 h,(Dk A0).append s⟩
theorem RS.nR:∀{δ:Dl} {σ:St} {C:List Addr} {i:Nat} (o:Option V),RS F H δ σ C->(δ[i]?=some none\/δ[i]?=none)->RS F H δ (σ.set i o) C
 | _,_,_,_,_,.nil,_=>.nil
 | _,_,_,i,_,.ao r,e=>by
  cases i with
  | zero=>exact .ao r
  | succ i=>exact .ao (RS.nR _ r (by simpa using e))
 | _,_,_,i,_,.dN h0 r,e=>by
  cases i with
  | zero=>simp at e
  | succ i=>exact .dN h0 (RS.nR _ r (by simpa using e))
theorem RS.keep{W:List Addr}(hf:ae F F')(hb:eQ W H H')(hl:fN W H)(r:RS F H δ σ C)(hn:∀a∈C,F' a=none)(hd:∀a∈C,a ∉ W):RS F' H' δ σ C:=by
 induction r with
 | nil=>exact .nil
 | ao _ ih=>exact .ao (ih hn hd)
 | dN h _ ih=>exact .dN (h.keep hf hb hl (λa ha=>hn a (by simp[ha])) λa ha=>hd a (by simp[ha])) (ih (λa ha=>hn a (by simp[ha])) λa ha=>hd a (by simp[ha]))
theorem RS.lists(r:RS F H δ σ C):∀a∈C,(∃ws,H a=some (.lst ws))/\F a=none:=by
 induction r with
 | nil=>simp
 | ao _ ih=>exact ih
 | dN h _ ih=>exact λa ha=>(cQ.mp ha).elim (h.lists a) (ih a)
end
structure Bs where
 H0:Hp
 F0:Hp
inductive RF(H0 F H:Hp)(σ:St)(δ:Dl)(ts:List (D × V)):Prop
 | mk (A C) (r:R F H (ts.map (·.1)) (ts.map (·.2)) A) (s:RS F H δ σ C) (nd:(A++C).Nodup) (fr:∀a∈A++C,H0 a=none)
structure ai(B:Bs)(F H:Hp)(σ:St)(δ:Dl)(ts:List (D × V)):Prop where
 ext:ae F H
 b1:ae B.H0 H
 b2:ae B.F0 F
 b3:∀a ws,F a=some (.lst ws)->B.F0 a=some (.lst ws)\/B.H0 a=none
 own:RF B.H0 F H σ δ ts
section
variable{B:Bs}{F F' H H':Hp}{d:D}{v:V}{δ:Dl}{σ:St}{ts ps:List (D × V)}{A C W:List Addr}{i:Nat}{p:Addr}{xs ys:List D}{vs ws:List V}
theorem ai.look(c:ai B F H σ δ ts)(e:δ[i]?=some (some d)):∃v,σ[i]?=some (some v)/\S F H [d] [v]:=by
 obtain⟨A,C,r,s,nd,fr⟩:=c.own
 obtain⟨v,A',C',e1,h1,h2,p⟩:=s.pick e
 exact⟨v,e1,h1.s⟩
theorem ai.len(c:ai B F H σ δ ts):δ.length=σ.length:=let⟨_,_,_,s,_,_⟩:=c.own;s.length
theorem ai.grow(c:ai B F H σ δ ts)(h:ae H H'):ai B F H' σ δ ts:=by
 obtain⟨A,C,r,s,nd,fr⟩:=c.own
 exact⟨c.ext.trans h,c.b1.trans h,c.b2,c.b3,A,C,r.grow (ae.refl _) h λa ha=>(r.lists a ha).2,s.keep (ae.refl _) (eQ.same h) fN.nil (λa ha=>(s.lists a ha).2) (by simp),nd,fr⟩
theorem ai.pop(c:ai B F H σ δ ((d,v)::ts)):ai B F H σ δ ts:=by
 obtain⟨A,C,r,s,nd,fr⟩:=c.own
 obtain⟨w,bF,A1,A2,e,rfl,h1,h2⟩:=R.bW r
 obtain⟨rfl,rfl⟩:=jQ e
 refine⟨c.ext,c.b1,c.b2,c.b3,A2,C,h2,s,?_,λa ha=>fr a (by simp at ha ⊢;exact .inr ha)⟩
 rw[cT]at nd
 exact(eI.mp nd).2.1
theorem ai.top(c:ai B F H σ δ ((d,v)::ts)):S F H [d] [v]:=by
 obtain⟨A,C,r,s,nd,fr⟩:=c.own
 obtain⟨w,bF,A1,A2,e,rfl,h1,h2⟩:=R.bW r
 obtain⟨rfl,rfl⟩:=jQ e
 exact h1.s
theorem ai.pushS(c:ai B F H σ δ ts)(s:S F H [d] [v])(pl:d.pl=true):ai B F H σ δ ((d,v)::ts):=by
 obtain⟨A,C,r,q,nd,fr⟩:=c.own
 exact⟨c.ext,c.b1,c.b2,c.b3,A,C,(s.r (by simp[pl])).cons r,q,nd,fr⟩
theorem ae.upd{o:HO}(h:H p=none):ae H (upd H p o):=.of λb u e=>by rw[ay (cq e h)];exact e
theorem ai.pack(c:ai B F H σ δ (ps++ts))(hs:ae H H')(k:∀A1,R F H' (ps.map (·.1)) (ps.map (·.2)) A1->A1.Nodup->∃A',R F H' [d] [v] A'/\A'.Nodup/\∀a∈A',a∈A1\/H a=none):ai B F H' σ δ ((d,v)::ts):=by
 obtain⟨A,C,r,s,nd,fr⟩:=c.own
 rw[eZ,eZ]at r
 obtain⟨v1,v2,A1,A2,e,rfl,h1,h2⟩:=R.split r
 have l1:(ps.map (·.2)).length=v1.length:=by rw[<-h1.length];simp
 obtain⟨rfl,rfl⟩:=y7 e l1
 rw[cT]at nd fr
 obtain⟨n1,n2,n3⟩:=eI.mp nd
 have g1:=h1.grow (ae.refl F) hs λa ha=>(h1.lists a ha).2
 have g2:=h2.grow (ae.refl F) hs λa ha=>(h2.lists a ha).2
 have gs:=s.keep (ae.refl F) (eQ.same hs) fN.nil (λa ha=>(s.lists a ha).2) (by simp)
 obtain⟨A',r',uz,sub⟩:=k A1 g1 n1
 refine⟨c.ext.trans hs,c.b1.trans hs,c.b2,c.b3,A'++A2,C,r'.cons g2,gs,?_,?_⟩
 ·rw[cT]
  refine eI.mpr ⟨uz,n2,λa ha hb=>?_⟩
  rcases sub a ha with z | z
  ·exact n3 a z hb
  ·rcases cQ.mp hb with y | y
   ·obtain⟨⟨_,q⟩,_⟩:=h2.lists a y;rw[z]at q;cases q
   ·obtain⟨⟨_,q⟩,_⟩:=s.lists a y;rw[z]at q;cases q
 ·intro a ha
  rw[cT]at ha
  rcases cQ.mp ha with y | y
  ·rcases sub a y with z | z
   ·exact fr a (by simp[z])
   ·exact c.b1.free z
  ·exact fr a (cR _ y)
theorem ai.wV(c:ai B F H σ δ ts)(hs:ae H H')(r:R F H' [d] [v] A)(nd:A.Nodup)(fr:∀a∈A,H a=none):ai B F H' σ δ ((d,v)::ts) :=
 ai.pack (ps:=[]) c hs λ_ _ _=>⟨A,r,nd,λa ha=>.inr (fr a ha)⟩
theorem ai.j5(c:ai B F H σ δ ts)(hp:H p=none)(s:S F H xs vs)(pl:xs.all D.pl=true):ai B F (upd H p (.lst vs)) σ δ ((.lst true xs,.ref p)::ts) :=
 c.wV (ae.upd hp) (A:=[p]) (by simpa using R.own a5 (c.ext.free hp) ((s.r pl).shared (ae.refl _) (ae.upd hp)) .nil) (by simp) (by simp[hp])
theorem ai.RG(c:ai B F H σ δ (ps++ts))(hp:H p=none):ai B F (upd H p (.lst (ps.map (·.2)))) σ δ ((.lst true (ps.map (·.1)),.ref p)::ts):=by
 refine c.pack (ae.upd hp) λA1 r nd=>⟨p::A1,by simpa using R.own a5 (c.ext.free hp) r .nil,jM.mpr ⟨λh=>?_,nd⟩,λa ha=>?_⟩
 ·obtain⟨A,C,r0,_,_,_⟩:=c.own
  rw[eZ,eZ]at r0
  obtain⟨v1,v2,B1,B2,e,rfl,h1,h2⟩:=R.split r0
  have l1:(ps.map (·.2)).length=v1.length:=by rw[<-h1.length];simp
  obtain⟨rfl,rfl⟩:=y7 e l1
  have g1:=h1.grow (ae.refl F) (ae.upd (o:=.lst (ps.map (·.2))) hp) λa ha=>(h1.lists a ha).2
  have:A1=B1:=R.inj r g1
  subst this
  obtain⟨⟨_,q⟩,_⟩:=h1.lists p h
  rw[hp]at q;cases q
 ·rcases bE.mp ha with rfl | h
  ·exact .inr hp
  ·exact .inl h
theorem ai.RH(c:ai B F H σ δ (ps++ts))(hp:H p=none):ai B F (upd H p (.tup (ps.map (·.2)))) σ δ ((.tup (ps.map (·.1)),.ref p)::ts) :=
 c.pack (ae.upd hp) λA1 r nd=>⟨A1,by simpa using R.tup (F:=F) a5 r .nil,nd,λa ha=>.inl ha⟩
theorem ai.perm(c:ai B F H σ δ ps)(h:ps.Perm ts):ai B F H σ δ ts:=by
 obtain⟨A,C,r,s,nd,fr⟩:=c.own
 obtain⟨A',r',p⟩:=r.perm h
 have pp:=p.append_right C
 exact⟨c.ext,c.b1,c.b2,c.b3,A',C,r',s,pp.nodup_iff.mp nd,λa ha=>fr a (pp.mem_iff.mpr ha)⟩
theorem ai.move(c:ai B F H σ δ ts)(e:δ[i]?=some (some d)):∃v,σ[i]?=some (some v)/\ai B F H σ (δ.set i none) ((d,v)::ts):=by
 obtain⟨A,C,r,s,nd,fr⟩:=c.own
 obtain⟨v,A',C',e1,h1,h2,p⟩:=s.pick e
 have pp:(A++C).Perm ((A'++A)++C'):=by
  refine(p.append_left A).trans ?_
  rw[<-cT]
  exact jR.append_right _
 exact⟨v,e1,c.ext,c.b1,c.b2,c.b3,A'++A,C',h1.cons r,h2,pp.nodup_iff.mp nd,λa ha=>fr a (pp.mem_iff.mpr ha)⟩
theorem ai.forget(c:ai B F H σ δ ts)(i:Nat):ai B F H σ (δ.set i none) ts:=by
 obtain⟨A,C,r,s,nd,fr⟩:=c.own
 obtain⟨C',h,sb⟩:=s.drop i
 exact⟨c.ext,c.b1,c.b2,c.b3,A,C',r,h,nd.sublist ((Dk A).append sb),λa ha=>fr a (((Dk A).append sb).subset ha)⟩
theorem ai.fill(c:ai B F H σ δ ((d,v)::ts))(e:δ[i]?=some none)(e2:σ[i]?=some (some v)):ai B F H σ (δ.set i (some d)) ts:=by
 obtain⟨A,C,r,s,nd,fr⟩:=c.own
 obtain⟨w,bF,A1,A2,e',rfl,h1,h2⟩:=R.bW r
 obtain⟨rfl,rfl⟩:=jQ e'
 obtain⟨C',s',p⟩:=s.fill e e2 h1
 have pp:((A1++A2)++C).Perm (A2++C'):=by
  refine((jR (l₁:=A1) (l₂:=A2)).append_right C).trans ?_
  rw[cT]
  exact(p.symm).append_left A2
 exact⟨c.ext,c.b1,c.b2,c.b3,A2,C',h2,s',pp.nodup_iff.mp nd,λa ha=>fr a (pp.mem_iff.mpr ha)⟩
theorem ai.nR(c:ai B F H σ δ ts)(o:Option V)(e:δ[i]?=some none\/δ[i]?=none):ai B F H (σ.set i o) δ ts:=by
 obtain⟨A,C,r,s,nd,fr⟩:=c.own
 exact⟨c.ext,c.b1,c.b2,c.b3,A,C,r,s.nR o e,nd,fr⟩
theorem ai.store(c:ai B F H σ δ ((d,v)::ts))(i:Nat):ai B F H (σ.set i (some v)) (δ.set i (some d)) ts:=by
 by_cases hi:i<δ.length
 ·have c1:=c.forget i
  have hs:i<σ.length:=by rw[<-c.len];exact hi
  have e:(δ.set i none)[i]?=some none:=by simp[hi]
  have c2:=(c1.nR (some v) (.inl e)).fill (i:=i) e (by simp[hs])
  rwa [List.set_set]at c2
 ·have hs:¬ i<σ.length:=by rw[<-c.len];exact hi
  rw[MC (by omega),MC (by omega)]
  exact c.pop
theorem ai.mut(c:ai B F H σ δ (ps++ts))(e:δ[i]?=some (some (.lst true xs)))(e2:σ[i]?=some (some (.ref p)))
  (k:∀ws A1 A2,H p=some (.lst ws)->R F H xs ws A1->R F H (ps.map (·.1)) (ps.map (·.2)) A2->(A1++A2).Nodup->∃A',R F H ys vs A'/\A'.Nodup/\∀a∈A',a∈A1++A2) :
  ai B F (upd H p (.lst vs)) σ (δ.set i (some (.lst true ys))) ts:=by
 have hi:i<δ.length:=(gb.mp e).1
 obtain⟨v,e3,c1⟩:=c.move e
 rw[e2]at e3;cases e3
 obtain⟨A,C,r,s,nd,fr⟩:=c1.own
 have r':R F H (([.lst true xs]++ps.map (·.1))++ts.map (·.1)) ((.ref p::ps.map (·.2))++ts.map (·.2)) A:=by simpa using r
 obtain⟨v1,v2,A1,A2,e4,rfl,h1,h2⟩:=R.split r'
 have l1:(V.ref p::ps.map (·.2)).length=v1.length:=by rw[<-h1.length];simp
 obtain⟨rfl,rfl⟩:=y7 e4 l1
 obtain⟨p',wW,B1,B2,ep,hH,hF,hx,hr,rfl⟩:=h1.rv
 cases ep
 ·skip
  rw[cT]at nd fr
  obtain⟨n1,n2,n3⟩:=eI.mp nd
  obtain⟨m1,m2⟩:=jM.mp n1
  obtain⟨A',ra,RI,sub⟩:=k wW B1 B2 hH hx hr m2
  have pA:p ∉ A':=λz=>m1 (sub _ z)
  have pR:p ∉ A2++C:=λz=>n3 p (by simp) z
  have but:eQ [p] H (upd H p (.lst vs)):=⟨λa o q z _=>by rw[ay (by simpa using z)];exact q⟩
  have hl:fN [p] H:=λa ha=>by rw[il.mp ha];exact⟨_,hH⟩
  have g1:=ra.keep (ae.refl F) but hl (λa ha=>(ra.lists a ha).2) λa ha z=>pA (by rw[<-il.mp z];exact ha)
  have g2:=h2.keep (ae.refl F) but hl (λa ha=>(h2.lists a ha).2) λa ha z=>pR (by rw[<-il.mp z];exact dz _ ha)
  have gs:=s.keep (ae.refl F) but hl (λa ha=>(s.lists a ha).2) λa ha z=>pR (by rw[<-il.mp z];exact cR _ ha)
  have fp:B.H0 p=none:=fr p (by simp)
  have b1:ae B.H0 (upd H p (.lst vs)):=⟨λa o q n=>by
   rw[ay (λz=>by rw[z,fp]at q;cases q)]
   exact c1.b1.get a o q n,λa ps q=>by
   rw[ay (λz=>by rw[z,fp]at q;cases q)]
   exact c1.b1.tb a ps q⟩
  have ext:ae F (upd H p (.lst vs)):=⟨λa o q n=>by
   rw[ay (λz=>by rw[z,hF]at q;cases q)]
   exact c1.ext.get a o q n,λa ps q=>by
   rw[ay (λz=>by rw[z,hF]at q;cases q)]
   exact c1.ext.tb a ps q⟩
  have c2:ai B F (upd H p (.lst vs)) σ (δ.set i none) ((.lst true ys,.ref p)::ts):=by
   refine⟨ext,b1,c1.b2,c1.b3,(p::A')++A2,C,R.cons (by simpa using R.own a5 hF g1 .nil) g2,gs,?_,?_⟩
   ·rw[cT]
    refine eI.mpr ⟨jM.mpr ⟨pA,RI⟩,n2,λa ha hb=>?_⟩
    rcases bE.mp ha with rfl | ha
    ·exact pR hb
    ·exact n3 a (ig _ (sub a ha)) hb
   ·intro a ha
    rw[cT]at ha
    rcases cQ.mp ha with z | z
    ·rcases bE.mp z with rfl | z
     ·exact fp
     ·exact fr a (dz _ (ig _ (sub a z)))
    ·exact fr a (cR _ z)
  have c3:=c2.fill (i:=i) (by simp[hi]) e2
  rwa [List.set_set]at c3
theorem ai.RJ(c:ai B F H σ δ ((d,v)::ts)):∃F',ae F F'/\ai B F' H σ δ ((d.sh,v)::ts):=by
 obtain⟨A,C,r,s,nd,fr⟩:=c.own
 obtain⟨w,bF,A1,A2,e',rfl,h1,h2⟩:=R.bW r
 obtain⟨rfl,rfl⟩:=jQ e'
 rw[cT]at nd fr
 obtain⟨n1,n2,n3⟩:=eI.mp nd
 have out:∀a∈A2++C,bz F H A1 a=F a:=λa ha=>wR λz=>n3 a z ha
 have b3:∀a o,bz F H A1 a=some (.lst o)->B.F0 a=some (.lst o)\/B.H0 a=none:=λa o q=>by
  by_cases z:a∈A1
  ·exact .inr (fr a (dz _ z))
  ·rw[wR z]at q;exact c.b3 a o q
 refine⟨bz F H A1,jj c.ext,Fz c.ext,c.b1,c.b2.trans (jj c.ext),b3,A2,C,?_,?_,n2,λa ha=>fr a (cR _ ha)⟩
 ·have g1:=h1.bz c.ext A1 (λ_ h=>h)
  exact R.cons (A:=[]) g1 (h2.keep (jj c.ext) (eQ.same (ae.refl H)) fN.nil (λa ha=>by rw[out a (dz _ ha)];exact(h2.lists a ha).2) (by simp))
 ·exact s.keep (jj c.ext) (eQ.same (ae.refl H)) fN.nil (λa ha=>by rw[out a (cR _ ha)];exact(s.lists a ha).2) (by simp)
theorem ai.rebase(c:ai B F H σ δ ts):ai ⟨B.H0,F⟩ F H σ δ ts:=⟨c.ext,c.b1,ae.refl _,λ_ _ q=>.inl q,c.own⟩
theorem ai.FC{F1:Hp}(c:ai ⟨B.H0,F1⟩ F H σ δ ts)(h:ae B.F0 F1)(h3:∀a ws,F1 a=some (.lst ws)->B.F0 a=some (.lst ws)\/B.H0 a=none):ai B F H σ δ ts :=
 ⟨c.ext,c.b1,h.trans c.b2,λa o q=>(c.b3 a o q).elim (h3 a o) .inr,c.own⟩
theorem ai.call(c:ai B F H σ δ ts)(hs:ae H H')(hf:ae F F')(he:ae F' H')(h3:∀a ws,F' a=some (.lst ws)->F a=some (.lst ws)\/H a=none)(r:R F' H' [d] [v] A)(nd:A.Nodup)(fr:∀a∈A,H a=none) :
  ai B F' H' σ δ ((d,v)::ts):=by
 obtain⟨A0,C,r0,s,RK,RL⟩:=c.own
 have no:∀a,(∃ws,H a=some (.lst ws))/\F a=none->F' a=none:=λa zz=>by
  obtain⟨⟨ws,e⟩,n⟩:=zz
  cases q:F' a with
  | none=>rfl
  | some o =>
   have q2:H' a=some o:=by
    cases n:fM o with
    | true=>exact he.get a o q n
    | false =>
     obtain⟨ps,rfl⟩:=Az n
     obtain⟨m,z⟩:=he.tb a ps q
     rw[hs a _ e]at z
     cases z
   rw[hs a _ e]at q2
   cases q2
   rcases h3 a ws q with z | z
   ·rw[n]at z;cases z
   ·rw[e]at z;cases z
 refine⟨he,c.b1.trans hs,c.b2.trans hf,λa o q=>(h3 a o q).elim (c.b3 a o) λz=>.inr (c.b1.free z),A++A0,C,R.cons r (r0.grow hf hs λa ha=>no a (r0.lists a ha)),
  s.keep hf (eQ.same hs) fN.nil (λa ha=>no a (s.lists a ha)) (by simp),?_,?_⟩
 ·rw[cT]
  refine eI.mpr ⟨nd,RK,λa ha hb=>?_⟩
  have z:=fr a ha
  rcases cQ.mp hb with y | y
  ·obtain⟨⟨_,q⟩,_⟩:=r0.lists a y;rw[z]at q;cases q
  ·obtain⟨⟨_,q⟩,_⟩:=s.lists a y;rw[z]at q;cases q
 ·intro a ha
  rw[cT]at ha
  rcases cQ.mp ha with y | y
  ·exact c.b1.free (fr a y)
  ·exact RL a y
theorem ai.RM(c:ai B F H σ δ ((d,v)::ts)):ai B F H (some v::σ) (some d::δ) ts:=by
 obtain⟨A,C,r,s,nd,fr⟩:=c.own
 obtain⟨w,bF,A1,A2,e',rfl,h1,h2⟩:=R.bW r
 obtain⟨rfl,rfl⟩:=jQ e'
 have pp:((A1++A2)++C).Perm (A2++(A1++C)):=by
  rw[<-cT];exact jR.append_right C
 exact⟨c.ext,c.b1,c.b2,c.b3,A2,A1++C,h2,.dN h1 s,pp.nodup_iff.mp nd,λa ha=>fr a (pp.mem_iff.mpr ha)⟩
theorem ai.RN{w:V}(c:ai B F H (some w::σ) (some d::δ) ts):ai B F H σ δ ((d,w)::ts):=by
 obtain⟨A,C,r,s,nd,fr⟩:=c.own
 cases s with
 | @dN _ _ A1 _ _ C1 h1 s =>
  have pp:(A++(A1++C1)).Perm ((A1++A)++C1):=by
   rw[<-cT];exact jR.append_right C1
  exact⟨c.ext,c.b1,c.b2,c.b3,A1++A,C1,R.cons h1 r,s,pp.nodup_iff.mp nd,λa ha=>fr a (pp.mem_iff.mpr ha)⟩
theorem ai.RO(c:ai B F H σ δ ((d,v)::(.lst true xs,.ref p)::ts))(hp:H p=some (.lst ws)):ai B F (upd H p (.lst (ws++[v]))) σ δ ((.lst true (xs++[d]),.ref p)::ts):=by
 have c1:=(c.perm (Dm _ _ _)).RM
 refine(ai.mut (ps:=[(d,v)]) (i:=0) (ys:=xs++[d]) (vs:=ws++[v]) c1 rfl rfl λfO A1 A2 h r1 r2 nd=>?_).RN
 rw[hp]at h;cases h
 exact⟨A1++A2,r1.append r2,nd,λa ha=>ha⟩
theorem ai.app(c:ai B F H σ δ ((d,v)::ts))(e:δ[i]?=some (some (.lst true xs)))(e2:σ[i]?=some (some (.ref p)))(hp:H p=some (.lst ws)) :
  ai B F (upd H p (.lst (ws++[v]))) σ (δ.set i (some (.lst true (xs++[d])))) ts :=
 ai.mut (ps:=[(d,v)]) c e e2 λfO A1 A2 h r1 r2 nd=>by
  rw[hp]at h;cases h
  exact⟨A1++A2,r1.append r2,nd,λa ha=>ha⟩
theorem R.FD:∀{xs:List D} {ws:List V} {A1 A2:List Addr} (j:Nat),R F H xs ws A1->R F H [d] [v] A2->(A1++A2).Nodup->∃A',R F H (xs.set j d) (ws.set j v) A'/\A'.Nodup/\∀a∈A',a∈A1++A2
 | [],_,A1,A2,j,r,q,nd=>by cases r;exact⟨[],.nil,by simp,by simp⟩
 | x::xs,_,A1,A2,j,r,q,nd=>by
  obtain⟨w,fO,B1,B2,rfl,rfl,h1,h2⟩:=r.bW
  rw[cT]at nd
  obtain⟨n1,n2,n3⟩:=eI.mp nd
  cases j with
  | zero =>
   refine⟨A2++B2,q.cons h2,(jR (l₁:=B2) (l₂:=A2)).nodup_iff.mp n2,λa ha=>?_⟩
   simp only[cQ]at ha ⊢
   rcases ha with z | z
   ·exact .inr z
   ·exact .inl (.inr z)
  | succ j =>
   obtain⟨A',r',uz,sub⟩:=R.FD j h2 q n2
   refine⟨B1++A',h1.cons r',eI.mpr ⟨n1,uz,λa ha hb=>n3 a ha (sub a hb)⟩,λa ha=>?_⟩
   rcases cQ.mp ha with z | z
   ·simp[z]
   ·have:=sub a z
    simp only[cQ]at this ⊢
    rcases this with z | z
    ·exact .inl (.inr z)
    ·exact .inr z
theorem ai.RP(c:ai B F H σ δ ((d,v)::ts))(e:δ[i]?=some (some (.lst true xs)))(e2:σ[i]?=some (some (.ref p)))(hp:H p=some (.lst ws))(j:Nat) :
  ai B F (upd H p (.lst (ws.set j v))) σ (δ.set i (some (.lst true (xs.set j d)))) ts :=
 ai.mut (ps:=[(d,v)]) c e e2 λfO A1 A2 h r1 r2 nd=>by
  rw[hp]at h;cases h
  exact r1.FD j r2 nd
theorem ai.ownAt(c:ai B F H σ δ ts)(e:δ[i]?=some (some (.lst true xs))):∃p ws,σ[i]?=some (some (.ref p))/\H p=some (.lst ws)/\xs.length=ws.length:=by
 obtain⟨v,e1,s⟩:=c.look e
 cases s with
 | own h x _=>exact⟨_,_,e1,h,x.length⟩
theorem RS.start{ds:List D}{vs:List V}(r:R F H ds vs [])(n:Nat):RS F H (ds.map some++aT n none) (vs.map some++aT n none) []:=by
 have z:∀n,RS F H (aT n none) (aT n none) []:=λn=>by
  induction n with
  | zero=>exact .nil
  | succ n ih=>exact .ao ih
 have:∀(ds:List D) (vs:List V),R F H ds vs []->RS F H (ds.map some++aT n none) (vs.map some++aT n none) []:=by
  intro ds
  induction ds with
  | nil=>intro vs r;cases r;exact z n
  | cons d ds ih =>
   intro vs r
   obtain⟨v,bF,A1,A2,rfl,e,h1,h2⟩:=r.bW
   obtain⟨rfl,rfl⟩:=y6.mp e.symm
   exact .dN (A:=[]) h1 (ih _ h2)
 exact this ds vs r
theorem ai.start{ds:List D}{vs:List V}(e:ae F H)(r:R F H ds vs [])(n:Nat):ai ⟨H,F⟩ F H (vs.map some++aT n none) (ds.map some++aT n none) [] :=
 ⟨e,ae.refl _,ae.refl _,λ_ _ q=>.inl q,[],[],.nil,RS.start r n,by simp,by simp⟩
theorem ai.snap(c:ai B F H σ δ ts):ai B (L3.snap F H) H σ δ ts:=by
 obtain⟨A,C,r,s,nd,fr⟩:=c.own
 have no:∀a,(∃ws,H a=some (.lst ws))/\F a=none->L3.snap F H a=none:=λa ⟨⟨ws,e⟩,n⟩=>RE e n
 exact⟨RC c.ext,c.b1,c.b2.trans (lD c.ext),λa ws q=>c.b3 a ws (RD c.ext q),A,C,r.grow (lD c.ext) (ae.refl _) λa ha=>no a (r.lists a ha),
  s.keep (lD c.ext) (eQ.same (ae.refl _)) fN.nil (λa ha=>no a (s.lists a ha)) (by simp),nd,fr⟩
end
end L3
namespace L3
open PySem L2 PySem.Spec PyProof.Rows
noncomputable abbrev aw:=Dl->(D->Dl->Prop)->Prop
noncomputable abbrev dG:=Dl->(Bool->Dl->Prop)->Prop
noncomputable abbrev a6:=Dl->(List D->Dl->Prop)->Prop
structure XC where
 C:Addr
 wX:Option (Str × Int)
noncomputable instance:Coe Addr XC:=⟨λC=>⟨C,none⟩⟩
noncomputable def XD(H:Hp)(c:XC)(dc:Option Addr):Prop:=match c.wX with
 | none=>dc=none
 | some z=>∃dx,dc=some dx/\H dx=some (.ext (gD z.1 z.2 dx))
structure lH where
 nx:Dl->Prop
 rt:D->Prop
 bk:Dl->Prop:=λ_=>False
 ct:Dl->Prop:=λ_=>False
 xc:XC->Dl->Prop:=λ_ _=>False
 xr:XC->Dl->Prop:=λ_ _=>False
noncomputable abbrev bw:=lH->Dl->Prop
inductive lE(t:aw)(σ:L2.St)(H:Hp)(Q:VK):Prop
 | mk (B F δ ts Qd) (c:ai B F H σ δ ts) (q:t δ Qd) (k:∀d aa v F' H',Qd d aa->ae F F'->ae H H'->ai B F' H' σ aa ((d,v)::ts)->Q v H')
inductive lB(t:aw)(σ:L2.St)(H:Hp)(Q:VK):Prop
 | mk (B F δ ts Qd) (c:ai B F H σ δ ts) (q:t δ Qd) (k:∀d aa v F' H',Qd d aa->ae F F'->ae H H'->ai B F' H' σ aa ts->S F' H' [d] [v]->Q v H')
inductive lT(t:dG)(σ:L2.St)(H:Hp)(Q:Bool->Hp->Prop):Prop
 | mk (B F δ ts Qd) (c:ai B F H σ δ ts) (q:t δ Qd) (k:∀b aa F' H',Qd b aa->ae F F'->ae H H'->ai B F' H' σ aa ts->Q b H')
inductive lA(t:a6)(σ:L2.St)(H:Hp)(Q:List V->Hp->Prop):Prop
 | mk (B F δ ts Qd) (c:ai B F H σ δ ts) (q:t δ Qd) (k:∀ds aa vs F' H',Qd ds aa->ae F F'->ae H H'->ai B F' H' σ aa ts->S F' H' ds vs->Q vs H')
inductive lO(t:a6)(σ:L2.St)(H:Hp)(Q:List V->Hp->Prop):Prop
 | mk (B F δ ts Qd) (c:ai B F H σ δ ts) (q:t δ Qd) (k:∀(ps:List (D × V)) aa F' H',Qd (ps.map (·.1)) aa->ae F F'->ae H H'->ai B F' H' σ aa (ps++ts)->Q (ps.map (·.2)) H')
noncomputable def XL(X:Cx)(B:Bs)(Dd:lH):Prop :=
 (∀c dc aa pins av F' H' s' a T,Dd.xc c aa->ai B F' H' av aa []->Inv X pins av H' s'->XD H' c dc->dX s'.heap a T (.ref c.C) dc->Apart X pins H' a->Apart X pins H' T->X.xe (.ref a) s') /\
 (∀c dc aa pins av F' H' s' a,Dd.xr c aa->ai B F' H' av aa []->Inv X pins av H' s'->XD H' c dc->ur s'.heap a (.ref c.C) dc->Apart X pins H' a->X.xe (.ref a) s')
theorem XL.none{X:Cx}{B:Bs}{Dd:lH}(h1:∀C δ,¬ Dd.xc C δ)(h2:∀C δ,¬ Dd.xr C δ):XL X B Dd:=⟨λC _ δ _ _ _ _ _ _ _ h=>absurd h (h1 C δ),λC _ δ _ _ _ _ _ _ h=>absurd h (h2 C δ)⟩
structure LK(X:Cx)(B:Bs)(Dd:lH)(D:Ends):Prop where
 k1:∀aa av F' H',Dd.nx aa->ai B F' H' av aa []->D.nx av H'
 k2:∀d v aa av F' H',Dd.rt d->ai B F' H' av aa [(d,v)]->D.rt v H'
 k3:∀aa av F' H',Dd.bk aa->ai B F' H' av aa []->D.bk av H'
 k4:(∀aa av F' H',Dd.ct aa->ai B F' H' av aa []->D.ct av H')/\XL X B Dd
inductive lS(X:Cx)(t:bw)(D:Ends)(σ:L2.St)(H:Hp):Prop
 | mk (B F δ Dd) (c:ai B F H σ δ []) (q:t Dd δ) (k:LK X B Dd D)
section
variable{X:Cx}{e a b c:Expr}{es:List Expr}{pos:Pos}{st:Stmt}{AB:List Stmt}
theorem b8{t t':TE}(h:PE X e t)(m:∀σ H Q,t' σ H Q->t σ H Q):PE X e t':=λpins s σ H Q I q=>h pins s σ H Q I (m σ H Q q)
theorem AD{t t':TT}(h:PT X e t)(m:∀σ H Q,t' σ H Q->t σ H Q):PT X e t':=λpins s σ H Q I q=>h pins s σ H Q I (m σ H Q q)
theorem FE{t t':TT}(h:PW X e t)(m:∀σ H Q,t' σ H Q->t σ H Q):PW X e t':=λwh pins s σ H Q I q=>h wh pins s σ H Q I (m σ H Q q)
theorem uA{t t':TA}(h:PA X es t)(m:∀σ H Q,t' σ H Q->t σ H Q):PA X es t':=λp pins s σ H Q I q=>h p pins s σ H Q I (m σ H Q q)
theorem jl{t t':TS}(h:PS X st t)(m:∀D σ H,t' D σ H->t D σ H):PS X st t':=λpins s σ H D I q=>h pins s σ H D I (m D σ H q)
theorem AE{t t':TS}(h:PSs X AB t)(m:∀D σ H,t' D σ H->t D σ H):PSs X AB t':=λpins s σ H D I q=>h pins s σ H D I (m D σ H q)
variable{t u ta tb tc:aw}
theorem af(h:PE X e (lE t)):PE X e (lB t):=b8 h λσ H Q zq=>by
 obtain⟨B,F,δ,ts,Qd,c,q,k⟩:=zq
 exact⟨B,F,δ,ts,Qd,c,q,λd aa v F' H' hd sf sh c'=>k d aa v F' H' hd sf sh c'.pop c'.top⟩
noncomputable def lJ(t:aw):aw:=λδ Q=>t δ λd aa=>d.pl=true/\Q d aa
theorem dZ(h:PE X e (lB t)):PE X e (lE (lJ t)):=b8 h λσ H Q zq=>by
 obtain⟨B,F,δ,ts,Qd,c,q,k⟩:=zq
 exact⟨B,F,δ,ts,_,c,q,λd aa v F' H' hd sf sh c' s=>k d aa v F' H' hd.2 sf sh (c'.pushS s hd.1)⟩
noncomputable def j6(i:Nat):aw:=λδ Q=>match δ[i]? with
 | some (some d)=>Q d δ
 | _=>False
noncomputable def j7(i:Nat):aw:=λδ Q=>match δ[i]? with
 | some (some d)=>Q d (δ.set i none)
 | _=>False
theorem RQ{i:Nat}{δ:Dl}{Q:D->Dl->Prop}(h:j6 i δ Q):∃d,δ[i]?=some (some d)/\Q d δ:=by
 unfold j6 at h
 split at h
 ·rename_i d e;exact⟨d,e,h⟩
 ·exact h.elim
theorem RR{i:Nat}{δ:Dl}{Q:D->Dl->Prop}(h:j7 i δ Q):∃d,δ[i]?=some (some d)/\Q d (δ.set i none):=by
 unfold j7 at h
 split at h
 ·rename_i d e;exact⟨d,e,h⟩
 ·exact h.elim
noncomputable def dC(d:D):aw:=λδ Q=>Q d δ
theorem bv(i:Nat){x:Str}(hN:X.N[i]?=some x:=by rfl)(hv:gR X.env.scope x:=by first | exact aB rfl | exact ck (aB rfl) | exact ck (ck rfl))(hd:(x==("__debug__":Str))=false:=by decide)
  (br:(x==("__classdict__":Str))=false:=by decide):PE X (.Name x pos) (lB (j6 i)):=b8 (jb hN hv hd br) λσ H Q zq=>by
 obtain⟨B,F,δ,ts,Qd,c,q,k⟩:=zq
 obtain⟨d,e,q⟩:=RQ q
 obtain⟨v,e1,s⟩:=c.look e
 exact⟨v,e1,k d δ v F H q (ae.refl _) (ae.refl _) c s⟩
theorem em(i:Nat){x:Str}(hN:X.N[i]?=some x:=by rfl)(hv:gR X.env.scope x:=by first | exact aB rfl | exact ck (aB rfl) | exact ck (ck rfl))(hd:(x==("__debug__":Str))=false:=by decide)
  (br:(x==("__classdict__":Str))=false:=by decide):PE X (.Name x pos) (lE (j7 i)):=b8 (jb hN hv hd br) λσ H Q zq=>by
 obtain⟨B,F,δ,ts,Qd,c,q,k⟩:=zq
 obtain⟨d,e,q⟩:=RR q
 obtain⟨v,e1,c'⟩:=c.move e
 exact⟨v,e1,k d _ v F H q (ae.refl _) (ae.refl _) c'⟩
theorem wY{B:Bs}{F H:Hp}{σ:L2.St}{δ:Dl}{ts:List (D × V)}{Qd:D->Dl->Prop}{Q:VK}{d:D}{v:V}(c:ai B F H σ δ ts)(q:Qd d δ)(s:S F H [d] [v])(p:d.pl=true)
  (k:∀d aa v F' H',Qd d aa->ae F F'->ae H H'->ai B F' H' σ aa ((d,v)::ts)->Q v H'):Q v H:=k d δ v F H q (ae.refl _) (ae.refl _) (c.pushS s p)
theorem ax{i j}:PE X (.Constant (.int i) j pos) (lE (dC (.int i))):=b8 tS λσ H Q ⟨B,F,δ,ts,Qd,c,q,k⟩=>wY c q (.int .nil) rfl k
theorem jm{i j}:PE X (.Constant (.bool i) j pos) (lE (dC (.bl i))):=b8 DN λσ H Q ⟨B,F,δ,ts,Qd,c,q,k⟩=>wY c q (.bl .nil) rfl k
theorem RT{j}:PE X (.Constant .none j pos) (lE (dC .ao)):=b8 Na λσ H Q ⟨B,F,δ,ts,Qd,c,q,k⟩=>wY c q (.ao .nil) rfl k
theorem FF{x j}:PE X (.Constant (.str x) j pos) (lE (dC (.str x))):=b8 zr λσ H Q ⟨B,F,δ,ts,Qd,c,q,k⟩=>wY c q (.str .nil) rfl k
noncomputable abbrev bQ:=D->D->(D->Prop)->Prop
noncomputable def wZ(r:R2)(rd:bQ):Prop:=∀{B:Bs} {F H:Hp} {σ:L2.St} {δ:Dl} {ts:List (D × V)} {x y:D} {v w:V} {Q:VK} {Qd:D->Prop},ai B F H σ δ ts->S F H [x] [v]->S F H [y] [w]->rd x y Qd ->
 (∀d z H',Qd d->ae H H'->ai B F H' σ δ ((d,z)::ts)->Q z H')->r v w H Q
noncomputable def bj(X:Cx)(f:Value->Value->Sem Value)(rd:bQ):Prop:=∃r,bI X f r/\wZ r rd
theorem bj.or{f:Value->Value->Sem Value}{r1 r2:bQ}(h1:bj X f r1)(h2:bj X f r2):bj X f λx y Q=>r1 x y Q\/r2 x y Q:=by
 obtain⟨q1,a1,b1⟩:=h1
 obtain⟨q2,a2,b2⟩:=h2
 refine⟨_,a1.or a2,λ{B F H σ δ ts x y v w Q Qd} c sx sy h k=>?_⟩
 rcases h with h | h
 ·exact .inl (b1 c sx sy h k)
 ·exact .inr (b2 c sx sy h k)
theorem bj.imp{f:Value->Value->Sem Value}{r1 r2:bQ}(h1:bj X f r1)(h:∀x y Q,r2 x y Q->r1 x y Q):bj X f r2:=by
 obtain⟨q1,a1,b1⟩:=h1
 exact⟨q1,a1,λ{B F H σ δ ts x y v w Q Qd} c sx sy h2 k=>b1 c sx sy (h _ _ _ h2) k⟩
noncomputable def jn(rd:bQ)(ta tb:aw):aw:=λδ Q=>ta δ λx ah=>tb ah λy aC=>rd x y λd=>Q d aC
theorem by4{r:R2}{rd:bQ}(hl:wZ r rd):∀σ H Q,lE (jn rd ta tb) σ H Q->t7 r (lB ta) (lB tb) σ H Q:=λσ H Q ⟨B,F,δ,ts,Qd,c,q,k⟩ =>
 ⟨B,F,δ,ts,_,c,q,λx ah v F1 H1 q1 f1 h1 c1 s1=>⟨B,F1,ah,ts,_,c1,q1,λy aC w F2 H2 q2 f2 h2 c2 s2 =>
  hl c2 (s1.mono f2 h2) s2 q2 λd z H' hd hs c3=>k d aC z F2 H' hd (f1.trans f2) ((h1.trans h2).trans hs) c3⟩⟩
theorem aJ{op:Operator}{rd:bQ}(ho:bj X (binaryOp op) rd)(ha:PE X a (lB ta))(hb:PE X b (lB tb)):PE X (.BinOp a op b pos) (lE (jn rd ta tb)):=by
 obtain⟨r,h1,h2⟩:=ho
 exact b8 (wu h1 ha hb) (by4 h2)
theorem nS{op:CmpOp}{rd:bQ}(ho:bj X (compareOp op) rd)(ha:PE X a (lB ta))(hb:PE X b (lB tb))(hm:behindInMarks op b=false):PE X (.Compare a [op] [b] pos) (lE (jn rd ta tb)):=by
 obtain⟨r,h1,h2⟩:=ho
 exact b8 (Oh h1 ha hb hm) (by4 h2)
noncomputable def dT(t:aw):dG:=λδ Q=>t δ λd aa=>∃k,d=.bl k/\Q k aa
theorem RU{te:TE}(h:∀σ H Q,lE t σ H Q->te σ H Q):∀σ H Q,lT (dT t) σ H Q->D0 te σ H Q:=λσ H Q zz=>by
 obtain⟨B,F,δ,ts,Qd,c,q,k⟩:=zz
 refine h σ H _ ⟨B,F,δ,ts,_,c,q,λd aa v F' H' hd sf sh c'=>?_⟩
 obtain⟨b,rfl,qb⟩:=hd
 have s:=c'.top
 cases s with
 | bl _=>exact⟨b,rfl,k b aa F' H' qb sf sh c'.pop⟩
theorem di{op:CmpOp}{rd:bQ}(ho:bj X (compareOp op) rd)(ha:PE X a (lB ta))(hb:PE X b (lB tb))(hm:behindInMarks op b=false):PT X (.Compare a [op] [b] pos) (lT (dT (jn rd ta tb))):=by
 obtain⟨r,h1,h2⟩:=ho
 exact AD (D1 h1 ha hb hm) (RU (by4 h2))
noncomputable def lK(r r':bQ)(ta tb tc:aw):aw:=λδ Q=>ta δ λx ah=>tb ah λy aC=>r x y λd=>∃k,d=.bl k/\if k=true then tc aC λz fc=>r' y z λd'=>Q d' fc else Q (.bl false) aC
theorem g8(h:PE X e (lB t))(he:∀whole,isTrue e X.env whole=(do let v<-whole;standAt e.pos;holding [v] (truthy v)):=by intro _;rfl):PT X e (lT (dT t)) :=
 AD (zt h he) λσ H Q zq=>by
 obtain⟨B,F,δ,ts,Qd,c,q,k⟩:=zq
 exact⟨B,F,δ,ts,_,c,q,λd aa v F' H' hd sf sh c' s=>by
  obtain⟨b,rfl,qb⟩:=hd
  cases s with
  | bl _=>exact⟨b,rfl,k b aa F' H' qb sf sh c'⟩⟩
variable{tA tB:dG}{rest:List Expr}
noncomputable def nU(t u:dG):dG:=λδ Q=>t δ λc ah=>if c=true then u ah Q else Q false ah
noncomputable def nV(t u:dG):dG:=λδ Q=>t δ λc ah=>if c=true then Q true ah else u ah Q
noncomputable def nW(t:dG):dG:=λδ Q=>t δ λc ah=>Q (!c) ah
theorem FG(ha:PT X a (lT tA))(hb:PW X (.BoolOp .And (b::rest) pos) (lT tB)):PW X (.BoolOp .And (a::b::rest) pos) (lT (nU tA tB)) :=
 FE (Nh ha hb) λσ H Q zq=>by
 obtain⟨B,F,δ,ts,Qd,c,q,k⟩:=zq
 exact⟨B,F,δ,ts,_,c,q,λb ah F1 H1 q1 f1 h1 c1=>by
  cases b with
  | true=>exact j0 ⟨B,F1,ah,ts,Qd,c1,by simpa using q1,λb aa F' H' hd sf sh c'=>k b aa F' H' hd (f1.trans sf) (h1.trans sh) c'⟩
  | false=>exact iB (k false ah F1 H1 (by simpa using q1) f1 h1 c1)⟩
theorem w4(ha:PT X a (lT tA))(hb:PW X (.BoolOp .Or (b::rest) pos) (lT tB)):PW X (.BoolOp .Or (a::b::rest) pos) (lT (nV tA tB)) :=
 FE (Ni ha hb) λσ H Q zq=>by
 obtain⟨B,F,δ,ts,Qd,c,q,k⟩:=zq
 exact⟨B,F,δ,ts,_,c,q,λb ah F1 H1 q1 f1 h1 c1=>by
  cases b with
  | true=>exact j0 (k true ah F1 H1 (by simpa using q1) f1 h1 c1)
  | false=>exact iB ⟨B,F1,ah,ts,Qd,c1,by simpa using q1,λb aa F' H' hd sf sh c'=>k b aa F' H' hd (f1.trans sf) (h1.trans sh) c'⟩⟩
theorem rf(ha:PT X a (lT tA)):PT X (.UnaryOp .Not a pos) (lT (nW tA)) :=
 AD (zw ha) λσ H Q zq=>by
 obtain⟨B,F,δ,ts,Qd,c,q,k⟩:=zq
 exact⟨B,F,δ,ts,_,c,q,λb ah F1 H1 q1 f1 h1 c1=>k _ ah F1 H1 q1 f1 h1 c1⟩
noncomputable def nX(ta tb:aw):aw:=λδ Q=>ta δ λx ah=>∃c,x=.bl c/\if c=true then tb ah Q else Q (.bl false) ah
noncomputable def nY(ta tb:aw):aw:=λδ Q=>ta δ λx ah=>∃c,x=.bl c/\if c=true then Q (.bl true) ah else tb ah Q
noncomputable def nZ(ta:aw):aw:=λδ Q=>ta δ λx ah=>∃c,x=.bl c/\Q (.bl (!c)) ah
theorem n5(ha:PE X a (lB ta))(hb:PE X (.BoolOp .And (b::rest) pos) (lE tb)):PE X (.BoolOp .And (a::b::rest) pos) (lE (nX ta tb)) :=
 b8 (Nm ha hb) λσ H Q zq=>by
 obtain⟨B,F,δ,ts,Qd,c,q,k⟩:=zq
 exact⟨B,F,δ,ts,_,c,q,λd ah v F1 H1 q1 f1 h1 c1 s1=>by
  obtain⟨b,rfl,qb⟩:=q1
  cases s1 with
  | bl _ =>
   refine⟨b,rfl,?_⟩
   cases b with
   | true=>exact j0 ⟨B,F1,ah,ts,Qd,c1,by simpa using qb,λd aa v F' H' hd sf sh c'=>k d aa v F' H' hd (f1.trans sf) (h1.trans sh) c'⟩
   | false=>exact iB (k _ ah _ F1 H1 (by simpa using qb) f1 h1 (c1.pushS (.bl .nil) rfl))⟩
theorem RV(ha:PE X a (lB ta))(hb:PE X (.BoolOp .Or (b::rest) pos) (lE tb)):PE X (.BoolOp .Or (a::b::rest) pos) (lE (nY ta tb)) :=
 b8 (Nn ha hb) λσ H Q zq=>by
 obtain⟨B,F,δ,ts,Qd,c,q,k⟩:=zq
 exact⟨B,F,δ,ts,_,c,q,λd ah v F1 H1 q1 f1 h1 c1 s1=>by
  obtain⟨b,rfl,qb⟩:=q1
  cases s1 with
  | bl _ =>
   refine⟨b,rfl,?_⟩
   cases b with
   | true=>exact j0 (k _ ah _ F1 H1 (by simpa using qb) f1 h1 (c1.pushS (.bl .nil) rfl))
   | false=>exact iB ⟨B,F1,ah,ts,Qd,c1,by simpa using qb,λd aa v F' H' hd sf sh c'=>k d aa v F' H' hd (f1.trans sf) (h1.trans sh) c'⟩⟩
theorem RW(ha:PE X a (lB ta)):PE X (.UnaryOp .Not a pos) (lE (nZ ta)) :=
 b8 (Np ha) λσ H Q zq=>by
 obtain⟨B,F,δ,ts,Qd,c,q,k⟩:=zq
 exact⟨B,F,δ,ts,_,c,q,λd ah v F1 H1 q1 f1 h1 c1 s1=>by
  obtain⟨b,rfl,qb⟩:=q1
  cases s1 with
  | bl _=>exact⟨b,rfl,k _ ah _ F1 H1 qb f1 h1 (c1.pushS (.bl .nil) rfl)⟩⟩
noncomputable def n6(t:dG)(ta tb:aw):aw:=λδ Q=>t δ λc ah=>if c=true then ta ah Q else tb ah Q
theorem RX(hc:PT X c (lT tA))(ha:PE X a (lE ta))(hb:PE X b (lE tb)):PE X (.IfExp c a b pos) (lE (n6 tA ta tb)) :=
 b8 (Nr hc ha hb) λσ H Q zq=>by
 obtain⟨B,F,δ,ts,Qd,c,q,k⟩:=zq
 exact⟨B,F,δ,ts,_,c,q,λb ah F1 H1 q1 f1 h1 c1=>by
  cases b with
  | true=>exact j0 ⟨B,F1,ah,ts,Qd,c1,by simpa using q1,λd aa v F' H' hd sf sh c'=>k d aa v F' H' hd (f1.trans sf) (h1.trans sh) c'⟩
  | false=>exact iB ⟨B,F1,ah,ts,Qd,c1,by simpa using q1,λd aa v F' H' hd sf sh c'=>k d aa v F' H' hd (f1.trans sf) (h1.trans sh) c'⟩⟩
noncomputable def lM:a6:=λδ Q=>Q [] δ
noncomputable def lQ(t:aw)(r:a6):a6:=λδ Q=>t δ λd ah=>r ah λds aC=>Q (d::ds) aC
theorem aF:PA X [] (lA lM):=uA eM λσ H Q ⟨B,F,δ,ts,Qd,c,q,k⟩=>k [] δ [] F H q (ae.refl _) (ae.refl _) c .nil
variable{tr:a6}
theorem aq(ha:PE X e (lB t))(hr:PA X es (lA tr))(hs:starEach (e::es) X.env=(false,eval e X.env)::starEach es X.env:=by rfl):PA X (e::es) (lA (lQ t tr)) :=
 uA (cL ha hr hs) λσ H Q zq=>by
 obtain⟨B,F,δ,ts,Qd,c,q,k⟩:=zq
 exact⟨B,F,δ,ts,_,c,q,λd ah v F1 H1 q1 f1 h1 c1 s1=>⟨B,F1,ah,ts,_,c1,q1,λds aC vs F2 H2 q2 f2 h2 c2 s2 =>
  k (d::ds) aC (v::vs) F2 H2 q2 (f1.trans f2) (h1.trans h2) c2 ((s1.mono f2 h2).cons s2)⟩⟩
theorem eJ:PA X [] (lO lM):=uA eM λσ H Q ⟨B,F,δ,ts,Qd,c,q,k⟩=>k [] δ F H q (ae.refl _) (ae.refl _) c
theorem dj(ha:PE X e (lE t))(hr:PA X es (lO tr))(hs:starEach (e::es) X.env=(false,eval e X.env)::starEach es X.env:=by rfl):PA X (e::es) (lO (lQ t tr)) :=
 uA (cL ha hr hs) λσ H Q zq=>by
 obtain⟨B,F,δ,ts,Qd,c,q,k⟩:=zq
 exact⟨B,F,δ,ts,_,c,q,λd ah v F1 H1 q1 f1 h1 c1=>⟨B,F1,ah,(d,v)::ts,_,c1,q1,λps aC F2 H2 q2 f2 h2 c2 =>
  k ((d,v)::ps) aC F2 H2 q2 (f1.trans f2) (h1.trans h2) (c2.perm (List.perm_middle))⟩⟩
noncomputable def n8(t:a6):aw:=λδ Q=>t δ λds aa=>ds.length<=sizeLine/\Q (.lst true ds) aa
noncomputable def n9(t:a6):aw:=λδ Q=>t δ λds aa=>ds.length<=sizeLine/\Q (.tup ds) aa
theorem g9(h:PA X es (lO tr)):PE X (.List es pos) (lE (n8 tr)) :=
 b8 (ON h) λσ H Q zq=>by
 obtain⟨B,F,δ,ts,Qd,c,q,k⟩:=zq
 exact⟨B,F,δ,ts,_,c,q,λps ah F1 H1 q1 f1 h1 c1=>⟨by simpa using q1.1,λp hp=>k _ ah _ F1 _ q1.2 f1 (h1.trans (ae.upd hp)) (c1.RG hp)⟩⟩
theorem uB{x1}(h:PA X es (lO tr)):PE X (.Tuple es x1 pos) (lE (n9 tr)) :=
 b8 (OM h) λσ H Q zq=>by
 obtain⟨B,F,δ,ts,Qd,c,q,k⟩:=zq
 exact⟨B,F,δ,ts,_,c,q,λps ah F1 H1 q1 f1 h1 c1=>⟨by simpa using q1.1,λp hp=>k _ ah _ F1 _ q1.2 f1 (h1.trans (ae.upd hp)) (c1.RH hp)⟩⟩
end
end L3
namespace L3
open PySem L2 PySem.Spec PyProof.Rows
noncomputable abbrev a7:=List D->(D->Prop)->Prop
inductive bf(sp:a7)(vs:List V)(H:Hp)(Q:VK)(E:XK):Prop
 | mk (F ds Qd) (e:ae F H) (r:R F H ds vs []) (q:sp ds Qd) (k:∀d v F' H' A,Qd d->ae H H'->ae F F'->ae F' H'->(∀a ws,F' a=some (.lst ws)->F a=some (.lst ws)\/H a=none)->R F' H' [d] [v] A->A.Nodup->(∀a∈A,H a=none)->Q v H')
noncomputable def j8(sp:a7)(t:a6):aw:=λδ Q=>t δ λds aa=>sp (ds.map D.sh) λd=>(ds.all D.pl||d.fr)=true/\Q d aa
theorem w5{B:Bs}{F H:Hp}{σ:L2.St}{δ:Dl}{ts:List (D × V)}{Qd:D->Prop}{Q:VK}{E:XK}{ds:List D}{vs:List V}{sp:a7}(c:ai B F H σ δ ts)(s:S F H ds vs)(q:sp (ds.map D.sh) λd=>(ds.all D.pl||d.fr)=true/\Qd d)
  (k:∀d v F' H',Qd d->ae F F'->ae H H'->ai B F' H' σ δ ((d,v)::ts)->Q v H'):bf sp vs H Q E:=by
 by_cases hp:ds.all D.pl=true
 ·rw[iG hp]at q
  exact⟨F,ds,_,c.ext,s.r hp,q,λd v F' H' A hd hs hf he h3 r nd fr=>k d v F' H' hd.2 hf hs (c.call hs hf he h3 r nd fr)⟩
 ·refine⟨H,ds.map D.sh,_,ae.refl _,s.frozen c.ext,q,λd v F' H' A hd hs hf he h3 r nd fr=>?_⟩
  have cV:d.fr=true:=by
   have:=hd.1
   rw[Bool.or_eq_true]at this
   exact this.resolve_left hp
  exact k d v F H' hd.2 (ae.refl _) hs (c.wV hs (r.wU (by simp[cV]) (c.ext.trans hf)) nd fr)
section
variable{X:Cx}{CX:cn}{n:Nat}{f:Addr}{fd:FuncData}{ps:List Str}{sp:a7}{E:XK}{x:Str}{p pos:Pos}{e:Expr}{es:List Expr}{t:a6}
theorem uC(F:aL X.prog X.w X.K X.mg X.base CX n f fd ps (bf sp))(hr:bu n X.A)(hg:Gl X x)(hm:X.mg x=some (.ref f))(hk:PySem.W.keepIn X.K (.ref f)=true)(hb:Binds X.K fd ps [])(hx:iz CX X E)
  (ha:PA X (e::es) (lA t)) (bN:(x==("__debug__":Str))=false:=by decide) (he:starEach (e::es) X.env=(false,eval e X.env)::starEach es X.env:=by rfl) (aR:(backTo pos (starEach es X.env)).any (·.1)=false:=by rfl) :
  PE X (.Call (.Name x p) (e::es) [] pos) (lE (j8 sp t)) :=
 b8 (nD F hr hg hm hk hb .nil hx ha bN he aR) λσ H Q zq=>by
 obtain⟨B,F,δ,ts,Qd,c,q,k⟩:=zq
 exact⟨B,F,δ,ts,_,c,q,λds ah vs F1 H1 q1 f1 h1 c1 s1=>by
  show bf sp (vs++[]) H1 Q E
  rw[gg]
  exact w5 c1 s1 q1 λd v F' H' hd hf hs c'=>k d ah v F' H' hd (f1.trans hf) (h1.trans hs) c'⟩
end
noncomputable def hG(N:List Str)(ds:List D):Dl:=ds.map some++aT (N.length-ds.length) none
section
variable{P:Program}{w:World}{K:PySem.W.Frag}{mg:Str->Option Value}{base:Heap}
theorem bM{x qual:Str}{st:Stmt}{f:Addr}{fd:FuncData}{N ps:List Str}{k:Nat}{sp:a7}(F:gw K x qual st f fd)(S:aX N ps (aM st))(len:∀ds Q,sp ds Q->ds.length=ps.length)
  (e8:∀(aE:Value) (A:Around) (outer:List Env) (s:Shared) (H:Hp) (E:XK),bu k (A.deeper (envOfC qual (aM st) s.heap.objs.size f aE)) ->
   ∃t:bw,PSs (fE aV P w K mg base N qual (aM st) f aE A outer s H E).eC (gZ st) (lS (fE aV P w K mg base N qual (aM st) f aE A outer s H E).eC t)/\∀ds Q,sp ds Q->t { nx:=λ_=>Q .ao,rt:=Q } (hG N ds)):aL P w K mg base aV (k+1) f fd ps (bf sp):=by
 refine F.ok S (λvs H Q E ⟨F,ds,Qd,e,r,h,_⟩=>by rw[<-r.length];exact len ds Qd h) λaE A outer s H vs Q E hr zz=>?_
 obtain⟨F,ds,Qd,e,r,h,k⟩:=zz
 obtain⟨t,ht,hq⟩:=e8 aE A outer s H E hr
 have fin:∀d v aa av F' H',Qd d->ai ⟨H,F⟩ F' H' av aa [(d,v)]->Q v H':=λd v aa av F' H' hd c=>by
  obtain⟨A,C,r',s',nd,fr⟩:=c.own
  exact k d v F' H' A hd c.b1 c.b2 c.ext c.b3 r' (eI.mp nd).1 λa ha=>fr a (dz _ ha)
 have e1:L2.start N vs=vs.map some++aT (N.length-ds.length) none:=by unfold L2.start;rw[r.length]
 refine⟨_,ht,⟨H,F⟩,F,hG N ds,_,?_,hq ds Qd h,λaa av F' H' hd c=>fin .ao .ao aa av F' H' hd (c.pushS (.ao .nil) rfl),fin,λ_ _ _ _ z=>z.elim,λ_ _ _ _ z=>z.elim,XL.none (λ_ _ z=>z) λ_ _ z=>z⟩
 rw[e1]
 exact ai.start e r _
end
section
variable{X:Cx}{e a b c:Expr}{es:List Expr}{pos:Pos}{st:Stmt}{AB rest:List Stmt}{t u:bw}{te:aw}{tt:dG}
noncomputable def oa:bw:=λD δ=>D.nx δ
noncomputable def FH(t u:bw):bw:=λD δ=>t { D with nx:=u D } δ
theorem aG{t u:bw}{En:lH}{δ:Dl}(h:∀U:Dl->Prop,(∀aa,u En aa->U aa)->t { En with nx:=U } δ):FH t u En δ:=h (u En) λ_ z=>z
theorem dk:PSs X [] (lS X oa):=AE tU λD σ H ⟨B,F,δ,Dd,c,q,k⟩=>k.k1 δ σ F H q c
theorem aH(h1:PS X st (lS X t))(h2:PSs X rest (lS X u)):PSs X (st::rest) (lS X (FH t u)) :=
 AE (fx h1 h2) λD σ H zq=>by
 obtain⟨B,F,δ,Dd,c,q,k1,k2,k3,k4⟩:=zq
 exact⟨B,F,δ,{ Dd with nx:=u Dd },c,q,λaa av F' H' hq c'=>⟨B,F',aa,Dd,c',hq,k1,k2,k3,k4⟩,k2,k3,k4⟩
theorem aK(h1:PS X st (lS X t)):PSs X [st] (lS X t):=jX h1
noncomputable def og(i:Nat)(t:aw):bw:=λD δ=>t δ λd aa=>D.nx (aa.set i (some d))
theorem aY{i:Nat}{x:Str}{pos':Pos}(hN:X.N.Nodup)(hi:X.N[i]?=some x)(hx:Loc X.env.scope x)(he:PE X e (lE te))(hs:swapsWith e (some (.Name x pos')) pos.line X.env=pure false:=by rfl)
  (hf:X.fn x=true\/X.env.scope.names.lookup x=some .local:=by first | exact .inl rfl | exact .inr rfl | assumption):PS X (.Assign [.Name x pos'] e pos) (lS X (og i te)) :=
 jl (wk hN hi hx he hs hf) λD σ H zq=>by
 obtain⟨B,F,δ,Dd,c,q,k1,k2,k3,k4⟩:=zq
 exact⟨B,F,δ,[],_,c,q,λd aa v F' H' hd sf sh c'=>k1 _ _ F' H' hd (c'.store i)⟩
noncomputable def oh(t:aw):bw:=λD δ=>t δ λd _=>D.rt d
theorem aW(he:PE X e (lE te)):PS X (.Return (some e) pos) (lS X (oh te)) :=
 jl (Ny he) λD σ H zq=>by
 obtain⟨B,F,δ,Dd,c,q,k1,k2,k3,k4⟩:=zq
 exact⟨B,F,δ,[],_,c,q,λd aa v F' H' hd sf sh c'=>k2 d v aa σ F' H' hd c'⟩
noncomputable def oi(tc:dG)(t u:bw):bw:=λD δ=>tc δ λb aa=>if b=true then t D aa else u D aa
theorem dm{l r:List Stmt}(hc:PT X c (lT tt))(ha:PSs X l (lS X t))(hb:PSs X r (lS X u)):PS X (.If c l r pos) (lS X (oi tt t u)) :=
 jl (wg hc ha hb) λD σ H zq=>by
 obtain⟨B,F,δ,Dd,c,q,k⟩:=zq
 exact⟨B,F,δ,[],_,c,q,λb aa F' H' hq sf sh c'=>by
  cases b with
  | true=>exact j0 ⟨B,F',aa,Dd,c',by simpa using hq,k⟩
  | false=>exact iB ⟨B,F',aa,Dd,c',by simpa using hq,k⟩⟩
noncomputable def oj(i:Nat)(rd:bQ)(t:aw):bw:=λD δ=>∃x,δ[i]?=some (some x)/\t δ λy ah=>rd x y λz=>D.nx (ah.set i (some z))
theorem uD{i:Nat}{x:Str}{op:Operator}{rd:bQ}{pos':Pos}(hN:X.N.Nodup)(hi:X.N[i]?=some x)(hx:Loc X.env.scope x)(he:PE X e (lB te))(ho:bj X (inplaceOp op) rd)
  (hf:X.fn x=true\/X.env.scope.names.lookup x=some .local:=by first | exact .inl rfl | exact .inr rfl | assumption):PS X (.AugAssign (.Name x pos') op e pos) (lS X (oj i rd te)):=by
 obtain⟨r,h1,h2⟩:=ho
 refine jl (NM hN hi hx he (ti:=r) h1 hf) λD σ H zz=>?_
 obtain⟨B,F,δ,Dd,c,⟨d0,e0,q⟩,k1,k2,k3,k4⟩:=zz
 obtain⟨v0,e1,s0⟩:=c.look e0
 exact⟨v0,e1,B,F,δ,[],_,c,q,λd aa v F' H' hd sf sh c' s=>h2 c' (s0.mono sf sh) s hd λz w H2 hz h3 c3=>k1 _ _ F' H2 hz (c3.store i)⟩
noncomputable def om(tc:dG)(tb:bw):bw:=λD δ=>∃W:Nat->Dl->Prop,(∃m,W m δ)/\∀m δ,W m δ->tc δ λb aa=>if b=true then tb { D with nx:=λaa=>∃m',m'<m/\W m' aa,ct:=λaa=>∃m',m'<m/\W m' aa,bk:=D.nx } aa else D.nx aa
theorem uE{body:List Stmt}(hp:PassesOwn (model X.prog X.w) X.A X.env X.xe)(hc:PT X c (lT tt))(hb:PSs X body (lS X t)):PS X (.While c body [] pos) (lS X (om tt t)) :=
 jl (NP hp hc hb) λD σ H zz=>by
  obtain⟨B,F,δ,Dd,c,⟨W,⟨m0,w0⟩,hw⟩,k1,k2,k3,k4⟩:=zz
  refine⟨λm σ H=>∃F δ,ai B F H σ δ []/\W m δ,⟨m0,F,δ,c,w0⟩,λm σ H ⟨F,δ,c,w⟩=>⟨B,F,δ,[],_,c,hw m δ w,λb aa F' H' hq sf sh c'=>?_⟩⟩
  cases b with
  | true =>
   refine j0 ⟨λav H'=>∃m',m'<m/\∃F δ,ai B F H' av δ []/\W m' δ,λav H' z=>z,B,F',aa,{ Dd with nx:=λaa=>∃m',m'<m/\W m' aa,ct:=λaa=>∃m',m'<m/\W m' aa,bk:=Dd.nx },c',by simpa using hq,λaC gX F2 H2 ⟨m',hm,w2⟩ c2=>⟨m',hm,F2,aC,c2,w2⟩,k2,λaC gX F2 H2 z c2=>k1 aC gX F2 H2 z c2,λaC gX F2 H2 ⟨m',hm,w2⟩ c2=>⟨m',hm,F2,aC,c2,w2⟩,k4.2⟩
  | false=>exact iB (k1 aa σ F' H' (by simpa using hq) c')
end
structure JD(J:It)(F:Hp)(xs:List D):Prop where
 go:∀i H,ae F H->i<xs.length->J.go i H
 fy:∀i H x H',ae F H->i<xs.length->J.fy i H x H'->∃d,xs[i]?=some d/\ae H H'/\R F H' [d] [x] []
 stop:∀i H,ae F H->xs.length<=i->J.stop i H
noncomputable abbrev eo:=Dl->(Bool->List D->Dl->Prop)->Prop
inductive lI(t:eo)(σ:L2.St)(H:Hp)(Rr:It->Hp->Prop):Prop
 | mk (B F δ ts Qd) (c:ai B F H σ δ ts) (q:t δ Qd) (k:∀g xs aa J F' H',Qd g xs aa->ae F F'->ae H H'->ai B F' H' σ aa ts->JD J H' (xs.map D.sh)->(g=true->xs.all D.pl=true/\JD J F' xs)->Rr J H')
noncomputable abbrev dO:=D->Dl->(Dl->Prop)->Prop
inductive lG(m:Nat)(t:dO)(v:V)(σ:L2.St)(H:Hp)(Q:L2.St->Hp->Prop):Prop
 | mk (B F δ ts d Qd) (c:ai B F H σ δ ((d,v)::ts)) (q:t d δ Qd) (k:∀aa av,Qd aa->av.length=σ.length->(∀j,j<m->av[j]?=σ[j]?)->ai B F H av aa ts->Q av H)
noncomputable def fP:D->Option (List D)
 | .lst _ xs=>some xs
 | .fz xs=>some xs
 | _=>none
section
variable{B:Bs}{F H F1:Hp}{σ:L2.St}{δ:Dl}{ts:List (D × V)}
end
section
variable{X:Cx}{e a b c tg l iter:Expr}{es:List Expr}{pos:Pos}{t u:bw}{te:aw}{tt:dG}{ta:a6}{m:Nat}
theorem oo{w w':TI}(h:PI X tg iter w)(m:∀σ H Q,w' σ H Q->w σ H Q):PI X tg iter w':=λpins s σ H Q I q=>h pins s σ H Q I (m σ H Q q)
theorem FI{w w':TG}(h:PG X tg w)(m:∀v σ H Q,w' v σ H Q->w v σ H Q):PG X tg w':=λpins s σ H v u Q I r q=>h pins s σ H v u Q I r (m v σ H Q q)
noncomputable def gN(i:Nat):dO:=λd δ Q=>Q (δ.set i (some d))
theorem oq{i:Nat}{x:Str}(hN:X.N.Nodup)(hi:X.N[i]?=some x)(hx:Loc X.env.scope x)(hm:m<=i:=by decide)(hf:X.fn x=true\/X.env.scope.names.lookup x=some .local:=by first | exact .inl rfl | exact .inr rfl | assumption):PG X (.Name x pos) (lG m (gN i)) :=
 FI (zB hN hi hx hf) λv σ H Q ⟨B,F,δ,ts,d,Qd,c,q,k⟩=>k _ _ q (by simp) (λj hj=>by rw[sS (by omega)]) (c.store i)
theorem j9{K:PySem.W.Frag}{F H:Hp}{p:Addr}{xs:List D}{ws:List V}(hp:Rd F p (.lst ws))(r:R F H xs ws [])(hF:Full F H):JD (zD K p) F xs where
 go:=λi H' hs hi=>by
  have l:=r.length
  have g5:i<ws.length:=by omega
  exact⟨ws,ws[i],.inl (dY hp hs),a9 g5⟩
 fy:=λi H' x H2 hs hi zz=>by
  obtain⟨e,y⟩:=zz
  subst e
  have hx:=y ws (.inl (dY hp hs))
  obtain⟨v,A1,e2,r1,sub⟩:=(r.full hF hs rfl).get (a9 hi)
  rw[hx]at e2;cases e2
  have:A1=[]:=MD.mpr λa ha=>by simpa using sub ha
  subst this
  exact⟨_,a9 hi,ae.refl _,r1⟩
 stop:=λi H' hs hi=>⟨ws,.inl (dY hp hs),by have:=r.length;omega⟩
theorem w6{F:Hp}(lo:Int)(n:Nat):JD (tX lo n) F ((bD n).map λ(k:Nat)=>D.int (lo+(k:Int))) where
 go:=λi H' hs hi=>by
  have g5:i<n:=by simpa using hi
  exact g5
 fy:=λi H' x H2 hs hi zz=>by
  obtain⟨e,y⟩:=zz
  subst e y
  have g5:i<n:=by simpa using hi
  exact⟨.int (lo+i),by simp[qI g5],ae.refl _,.int .nil⟩
 stop:=λi H' hs hi=>by
  have g5:n<=i:=by simpa using hi
  exact g5
noncomputable def ot(t:aw):eo:=λδ Q=>t δ λd aa=>∃xs,fP d=some xs/\Q true (xs.map D.sh) aa
theorem RY(xs:List D){F H:Hp}{ws:List V}(r:R F H (xs.map D.sh) ws []):(xs.map D.sh).map D.sh=xs.map D.sh:=iG r.pl
theorem RZ(h:PE X l (lE te)):PI X tg l (lI (ot te)) :=
 oo (DV h) λσ H Q zq=>by
 obtain⟨B,F,δ,ts,Qd,c,q,k⟩:=zq
 exact⟨B,F,δ,ts,_,c,q,λd ah v F1 H1 hd f1 h1 c1=>by
  obtain⟨xs,e,hq⟩:=hd
  obtain⟨F2,f2,c2⟩:=c1.RJ
  have tp:=c2.top
  have c3:=c2.pop.snap
  have e2:=c2.ext
  have sn:=lD e2
  cases d with
  | lst o ys =>
   obtain rfl:=bS e
   rw[eG]at tp
   cases tp with
   | @shr p ws _ _ _ hp r _ =>
    have r3:=r.shared sn (ae.refl _)
    refine⟨p,rfl,⟨ws,a8.of (e2 _ _ hp)⟩,k true _ ah _ _ H1 hq ((f1.trans f2).trans sn) h1 c3 ?_ λ_=>⟨r.pl,j9 (.inl (sn _ _ hp)) r3 nQ⟩⟩
    rw[RY _ r]
    exact j9 (.inl (e2 _ _ hp)) (r.shared e2 (ae.refl _)) (Full.refl _)
  | fz ys =>
   obtain rfl:=bS e
   cases tp with
   | @fz p o ws _ _ _ hp r _ =>
    have r3:=r.shared sn (ae.refl _)
    have es:=iG r.pl
    rw[es]at hq
    refine⟨p,rfl,⟨ws,.inl (.inr ⟨o,e2 _ _ hp⟩)⟩,k true _ ah _ _ H1 hq ((f1.trans f2).trans sn) h1 c3 ?_ λ_=>⟨r.pl,j9 (.inr ⟨o,sn _ _ hp⟩) r3 nQ⟩⟩
    rw[es]
    exact j9 (.inr ⟨o,e2 _ _ hp⟩) (r.shared e2 (ae.refl _)) (Full.refl _)
  | ao=>cases e
  | bl _=>cases e
  | int _=>cases e
  | str _=>cases e
  | tup _=>cases e
  | obj _ _ _=>cases e
  | aS _=>cases e⟩
noncomputable def ou(t:aw):eo:=λδ Q=>t δ λd aa=>∃xs,fP d=some xs/\Q d.pl xs aa
theorem w9(h:PE X l (lB te)):PI X tg l (lI (ou te)) :=
 oo (DV h) λσ H Q zq=>by
 obtain⟨B,F,δ,ts,Qd,c,q,k⟩:=zq
 exact⟨B,F,δ,ts,_,c,q,λd ah v F1 H1 hd f1 h1 c1 s=>by
  obtain⟨xs,e,hq⟩:=hd
  have c3:=c1.snap
  have e2:=c1.ext
  have sn:=lD e2
  cases s with
  | @shr p ws ys _ _ hp r _ =>
   obtain rfl:=bS e
   refine⟨p,rfl,⟨ws,a8.of (e2 _ _ hp)⟩,k _ _ ah _ _ H1 hq (f1.trans sn) h1 c3 ?_ λ_=>⟨r.pl,j9 (.inl (sn _ _ hp)) (r.shared sn (ae.refl _)) nQ⟩⟩
   rw[iG r.pl]
   exact j9 (.inl (e2 _ _ hp)) (r.shared e2 (ae.refl _)) (Full.refl _)
  | @own p ws ys _ _ hp r _ =>
   obtain rfl:=bS e
   refine⟨p,rfl,⟨ws,a8.of hp⟩,k _ _ ah _ _ H1 hq (f1.trans sn) h1 c3 (j9 (.inl hp) (r.frozen e2) (Full.refl _)) λz=>by simp[gE]at z⟩
  | @fz p o ws ys _ _ hp r _ =>
   obtain rfl:=bS e
   refine⟨p,rfl,⟨ws,.inl (.inr ⟨o,e2 _ _ hp⟩)⟩,k _ _ ah _ _ H1 hq (f1.trans sn) h1 c3 ?_ λ_=>⟨r.pl,j9 (.inr ⟨o,sn _ _ hp⟩) (r.shared sn (ae.refl _)) nQ⟩⟩
   rw[iG r.pl]
   exact j9 (.inr ⟨o,e2 _ _ hp⟩) (r.shared e2 (ae.refl _)) (Full.refl _)
  | ao _=>cases e
  | bl _=>cases e
  | int _=>cases e
  | str _=>cases e
  | tup _ _ _=>cases e
  | obj _ _ _ _=>cases e
  | aS _ _=>cases e⟩
theorem xb(f:Nat->Int)(l:List Nat):(l.map λk=>D.int (f k)).map D.sh=l.map λk=>D.int (f k):=by simp[D.sh]
theorem FJ(f:Nat->Int)(l:List Nat):(l.map λk=>D.int (f k)).all D.pl=true:=by simp[D.pl]
noncomputable def ow(t:a6):eo:=λδ Q=>t δ λds aa=>∃j:Int,ds=[.int j]/\(-(2 ^ 62)<=j/\j<2 ^ 62)/\Q true ((bD j.toNat).map λ(k:Nat)=>D.int (0+(k:Int))) aa
theorem FK{p:Pos}(hg:Gl X "range")(hm:X.mg "range"=none)(ha:PA X [a] (lA ta))(hs:starEach [a] X.env=[(false,eval a X.env)]:=by rfl):PI X tg (.Call (.Name "range" p) [a] [] pos) (lI (ow ta)) :=
 oo (NV hg hm ha hs) λσ H Q zq=>by
 obtain⟨B,F,δ,ts,Qd,c,q,k⟩:=zq
 exact⟨B,F,δ,ts,_,c,q,λds ah vs F1 H1 hd f1 h1 c1 s=>by
  obtain⟨j,rfl,⟨b1,b2⟩,hq⟩:=hd
  cases s with
  | int s =>
   cases s
   refine⟨j,rfl,b1,b2,k true _ ah _ _ H1 hq f1 h1 c1 ?_ λ_=>⟨FJ _ _,w6 0 _⟩⟩
   rw[xb]
   exact w6 0 _⟩
noncomputable def oy(t:a6):eo:=λδ Q=>t δ λds aa=>∃i j:Int,ds=[.int i,.int j]/\(-(2 ^ 62)<=i/\i<2 ^ 62/\-(2 ^ 62)<=j/\j<2 ^ 62)/\Q true ((bD (j-i).toNat).map λ(k:Nat)=>D.int (i+(k:Int))) aa
theorem xf{p:Pos}(hg:Gl X "range")(hm:X.mg "range"=none)(ha:PA X [a,b] (lA ta))(hs:starEach [a,b] X.env=[(false,eval a X.env),(false,eval b X.env)]:=by rfl)(cm:starEach [b] X.env=[(false,eval b X.env)]:=by rfl) :
  PI X tg (.Call (.Name "range" p) [a,b] [] pos) (lI (oy ta)) :=
 oo (NW hg hm ha hs cm) λσ H Q zq=>by
 obtain⟨B,F,δ,ts,Qd,c,q,k⟩:=zq
 exact⟨B,F,δ,ts,_,c,q,λds ah vs F1 H1 hd f1 h1 c1 s=>by
  obtain⟨i,j,rfl,bd,hq⟩:=hd
  cases s with
  | int s =>
   cases s with
   | int s =>
    cases s
    refine⟨i,j,rfl,bd,k true _ ah _ _ H1 hq f1 h1 c1 ?_ λ_=>⟨FJ _ _,w6 i _⟩⟩
    rw[xb]
    exact w6 i _⟩
noncomputable def gF(xs:List D)(g:dO)(tb:bw):bw:=λEn ah=>∃Iv:Nat->Dl->Prop,Iv 0 ah /\
 (∀i d aa,xs[i]?=some d->Iv i aa->g d aa λaC=>tb { En with nx:=Iv (i+1),ct:=Iv (i+1),bk:=En.nx } aC)/\∀aa,Iv xs.length aa->En.nx aa
theorem gF.mk{xs:List D}{g:dO}{tb:bw}{En:lH}{δ:Dl}(Iv:Nat->Dl->Prop)(h0:Iv 0 δ)(ht:∀i d aa,xs[i]?=some d->Iv i aa->g d aa λaC=>tb { En with nx:=Iv (i+1),ct:=Iv (i+1),bk:=En.nx } aC)
  (hf:∀aa,Iv xs.length aa->En.nx aa):gF xs g tb En δ:=⟨Iv,h0,ht,hf⟩
noncomputable def oA(ti:eo)(g:dO)(tb:bw):bw:=λEn δ=>ti δ λsh xs ah=>sh=true/\gF xs g tb En ah
theorem jo{ti:eo}{g:dO}{body:List Stmt}(hp:PassesOwn (model X.prog X.w) X.A X.env X.xe)(hc:X.calm=true)(hi:PI X tg iter (lI ti))(hg:PG X tg (lG 0 g))(hb:PSs X body (lS X t))
  (hs:∀x,foldedSetIterable iter X.env x=pure x:=by intro _;rfl):PS X (.For tg iter body [] pos) (lS X (oA ti g t)) :=
 jl (DX hp hc hi hg hb hs) λEn σ H zq=>by
 obtain⟨B,F,δ,Dd,c,q,k1,k2,k3,k4⟩:=zq
 exact⟨B,F,δ,[],_,c,q,λsh xs ah J F1 H1 hq f1 h1 c1 _ jd=>by
  obtain⟨nI,Iv,i0,turn,fin⟩:=hq
  obtain⟨aR,jd⟩:=jd nI
  have un:∀{F' H':Hp} {av:L2.St} {aa:Dl} {ts:List (D × V)},ai ⟨B.H0,F1⟩ F' H' av aa ts->ai B F' H' av aa ts:=λc'=>c'.FC c1.b2 c1.b3
  refine⟨λi m σ H=>m=xs.length-i/\i<=xs.length/\∃F δ,ai ⟨B.H0,F1⟩ F H σ δ []/\Iv i δ,⟨_,rfl,ij _,F1,ah,c1.rebase,i0⟩,?_⟩
  rintro i m gX H2 ⟨rfl,hi,F2,aC,c2,iv⟩
  have s2:ae F1 H2:=c2.b2.trans c2.ext
  by_cases dW:i<xs.length
  ·refine .inr ⟨jd.go i H2 s2 dW,λav H'=>∃F δ,ai ⟨B.H0,F1⟩ F H' av δ []/\Iv (i+1) δ,λav H' z=>⟨xs.length-(i+1),by omega,rfl,dW,z⟩,λx H3 y=>?_⟩
   obtain⟨d,e,s3,r⟩:=jd.fy i H2 x H3 s2 dW y
   have c3:=(c2.grow s3).pushS (d:=d) (v:=x) ((r.s).mono c2.b2 (ae.refl _)) (by have:=r.pl;simpa using this)
   refine⟨⟨B.H0,F1⟩,F2,aC,[],d,_,c3,turn i d aC e iv,λaa av hq _ _ c4=>?_⟩
   exact⟨⟨B.H0,F1⟩,F2,aa,_,c4,hq,λfQ ka F5 H5 h5 c5=>⟨F5,fQ,c5,h5⟩,λd5 v5 fQ ka F5 H5 h5 c5=>k2 d5 v5 fQ ka F5 H5 h5 (un c5),λfQ ka F5 H5 h5 c5=>k1 fQ ka F5 H5 h5 (un c5),λfQ ka F5 H5 h5 c5=>⟨F5,fQ,c5,h5⟩,⟨λC dc fQ pins ka F5 H5 s5 a T h5 c5=>k4.2.1 C dc fQ pins ka F5 H5 s5 a T h5 (un c5),λC dc fQ pins ka F5 H5 s5 a h5 c5=>k4.2.2 C dc fQ pins ka F5 H5 s5 a h5 (un c5)⟩⟩
  ·have e:i=xs.length:=by omega
   subst e
   exact .inl ⟨jd.stop _ H2 s2 (aZ _),k1 aC gX F2 H2 (fin aC iv) (un c2)⟩⟩
end
end L3
namespace L3
open PySem L2 PySem.Spec PyProof.Rows
noncomputable def fR(δ:Dl)(q:Str × Nat):Option D:=(δ[q.2]?).getD none
noncomputable def fe(δ:Dl)(q:Str × Nat):Bool:=match fR δ q with
 | some d=>d.pl
 | none=>true
noncomputable def dH(az:List (Str × Nat))(n:Nat)(δ:Dl):Dl:=(az.map λq=>(fR δ q).map D.sh)++aT n none
noncomputable def rh(sh:Bool)(xs:List D)(az:List (Str × Nat))(n:Nat)(g:dO)(tt:dG)(te:aw)(ah:Dl)(Q:D->Dl->Prop):Prop:=∃(p:D->Bool) (f:D->D),
 (∀x∈xs.map D.sh,g x (dH az n ah) λaC=>tt aC λb fc=>b=p x/\(p x=true->te fc λd _=>d=f x)) /\
 ((sh&&az.all (fe ah))=true\/∀x∈xs.map D.sh,p x=true->(f x).fr=true)/\xs.length<=sizeLine/\Q (.lst true (((xs.map D.sh).filter p).map f)) ah
noncomputable def oB(ti:eo)(az:List (Str × Nat))(n:Nat)(g:dO)(tt:dG)(te:aw):aw:=λδ Q=>ti δ λsh xs ah=>rh sh xs az n g tt te ah Q
noncomputable def hJ:dG:=λδ Q=>Q true δ
theorem R0{sh:Bool}{xs:List D}{az:List (Str × Nat)}{n m:Nat}{te:aw}{ah:Dl}{Q:D->Dl->Prop}(f:D->D)(hx:∀x∈xs.map D.sh,te ((dH az n ah).set m (some x)) λd _=>d=f x)
  (cV:(sh&&az.all (fe ah))=true\/∀x∈xs.map D.sh,(f x).fr=true) (hl:xs.length<=sizeLine) (hq:Q (.lst true ((xs.map D.sh).map f)) ah):rh sh xs az n (gN m) hJ te ah Q :=
 ⟨λ_=>true,f,λx h=>⟨rfl,λ_=>hx x h⟩,cV.imp id λh x hx _=>h x hx,hl,by rw[ME.mpr (λ_ _=>rfl)];exact hq⟩
section
variable{B:Bs}{F H:Hp}{σ:L2.St}{δ:Dl}{ts:List (D × V)}
theorem FL(c:ai B F H σ δ ts)(n:Nat):∀(az:List (Str × Nat)),az.all (fe δ)=true->RS F H (dH az n δ) (eO az n σ) []
 | [],_=>by
  have z:∀n,RS F H (aT n none) (aT n none) []:=λn=>by
   induction n with
   | zero=>exact .nil
   | succ n ih=>exact .ao ih
  exact z n
 | q::r,h=>by
  rw[cZ,cJ]at h
  have ih:=FL c n r h.2
  show RS F H ((fR δ q).map D.sh::dH r n δ) ((σ[q.2]?).getD none::eO r n σ) []
  cases e:fR δ q with
  | none=>exact .ao ih
  | some d =>
   have e2:δ[q.2]?=some (some d):=by
    unfold fR at e
    cases z:δ[q.2]? with
    | none=>rw[z]at e;cases e
    | some o=>rw[z]at e;exact congrArg some e
   have hp:d.pl=true:=by have:=h.1;unfold fe at this;rw[e]at this;exact this
   obtain⟨v,e3,s⟩:=c.look e2
   rw[e3]
   show RS F H (some d.sh::_) (some v::_) []
   rw[D.wQ hp]
   exact .dN (A:=[]) (s.r (by simp[hp])) ih
theorem FN(c:ai B F H σ δ ts)(n:Nat):∀(az:List (Str × Nat)),RS H H (dH az n δ) (eO az n σ) []
 | []=>by
  have z:∀n,RS H H (aT n none) (aT n none) []:=λn=>by
   induction n with
   | zero=>exact .nil
   | succ n ih=>exact .ao ih
  exact z n
 | q::r=>by
  have ih:=FN c n r
  show RS H H ((fR δ q).map D.sh::dH r n δ) ((σ[q.2]?).getD none::eO r n σ) []
  cases e:fR δ q with
  | none=>exact .ao ih
  | some d =>
   have e2:δ[q.2]?=some (some d):=by
    unfold fR at e
    cases z:δ[q.2]? with
    | none=>rw[z]at e;cases e
    | some o=>rw[z]at e;exact congrArg some e
   obtain⟨v,e3,s⟩:=c.look e2
   rw[e3]
   exact .dN (A:=[]) (s.frozen c.ext) ih
theorem FP{α:Type}(xs:List α)(p:α->Bool)(i:Nat)(x:α)(h:xs[i]?=some x):(xs.take (i+1)).filter p=(xs.take i).filter p++(if p x=true then [x]else []):=by
 rw[qJ,h,List.filter_append]
 simp only[Option.toList_some]
 by_cases hp:p x=true<;>simp[hp]
end
section
variable{X:Cx}{elt iter tg:Expr}{pos:Pos}{ifs:List Expr}{scope:Scope}{cl:List (Str × Addr)}{ti:eo}{tt:dG}{te:aw}{g:dO}
theorem R1{B:Bs}{F1 H1:Hp}{σ:L2.St}{ah:Dl}{ts:List (D × V)}{J:It}{Qd:D->Dl->Prop}{Q:VK}{xs:List D}{sh:Bool}{az:List (Str × Nat)}{n:Nat}(c1:ai B F1 H1 σ ah ts)
  (uF:JD J H1 (xs.map D.sh)) (AF:sh=true->xs.all D.pl=true/\JD J F1 xs) (p:D->Bool) (f:D->D)
  (hx:∀x∈xs.map D.sh,g x (dH az n ah) λaC=>tt aC λb fc=>b=p x/\(p x=true->te fc λd _=>d=f x))
  (cV:(sh&&az.all (fe ah))=true\/∀x∈xs.map D.sh,p x=true->(f x).fr=true) (hlen:xs.length<=sizeLine) (hq:Qd (.lst true (((xs.map D.sh).filter p).map f)) ah)
  (k:∀d aa v F' H',Qd d aa->ae F1 F'->ae H1 H'->ai B F' H' σ aa ((d,v)::ts)->Q v H'):E5 J az n (lG az.length g) (lT tt) (lE te) σ H1 Q:=by
 intro Dp hD
 have cD:ai B F1 (upd H1 Dp (.lst [])) σ ah ((.lst true [],.ref Dp)::ts):=c1.j5 hD .nil rfl
 refine⟨λi m acc H2=>m=xs.length-i/\i<=xs.length/\H2 Dp=some (.lst acc)/\ae H1 H2/\acc.length<=i/\∃F2,ae F1 F2 /\
  ai B F2 H2 σ ah ((.lst true ((((xs.map D.sh).take i).filter p).map f),.ref Dp)::ts),⟨xs.length,rfl,ij _,a5,ae.upd hD,aZ _,F1,ae.refl _,by simpa using cD⟩,?_⟩
 rintro i m acc H2 ⟨rfl,hi,uq,uG,R3,F2,uH,c2⟩
 refine⟨uq,?_⟩
 by_cases dW:i<xs.length
 case neg =>
  have e:i=xs.length:=by omega
  subst e
  refine .inl ⟨uF.stop _ H2 uG (by simp),k _ ah _ F2 H2 ?_ uH uG c2⟩
  have:(xs.map D.sh).take xs.length=xs.map D.sh:=by rw[MF (by simp)]
  rw[this]
  exact hq
 case pos =>
  refine .inr ⟨uF.go i H2 uG (by simpa using dW),λx H3 y=>?_⟩
  obtain⟨d0,e0,AG,r0⟩:=uF.fy i H2 x H3 uG (by simpa using dW) y
  have FQ:d0∈xs.map D.sh:=kQ e0
  have FR:H3 Dp=some (.lst acc):=AG _ _ uq
  have c3:=c2.grow AG
  have AH:=uG.trans AG
  refine⟨FR,?_⟩
  have AI:=hx d0 FQ
  have turn:∀Fi,ae Fi H3->RS Fi H3 (dH az n ah) (eO az n σ) []->S Fi H3 [d0] [x]->d0.pl=true ->
    (∀d v F' H' A,d=f d0->p d0=true->ae H3 H'->ae Fi F'->ae F' H'->(∀a ws,F' a=some (.lst ws)->Fi a=some (.lst ws)\/H3 a=none)->R F' H' [d] [v] A->A.Nodup->(∀a∈A,H3 a=none) ->
     ∃F4,ae F2 F4/\ai B F4 H' σ ah ((d,v)::(.lst true ((((xs.map D.sh).take i).filter p).map f),.ref Dp)::ts)) ->
    lG az.length g x (eO az n σ) H3 λeD H4 =>
     (eD.length=(eO az n σ).length/\∀j,j<az.length->eD[j]?=(eO az n σ)[j]?)/\lT tt eD H4 λb H5=>H5 Dp=some (.lst acc) /\
     if b=true then lE te eD H5 λy H6=>H6 Dp=some (.lst acc)/\acc.length<sizeLine/\∃m',m'<xs.length-i /\
      (m'=xs.length-(i+1)/\i+1<=xs.length/\upd H6 Dp (.lst (acc++[y])) Dp=some (.lst (acc++[y]))/\ae H1 (upd H6 Dp (.lst (acc++[y])))/\(acc++[y]).length<=i+1/\∃F2,ae F1 F2 /\
       ai B F2 (upd H6 Dp (.lst (acc++[y]))) σ ah ((.lst true ((((xs.map D.sh).take (i+1)).filter p).map f),.ref Dp)::ts))
     else ∃m',m'<xs.length-i/\(m'=xs.length-(i+1)/\i+1<=xs.length/\H5 Dp=some (.lst acc)/\ae H1 H5/\acc.length<=i+1/\∃F2,ae F1 F2 /\
       ai B F2 H5 σ ah ((.lst true ((((xs.map D.sh).take (i+1)).filter p).map f),.ref Dp)::ts)):=by
   intro Fi R4 R5 hS aR back
   have ci:ai ⟨H3,Fi⟩ Fi H3 (eO az n σ) (dH az n ah) []:=⟨R4,ae.refl _,ae.refl _,λ_ _ q=>.inl q,[],[],.nil,R5,by simp,by simp⟩
   refine⟨⟨H3,Fi⟩,Fi,dH az n ah,[],d0,_,ci.pushS hS aR,AI,λaa eD AJ l1 k1 c4=>⟨⟨l1,k1⟩,⟨H3,Fi⟩,Fi,aa,[],_,c4,AJ,λb fQ F5 H5 hb f5 h5 c5=>?_⟩⟩
   obtain⟨hb,ht⟩:=hb
   have wK:H5 Dp=some (.lst acc):=h5 _ _ FR
   refine⟨wK,?_⟩
   by_cases hp:p d0=true
   ·rw[hb,hp]
    refine j0 ⟨⟨H3,Fi⟩,F5,fQ,[],_,c5,ht hp,λd ZD v F6 H6 hd f6 h6 c6=>?_⟩
    have FT:H6 Dp=some (.lst acc):=h6 _ _ wK
    obtain⟨A,C,r,s,nd,fr⟩:=c6.own
    obtain⟨F4,R6,c7⟩:=back d v F6 H6 A hd hp c6.b1 c6.b2 c6.ext c6.b3 r (eI.mp nd).1 λa ha=>fr a (dz _ ha)
    have c8:=c7.RO FT
    refine⟨FT,by omega,xs.length-(i+1),by omega,rfl,dW,a5,?_,by simpa using R3,F4,uH.trans R6,?_⟩
    ·have FU:=AH.trans c6.b1
     exact⟨λa o q n=>by rw[ay (cq q hD)];exact FU.get a o q n,λa ps q=>by rw[ay (cq q hD)];exact FU.tb a ps q⟩
    ·have e9:(((xs.map D.sh).take (i+1)).filter p).map f=(((xs.map D.sh).take i).filter p).map f++[d]:=by
      rw[FP _ p i d0 e0,hp,hd];simp
     rw[e9]
     exact c8
   ·have FV:p d0=false:=by simpa using hp
    rw[hb,FV]
    refine iB ⟨xs.length-(i+1),by omega,rfl,dW,wK,AH.trans h5,by omega,F2,uH,?_⟩
    have e9:(((xs.map D.sh).take (i+1)).filter p).map f=(((xs.map D.sh).take i).filter p).map f:=by
     rw[FP _ p i d0 e0,FV];simp
    rw[e9]
    exact c3.grow h5
  by_cases hA:(sh&&az.all (fe ah))=true
  ·rw[cJ]at hA
   obtain⟨aR,jd⟩:=AF hA.1
   have nI:=iG aR
   rw[nI]at e0
   obtain⟨d1,e1,_,r1⟩:=jd.fy i H2 x H3 (uH.trans c2.ext) dW y
   rw[e0]at e1;cases e1
   have R7:d0.pl=true:=by have:=r1.pl;simpa using this
   refine turn F2 c3.ext (FL c3 n az hA.2) ((r1.s).mono uH (ae.refl _)) R7 λd v F' H' A hd hp hs hf he h3 r nd fr=>⟨F',hf,c3.call hs hf he h3 r nd fr⟩
  ·have R8:=cV.resolve_left hA
   refine turn H3 (ae.refl _) (FN c3 n az) ((r0.shared AH (ae.refl _)).s) (by have:=r0.pl;simpa using this) λd v F' H' A hd hp hs hf he h3 r nd fr=>⟨F2,ae.refl _,?_⟩
   exact c3.wV hs (r.wU (by rw[hd];simp[R8 d0 FQ hp]) (c3.ext.trans hf)) nd fr
theorem oC(az:List (Str × Nat))(bV:List Str)(hc:X.calm=true)(hi:PI X tg iter (lI ti))
  (hg:∀C s H fp,PG (dh X scope (az.map (·.1)++bV) cl C s H fp) tg (lG az.length g))
  (ht:∀C s H fp,uh (dh X scope (az.map (·.1)++bV) cl C s H fp) ifs (lT tt)) (he:∀C s H fp,PE (dh X scope (az.map (·.1)++bV) cl C s H fp) elt (lE te))
  (ui:closureFor scope X.env=pure cl) (uj:nL X cl:=by repeat' (first | exact trivial | refine⟨rfl,?_⟩)) (uk:nM cl (relabel scope X.env).names:=by repeat' (first | exact trivial | refine⟨.inl rfl,?_⟩ | refine⟨.inr (.inl rfl),?_⟩ | refine⟨.inr (.inr ⟨_,rfl⟩),?_⟩)) (um:nK X scope cl az:=by repeat' (first | exact trivial | refine⟨⟨rfl,.inl rfl,.inl rfl,_,rfl,rfl⟩,?_⟩))
  (jc:∀y∈scope.names,y.2≠.cell:=by decide +kernel) (iA:scope.kind=.function:=by rfl) (uo:∀y∈scope.names,y.2=.local->scope.names.lookup y.1=some .local:=by decide +kernel)
  (hs:∀x,foldedSetIterable iter X.env x=pure x:=by intro _;rfl):PE X (.ListComp elt [⟨tg,iter,ifs,0⟩] scope pos) (lE (oB ti az bV.length g tt te)) :=
 b8 (QP az bV hc hi hg ht he ui uj uk um jc iA uo hs) λσ H Q zq=>by
 obtain⟨B,F,δ,ts,Qd,c,q,k⟩:=zq
 exact⟨B,F,δ,ts,_,c,q,λsh xs ah J F1 H1 hq f1 h1 c1 uF AF=>by
  obtain⟨p,f,hx,cV,hlen,hQ⟩:=hq
  exact R1 c1 uF AF p f hx cV hlen hQ λd aa v F' H' hd hf hs c'=>k d aa v F' H' hd (f1.trans hf) (h1.trans hs) c'⟩
theorem oE{Y:Cx}:uh Y [] (lT hJ):=λ_ _ _ H _ I ⟨B,F,δ,ts,Qd,c,q,k⟩=>Qx _ _ _ H _ I (k true δ F H q (ae.refl _) (ae.refl _) c)
end
end L3
namespace L3
open PySem L2 PySem.Spec PyProof.Rows
section
variable{X:Cx}{F H:Hp}{v w:V}
noncomputable def l2(rd:bQ):R2:=λv w H Q=>∃B F σ δ ts x y Qd,ai B F H σ δ ts/\S F H [x] [v]/\S F H [y] [w]/\rd x y Qd/\∀d z H',Qd d->ae H H'->ai B F H' σ δ ((d,z)::ts)->Q z H'
theorem bj.of{f:Value->Value->Sem Value}{rd:bQ}(h:bI X f (l2 rd)):bj X f rd:=⟨_,h,λ{B F H σ δ ts x y v w Q Qd} c sx sy q k=>⟨B,F,σ,δ,ts,x,y,Qd,c,sx,sy,q,k⟩⟩
theorem uI{f:Value->Value->Sem Value}{C:Int->Int->Prop}{g:Int->Int->V}{gd:Int->Int->D}(ho:bI X f (rI C g))(hg:∀i j F H,S F H [gd i j] [g i j])(hp:∀i j,(gd i j).pl=true):bj X f λx y Q=>∃i j,x=.int i/\y=.int j/\C i j/\Q (gd i j) :=
 ⟨_,ho,λ{B F H σ δ ts x y v w Q Qd} c sx sy h k=>by
  obtain⟨i,j,rfl,rfl,hc,q⟩:=h
  cases sx;cases sy
  exact⟨i,j,rfl,rfl,hc,k _ _ _ q (ae.refl _) (c.pushS (hg i j F H) (hp i j))⟩⟩
theorem iH{f:Value->Value->Sem Value}{g:Int->Int->V}{gd:Int->Int->D}(ho:bI X f (fB g))(hg:∀i j F H,S F H [gd i j] [g i j])(hp:∀i j,(gd i j).pl=true):bj X f λx y Q=>∃i j,x=.int i/\y=.int j/\Q (gd i j) :=
 ⟨_,ho,λ{B F H σ δ ts x y v w Q Qd} c sx sy h k=>by
  obtain⟨i,j,rfl,rfl,q⟩:=h
  cases sx;cases sy
  exact⟨i,j,rfl,rfl,k _ _ _ q (ae.refl _) (c.pushS (hg i j F H) (hp i j))⟩⟩
theorem hV{o:Bool}{xs:List D}(s:S F H [.lst o xs] [v])(e:ae F H):∃p ws,v=.ref p/\H p=some (.lst ws)/\S F H xs ws:=by
 cases s with
 | shr h r _=>exact⟨_,_,rfl,e _ _ h,r.s⟩
 | own h r _=>exact⟨_,_,rfl,h,r⟩
theorem iJ{xs:List D}(s:S F H [.tup xs] [v]):∃p ws,v=.ref p/\H p=some (.tup ws)/\S F H xs ws:=by
 cases s with
 | tup h r _=>exact⟨_,_,rfl,h,r⟩
theorem lR{d:D}{xs:List D}(s:S F H [d] [v])(e:ae F H)(h:fP d=some xs):∃p ws,v=.ref p/\Rd H p (.lst ws)/\S F H xs ws:=by
 cases s with
 | shr h' r _=>cases h;exact⟨_,_,rfl,.inl (e _ _ h'),r.s⟩
 | own h' r _=>cases h;exact⟨_,_,rfl,.inl h',r⟩
 | fz h' r _=>cases h;exact⟨_,_,rfl,.inr ⟨_,e _ _ h'⟩,r.s⟩
 | ao _=>cases h
 | bl _=>cases h
 | int _=>cases h
 | str _=>cases h
 | tup _ _ _=>cases h
 | obj _ _ _ _=>cases h
 | aS _ _=>cases h
theorem S.rep{xs:List D}{ws:List V}(s:S F H xs ws):∀k:Nat,S F H (aT k xs).flatten (aT k ws).flatten
 | 0=>by simpa using S.nil
 | k+1=>by
  rw[mO,mO,qF,qF]
  exact s.append (S.rep s k)
noncomputable def lU:bQ:=λx y Q=>match x,y with
 | .int i,.int j=>Q (.int (i+j))
 | .str a,.str b=>a.length+b.length<=sizeLine/\Q (.str (a++b))
 | .lst _ xs,.lst _ ys=>(xs.length+ys.length<=sizeLine/\xs.all D.pl=true/\ys.all D.pl=true)/\Q (.lst true (xs++ys))
 | _,_=>False
theorem R9:bj X (binaryOp .Add) λx y Q=>∃o xs o' ys,x=.lst o xs/\y=.lst o' ys/\(xs.length+ys.length<=sizeLine/\xs.all D.pl=true/\ys.all D.pl=true)/\Q (.lst true (xs++ys)) :=
 ⟨_,Pu,λ{B F H σ δ ts x y v w Q Qd} c sx sy h k=>by
  obtain⟨o,xs,o',ys,rfl,rfl,⟨hz,h1,h2⟩,q⟩:=h
  obtain⟨p,ws,rfl,e1,s1⟩:=hV sx c.ext
  obtain⟨p',fO,rfl,e2,s2⟩:=hV sy c.ext
  refine⟨p,p',ws,fO,rfl,rfl,e1,e2,by rw[<-s1.length,<- s2.length];exact hz,λr hr=>?_⟩
  exact k _ _ _ q (ae.upd hr) (c.j5 hr (s1.append s2) (by simp[h1,h2]))⟩
theorem Sa:bj X (binaryOp .Add) λx y Q=>∃i j,x=.str i/\y=.str j/\i.length+j.length<=sizeLine/\Q (.str (i++j)) :=
 ⟨_,Oj,λ{B F H σ δ ts x y v w Q Qd} c sx sy h k=>by
  obtain⟨i,j,rfl,rfl,hz,q⟩:=h
  cases sx;cases sy
  exact⟨i,j,rfl,rfl,hz,k _ _ _ q (ae.refl _) (c.pushS (.str .nil) rfl)⟩⟩
theorem eR:bj X (binaryOp .Add) lU:=((iH (gd:=λi j=>.int (i+j)) N3 (λ_ _ _ _=>.int .nil) λ_ _=>rfl).or (Sa.or R9)).imp λx y Q h=>by
 unfold lU at h
 split at h
 ·exact .inl ⟨_,_,rfl,rfl,h⟩
 ·exact .inr (.inl ⟨_,_,rfl,rfl,h.1,h.2⟩)
 ·exact .inr (.inr ⟨_,_,_,_,rfl,rfl,h.1,h.2⟩)
 ·exact h.elim
noncomputable def iI(C:Int->Int->Prop)(g:Int->Int->D):bQ:=λx y Q=>match x,y with
 | .int i,.int j=>C i j/\Q (g i j)
 | _,_=>False
noncomputable def eu(g:Int->Int->D):bQ:=λx y Q=>match x,y with
 | .int i,.int j=>Q (g i j)
 | _,_=>False
theorem xh{f:Value->Value->Sem Value}{C:Int->Int->Prop}{g:Int->Int->D}(h:bj X f λx y Q=>∃i j,x=.int i/\y=.int j/\C i j/\Q (g i j)):bj X f (iI C g):=h.imp λx y Q h=>by
 unfold iI at h
 split at h
 ·exact⟨_,_,rfl,rfl,h.1,h.2⟩
 ·exact h.elim
theorem jq{f:Value->Value->Sem Value}{g:Int->Int->D}(h:bj X f λx y Q=>∃i j,x=.int i/\y=.int j/\Q (g i j)):bj X f (eu g):=h.imp λx y Q h=>by
 unfold eu at h
 split at h
 ·exact⟨_,_,rfl,rfl,h⟩
 ·exact h.elim
noncomputable def oF:bQ:=eu λi j=>.int (i-j)
theorem jr:bj X (binaryOp .Sub) oF:=jq (iH zJ (λ_ _ _ _=>.int .nil) λ_ _=>rfl)
noncomputable def AK(_ j:Int):Prop:=0<j/\j.natAbs.log2<9000
theorem rj{i j:Int}(h1:0<j)(h2:j<1073741824):AK i j:=⟨h1,by
 have h:j.natAbs<2 ^ 30:=by omega
 have:=(Nat.log2_lt (show j.natAbs≠0 by omega)).mpr h
 omega⟩
theorem Sb:bI X (binaryOp .FloorDiv) (rI AK λi j=>.int (i/j)):=t8 λi j _ _ _ _ _ hc q =>
 floordiv_int (show j≠0 by have:=hc.1;omega) (by rw[Mq i (by have:=hc.1;omega)];exact q) (.inl (PyProof.noPylong_of_log2 hc.2))
noncomputable def oG:bQ:=iI AK λi j=>.int (i/j)
theorem rk:bj X (binaryOp .FloorDiv) oG:=xh (uI Sb (λ_ _ _ _=>.int .nil) λ_ _=>rfl)
noncomputable def oH:bQ:=iI (λ_ j=>0<j) λi j=>.int (i%j)
theorem dn:bj X (binaryOp .Mod) oH:=xh (uI N4 (λ_ _ _ _=>.int .nil) λ_ _=>rfl)
noncomputable def oJ:bQ:=iI E2 λi j=>.int (i*2 ^ j.toNat)
theorem rl:bj X (binaryOp .LShift) oJ:=xh (uI E3 (λ_ _ _ _=>.int .nil) λ_ _=>rfl)
noncomputable def oK:bQ:=iI (λ_ j=>0<=j) λi j=>.int (i/2 ^ j.toNat)
theorem FW:bj X (binaryOp .RShift) oK:=xh (uI N5 (λ_ _ _ _=>.int .nil) λ_ _=>rfl)
noncomputable def oM:bQ:=eu λi j=>.int (kP i j)
theorem FX:bj X (binaryOp .BitAnd) oM:=jq (iH N6 (λ_ _ _ _=>.int .nil) λ_ _=>rfl)
noncomputable def oN:bQ:=eu λi j=>.int (mL i j)
theorem uJ:bj X (binaryOp .BitXor) oN:=jq (iH N7 (λ_ _ _ _=>.int .nil) λ_ _=>rfl)
theorem Sd:bI X (binaryOp .Mult) (rI IntMulOk λi j=>.int (i*j)):=t8 λ_ _ _ _ _ _ _ hc q=>mul_int q hc
noncomputable def lV:bQ:=λx y Q=>match x,y with
 | .int i,.int j=>IntMulOk i j/\Q (.int (i*j))
 | .lst _ xs,.int k=>(-(2 ^ 63)<=k/\k<2 ^ 63/\xs.length*k.toNat<=sizeLine/\xs.all D.pl=true)/\Q (.lst true (aT k.toNat xs).flatten)
 | _,_=>False
theorem Se:bj X (binaryOp .Mult) λx y Q=>∃o xs k,x=.lst o xs/\y=.int k/\(-(2 ^ 63)<=k/\k<2 ^ 63/\xs.length*k.toNat<=sizeLine/\xs.all D.pl=true)/\Q (.lst true (aT k.toNat xs).flatten) :=
 ⟨_,Py,λ{B F H σ δ ts x y v w Q Qd} c sx sy h k=>by
  obtain⟨o,xs,n,rfl,rfl,⟨b1,b2,hz,h1⟩,q⟩:=h
  obtain⟨p,ws,rfl,e1,s1⟩:=hV sx c.ext
  cases sy
  refine⟨p,n,ws,rfl,rfl,e1,b1,b2,by rw[<-s1.length];exact hz,λr hr=>?_⟩
  refine k _ _ _ q (ae.upd hr) (c.j5 hr (s1.rep _) ?_)
  rw[cX]
  intro x hx
  obtain⟨l,hl,FY⟩:=List.mem_flatten.mp hx
  rw[(y8.mp hl).2]at FY
  exact cX.mp h1 x FY⟩
theorem js:bj X (binaryOp .Mult) lV:=((uI (gd:=λi j=>.int (i*j)) Sd (λ_ _ _ _=>.int .nil) λ_ _=>rfl).or Se).imp λx y Q h=>by
 unfold lV at h
 split at h
 ·exact .inl ⟨_,_,rfl,rfl,h.1,h.2⟩
 ·exact .inr ⟨_,_,_,rfl,rfl,h.1,h.2⟩
 ·exact h.elim
theorem Sf:bj X (inplaceOp .Add) (eu λi j=>.int (i+j)):=jq (iH N8 (λ_ _ _ _=>.int .nil) λ_ _=>rfl)
theorem Sg:bj X (inplaceOp .Sub) (eu λi j=>.int (i-j)):=jq (iH N9 (λ_ _ _ _=>.int .nil) λ_ _=>rfl)
theorem AL:bj X (inplaceOp .BitXor) (eu λi j=>.int (mL i j)):=jq (iH Oa (λ_ _ _ _=>.int .nil) λ_ _=>rfl)
noncomputable def oO:bQ:=eu λi j=>.bl (decide (i<j))
noncomputable def oQ:bQ:=eu λi j=>.bl (decide (i<=j))
noncomputable def oR:bQ:=eu λi j=>.bl (decide (j<i))
noncomputable def oS:bQ:=eu λi j=>.bl (decide (j<=i))
theorem uK:bj X (compareOp .Lt) oO:=jq (iH Od (λ_ _ _ _=>.bl .nil) λ_ _=>rfl)
theorem uL:bj X (compareOp .LtE) oQ:=jq (iH Oe (λ_ _ _ _=>.bl .nil) λ_ _=>rfl)
theorem xi:bj X (compareOp .Gt) oR:=jq (iH Of (λ_ _ _ _=>.bl .nil) λ_ _=>rfl)
theorem Sh:bj X (compareOp .GtE) oS:=jq (iH Og (λ_ _ _ _=>.bl .nil) λ_ _=>rfl)
noncomputable def rm:D->Bool
 | .ao=>true
 | _=>false
noncomputable def bG:D->D->Bool
 | .ao,.ao=>true
 | .bl a,.bl b=>a==b
 | .bl a,.int b=>(if a then 1 else 0)==b
 | .int a,.bl b=>a==(if b then 1 else 0)
 | .int a,.int b=>a==b
 | .str a,.str b=>a==b
 | .lst _ xs,.lst _ ys=>fS xs ys
 | .tup xs,.tup ys=>fS xs ys
 | _,_=>false
where fS:List D->List D->Bool
 | [],[]=>true
 | x::xs,y::ys=>bG x y&&fS xs ys
 | _,_=>false
noncomputable def b9:Nat->D->Bool
 | _,.ao=>true
 | _,.bl _=>true
 | _,.int _=>true
 | _,.str _=>true
 | n+1,.lst _ xs=>xs.all (b9 n)
 | n+1,.tup xs=>xs.all (b9 n)
 | _,_=>false
theorem AM:∀(xs ys:List D),xs.length=ys.length->bG.fS xs ys=(bD xs.length).all λj=>bG (xs.getD j .ao) (ys.getD j .ao)
 | [],[],_=>rfl
 | x::xs,y::ys,h=>by
  rw[cS,MG,cZ,sY]
  show(bG x y&&bG.fS xs ys)=_
  rw[AM xs ys (by simpa using h)]
  rfl
theorem AN:∀(xs ys:List D),xs.length≠ys.length->bG.fS xs ys=false
 | [],[],h=>absurd rfl h
 | [],_::_,_=>rfl
 | _::_,[],_=>rfl
 | x::xs,y::ys,h=>by
  show(bG x y&&bG.fS xs ys)=false
  rw[AN xs ys (by simpa using h),Bool.and_false]
noncomputable def Si:V->D
 | .bl b=>.bl b
 | .int i=>.int i
 | .str z=>.str z
 | _=>.ao
theorem uM{x:D}{v:V}(h:b9 0 x=true)(s:S F H [x] [v]):x=Si v:=by
 cases s with
 | ao _=>rfl
 | bl _=>rfl
 | int _=>rfl
 | str _=>rfl
 | _=>cases h
theorem FZ{x:D}(h:b9 0 x=true):bG x x=true:=by
 cases x with
 | ao=>rfl
 | bl b=>exact beq_self_eq_true b
 | int i=>exact beq_self_eq_true i
 | str z=>exact beq_self_eq_true z
 | _=>cases h
theorem lW{n:Nat}{x:D}(h:b9 (n+1) x=true):b9 0 x=true\/(∃o xs,x=.lst o xs/\xs.all (b9 n)=true)\/∃xs,x=.tup xs/\xs.all (b9 n)=true:=by
 cases x with
 | lst o xs=>exact .inr (.inl ⟨o,xs,rfl,h⟩)
 | tup xs=>exact .inr (.inr ⟨xs,rfl,h⟩)
 | obj _ _ _=>exact absurd h kO
 | fz _=>exact absurd h kO
 | aS _=>exact absurd h kO
 | _=>exact .inl rfl
theorem xj{x:D}{p:Addr}(h:b9 0 x=true)(s:S F H [x] [.ref p]):False:=by
 rw[uM h s]at s
 cases s
theorem F8:∀(n:Nat) {xs ys:List D} {vs:List V},xs.all (b9 n)=true->ys.all (b9 n)=true->S F H xs vs->S F H ys vs->ae F H->bG.fS xs ys=true:=by
 intro n xs
 induction n generalizing xs with
 | zero =>
  induction xs with
  | nil=>intro ys vs _ _ s1 s2 _;cases s1;cases s2;rfl
  | cons x xs ih =>
   intro ys vs h1 h2 s1 s2 e
   obtain⟨v,bF,rfl,q1,r1⟩:=s1.bW
   cases ys with
   | nil=>cases s2
   | cons y ys =>
    obtain⟨v',FA,ee,q2,r2⟩:=s2.bW
    obtain⟨rfl,rfl⟩:=jQ ee
    rw[cZ,cJ]at h1 h2
    show(bG x y&&bG.fS xs ys)=true
    rw[ih h1.2 h2.2 r1 r2 e,i7,uM h2.1 q2,<- uM h1.1 q1]
    exact FZ h1.1
 | succ n F9 =>
  induction xs with
  | nil=>intro ys vs _ _ s1 s2 _;cases s1;cases s2;rfl
  | cons x xs ih =>
   intro ys vs h1 h2 s1 s2 e
   obtain⟨v,bF,rfl,q1,r1⟩:=s1.bW
   cases ys with
   | nil=>cases s2
   | cons y ys =>
    obtain⟨v',FA,ee,q2,r2⟩:=s2.bW
    obtain⟨rfl,rfl⟩:=jQ ee
    rw[cZ,cJ]at h1 h2
    show(bG x y&&bG.fS xs ys)=true
    rw[ih h1.2 h2.2 r1 r2 e,i7]
    have h1:=h1.1
    have h2:=h2.1
    clear ih r1 r2 s1 s2
    rcases lW h1 with k1 | ⟨o1,a1,rfl,k1⟩ | ⟨a1,rfl,k1⟩
    ·rcases lW h2 with k2 | ⟨o2,a2,rfl,k2⟩ | ⟨a2,rfl,k2⟩
     ·rw[uM k2 q2,<- uM k1 q1]
      exact FZ k1
     ·obtain⟨p,ws,rfl,_⟩:=hV q2 e
      exact(xj k1 q1).elim
     ·obtain⟨p,ws,rfl,_⟩:=iJ q2
      exact(xj k1 q1).elim
    ·obtain⟨p,ws,rfl,e1,t1⟩:=hV q1 e
     rcases lW h2 with k2 | ⟨o2,a2,rfl,k2⟩ | ⟨a2,rfl,k2⟩
     ·exact(xj k2 q2).elim
     ·obtain⟨p2,AO,ev,e2,t2⟩:=hV q2 e
      cases ev
      cases e1.symm.trans e2
      exact F9 k1 k2 t1 t2 e
     ·obtain⟨p2,AO,ev,e2,t2⟩:=iJ q2
      cases ev
      cases e1.symm.trans e2
    ·obtain⟨p,ws,rfl,e1,t1⟩:=iJ q1
     rcases lW h2 with k2 | ⟨o2,a2,rfl,k2⟩ | ⟨a2,rfl,k2⟩
     ·exact(xj k2 q2).elim
     ·obtain⟨p2,AO,ev,e2,t2⟩:=hV q2 e
      cases ev
      cases e1.symm.trans e2
     ·obtain⟨p2,AO,ev,e2,t2⟩:=iJ q2
      cases ev
      cases e1.symm.trans e2
      exact F9 k1 k2 t1 t2 e
end
end L3
namespace L3
open PySem L2 PySem.Spec PyProof.Rows
structure Ga(A:Around)(s:Shared)(u w:Value)(b:Bool):Prop where
 rc:SeqAt.RcAt A s u w b
 ne:SeqAt.RcNeAt A s u w (!b)
 eq:SeqAt.EqAt A s u w b
section
variable{X:Cx}{F H:Hp}{v w:V}
theorem Gb{xs:List V}{us:List Value}(r:Vals xs us){j:Nat}(h:j<us.toArray.size):∃x,xs[j]?=some x/\RelV x us.toArray[j]:=by
 have l:=r.length
 have hj:j<xs.length:=by rw[l];simpa using h
 obtain⟨u,e,q⟩:=r.get (a9 hj)
 obtain⟨_,z⟩:=gb.mp e
 refine⟨_,a9 hj,?_⟩
 have:us.toArray[j]=u:=by simpa using z
 rw[this];exact q
theorem Gd{xs:List D}{j:Nat}{d:D}(h:xs[j]?=some d):xs.getD j .ao=d:=by rw[bg,h];rfl
theorem rn{x:D}{v:V}{u:Value}(h:b9 0 x=true)(s:S F H [x] [v])(r:RelV v u):(x=.ao/\u=.none)\/(∃b,x=.bl b/\u=.bool b)\/(∃i t,x=.int i/\u=.int i t)\/∃z t,x=.str z/\u=.str z t:=by
 cases s with
 | ao _=>cases r;exact .inl ⟨rfl,rfl⟩
 | bl _=>cases r;exact .inr (.inl ⟨_,rfl,rfl⟩)
 | int _=>obtain⟨t,rfl⟩:=r;exact .inr (.inr (.inl ⟨_,t,rfl,rfl⟩))
 | str _=>obtain⟨t,rfl⟩:=r;exact .inr (.inr (.inr ⟨_,t,rfl,rfl⟩))
 | _=>exact absurd h kO
theorem Ge{x y:D}{u u':Value}{A:Around}{s:Shared}(h1:(x=.ao/\u=.none)\/(∃b,x=.bl b/\u=.bool b)\/(∃i t,x=.int i/\u=.int i t)\/∃z t,x=.str z/\u=.str z t)(h2:(y=.ao/\u'=.none)\/(∃b,y=.bl b/\u'=.bool b)\/(∃i t,y=.int i/\u'=.int i t)\/∃z t,y=.str z/\u'=.str z t):Ga A s u u' (bG x y):=by
 rcases h1 with⟨rfl,rfl⟩ | ⟨a,rfl,rfl⟩ | ⟨a,t,rfl,rfl⟩ | ⟨a,t,rfl,rfl⟩<;>rcases h2 with⟨rfl,rfl⟩ | ⟨b,rfl,rfl⟩ | ⟨b,t',rfl,rfl⟩ | ⟨b,t',rfl,rfl⟩
 ·exact⟨.none_none,.none_none,.same _⟩
 ·exact⟨.none_bool _,.none_bool _,.none_bool _⟩
 ·exact⟨.none_int _ _,.none_int _ _,.none_int _ _⟩
 ·exact⟨.none_str _ _,.none_str _ _,.none_str _ _⟩
 ·exact⟨.bool_none _,.bool_none _,.bool_none _⟩
 ·exact⟨.bool_bool _ _,.bool_bool _ _,.bool_bool _ _⟩
 ·exact⟨.bool_int _ _ _,.bool_int _ _ _,.bool_int _ _ _⟩
 ·exact⟨.bool_str _ _ _,.bool_str _ _ _,.bool_str _ _ _⟩
 ·exact⟨.int_none _ _,.int_none _ _,.int_none _ _⟩
 ·exact⟨.int_bool _ _ _,.int_bool _ _ _,.int_bool _ _ _⟩
 ·exact⟨.int_int _ _ _ _,.int_int _ _ _ _,.int_int _ _ _ _⟩
 ·exact⟨.int_str _ _ _ _,.int_str _ _ _ _,.int_str _ _ _ _⟩
 ·exact⟨.str_none _ _,.str_none _ _,.str_none _ _⟩
 ·exact⟨.str_bool _ _ _,.str_bool _ _ _,.str_bool _ _ _⟩
 ·exact⟨.str_int _ _ _ _,.str_int _ _ _ _,.str_int _ _ _ _⟩
 ·exact⟨.str_str _ _ _ _,.str_str _ _ _ _,.str_str _ _ _ _⟩
theorem Gf{pins:List (Addr × Obj)}{σ:L2.St}{s:Shared}(I:Inv X pins σ H s)(e:ae F H):∀(n:Nat) (x y:D) (v w:V) (u u':Value) (A:Around),b9 n x=true->b9 n y=true->S F H [x] [v]->S F H [y] [w]->RelV v u->RelV w u' ->
  A.units+n<cLine->Ga A s u u' (bG x y):=by
 intro n
 induction n with
 | zero =>
  intro x y v w u u' A hx hy sx sy rv dg hu
  exact Ge (rn hx sx rv) (rn hy sy dg)
 | succ n ih =>
  intro x y v w u u' A hx hy sx sy rv dg hu
  have aU:A.units<cLine:=kS (Nat.le_add_right ..) hu
  have xk:A.in1.units+n<cLine:=by show A.units+1+n<cLine;rw[Dn,vS 1];exact hu
  have items:∀{xs ys:List D} {vs ws:List V} {us oU:List Value},xs.all (b9 n)=true->ys.all (b9 n)=true->S F H xs vs->S F H ys ws->Vals vs us->Vals ws oU ->
    ∀j (h1:j<us.toArray.size) (h2:j<oU.toArray.size),SeqAt.EqAt A.in1 s us.toArray[j] oU.toArray[j] (bG (xs.getD j .ao) (ys.getD j .ao)):=by
   intro xs ys vs ws us oU hx hy sx sy r1 r2 j h1 h2
   obtain⟨a,e1,q1⟩:=Gb r1 h1
   obtain⟨b,e2,q2⟩:=Gb r2 h2
   obtain⟨d1,g1,t1⟩:=sx.get' e1
   obtain⟨d2,g2,t2⟩:=sy.get' e2
   rw[Gd g1,Gd g2]
   exact(ih d1 d2 a b _ _ A.in1 (cX.mp hx d1 (kQ g1)) (cX.mp hy d2 (kQ g2)) t1 t2 q1 q2 xk).eq
  clear ih hu xk
  rcases lW hx with k1 | ⟨o,xs,rfl,k1⟩ | ⟨xs,rfl,k1⟩
  ·have f:=rn k1 sx rv
   rcases lW hy with k2 | ⟨o',ys,rfl,k2⟩ | ⟨ys,rfl,k2⟩
   ·exact Ge f (rn k2 sy dg)
   ·obtain⟨p',fO,rfl,e2,t2⟩:=hV sy e
    cases dg
    obtain⟨iK,r2,p2,z2⟩:=I.list (a8.of (K:=X.K) e2)
    have p2:=p2.isList
    rcases f with⟨rfl,rfl⟩ | ⟨a,rfl,rfl⟩ | ⟨a,t,rfl,rfl⟩ | ⟨a,t,rfl,rfl⟩
    ·exact⟨.none_list p2 aU,.none_list p2 aU,.none_list p2 aU⟩
    ·exact⟨.bool_list _ p2 aU,.bool_list _ p2 aU,.bool_list _ p2 aU⟩
    ·exact⟨.int_list _ _ p2 aU,.int_list _ _ p2 aU,.int_list _ _ p2 aU⟩
    ·exact⟨.str_list _ _ p2 aU,.str_list _ _ p2 aU,.str_list _ _ p2 aU⟩
   ·obtain⟨p',fO,rfl,e2,t2⟩:=iJ sy
    cases dg
    obtain⟨iK,r2,p2,z2⟩:=I.tuple (e7.of (K:=X.K) e2)
    rcases f with⟨rfl,rfl⟩ | ⟨a,rfl,rfl⟩ | ⟨a,t,rfl,rfl⟩ | ⟨a,t,rfl,rfl⟩
    ·exact⟨.none_tuple p2 aU,.none_tuple p2 aU,.none_tuple p2 aU⟩
    ·exact⟨.bool_tuple _ p2 aU,.bool_tuple _ p2 aU,.bool_tuple _ p2 aU⟩
    ·exact⟨.int_tuple _ _ p2 aU,.int_tuple _ _ p2 aU,.int_tuple _ _ p2 aU⟩
    ·exact⟨.str_tuple _ _ p2 aU,.str_tuple _ _ p2 aU,.str_tuple _ _ p2 aU⟩
  ·obtain⟨p,ws,rfl,e1,t1⟩:=hV sx e
   cases rv
   obtain⟨its,r1,p1,z1⟩:=I.list (a8.of (K:=X.K) e1)
   have p1:=p1.isList
   rcases lW hy with k2 | ⟨o',ys,rfl,k2⟩ | ⟨ys,rfl,k2⟩
   ·rcases rn k2 sy dg with⟨rfl,rfl⟩ | ⟨a,rfl,rfl⟩ | ⟨a,t,rfl,rfl⟩ | ⟨a,t,rfl,rfl⟩
    ·exact⟨.list_none p1 aU,.list_none p1 aU,.list_none p1 aU⟩
    ·exact⟨.list_bool _ p1 aU,.list_bool _ p1 aU,.list_bool _ p1 aU⟩
    ·exact⟨.list_int _ _ p1 aU,.list_int _ _ p1 aU,.list_int _ _ p1 aU⟩
    ·exact⟨.list_str _ _ p1 aU,.list_str _ _ p1 aU,.list_str _ _ p1 aU⟩
   ·obtain⟨p',fO,rfl,e2,t2⟩:=hV sy e
    cases dg
    obtain⟨iK,r2,p2,z2⟩:=I.list (a8.of (K:=X.K) e2)
    have p2:=p2.isList
    have kb:xs.length=its.length:=t1.length.trans r1.length
    have lY:ys.length=iK.length:=t2.length.trans r2.length
    by_cases hl:xs.length=ys.length
    ·have hsz:its.toArray.size=iK.toArray.size:=by rw[bY,bY,<- kb,<- lY];exact hl
     have ev:(bD its.toArray.size).all (λj=>bG (xs.getD j .ao) (ys.getD j .ao))=bG (.lst o xs) (.lst o' ys):=by
      show _=bG.fS xs ys
      rw[AM xs ys hl,bY,<- kb]
     have a:=SeqAt.RcAt.lists (e:=λj=>bG (xs.getD j .ao) (ys.getD j .ao)) p1 p2 hsz aU (items k1 k2 t1 t2 r1 r2)
     have b:=SeqAt.RcNeAt.lists (e:=λj=>bG (xs.getD j .ao) (ys.getD j .ao)) p1 p2 hsz aU (items k1 k2 t1 t2 r1 r2)
     rw[ev]at a b
     refine⟨a,b,?_⟩
     by_cases oV:p=p'
     ·subst oV
      cases e1.symm.trans e2
      rw[show bG (.lst o xs) (.lst o' ys)=true from F8 n k1 k2 t1 t2 e]
      exact .same _
     ·exact .of_refs oV a
    ·have hsz:(its.toArray.size != iK.toArray.size)=true:=bne_iff_ne.mpr (by rw[bY,bY,<- kb,<- lY];exact hl)
     rw[show bG (.lst o xs) (.lst o' ys)=false from AN xs ys hl]
     have a:=SeqAt.RcAt.lists_lengths p1 p2 hsz aU
     refine⟨a,SeqAt.RcNeAt.lists_lengths p1 p2 hsz aU,.of_refs (λoV=>?_) a⟩
     subst oV
     cases e1.symm.trans e2
     exact hl (t1.length.trans t2.length.symm)
   ·obtain⟨p',fO,rfl,e2,t2⟩:=iJ sy
    cases dg
    obtain⟨iK,r2,p2,z2⟩:=I.tuple (e7.of (K:=X.K) e2)
    exact⟨.list_tuple p1 p2 aU,.list_tuple p1 p2 aU,.list_tuple p1 p2 aU⟩
  ·obtain⟨p,ws,rfl,e1,t1⟩:=iJ sx
   cases rv
   obtain⟨its,r1,p1,z1⟩:=I.tuple (e7.of (K:=X.K) e1)
   rcases lW hy with k2 | ⟨o',ys,rfl,k2⟩ | ⟨ys,rfl,k2⟩
   ·rcases rn k2 sy dg with⟨rfl,rfl⟩ | ⟨a,rfl,rfl⟩ | ⟨a,t,rfl,rfl⟩ | ⟨a,t,rfl,rfl⟩
    ·exact⟨.tuple_none p1 aU,.tuple_none p1 aU,.tuple_none p1 aU⟩
    ·exact⟨.tuple_bool _ p1 aU,.tuple_bool _ p1 aU,.tuple_bool _ p1 aU⟩
    ·exact⟨.tuple_int _ _ p1 aU,.tuple_int _ _ p1 aU,.tuple_int _ _ p1 aU⟩
    ·exact⟨.tuple_str _ _ p1 aU,.tuple_str _ _ p1 aU,.tuple_str _ _ p1 aU⟩
   ·obtain⟨p',fO,rfl,e2,t2⟩:=hV sy e
    cases dg
    obtain⟨iK,r2,p2,z2⟩:=I.list (a8.of (K:=X.K) e2)
    have p2:=p2.isList
    exact⟨.tuple_list p1 p2 aU,.tuple_list p1 p2 aU,.tuple_list p1 p2 aU⟩
   ·obtain⟨p',fO,rfl,e2,t2⟩:=iJ sy
    cases dg
    obtain⟨iK,r2,p2,z2⟩:=I.tuple (e7.of (K:=X.K) e2)
    have kb:xs.length=its.length:=t1.length.trans r1.length
    have lY:ys.length=iK.length:=t2.length.trans r2.length
    have ev:((bD (min its.toArray.size iK.toArray.size)).all (λj=>bG (xs.getD j .ao) (ys.getD j .ao))&&its.toArray.size==iK.toArray.size)=bG (.tup xs) (.tup ys):=by
     show _=bG.fS xs ys
     rw[bY,bY,<- kb,<- lY]
     by_cases hl:xs.length=ys.length
     ·rw[AM xs ys hl,<- hl,y9,beq_self_eq_true,i7]
     ·rw[AN xs ys hl,beq_false_of_ne hl,Bool.and_false]
    have a:=SeqAt.RcAt.tuples (e:=λj=>bG (xs.getD j .ao) (ys.getD j .ao)) p1 p2 aU (items k1 k2 t1 t2 r1 r2)
    have b:=SeqAt.RcNeAt.tuples (e:=λj=>bG (xs.getD j .ao) (ys.getD j .ao)) p1 p2 aU (items k1 k2 t1 t2 r1 r2)
    rw[ev]at a b
    refine⟨a,b,?_⟩
    by_cases oV:p=p'
    ·subst oV
     cases e1.symm.trans e2
     rw[show bG (.tup xs) (.tup ys)=true from F8 n k1 k2 t1 t2 e]
     exact .same _
    ·exact .of_refs oV a
noncomputable def oW:bQ:=λx y Q=>(b9 6 x=true/\b9 6 y=true)/\Q (.bl (bG x y))
noncomputable def oX:bQ:=λx y Q=>(b9 6 x=true/\b9 6 y=true)/\Q (.bl (!bG x y))
theorem ff(hu:X.A.units+6<cLine):bj X (compareOp .Eq) oW:=bj.of λpins s σ H v w u u' Q I rv dg zz=>by
 obtain⟨B,F,av,δ,ts,x,y,Qd,c,sx,sy,⟨⟨hx,hy⟩,q⟩,k⟩:=zz
 exact(Gf I c.ext 6 x y v w u u' X.A hx hy sx sy rv dg hu).rc _ _ _ _ ⟨.bl _,H,I,rfl,k _ _ _ q (ae.refl _) (c.pushS (.bl .nil) rfl)⟩
theorem xm(hu:X.A.units+6<cLine):bj X (compareOp .NotEq) oX:=bj.of λpins s σ H v w u u' Q I rv dg zz=>by
 obtain⟨B,F,av,δ,ts,x,y,Qd,c,sx,sy,⟨⟨hx,hy⟩,q⟩,k⟩:=zz
 exact(Gf I c.ext 6 x y v w u u' X.A hx hy sx sy rv dg hu).ne _ _ _ _ ⟨.bl _,H,I,rfl,k _ _ _ q (ae.refl _) (c.pushS (.bl .nil) rfl)⟩
end
end L3
namespace L3
open PySem L2 PySem.Spec PyProof.Rows
section
variable{X:Cx}{F H:Hp}{v w:V}{e a b c o:Expr}{es:List Expr}{pos p p2 apos aP:Pos}{t ta tb tc te:aw}{tr:a6}{x:Str}
theorem Sj{r r':R2}{rd uN:bQ}(hl:wZ r rd)(tQ:wZ r' uN):∀σ H Q,lE (lK rd uN ta tb tc) σ H Q->D2 r r' (lB ta) (lB tb) (lB tc) σ H Q:=λσ H Q ⟨B,F,δ,ts,Qd,c,q,k⟩ =>
 ⟨B,F,δ,ts,_,c,q,λx ah v F1 H1 q1 f1 h1 c1 s1=>⟨B,F1,ah,ts,_,c1,q1,λy aC w F2 H2 q2 f2 h2 c2 s2=>by
  refine hl c2 (s1.mono f2 h2) s2 q2 λd z H' hd hs c3=>?_
  obtain⟨b,rfl,qb⟩:=hd
  have st:=c3.top
  cases st with
  | bl _ =>
   refine⟨b,rfl,?_⟩
   cases b with
   | true =>
    refine j0 ⟨B,F2,aC,ts,_,c3.pop,by simpa using qb,λz fc w3 F3 H3 q3 f3 h3 c4 s3=>?_⟩
    exact tQ c4 (s2.mono f3 (hs.trans h3)) s3 q3 λd z H' hd Sk c5=>k d fc z F3 H' hd ((f1.trans f2).trans f3) ((((h1.trans h2).trans hs).trans h3).trans Sk) c5
   | false=>exact iB (k _ aC _ F2 H' (by simpa using qb) (f1.trans f2) ((h1.trans h2).trans hs) (c3.pop.pushS (.bl .nil) rfl))⟩⟩
theorem AQ{op nv:CmpOp}{rd uN:bQ}(ho:bj X (compareOp op) rd)(iu:bj X (compareOp nv) uN)(ha:PE X a (lB ta))(hb:PE X b (lB tb))(hc:PE X c (lB tc))
  (hm:lastMarks [op,nv] [b,c]=false:=by with_unfolding_all rfl):PE X (.Compare a [op,nv] [b,c] pos) (lE (lK rd uN ta tb tc)):=by
 obtain⟨r,h1,h2⟩:=ho
 obtain⟨r',gy,gx⟩:=iu
 exact b8 (Oi h1 gy ha hb hc hm) (Sj h2 gx)
noncomputable def oY(t:aw):aw:=λδ Q=>t δ λd aa=>match d with
 | .int i=>Q (.int (-i)) aa
 | _=>False
theorem Sl(ha:PE X a (lB ta)):PE X (.UnaryOp .USub a pos) (lE (oY ta)):=b8 (N0 Oc ha) λσ H Q zq=>by
 obtain⟨B,F,δ,ts,Qd,c,q,k⟩:=zq
 exact⟨B,F,δ,ts,_,c,q,λd ah v F1 H1 q1 f1 h1 c1 s1=>by
 cases s1 with
 | int _=>exact⟨_,rfl,k _ ah _ F1 H1 q1 f1 h1 (c1.pushS (.int .nil) rfl)⟩
 | _=>exact q1.elim⟩
noncomputable abbrev iL:=List D->(D->Prop)->Prop
noncomputable def lc(rd:iL):List V->Hp->VK->Prop:=λvs H Q=>∃B F σ δ ts ds Qd,ai B F H σ δ ts/\S F H ds vs/\rd ds Qd/\∀d z H',Qd d->ae H H'->ai B F H' σ δ ((d,z)::ts)->Q z H'
noncomputable def fU(X:Cx)(f:Value)(rd:iL):Prop:=eE X f (lc rd)
theorem fU.of{f:Value}{r:List V->Hp->VK->Prop}{rd:iL}(h:eE X f r)(m:∀vs H Q,lc rd vs H Q->r vs H Q):fU X f rd:=λpins s σ H xs us Q I r q=>h pins s σ H xs us Q I r (m xs H Q q)
noncomputable def ke(rd:iL)(t:a6):aw:=λδ Q=>t δ λds aa=>rd ds λd=>Q d aa
theorem Gg{rd:iL}:∀σ H Q,lE (ke rd tr) σ H Q->zQ (lc rd) (lA tr) σ H Q:=λσ H Q zq=>by
 obtain⟨B,F,δ,ts,Qd,c,q,k⟩:=zq
 exact⟨B,F,δ,ts,_,c,q,λds ah vs F1 H1 q1 f1 h1 c1 s1 =>
 ⟨B,F1,σ,ah,ts,ds,_,c1,s1,q1,λd z H' hd hs c'=>k d ah z F1 H' hd f1 (h1.trans hs) c'⟩⟩
theorem dP{id:String}{rd:iL}(hc:fU X (.builtin id) rd)(hg:Gl X x)(hm:X.mg x=none)(hv:bootBuiltins x=some (.builtin id))(ha:PA X (e::es) (lA tr))(hn:x≠"__name__":=by decide)(bN:(x==("__debug__":Str))=false:=by decide)
  (he:starEach (e::es) X.env=(false,eval e X.env)::starEach es X.env:=by rfl) (aR:(backTo pos (starEach es X.env)).any (·.1)=false:=by rfl):PE X (.Call (.Name x p) (e::es) [] pos) (lE (ke rd tr)) :=
 b8 (zR hc hg hm hv ha hn bN he aR) Gg
theorem Gh{T:String}{rd:iL}(hc:fU X (.type T) rd)(hg:Gl X x)(hm:X.mg x=none)(hv:bootBuiltins x=some (.type T))(ha:PA X (e::es) (lA tr))(hn:x≠"__name__":=by decide)(bN:(x==("__debug__":Str))=false:=by decide)
  (he:starEach (e::es) X.env=(false,eval e X.env)::starEach es X.env:=by rfl) (aR:(backTo pos (starEach es X.env)).any (·.1)=false:=by rfl):PE X (.Call (.Name x p) (e::es) [] pos) (lE (ke rd tr)) :=
 b8 (OX hc hg hm hv ha hn bN he aR) Gg
theorem kg{d:D}{vs:List V}(s:S F H [d] vs):∃v,vs=[v]/\S F H [d] [v]:=by
 obtain⟨v,bF,rfl,h1,h2⟩:=s.bW
 cases h2
 exact⟨v,rfl,h1⟩
theorem Sm{d d':D}{vs:List V}(s:S F H [d,d'] vs):∃v v',vs=[v,v']/\S F H [d] [v]/\S F H [d'] [v']:=by
 obtain⟨v,bF,rfl,h1,h2⟩:=s.bW
 obtain⟨v',rfl,h3⟩:=kg h2
 exact⟨v,v',rfl,h1,h3⟩
theorem kh{K:PySem.W.Frag}{p:Addr}{ws:List V}(h:Rd H p (.lst ws)):a8 K H p ws:=.inl h
noncomputable def lZ:iL:=λds Q=>match ds with
 | [.lst _ xs]=>Q (.int xs.length)
 | [.fz xs]=>Q (.int xs.length)
 | [.tup xs]=>Q (.int xs.length)
 | [.str z]=>z.length<=sizeLine/\Q (.int z.length)
 | _=>False
theorem fV:fU X (.builtin "len") lZ:=fU.of (Pj.or Pk) λvs H Q zz=>by
 obtain⟨B,F,σ,δ,ts,ds,Qd,c,s,q,k⟩:=zz
 unfold lZ at q
 split at q
 ·obtain⟨v,rfl,s1⟩:=kg s
  obtain⟨p,ws,rfl,h,t⟩:=lR s1 c.ext rfl
  refine .inl ⟨p,ws,rfl,.inl (kh h),?_⟩
  rw[<-t.length]
  exact k _ _ _ q (ae.refl _) (c.pushS (.int .nil) rfl)
 ·obtain⟨v,rfl,s1⟩:=kg s
  obtain⟨p,ws,rfl,h,t⟩:=lR s1 c.ext rfl
  refine .inl ⟨p,ws,rfl,.inl (kh h),?_⟩
  rw[<-t.length]
  exact k _ _ _ q (ae.refl _) (c.pushS (.int .nil) rfl)
 ·obtain⟨v,rfl,s1⟩:=kg s
  obtain⟨p,ws,rfl,h,t⟩:=iJ s1
  refine .inl ⟨p,ws,rfl,.inr (e7.of h),?_⟩
  rw[<-t.length]
  exact k _ _ _ q (ae.refl _) (c.pushS (.int .nil) rfl)
 ·obtain⟨v,rfl,s1⟩:=kg s
  cases s1
  exact .inr ⟨_,rfl,q.1,k _ _ _ q.2 (ae.refl _) (c.pushS (.int .nil) rfl)⟩
 ·exact q.elim
noncomputable def l4:iL:=λds Q=>match ds with
 | [.lst _ xs]=>xs.all D.pl=true/\Q (.lst true xs)
 | [.fz xs]=>Q (.lst true xs)
 | [.tup xs]=>xs.all D.pl=true/\Q (.lst true xs)
 | _=>False
theorem Gi:fU X (.type "list") l4:=fU.of Pl λvs H Q zz=>by
 obtain⟨B,F,σ,δ,ts,ds,Qd,c,s,q,k⟩:=zz
 unfold l4 at q
 split at q
 ·obtain⟨v,rfl,s1⟩:=kg s
  obtain⟨p,ws,rfl,h,t⟩:=lR s1 c.ext rfl
  exact⟨p,ws,rfl,.inl (kh h),λl hl=>k _ _ _ q.2 (ae.upd hl) (c.j5 hl t q.1)⟩
 ·obtain⟨v,rfl,s1⟩:=kg s
  cases s1 with
  | fz h r _=>exact⟨_,_,rfl,.inl (kh (.inr ⟨_,c.ext _ _ h⟩)),λl hl=>k _ _ _ q (ae.upd hl) (c.j5 hl r.s r.pl)⟩
 ·obtain⟨v,rfl,s1⟩:=kg s
  obtain⟨p,ws,rfl,h,t⟩:=iJ s1
  exact⟨p,ws,rfl,.inr (e7.of h),λl hl=>k _ _ _ q.2 (ae.upd hl) (c.j5 hl t q.1)⟩
 ·exact q.elim
noncomputable def ii(g:Int->Int->Int):iL:=λds Q=>match ds with
 | [.int i,.int j]=>Q (.int (g i j))
 | _=>False
theorem Gj{f:Value}{g:Int->Int->Int}(h:eE X f (λxs H Q=>∃i j,xs=[.int i,.int j]/\Q (.int (g i j)) H)):fU X f (ii g):=fU.of h λvs H Q zz=>by
 obtain⟨B,F,σ,δ,ts,ds,Qd,c,s,q,k⟩:=zz
 unfold ii at q
 split at q
 ·obtain⟨v,v',rfl,s1,s2⟩:=Sm s
  cases s1;cases s2
  exact⟨_,_,rfl,k _ _ _ q (ae.refl _) (c.pushS (.int .nil) rfl)⟩
 ·exact q.elim
theorem Sn(hc:X.calm=true):fU X (.builtin "max") (ii λi j=>if j>i then j else i):=Gj (Ol hc)
theorem So(hc:X.calm=true):fU X (.builtin "min") (ii λi j=>if j<i then j else i):=Gj (Om hc)
noncomputable def uO(bs:List Bool):List D:=bs.map D.bl
theorem Gk:∀{bs:List Bool} {ws:List V},S F H (uO bs) ws->ws=bs.map V.bl
 | [],_,s=>by cases s;rfl
 | b::bs,_,s=>by
  cases s with
  | bl s=>rw[Gk s];rfl
noncomputable def l5:iL:=λds Q=>match ds with
 | [.lst _ xs]=>∃bs,xs=uO bs/\Q (.bl (bs.all id))
 | _=>False
theorem AR(hc:X.calm=true):fU X (.builtin "all") l5:=fU.of (QE hc) λvs H Q zz=>by
 obtain⟨B,F,σ,δ,ts,ds,Qd,c,s,q,k⟩:=zz
 unfold l5 at q
 split at q
 ·obtain⟨v,rfl,s1⟩:=kg s
  obtain⟨bs,rfl,q⟩:=q
  obtain⟨p,ws,rfl,h,t⟩:=lR s1 c.ext rfl
  rw[Gk t]at h
  exact⟨p,bs,rfl,kh h,k _ _ _ q (ae.refl _) (c.pushS (.bl .nil) rfl)⟩
 ·exact q.elim
noncomputable def xo:D->Option String
 | .int _=>some "int"
 | .bl _=>some "bool"
 | .ao=>some "NoneType"
 | .str _=>some "str"
 | .lst _ _=>some "list"
 | .fz _=>some "list"
 | .tup _=>some "tuple"
 | _=>none
noncomputable def q8(k n:String):Option Bool:=([("int","int",true),("int","bool",false),("int","list",false),("int","tuple",false),("int","str",false),("bool","int",true),("bool","bool",true),("bool","list",false),("bool","tuple",false),("bool","str",false),
 ("NoneType","int",false),("NoneType","bool",false),("NoneType","list",false),("NoneType","tuple",false),("NoneType","str",false),("str","int",false),("str","bool",false),("str","list",false),("str","tuple",false),("str","str",true),
 ("list","int",false),("list","bool",false),("list","list",true),("list","tuple",false),("list","str",false),("tuple","int",false),("tuple","bool",false),("tuple","list",false),("tuple","tuple",true),("tuple","str",false)].find? λz=>z.1==k&&z.2.1==n).map (·.2.2)
noncomputable def jt(n:String)(d:D):Option Bool:=(xo d).bind λk=>q8 k n
theorem Sq{K:PySem.W.Frag}{k n:String}{r:Bool}(h:q8 k n=some r):PySem.W.kitOne K (.type k) (.type n)=some r:=by
 unfold q8 at h
 obtain⟨z,hz,rfl⟩:=qK.mp h
 have hm:=List.mem_of_find?_eq_some hz
 have hp:=List.find?_some hz
 rw[cJ,beq_iff_eq,beq_iff_eq]at hp
 obtain⟨rfl,rfl⟩:=hp
 simp only[bE,iq,or_false]at hm
 repeat' (rcases hm with hm | hm)
 all_goals rfl
theorem ki{K:PySem.W.Frag}{d:D}(s:S F H [d] [v])(e:ae F H){k:String}(h:xo d=some k):eL K H v (.type k):=by
 cases s with
 | int _=>cases h;exact .int _
 | bl _=>cases h;exact .bl _
 | ao _=>cases h;exact .ao
 | str _=>cases h;exact .str _
 | shr h' _ _=>cases h;exact .lst (e _ _ h')
 | own h' _ _=>cases h;exact .lst h'
 | fz h' _ _=>cases h;exact .bz (e _ _ h')
 | tup h' _ _=>cases h;exact .tup h'
 | obj _ _ _ _=>cases h
 | aS _ _=>cases h
theorem Sr{K:PySem.W.Frag}{d:D}(s:S F H [d] [v])(e:ae F H){n:String}{r:Bool}(h:jt n d=some r):∃t,eL K H v t/\PySem.W.kitOne K t (.type n)=some r:=by
 unfold jt at h
 cases hk:xo d with
 | none=>rw[hk]at h;cases h
 | some k=>rw[hk]at h;exact⟨_,ki s e hk,Sq h⟩
noncomputable def oZ(n:String)(t:aw):aw:=λδ Q=>t δ λd aa=>∃r,jt n d=some r/\Q (.bl r) aa
theorem AS{n:String}{y:Str}{q:Pos}(hg:Gl X "isinstance")(hm:X.mg "isinstance"=none)(kj:Gl X y)(hW:X.mg y=none)(AU:bootBuiltins y=some (.type n))(ha:PE X a (lB ta))
  (hn:y≠"__name__":=by decide) (hd:(y==("__debug__":Str))=false:=by decide)
  (hs:starEach [a,.Name y q] X.env=(false,eval a X.env)::starEach [.Name y q] X.env:=by rfl) (cm:starEach [.Name y q] X.env=(false,eval (.Name y q) X.env)::starEach [] X.env:=by rfl) (aR:(backTo pos (starEach [.Name y q] X.env)).any (·.1)=false:=by rfl) :
  PE X (.Call (.Name "isinstance" p) [a,.Name y q] [] pos) (lE (oZ n ta)) :=
 b8 (zR Qs hg hm EY (cL ha (cL (E4 kj hW AU hn hd) eM cm) hs) (by decide) (by decide) hs aR) λσ H Q zq=>by
 obtain⟨B,F,δ,ts,Qd,c,q,k⟩:=zq
 exact⟨B,F,δ,ts,_,c,q,λd ah v F1 H1 q1 f1 h1 c1 s1=>by
  obtain⟨r,e,qr⟩:=q1
  obtain⟨t,h2,h3⟩:=Sr (K:=X.K) s1 c1.ext e
  exact⟨v,n,t,r,rfl,h2,h3,k _ ah _ F1 H1 qr f1 h1 (c1.pushS (.bl .nil) rfl)⟩⟩
theorem AV{xs:List D}{ws:List V}{i:Int}{d:D}(s:S F H xs ws)(h:cM xs i=some d):∃v,cM ws i=some v/\S F H [d] [v]:=by
 unfold cM at h ⊢
 rw[<-s.length]
 cases e:gq xs.length i with
 | none=>rw[e]at h;cases h
 | some j =>
  rw[e]at h
  exact s.get h
noncomputable def l6(x y:D)(Q:D->Prop):Prop:=match x,y with
 | .lst _ xs,.int i=>∃d,cM xs i=some d/\Q d
 | .fz xs,.int i=>∃d,cM xs i=some d/\Q d
 | .tup xs,.int i=>∃d,cM xs i=some d/\Q d
 | .str z,.int i=>z.length<=sizeLine/\∃ch,cM z.cps.toList i=some ch/\Q (.str ⟨#[ch]⟩)
 | _,_=>False
noncomputable def o8(ta tb:aw):aw:=λδ Q=>ta δ λx ah=>tb ah λy aC=>l6 x y λd=>Q d aC
theorem bH(ha:PE X a (lB ta))(hb:PE X b (lB tb))(hs:Ek b):PE X (.Subscript a b pos) (lB (o8 ta tb)) :=
 b8 (O5 Pa ha hb hs) λσ H Q zq=>by
 obtain⟨B,F,δ,ts,Qd,c,q,k⟩:=zq
 exact⟨B,F,δ,ts,_,c,q,λx ah v F1 H1 q1 f1 h1 c1 s1=>⟨B,F1,ah,ts,_,c1,q1,λy aC w F2 H2 q2 f2 h2 c2 s2=>by
  have kl:=s1.mono f2 h2
  have fin:∀d z,Qd d aC->S F2 H2 [d] [z]->Q z H2:=λd z hd s=>k d aC z F2 H2 hd (f1.trans f2) (h1.trans h2) c2 s
  unfold l6 at q2
  split at q2
  ·obtain⟨d,ed,qd⟩:=q2
   cases s2
   obtain⟨p,ws,rfl,h,t⟩:=lR kl c2.ext rfl
   obtain⟨z,ez,sz⟩:=AV t ed
   exact .inl ⟨p,ws,_,z,rfl,rfl,kh h,ez,fin d z qd sz⟩
  ·obtain⟨d,ed,qd⟩:=q2
   cases s2
   obtain⟨p,ws,rfl,h,t⟩:=lR kl c2.ext rfl
   obtain⟨z,ez,sz⟩:=AV t ed
   exact .inl ⟨p,ws,_,z,rfl,rfl,kh h,ez,fin d z qd sz⟩
  ·obtain⟨d,ed,qd⟩:=q2
   cases s2
   obtain⟨p,ws,rfl,h,t⟩:=iJ kl
   obtain⟨z,ez,sz⟩:=AV t ed
   exact .inr (.inl ⟨p,ws,_,z,rfl,rfl,e7.of h,ez,fin d z qd sz⟩)
  ·obtain⟨hz,ch,ec,qc⟩:=q2
   cases kl
   cases s2
   exact .inr (.inr ⟨_,_,ch,rfl,rfl,hz,ec,fin _ _ qc (.str .nil)⟩)
  ·exact q2.elim⟩⟩
noncomputable abbrev rp:=Dl->(Option Int->Dl->Prop)->Prop
inductive lP(t:rp)(σ:L2.St)(H:Hp)(Q:Option Int->Hp->Prop):Prop
 | mk (B F δ ts Qd) (c:ai B F H σ δ ts) (q:t δ Qd) (k:∀o aa F' H',Qd o aa->ae F F'->ae H H'->ai B F' H' σ aa ts->Q o H')
theorem Gm{oe:Option Expr}{u u':TO}(h:PO X oe u)(m:∀σ H Q,u' σ H Q->u σ H Q):PO X oe u':=λpins s σ H Q I q=>h pins s σ H Q I (m σ H Q q)
noncomputable def o9:rp:=λδ Q=>Q none δ
noncomputable def pe(t:aw):rp:=λδ Q=>t δ λd aa=>match d with
 | .int i=>Q (some i) aa
 | _=>False
theorem Ss:PO X none (lP o9):=Gm O0 λσ H Q ⟨B,F,δ,ts,Qd,c,q,k⟩=>k none δ F H q (ae.refl _) (ae.refl _) c
theorem Su(h:PE X e (lB t)):PO X (some e) (lP (pe t)):=Gm (O1 h) λσ H Q zq=>by
 obtain⟨B,F,δ,ts,Qd,c,q,k⟩:=zq
 exact⟨B,F,δ,ts,_,c,q,λd ah v F1 H1 q1 f1 h1 c1 s1=>by
 cases s1 with
 | int _=>exact⟨_,rfl,k _ ah F1 H1 q1 f1 h1 c1⟩
 | _=>exact q1.elim⟩
noncomputable def eK{α:Type}(xs:List α)(lo hi:Option Int):List α:=(xs.drop (HT.bO xs.length 0 lo)).take (HT.bO xs.length xs.length hi-HT.bO xs.length 0 lo)
theorem S.cut{xs:List D}{ws:List V}(s:S F H xs ws)(lo hi:Option Int):S F H (eK xs lo hi) (qT ws lo hi):=by
 unfold eK qT
 rw[<-s.length]
 exact(s.drop _).take _
theorem Gn{xs:List D}{p:D->Bool}(h:xs.all p=true)(lo hi:Option Int):(eK xs lo hi).all p=true:=by
 rw[cX]at h ⊢
 intro x hx
 exact h x (vW (mT hx))
noncomputable def pf(t:aw):aw:=λδ Q=>t δ λd aa=>match d with
 | .int i=>Q (.int (Mf.bl i.natAbs:Nat)) aa
 | _=>False
theorem km(ho:PE X o (lB t))(gr:attributeBase o "bit_length" X.env (eval o X.env)=eval o X.env:=by rfl)(gu:(apos.endLine==aP.line)=true:=by rfl):PE X (.Call (.Attribute o "bit_length" apos) [] [] aP) (lE (pf t)) :=
 b8 (Ab ho gr gu) λσ H Q zq=>by
 obtain⟨B,F,δ,ts,Qd,c,q,k⟩:=zq
 exact⟨B,F,δ,ts,_,c,q,λd ah v F1 H1 q1 f1 h1 c1 s1=>by
  cases s1 with
  | int _=>exact⟨rfl,_,rfl,rfl,k _ ah _ F1 H1 q1 f1 h1 (c1.pushS (.int .nil) rfl)⟩
  | _=>exact q1.elim⟩
end
end L3
namespace L3
open PySem L2 PySem.Spec PyProof.Rows
section
variable{X:Cx}{F H:Hp}{v w:V}{e a b c o tg:Expr}{es:List Expr}{pos p p2 apos aP pos':Pos}{t ta tb tc te ti:aw}{tr:a6}{x:Str}{i:Nat}
noncomputable def ph(i:Nat)(t:aw):bw:=λD δ=>(∃xs,δ[i]?=some (some (.lst true xs)))/\t δ λd aa=>∃xs,aa[i]?=some (some (.lst true xs))/\xs.length<sizeLine/\D.nx (aa.set i (some (.lst true (xs++[d]))))
theorem uP(hN:X.N[i]?=some x)(hv:gR X.env.scope x)(he:PE X e (lE t))(hd:(x==("__debug__":Str))=false:=by decide)(br:(x==("__classdict__":Str))=false:=by decide)
  (gr:attributeBase (.Name x p) "append" X.env (eval (.Name x p) X.env)=eval (.Name x p) X.env:=by rfl)
  (nG:((backTo aP (starEach [e] X.env)).all (λx=>!x.1)&&(backToKw aP (keywordEach [] X.env)).all (λx=>x.1.isSome)
   && decide ([e].length+([]:List Keyword).length+(if([]:List Keyword).isEmpty then 0 else 1)<30))=true:=by rfl)
  (gu:(apos.endLine==aP.line)=true:=by rfl) (hs:starEach [e] X.env=(false,eval e X.env)::starEach [] X.env:=by rfl) (nH:(backTo aP (starEach [] X.env)).any (·.1)=false:=by rfl)
  (uQ:swapsWith (.Call (.Attribute (.Name x p) "append" apos) [e] [] aP) none pos.line X.env=pure false:=by rfl) :
  PS X (.Expr (.Call (.Attribute (.Name x p) "append" apos) [e] [] aP) pos) (lS X (ph i t)) :=
 jl (tV (zV PySem.F.plainAttrs_list PySem.F.slot_list_append PySem.F.type_list_append Ew (jb hN hv hd br) (cL he eM hs) gr nG gu hs nH) uQ) λEn σ H zz=>by
  obtain⟨B,F,δ,Dd,c,⟨⟨ys,ey⟩,q⟩,k1,k2,k3,k4⟩:=zz
  obtain⟨p0,wW,g1,g2,g3⟩:=c.ownAt ey
  refine⟨.ref p0,g1,.inl ⟨rfl,_,a8.of g2⟩,B,F,δ,[],_,c,q,λd aa v F' H' hd sf sh c'=>?_⟩
  obtain⟨xs,ex,hl,hn⟩:=hd
  obtain⟨p1,ws,r1,r2,r3⟩:=c'.ownAt ex
  rw[g1]at r1;cases r1
  exact⟨p0,ws,v,rfl,rfl,r2,by omega,k1 _ _ F' _ hn (c'.app ex g1 r2)⟩
noncomputable def pj(i:Nat)(te ti:aw):bw:=λD δ=>te δ λd ah=>∃ys,ah[i]?=some (some (.lst true ys))/\lJ ti ah λk aC=>match k with
 | .int n=>∃xs j,aC[i]?=some (some (.lst true xs))/\gq xs.length n=some j/\D.nx (aC.set i (some (.lst true (xs.set j d))))
 | _=>False
theorem Gp(hN:X.N[i]?=some x)(hv:gR X.env.scope x)(he:PE X e (lE te))(hi:PE X b (lB ti))(hd:(x==("__debug__":Str))=false:=by decide)(br:(x==("__classdict__":Str))=false:=by decide)
  (ha:∀v,assign (.Subscript (.Name x p) b pos') X.env v=(do
   let ov<-holding [v] (eval (.Name x p) X.env)
   let iv<-holding [v,ov] (eval b X.env)
   standAt pos'
   holding [v,ov,iv] (setItem ov iv v)
   release [v,ov,iv] []):=by intro _;rfl)
  (hs:swapsWithSole [.Subscript (.Name x p) b pos'] e pos.line X.env=pure false:=by rfl) (hw:swappedStores [.Subscript (.Name x p) b pos'] e X.env=pure none:=by rfl)
  (h1:(assignEach [.Subscript (.Name x p) b pos'] X.env).map (·.2)=[assign (.Subscript (.Name x p) b pos') X.env]:=by rfl) :
  PS X (.Assign [.Subscript (.Name x p) b pos'] e pos) (lS X (pj i te ti)) :=
 jl (NK he (NJ (jb hN hv hd br) (dZ hi) Pe ha) hs hw h1) λEn σ H zq=>by
 obtain⟨B,F,δ,Dd,c,q,k1,k2,k3,k4⟩:=zq
 exact⟨B,F,δ,[],_,c,q,λd ah v F1 H1 hq f1 h1 c1=>by
  obtain⟨ys,ey,hq⟩:=hq
  obtain⟨p0,wW,g1,g2,g3⟩:=c1.ownAt ey
  refine⟨.ref p0,g1,B,F1,ah,[(d,v)],_,c1,hq,λkd aC kv F2 H2 hk f2 h2 c2=>?_⟩
  have st:=c2.top
  split at hk
  ·obtain⟨xs,j,ex,ej,hn⟩:=hk
   cases st
   have c3:=c2.pop
   obtain⟨p1,ws,r1,r2,r3⟩:=c3.ownAt ex
   rw[g1]at r1;cases r1
   exact⟨p0,ws,_,j,rfl,rfl,r2,by rw[<-r3];exact ej,k1 _ _ F2 _ hn (c3.RP ex g1 r2 j)⟩
  ·exact hk.elim⟩
end
end L3
namespace L3
open PySem L2 PySem.Spec PyProof.Rows
theorem dQ{A:Around}{k:Nat}(hr:bu k A):A.units+6<cLine:=by have:=hr.un;omega
noncomputable def aD(ns:List Int):List D:=ns.map D.int
noncomputable def AW(o:Obj):Bool:=match o.cls with
 | .type n=>n != "list"
 | _=>true
noncomputable def Gq:a7:=λds Q=>∃ns:List Int,ds=[.fz (aD ns)]/\ns.length<=63/\Q (.bl true)
theorem iM{F H:Hp}:∀ns:List Int,R F H (aD ns) (ns.map V.int) []
 | []=>.nil
 | n::ns=>.int (iM ns)
theorem Sv{K:PySem.W.Frag}{a:Addr}{o:Obj}(h:K.lookup a=some o):(a,o)∈K:=by
 induction K with
 | nil=>cases h
 | cons p K ih =>
  obtain⟨b,u⟩:=p
  rw[gh]at h
  split at h
  ·rename_i z
   have:a=b:=by simpa using z
   cases h;subst this;simp
  ·exact ig _ (ih h)
end L3
namespace L3
open PySem L2 PySem.Spec PyProof.Rows
section
variable{B:Bs}{F H:Hp}{σ:L2.St}{δ:Dl}{ts ps:List (D × V)}{i k:Nat}{p q:Addr}{l1 l2 ys Fv:List D}{ws oU:List V}
end
section
variable{X:Cx}{F H:Hp}{e b:Expr}{pos p pr apos aP xp:Pos}{t ti te:aw}{x y:Str}{i j:Nat}
end
end L3
namespace L3
open PySem L2 PySem.Spec PyProof.Rows
theorem rq(i:Int):(D.int i).pl=true:=rfl
theorem rA(i:Bool):(D.bl i).pl=true:=rfl
theorem rB(i:Str):(D.str i).pl=true:=rfl
theorem rC:D.ao.pl=true:=rfl
theorem rD(xs:List D):(D.fz xs).pl=true:=rfl
theorem rE(C:Addr)(ns:List Str)(xs:List D):(D.obj C ns xs).pl=true:=rfl
theorem rF(i:Int):(D.int i).fr=true:=rfl
theorem rG(i:Bool):(D.bl i).fr=true:=rfl
theorem rH(i:Str):(D.str i).fr=true:=rfl
theorem rJ:D.ao.fr=true:=rfl
theorem l7(i:Int):(D.int i).sh=.int i:=rfl
theorem rK(i:Bool):(D.bl i).sh=.bl i:=rfl
theorem rL(i:Str):(D.str i).sh=.str i:=rfl
theorem rM:D.ao.sh=.ao:=rfl
theorem rN(xs:List D):(D.fz xs).sh=.fz xs:=rfl
theorem rO(C:Addr)(ns:List Str)(xs:List D):(D.obj C ns xs).sh=.obj C ns xs:=rfl
theorem rP{α:Type}(n:Nat)(x:α):(aT n [x]).flatten=aT n x:=by
 induction n with
 | zero=>rfl
 | succ n ih=>rw[mO,qF,ih];rfl
theorem iN(ns:List Int):(aD ns).length=ns.length:=by simp[aD]
theorem l8(ns:List Int):(aD ns).all D.pl=true:=by simp[aD,D.pl]
theorem l9(ns:List Int):(aD ns).all D.fr=true:=by simp[aD,D.fr]
theorem gG(ns:List Int):(aD ns).map D.sh=aD ns:=by simp[aD,D.sh]
theorem pk(a b:List Int):aD a++aD b=aD (a++b):=by simp[aD]
theorem rQ(n:Nat)(i:Int):aT n (D.int i)=aD (aT n i):=by simp[aD]
theorem rR(n:Nat)(i:Int):b9 n (.int i)=true:=by cases n<;>rfl
theorem rS(n:Nat)(i:Str):b9 n (.str i)=true:=by cases n<;>rfl
theorem kn(i j:Int):bG (.int i) (.int j)=decide (i=j):=by
 show(i==j)=_
 rw[Bool.beq_eq_decide_eq]
theorem Gr{ns:List Int}{k:Nat}(h:k<ns.length):(aD ns)[k]?=some (.int ns[k]):=by simp[aD,h]
theorem ju{ns:List Int}{k:Int}(h0:0<=k)(h:k<ns.length):cM (aD ns) k=some (.int (ns.getD k.toNat 0)):=by
 unfold cM gq
 rw[if_pos h0,iN,if_pos h]
 show(aD ns)[k.toNat]?=_
 have hk:k.toNat<ns.length:=by omega
 rw[Gr hk,bg,a9 hk];rfl
theorem pq(ns:List Int)(lo hi:Option Int):eK (aD ns) lo hi=aD (eK ns lo hi):=by simp[eK,aD,Dq,Dr]
theorem rT(i:Int):jt "int" (.int i)=some true:=by rfl
theorem rV(i:Int):jt "bool" (.int i)=some false:=by rfl
theorem rW(i:Int):jt "list" (.int i)=some false:=by rfl
theorem rX(o:Bool)(xs:List D):jt "list" (.lst o xs)=some true:=by rfl
theorem rY:jt "int" .ao=some false:=by rfl
theorem rZ(x:Str):jt "str" (.str x)=some true:=by rfl
theorem r6(xs:List D):jt "tuple" (.tup xs)=some true:=by rfl
theorem sL:sizeLine=16777216:=rfl
theorem r9{p:Prop}[Decidable p]:(decide p=true)=p:=by simp
theorem Sw{α:Type}(xs:List α)(a b:Nat):eK xs (some (a:Int)) (some (b:Int))=(xs.drop a).take (b-a):=by
 unfold eK
 rw[HT.Ei,HT.Ei]
 by_cases h:a<=xs.length
 ·rw[sZ h]
  apply List.ext_getElem?
  intro i
  rw[za,za,Ds]
  by_cases hi:i<b-a
  ·rw[if_pos hi]
   by_cases hb:a+i<xs.length
   ·rw[if_pos (by omega)]
   ·rw[qL (by omega)];simp
  ·rw[if_neg hi,if_neg (by omega)]
 ·rw[Nat.min_eq_right (show xs.length<=a by omega),MH (aZ _),MH (show xs.length<=a by omega)];simp
end L3
namespace L2
open PySem PySem.Spec PyProof.Rows
section
variable{X:Cx}{e:Expr}{te:TE}{lo hi:Option Expr}{st:Expr}{tl th ts:TO}{pos p2:Pos}
end
end L2
namespace L3
open PySem L2 PySem.Spec PyProof.Rows
section
variable{X:Cx}{F H:Hp}{e:Expr}{t:aw}{lo hi:Option Expr}{st:Expr}{tl th td:rp}{pos p2:Pos}
theorem Gs:∀{a:List Int} {ws:List V},S F H (aD a) ws->ws=a.map V.int
 | [],_,s=>by cases s;rfl
 | b::bs,_,s=>by
  cases s with
  | int s=>rw[Gs s];rfl
noncomputable def AX:Expr->Option Int
 | .Constant (.int i) _ _=>some i
 | _=>none
noncomputable def xq:List Expr->Option (List Int)
 | []=>some []
 | e::es=>(AX e).bind λi=>(xq es).map (i :: ·)
theorem Sx{e:Expr}{i:Int}(h:AX e=some i):∃a b,e=.Constant (.int i) a b:=by
 cases e with
 | Constant c a b =>
  cases c with
  | int j=>cases h;exact⟨_,_,rfl⟩
  | _=>cases h
 | _=>cases h
noncomputable def Sy(ns:List Int):a6:=λδ Q=>Q (aD ns) δ
theorem Gu:∀(es:List Expr) (ns:List Int),xq es=some ns->PA X es (lO (Sy ns))
 | [],ns,h=>by cases h;exact eJ
 | e::es,ns,h=>by
  obtain⟨i,hi,h2⟩:=Option.bind_eq_some_iff.mp (show(AX e).bind (λi=>(xq es).map (i :: ·))=some ns from h)
  obtain⟨ms,hm,rfl⟩:=qK.mp h2
  obtain⟨a,b,rfl⟩:=Sx hi
  exact uA (dj (ax (i:=i)) (Gu es ms hm)) λ_ _ _ q=>q
noncomputable def pz(ns:List Int):aw:=λδ Q=>ns.length<=sizeLine/\Q (.lst true (aD ns)) δ
theorem Gv{es:List Expr}{ns:List Int}(h:xq es=some ns):PE X (.List es pos) (lE (pz ns)) :=
 b8 (g9 (Gu es ns h)) λ_ _ _ zq=>by
 obtain⟨B,F,δ,ts,Qd,c,q,k⟩:=zq
 exact⟨B,F,δ,ts,Qd,c,by
  show(aD ns).length<=sizeLine/\_
  rw[iN];exact q,k⟩
theorem Sz{ns:List Int}(h:0<ns.length):cM (aD ns) (-1)=some (.int (ns.getD (ns.length-1) 0)):=by
 unfold cM gq
 rw[if_neg (by decide),iN,if_pos (by omega)]
 have hk:((-1:Int)+ns.length).toNat=ns.length-1:=by omega
 show(aD ns)[((-1:Int)+ns.length).toNat]?=_
 rw[hk,Gr (by omega),bg,a9 (by omega)];rfl
theorem Gw{n:Nat}{g:dO}{tb:bw}{En:lH}{δ:Dl}(Iv:Nat->Dl->Prop)(h0:Iv 0 δ)(ht:∀k aa,k<n->Iv k aa->g (.int k) aa λaC=>tb { En with nx:=Iv (k+1),ct:=Iv (k+1),bk:=En.nx } aC)
  (hf:∀aa,Iv n aa->En.nx aa):gF (List.map (λ(k:Nat)=>D.int (0+(k:Int))) (bD (n:Int).toNat)) g tb En δ:=by
 rw[sV]
 refine gF.mk Iv h0 (λi d aa hd iv=>?_) λaa iv=>hf aa (by simpa using iv)
 rw[cW]at hd
 obtain⟨k,hk,rfl⟩:=qK.mp hd
 have hi:i<n:=by have:=(gb.mp hk).1;simpa using this
 rw[qI hi]at hk
 cases hk
 rw[Dt]
 exact ht i aa hi iv
theorem jY{xs:List D}{k:Int}{d:D}(h0:0<=k)(h:xs[k.toNat]?=some d):cM xs k=some d:=by
 unfold cM gq
 have hk:k.toNat<xs.length:=(gb.mp h).1
 rw[if_pos h0,if_pos (by omega)]
 exact h
end
end L3
namespace L3
open PySem L2 PySem.Spec PyProof.Rows
noncomputable abbrev iO:=List D->(D->Prop)->(XC->Prop)->Prop
inductive jv(sp:iO)(vs:List V)(H:Hp)(Q:VK)(E:XK):Prop
 | mk (F ds Qd Ed) (e:ae F H) (r:R F H ds vs []) (q:sp ds Qd Ed) (k:∀d v F' H' A,Qd d->ae H H'->ae F F'->ae F' H'->(∀a ws,F' a=some (.lst ws)->F a=some (.lst ws)\/H a=none)->R F' H' [d] [v] A->A.Nodup->(∀a∈A,H a=none)->Q v H') (kx:∀c dc H',Ed c->ae H H'->XD H' c dc->E (.ref c.C) dc H')
section
variable{P:Program}{w:World}{K:PySem.W.Frag}{mg:Str->Option Value}{base:Heap}
theorem xt{x qual:Str}{st:Stmt}{f:Addr}{fd:FuncData}{N ps:List Str}{k:Nat}{sp:iO}(F:gw K x qual st f fd)(S:aX N ps (aM st))(len:∀ds Q E,sp ds Q E->ds.length=ps.length)
  (e8:∀(aE:Value) (A:Around) (outer:List Env) (s:Shared) (H:Hp) (E:XK),bu k (A.deeper (envOfC qual (aM st) s.heap.objs.size f aE)) ->
   ∃t:bw,PSs (fE (gz P w) P w K mg base N qual (aM st) f aE A outer s H E) (gZ st) (lS (fE (gz P w) P w K mg base N qual (aM st) f aE A outer s H E) t) /\
    ∀ds Q Ex,sp ds Q Ex->t { nx:=λ_=>Q .ao,rt:=Q,xc:=λC _=>Ex C,xr:=λC _=>Ex C } (hG N ds)):aL P w K mg base (gz P w) (k+1) f fd ps (jv sp):=by
 obtain⟨oc,od,kV,doc,pm,an,aE,ct,gn,rfl,lk,br⟩:=F.ex
 refine zP lk br S (λvs H Q E ⟨F,ds,Qd,Ed,e,r,h,_,_⟩=>by rw[<-r.length];exact len ds Qd Ed h) λA outer s H vs Q E hr zz=>?_
 obtain⟨F,ds,Qd,Ed,e,r,h,k,kx⟩:=zz
 obtain⟨t,ht,hq⟩:=e8 aE A outer s H E hr
 have fin:∀d v aa av F' H',Qd d->ai ⟨H,F⟩ F' H' av aa [(d,v)]->Q v H':=λd v aa av F' H' hd c=>by
  obtain⟨A,C,r',s',nd,fr⟩:=c.own
  exact k d v F' H' A hd c.b1 c.b2 c.ext c.b3 r' (eI.mp nd).1 λa ha=>fr a (dz _ ha)
 have e1:L2.start N vs=vs.map some++aT (N.length-ds.length) none:=by unfold L2.start;rw[r.length]
 refine⟨_,ht,⟨H,F⟩,F,hG N ds,_,?_,hq ds Qd Ed h,λaa av F' H' hd c=>fin .ao .ao aa av F' H' hd (c.pushS (.ao .nil) rfl),fin,λ_ _ _ _ z=>z.elim,λ_ _ _ _ z=>z.elim,λC dc aa pins av F' H' s' a T hx c I xd tr pa pT=>?_,λC dc aa pins av F' H' s' a hx c I xd hm pa=>?_⟩
 ·rw[e1]
  exact ai.start e r _
 ·exact QY I rfl rfl rfl tr pa pT λh' T' g=>⟨a,T',.ref C.C,dc,H',rfl,I.os,I.bare,g.un,g.au,g.q0,g.a0,g.a1,g.t0,g.t1,kx C dc H' hx c.b1 xd⟩
 ·exact QZ I rfl rfl rfl hm pa λh' T' g=>⟨a,T',.ref C.C,dc,H',rfl,I.os,I.bare,g.un,g.au,g.q0,g.a0,g.a1,g.t0,g.t1,kx C dc H' hx c.b1 xd⟩
end
noncomputable abbrev SA:=L2.St->Hp->VK->(XC->Hp->Prop)->Prop
noncomputable def PX(X:Cx)(e:Expr)(t:SA):Prop:=∀(pins:List (Addr × Obj)) (s:Shared) (σ:L2.St) (H:Hp) (Q:VK) (Z:XC->Hp->Prop),Inv X pins σ H s ->
 (∀a T c dc H' s',Inv X pins σ H' s'->XD H' c dc->dX s'.heap a T (.ref c.C) dc->Apart X pins H' a->Apart X pins H' T->Z c H'->X.xe (.ref a) s')->t σ H Q Z->wpAny (model X.prog X.w) X.A (eval e X.env) (EP X pins σ Q) X.xe s
noncomputable abbrev xu:=Dl->(D->Dl->Prop)->(XC->Dl->Prop)->Prop
inductive lX(t:xu)(σ:L2.St)(H:Hp)(Q:VK)(Z:XC->Hp->Prop):Prop
 | mk (B F δ Qd Zd) (c:ai B F H σ δ []) (q:t δ Qd Zd) (k:∀d aa v F' H',Qd d aa->ae F F'->ae H H'->ai B F' H' σ aa [(d,v)]->Q v H') (kx:∀C aa F' H',Zd C aa->ae F F'->ae H H'->ai B F' H' σ aa []->Z C H')
section
variable{X:Cx}{n:Nat}{f:Addr}{fd:FuncData}{ps:List Str}{sp:iO}{x:Str}{p pos:Pos}{e:Expr}{es:List Expr}{t:a6}{tx:xu}
theorem SD{pins:List (Addr × Obj)}{σ:L2.St}{H:Hp}{s:Shared}{Q:VK}{E:XK}{us:List Value}{vs:List V}{sp:Sp}(F:aL X.prog X.w X.K X.mg X.base (gz X.prog X.w) n f fd ps sp)(hr:bu n X.A)(hb:Binds X.K fd ps [])(hex:X.ex=[])
  (I:Inv X pins σ H s) (r:Vals vs us) (h:sp vs H Q E) (hx:∀a T cls dc H' s',Inv X pins σ H' s'->dX s'.heap a T cls dc->Apart X pins H' a->Apart X pins H' T->E cls dc H'->X.xe (.ref a) s'):wpAny (model X.prog X.w) X.A (call (.ref f) us) (EP X pins σ Q) X.xe s:=by
 have hl:(us++[]).length=ps.length:=by rw[gg,<- r.length];exact F.len _ _ _ _ h
 have iP:=hb s us I.bh hl
 rw[gg]at iP
 refine wpAny_call (codeAny_mono (F.run X.A X.stack s H ⟨us,[]⟩ us vs Q E hr I.nC iP r h) λr s' hq=>?_)
 cases r with
 | error e =>
  obtain⟨a,T,cls,dc,H',rfl,os,bare,un,au,tr,a0,a1,t0,t1,hE⟩:=hq
  exact hx a T cls dc H' s' (I.DL (ch:=[]) os un au bare λb z=>absurd z (by simp)) tr (I.apart hex a0 a1) (I.apart hex t0 t1) hE
 | ok fl =>
  cases fl with
  | ret u=>exact I.after hq
  | next=>exact cH hq
  | brk=>exact cH hq
  | cont=>exact cH hq
noncomputable def pB(sp:iO)(t:a6):xu:=λδ Q Z=>t δ λds aa=>sp (ds.map D.sh) (λd=>(ds.all D.pl||d.fr)=true/\Q d aa) λC=>Z C aa
theorem SE{B:Bs}{F H:Hp}{σ:L2.St}{δ:Dl}{ts:List (D × V)}{Qd:D->Prop}{Ed:XC->Prop}{Q:VK}{E:XK}{ds:List D}{vs:List V}(c:ai B F H σ δ ts)(s:S F H ds vs)(q:sp (ds.map D.sh) (λd=>(ds.all D.pl||d.fr)=true/\Qd d) Ed)
  (k:∀d v F' H',Qd d->ae F F'->ae H H'->ai B F' H' σ δ ((d,v)::ts)->Q v H') (kx:∀c dc H',Ed c->ae H H'->XD H' c dc->E (.ref c.C) dc H'):jv sp vs H Q E:=by
 by_cases hp:ds.all D.pl=true
 ·rw[iG hp]at q
  exact⟨F,ds,_,_,c.ext,s.r hp,q,λd v F' H' A hd hs hf he h3 r nd fr=>k d v F' H' hd.2 hf hs (c.call hs hf he h3 r nd fr),kx⟩
 ·refine⟨H,ds.map D.sh,_,_,ae.refl _,s.frozen c.ext,q,λd v F' H' A hd hs hf he h3 r nd fr=>?_,kx⟩
  have cV:d.fr=true:=by
   have:=hd.1
   rw[Bool.or_eq_true]at this
   exact this.resolve_left hp
  exact k d v F H' hd.2 (ae.refl _) hs (c.wV hs (r.wU (by simp[cV]) (c.ext.trans hf)) nd fr)
theorem Gx(F:aL X.prog X.w X.K X.mg X.base (gz X.prog X.w) n f fd ps (jv sp))(hr:bu n X.A)(hg:Gl X x)(hm:X.mg x=some (.ref f))(hk:PySem.W.keepIn X.K (.ref f)=true)(hb:Binds X.K fd ps [])(hex:X.ex=[])
  (ha:PA X (e::es) (lA t)) (bN:(x==("__debug__":Str))=false:=by decide) (he:starEach (e::es) X.env=(false,eval e X.env)::starEach es X.env:=by rfl) (aR:(backTo pos (starEach es X.env)).any (·.1)=false:=by rfl) :
  PX X (.Call (.Name x p) (e::es) [] pos) (lX (pB sp t)):=by
 intro pins s σ H Q Z I hz zz
 obtain⟨B,F0,δ,Qd,Zd,c,q,k,kx⟩:=zz
 refine wpAny_Call_Name_kw (jW I hg hm ?_ bN)
 refine PySem.W.callWith_K (h₀:=X.base) I.ok.mod.ir hk (aA (ha pos pins s σ H (λvs H1=>jv sp vs H1 Q λcls dc H'=>∃c:XC,cls=.ref c.C/\XD H' c dc/\Z c H') I ⟨B,F0,δ,[],_,c,q,λds ah vs F1 H1 q1 f1 h1 c1 s1=>?_⟩) λus s1 ⟨vs,H1,I1,r,q⟩=>⟨I1.bh,?_⟩) he aR
 ·exact SE c1 s1 q1 (λd v F' H' hd hf hs c'=>k d ah v F' H' hd (f1.trans hf) (h1.trans hs) c') λC dc H' hC hs xd=>⟨C,rfl,xd,kx C ah F1 H' hC f1 (h1.trans hs) (c1.grow hs)⟩
 ·exact SD F hr hb hex I1 r q λa T cls dc H' s' I' tr pa pT hE=>by
   obtain⟨c',rfl,xd,hZ⟩:=hE
   exact hz a T c' dc H' s' I' xd tr pa pT hZ
theorem SG{B:Bs}{F H:Hp}{σ:L2.St}{Dd:lH}{pins:List (Addr × Obj)}(xl:XL X B Dd):∀a T c dc H' s',Inv X pins σ H' s'->XD H' c dc->dX s'.heap a T (.ref c.C) dc->Apart X pins H' a->Apart X pins H' T->(∃aa F',Dd.xc c aa/\ai B F' H' σ aa [])->X.xe (.ref a) s':=by
 rintro a T c dc H' s' I xd tr pa pT ⟨aa,F',hx,cu⟩
 exact xl.1 c dc aa pins σ F' H' s' a T hx cu I xd tr pa pT
noncomputable def pC(t:xu):bw:=λD δ=>t δ (λ_ aa=>D.nx aa) D.xc
theorem Gy(he:PX X e (lX tx))(hs:swapsWith e none pos.line X.env=pure false:=by rfl):PS X (.Expr e pos) (lS X (pC tx)):=by
 intro pins s σ H D I zz
 obtain⟨B,F,δ,Dd,c,q,k1,k2,k3,k4,xl⟩:=zz
 refine wpAny_Expr_any (aA (he pins s σ H (λ_ H1=>D.nx σ H1) (λc H'=>∃aa F',Dd.xc c aa/\ai B F' H' σ aa []) I (SG (H:=H) (F:=F) xl) ⟨B,F,δ,_,_,c,q,λd aa v F' H' hd _ _ c'=>k1 aa σ F' H' hd c'.pop,λC aa F' H' hC _ _ c'=>⟨aa,F',hC,c'⟩⟩) λv s1 ⟨x,H1,I1,r1,q1⟩=>⟨σ,H1,I1,q1⟩) I.quiet hs
noncomputable def pE(t:bw):bw:=λD δ=>t { D with xc:=λ_ _=>False,xr:=λ_ _=>False } δ
theorem Gz{st:Stmt}{u:bw}(h:PS X.eC st (lS X.eC u)):PS X st (lS X (pE u)):=by
 intro pins s σ H D I zz
 obtain⟨B,F,δ,Dd,c,q,k1,k2,k3,k4,xl⟩:=zz
 exact wpAny_mono (h pins s σ H D (I.gU _) ⟨B,F,δ,_,c,q,k1,k2,k3,k4,XL.none (λ_ _ z=>z) λ_ _ z=>z⟩) (λ_ _ q=>q.jf) λ_ _ z=>cH z
noncomputable def pF(C:Addr)(t:a6):bw:=λD δ=>t δ λds aa=>ds.length<=9/\D.xr ⟨C,none⟩ aa
structure AY(K:PySem.W.Frag)(mg:Str->Option Value)(x:Str)(C:Addr):Prop where
 own:∀h:Heap,K.In h->h.Ns mainGlobals mg->∃newId Bn pG pH B kq jw eA,OwnCls x C eA newId mg h/\ExcBaseFacts Bn newId pG pH/\eA.contains (.type Bn)=true/\ExcBaseFacts B kq jw eA
theorem GA{C:Addr}{np aP:Pos}(hm:AY X.K X.mg x C)(hc:X.calm=true)(hg:Gl X x)(ha:PA X (e::es) (lA t))(bN:(x==("__debug__":Str))=false:=by decide)
  (he:starEach (e::es) X.env=(false,eval e X.env)::starEach es X.env:=by rfl) (aR:(backTo aP (starEach es X.env)).any (·.1)=false:=by rfl) (hex:X.ex=[]:=by rfl) :
  PS X (.Raise (some (.Call (.Name x np) (e::es) [] aP)) none pos) (lS X (pF C t)):=by
 intro pins s σ H D I zz
 obtain⟨B,F,δ,Dd,c,q,k1,k2,k3,k4,xl⟩:=zz
 obtain⟨newId,Bn,pG,pH,B',kq,jw,eA,O,Fn,AZ,FB⟩:=hm.own X.base I.ok.mod.ir I.ok.mod.glob
 obtain⟨tl,N,nm,qn,bs,hdct,sn,sub,ab,col,dd,k0,kb,lY,A6,k5,mN,hC,hN,kr,T⟩:=O.obj
 refine wpAny_Raise_call_subU (k5:=k5) (k3:=A6) (k2:=lY) (k1:=kb) (k0:=k0) (dd:=dd) (col:=col) (ab:=ab) (sub:=sub) (sn:=sn) (hdct:=hdct) (bs:=bs) (N:=N) (q:=qn) (nm:=nm) (C:=C) Fn AZ FB (mN:=mN) (T.hasType FB.hasBase) (I.ok.hd hc) (by rw[he];show(false||(backTo aP (starEach es X.env)).any (·.1))=false;rw[aR];rfl) kr (jW I hg O.bound ⟨rfl,?_⟩ bN)
 have pI:=ha aP pins s σ H (λvs H1=>vs.length<=9/\∃aa F',Dd.xr ⟨C,none⟩ aa/\ai B F' H1 σ aa []) I ⟨B,F,δ,[],_,c,q,λds ah vs F1 H1 q1 f1 h1 c1 s1=>⟨by rw[<-s1.length];exact q1.1,ah,F1,q1.2,c1⟩⟩
 rw[he]at pI ⊢
 refine Dc (wpAny_mono pI (λus s2 h2=>?_) λ_ _ y=>y)
 obtain⟨vs,H1,I1,r,hl,aa,F',hx,c'⟩:=h2
 exact⟨rfl,by rw[<-r.length];exact dy hl (by decide),I1.bk _ _ hC,hN.keeps I1.bk,T.keeps I1.bk,λh' e' ia=>xl.2 ⟨C,none⟩ none aa pins σ F' H1 { s2 with heap:=h' } e' hx c' (I1.wM hex [] (λ_ z=>absurd z (by simp)) (λb o _ _ q=>ia.keeps b o q) (λb o _ q=>⟨o.slots,ia.keeps b o q⟩) s2.gens s2.toks s2.drawn I1.bare) rfl (QW ia) (I1.apart hex ia.new (I1.au.none ia.new))⟩
end
end L3
namespace L3
open PySem L2 PySem.Spec PyProof.Rows
section
variable{X:Cx}{pins qS:List (Addr × Obj)}{σ:L2.St}{H:Hp}{s:Shared}{a:Addr}
noncomputable abbrev tr(X:Cx)(xe:Value->Shared->Prop)(pn:List (Addr × Obj)):Cx:={ X with xe:=xe,pn:=pn }
noncomputable abbrev se(X:Cx)(A:Around)(xe:Value->Shared->Prop):Cx:={ X with A:=A,calm:=false,xe:=xe }
theorem SH(ok:X.Ok)(xe:Value->Shared->Prop)(pn:List (Addr × Obj)):(tr X xe pn).Ok :=
 ⟨ok.mod,ok.kind,ok.glob,ok.blt,ok.above,ok.inj,ok.has,ok.jV,ok.hd,ok.frames,ok.ni,ok.nj,ok.bs,ok.fu,ok.kX,ok.kY,ok.dB,ok.fv⟩
theorem SI(I:Inv X pins σ H s)(xe:Value->Shared->Prop):Inv (tr X xe (X.pn++pins)) [] σ H s :=
 ⟨SH I.ok _ _,I.os,I.bare,I.base,I.loc,I.cell,I.free,I.cK,λp hp=>I.pin p (by simpa using hp),I.au,I.len⟩
theorem uR{xe:Value->Shared->Prop}(ok:X.Ok)(I:Inv (tr X xe (X.pn++pins)) qS σ H s):Inv X pins σ H s :=
 ⟨ok,I.os,I.bare,I.base,I.loc,I.cell,I.free,I.cK,λp hp=>I.pin p (dz _ hp),I.au,I.len⟩
theorem GB{xe:Value->Shared->Prop}(p:Apart (tr X xe (X.pn++pins)) qS H a):Apart X pins H a:=⟨p.old,p.free,p.loc,p.cell,λq hq=>p.pin q (dz _ hq),p.fr⟩
theorem SJ(ok:X.Ok){A:Around}(hA:A.frames=X.A.frames)(xe:Value->Shared->Prop):(se X A xe).Ok :=
 ⟨ok.mod,ok.kind,ok.glob,ok.blt,ok.above,ok.inj,ok.has,ok.jV,(λh=>Bool.noConfusion h),hA.trans ok.frames,ok.ni,ok.nj,ok.bs,ok.fu,ok.kX,ok.kY,ok.dB,ok.fv⟩
theorem GC(I:Inv X pins σ H s){A:Around}(hA:A.frames=X.A.frames)(xe:Value->Shared->Prop):Inv (se X A xe) pins σ H s :=
 ⟨SJ I.ok hA xe,I.os,I.bare,I.base,I.loc,I.cell,I.free,I.cK,I.pin,I.au,I.len⟩
theorem SK{A:Around}{xe:Value->Shared->Prop}(ok:X.Ok)(I:Inv (se X A xe) pins σ H s):Inv X pins σ H s:=⟨ok,I.os,I.bare,I.base,I.loc,I.cell,I.free,I.cK,I.pin,I.au,I.len⟩
theorem A7{φ:Heap->Prop}(I:Inv X pins σ H s)(pa:Apart X pins H a)(ho:∃o,s.heap.get? a=some o)(h1:φ s.heap)(h2:∀g g':Heap,φ g->(∀o,g.get? a=some o->g'.get? a=some o)->φ g'):Inv X pins σ (upd H a (.ext φ)) s:=by
 have ne:∀{b:Addr} {u:HO},H b=some u->b≠a:=λ{b u} q=>cq q pa.free
 refine⟨I.ok,I.os,I.bare,⟨I.base.keep,I.base.slot,λb o e n hx=>?_,I.base.there,λb xs e=>?_,λb o xs e=>?_,λb ps e=>?_⟩,I.loc,I.cell,?_,λx c e=>?_,λp hp=>?_,λb u e=>?_,I.len⟩
 ·rw[ay (λz=>by rw[z,pa.old]at e;cases e)];exact I.base.free b o e n hx
 ·have q:=I.base.dJ b xs e;rw[ay (ne q)];exact q
 ·have q:=I.base.dA b o xs e;rw[ay (ne q)];exact q
 ·obtain⟨m,q⟩:=I.base.da b ps e;exact⟨m,by rw[ay (ne q)];exact q⟩
 ·rw[ay (cA pa.loc)];exact I.free
 ·rw[ay (pa.cell x c e)];exact I.cK x c e
 ·obtain⟨q1,q2,q3,q4,q5⟩:=I.pin p hp
  exact⟨q1,by rw[ay (pa.pin p hp)];exact q2,q3,q4,q5⟩
 ·by_cases hb:b=a
  ·subst hb;rw[a5]at e;cases e;exact⟨h1,ho,λg g' p kk=>h2 g g' p λo q=>kk _ o (.inl rfl) q⟩
  ·rw[ay hb]at e
   exact(I.au b u e).eB (λ_ _ _ q=>q) (λc q=>by rw[ay (ne q)];exact q) (λc xs q=>by rw[ay (ne q)];exact q) λc xs q=>by rw[ay (ne q)];exact q
end
theorem ai.unset{B:Bs}{F H:Hp}{σ:L2.St}{δ:Dl}{ts:List (D × V)}(c:ai B F H σ δ ts)(i:Nat):ai B F H (σ.set i none) (δ.set i none) ts:=by
 obtain⟨A,C,r,q,nd,fr⟩:=(c.forget i).own
 refine⟨c.ext,c.b1,c.b2,c.b3,A,C,r,q.nR none ?_,nd,fr⟩
 by_cases h:i<δ.length
 ·exact .inl (by rw[vL h])
 ·exact .inr (by rw[qL (by simpa using h)])
noncomputable abbrev GD(c:XC):j4:=match c.wX with
 | none=>.ext λa=>jh a c.C
 | some z=>.g6 c.C z.1 z.2
noncomputable abbrev exc(c:XC):D:=.aS (GD c)
theorem SM{h:Heap}{a T C:Addr}(t:dX h a T (.ref C) none):jh a C h:=by
 obtain⟨oe,vs,oT,ts,h1,h2,h3,h4,_⟩:=t
 exact⟨oe,h1,h2,by obtain⟨c,d,dt,sl⟩:=oe;cases h4;rfl,h3⟩
theorem GF{h:Heap}{a T:Addr}{cls:Value}{dc:Option Addr}(t:dX h a T cls dc):∃o,h.get? a=some o/\o.cls=cls:=by
 obtain⟨oe,vs,oT,ts,h1,h2,_⟩:=t
 exact⟨oe,h1,h2⟩
theorem SN{a C:Addr}(g g':Heap)(h:jh a C g)(k:∀o,g.get? a=some o->g'.get? a=some o):jh a C g':=let⟨o,h1,r⟩:=h;⟨o,k o h1,r⟩
theorem SO{h:Heap}{a T:Addr}{c:XC}{dc:Option Addr}{H:Hp}(t:dX h a T (.ref c.C) dc)(x:XD H c dc) :
  ∃φ:Heap->Prop,φ h/\(∀g g',φ g->(∀o,g.get? a=some o->g'.get? a=some o)->φ g')/\∀H',ae H H'->H' a=some (.ext φ)->iD H' a (GD c):=by
 obtain⟨C,at_⟩:=c
 cases at_ with
 | none=>cases x;exact⟨jh a C,SM t,λg g' z k=>SN g g' z k,λH' _ e=>e⟩
 | some z =>
  obtain⟨dx,rfl,hd⟩:=x
  obtain⟨oe,vs,oT,ts,h1,h2,h3,h4,_⟩:=t
  exact⟨lz a C dx,⟨oe,h1,h2,by obtain⟨c,d,dt,sl⟩:=oe;cases h4;rfl,h3⟩,λg g' ⟨o,e,r⟩ k=>⟨o,k o e,r⟩,λH' s e=>⟨dx,e,s.get _ _ hd rfl⟩⟩
section
variable{X:Cx}{tb th:bw}{body A8:List Stmt}{A9:Stmt}{K n:Str}{Kc:Addr}{i:Nat}{kp GG pos:Pos}
noncomputable def pJ(K:PySem.W.Frag)(c:Value)(i:Nat)(tb th:bw):bw:=λD δ=>tb { D with
 xc:=λC aa=>PySem.W.exmOne K (.ref C.C) c=some true/\th { nx:=λaC=>D.nx (aC.set i none),rt:=λ_=>False } (aa.set i (some (exc C)))
 xr:=λ_ _=>False } δ
theorem SQ(hb:∀xe pn,PSs (tr X xe pn) body (lS (tr X xe pn) tb))(SR:∀A' xe,PSs (se X A' xe) (A9::A8) (lS (se X A' xe) th))(hg:Gl X K)(hm:X.mg K=some (.ref Kc))(hN:X.N.Nodup)(hi:X.N[i]?=some n)
  (hl:X.env.scope.names.lookup n=some .local) (hex:X.ex=[]) (bt:X.stack=X.env::X.outer) (hf:X.env.frame=some X.env.locals) (bN:(K==("__debug__":Str))=false:=by decide) :
  PS X (.Try body [.ExceptHandler (some (.Name K kp)) (some n) (A9::A8) GG] [] [] pos) (lS X (pJ X.K (.ref Kc) i tb th)):=by
 intro pins s σ H D I zz
 obtain⟨B,F,δ,Dd,c,q,k1,k2,k3,k4,xl⟩:=zz
 refine wpAny_Try_except (wpAny_mono (hb (λe s'=>∃a T C dc av F' H' aa,e=.ref a/\Inv X pins av H' s'/\XD H' C dc/\dX s'.heap a T (.ref C.C) dc/\Apart X pins H' a/\Apart X pins H' T/\ai B F' H' av aa []/\PySem.W.exmOne X.K (.ref C.C) (.ref Kc)=some true/\th { nx:=λaC=>Dd.nx (aC.set i none),rt:=λ_=>False } (aa.set i (some (exc C)))) (X.pn++pins) [] s σ H D (SI I _) ⟨B,F,δ,_,c,q,k1,k2,k3,k4,λC dc aa qS av F' H' s' a T hx c' I' xd Ap pa pT=>⟨a,T,C,dc,av,F',H',aa,rfl,uR I.ok I',xd,Ap,GB pa,GB pT,c',hx⟩,λ_ _ _ _ _ _ _ _ _ z=>z.elim⟩) (λf s1 hS=>?_) λe s1 hx=>?_)
 ·cases f with
  | next=>obtain⟨av,H',I',q'⟩:=hS;exact tU (X:=X) pins s1 av H' D (uR I.ok I') q'
  | brk=>obtain⟨av,H',I',q'⟩:=hS;exact⟨av,H',uR I.ok I',q'⟩
  | cont=>obtain⟨av,H',I',q'⟩:=hS;exact⟨av,H',uR I.ok I',q'⟩
  | ret u=>obtain⟨v,av,H',I',r',q'⟩:=hS;exact⟨v,av,H',uR I.ok I',r',q'⟩
 ·obtain⟨a,T,C,dc,av,F',H',aa,rfl,I1,xd,t1,pa,pT,c1,cO,SS⟩:=hx
  refine Q3 I1 bt hex hf t1 pa pT λh2 T2 I2 t2 SU=>?_
  refine wpAny_handleBy_cons (codeAny_handlers_test (jW (X:=se X (X.A.mark (some (.ref a))) X.xe) (GC (A:=X.A.mark (some (.ref a))) I2 rfl X.xe) hg hm ?_ bN)) (by intro z;cases z)
  obtain⟨o2,e2,SV⟩:=GF t2
  have LT:PySem.W.Looks (model X.prog X.w) h2 (typeOf (.ref a)) (.ref C.C):=SV ▸ (PySem.W.Looks.ld e2).andThen .now
  refine(PySem.W.exm_one I2.bh LT cO).here ?_
  refine codeAny_handlers_suite_as (Q4 I2 hex t2 SU λh3 I3 t3=>?_)
  obtain⟨φ,x3,SW,SX⟩:=SO t3 xd
  have I4:=A7 (φ:=φ) I3 pa ((GF t3).imp λo z=>z.1) x3 SW
  refine wd I4 hN hi (.inl hl) (v:=.ref a) rfl (λs5 I5=>?_) (.inr hl)
  refine wpAny_mono (SR _ _ pins s5 _ _ { nx:=λgX H2=>D.nx (gX.set i none) H2,rt:=λ_ _=>False } (GC (A:=X.A.mark (some (.ref a))) I5 rfl _) ⟨B,F',aa.set i (some (exc C)),_,?_,SS,λaC gX F2 H2 hn c2=>k1 _ _ F2 H2 hn (c2.unset i),λ_ _ _ _ _ _ z=>z.elim,λ_ _ _ _ z=>z.elim,λ_ _ _ _ z=>z.elim,XL.none (λ_ _ z=>z) λ_ _ z=>z⟩) (λf s6 hS=>?_) λ_ _ z=>z
  ·exact((c1.grow (ae.upd pa.free)).pushS (d:=exc C) (v:=.ref a) (.aS (SX _ (ae.upd pa.free) a5) .nil) rfl).store i
  ·cases f with
   | next =>
    obtain⟨wt,H6,I6,q6⟩:=hS
    exact Q5 (SK I.ok I6) hN hi hl λs7 I7=>⟨_,H6,I7,q6⟩
   | brk=>obtain⟨_,_,_,z⟩:=hS;exact z.elim
   | cont=>obtain⟨_,_,_,z⟩:=hS;exact z.elim
   | ret u=>obtain⟨_,_,_,_,_,z⟩:=hS;exact z.elim
end
end L3
namespace L3
open PySem L2 PySem.Spec PyProof.Rows
noncomputable def Ba:V->Option Value
 | .ref a=>some (.ref a)
 | .ty n=>some (.type n)
 | _=>none
theorem SY{c:V}{u cv:Value}(h:Ba c=some cv)(r:RelV c u):u=cv:=by
 cases c<;>cases h<;>exact r
inductive uS(K:PySem.W.Frag)(H:Hp):V->Value->Prop where
 | ty {v:V} {t:Value} (h:eL K H v t):uS K H v t
 | exc {a C:Addr} (e:H a=some (.ext (jh a C))) (x:gB K C):uS K H (.ref a) (.ref C)
 | g6 {a C dx:Addr} {nm:Str} {n:Int} (e:H a=some (.ext (lz a C dx))) (e2:H dx=some (.ext (gD nm n dx))) (x:gB K C):uS K H (.ref a) (.ref C)
theorem Bb{a C dx:Addr}{nm:Str}{n:Int}{h:Heap}(p:lz a C dx h)(q:gD nm n dx h):∃ox od,PySem.W.InstAt h a ox C (some od)/\∃tk,PySem.W.lookIn nm od=some (some (.int n tk)):=by
 obtain⟨o,h1,h2,h3,h4⟩:=p
 obtain⟨od,tk,h5,h6⟩:=q
 exact⟨o,od,⟨h1,h2,h3,by rw[h4];exact h5⟩,tk,h6⟩
theorem S0{K:PySem.W.Frag}{a C dx:Addr}{nm:Str}{n:Int}(c:gB K C):PySem.W.KitX K (.ref a) (.ref C) (λh=>lz a C dx h/\gD nm n dx h) where
 ty:=λ_ _ _ p=>let⟨_,_,I,_⟩:=Bb p.1 p.2;I.type
 it:=λ_ _ X _=>c.q8 X
 ne:=(Fs (a:=a) c).ne
 ca:=λX p k=>let⟨_,_,I,_⟩:=Bb p.1 p.2;Fo X I c.ga c.gt (Fp c.cls c.ca c.hn c.tk) c.mo c.mb k
noncomputable def S1(K:PySem.W.Frag):List V->Hp->VK->Prop:=λxs H Q=>∃x c cv t b,xs=[x,c]/\Ba c=some cv/\uS K H x t/\PySem.W.kitOne K t cv=some b/\Q (.bl b) H
section
variable{X:Cx}{F H:Hp}{v:V}{a:Expr}{ta:aw}{p pos:Pos}
theorem S2:eE X (.builtin "isinstance") (S1 X.K):=by
 intro pins s σ H xs us Q I r h
 obtain⟨x,c,cv,t,b,rfl,hv,ty,e,q⟩:=h
 obtain⟨u,v,rfl,ru,rv⟩:=r.two
 cases SY hv rv
 cases ty with
 | ty ty=>exact D9 I ru ty e λtk=>⟨.bl b,H,I.tok _,rfl,q⟩
 | @exc a C ea x =>
  cases(show u=bC a from ru)
  obtain⟨xa,_,_⟩:=(show bq X.prog X.w H s.heap a (.ext (jh a C)) from I.au a _ ea)
  exact PySem.W.kia_one (Fs x) I.bh xa e (λz=>nomatch z) λtk=>⟨.bl b,H,I.tok _,rfl,q⟩
 | @g6 a C dx nm n ea ed x =>
  cases(show u=bC a from ru)
  obtain⟨xa,_,_⟩:=(show bq X.prog X.w H s.heap a (.ext (lz a C dx)) from I.au a _ ea)
  obtain⟨xd,_,_⟩:=(show bq X.prog X.w H s.heap dx (.ext (gD nm n dx)) from I.au dx _ ed)
  exact PySem.W.kia_one (S0 x) I.bh ⟨xa,xd⟩ e (λz=>nomatch z) λtk=>⟨.bl b,H,I.tok _,rfl,q⟩
noncomputable def S3(φ:j4)(C:Addr):Prop:=(φ=.ext λa=>jh a C)\/∃nm n,φ=.g6 C nm n
noncomputable def Bc(K:PySem.W.Frag)(cv:Value)(d:D)(r:Bool):Prop:=match d with
 | .aS φ=>∃C,S3 φ C/\gB K C/\PySem.W.kitOne K (.ref C) cv=some r
 | d=>∃k,xo d=some k/\PySem.W.kitOne K (.type k) cv=some r
theorem S4{K:PySem.W.Frag}{cv:Value}{d:D}{r:Bool}(s:S F H [d] [v])(e:ae F H)(h:Bc K cv d r):∃t,uS K H v t/\PySem.W.kitOne K t cv=some r:=by
 cases s with
 | aS h' _ =>
  obtain⟨C,z,x,k⟩:=h
  rcases z with rfl | ⟨nm,n,rfl⟩
  ·exact⟨_,.exc h' x,k⟩
  ·obtain⟨dx,h1,h2⟩:=h'
   exact⟨_,.g6 h1 h2 x,k⟩
 | int z=>obtain⟨k,hk,h⟩:=h;exact⟨_,.ty (ki (.int .nil) e hk),h⟩
 | bl z=>obtain⟨k,hk,h⟩:=h;exact⟨_,.ty (ki (.bl .nil) e hk),h⟩
 | ao z=>obtain⟨k,hk,h⟩:=h;exact⟨_,.ty (ki (.ao .nil) e hk),h⟩
 | str z=>obtain⟨k,hk,h⟩:=h;exact⟨_,.ty (ki (.str .nil) e hk),h⟩
 | shr h' q z=>obtain⟨k,hk,h⟩:=h;exact⟨_,.ty (ki (.shr h' q .nil) e hk),h⟩
 | own h' q z=>obtain⟨k,hk,h⟩:=h;exact⟨_,.ty (ki (.own h' q .nil) e hk),h⟩
 | fz h' q z=>obtain⟨k,hk,h⟩:=h;exact⟨_,.ty (ki (.fz h' q .nil) e hk),h⟩
 | tup h' q z=>obtain⟨k,hk,h⟩:=h;exact⟨_,.ty (ki (.tup h' q .nil) e hk),h⟩
 | obj _ _ _ _=>obtain⟨k,hk,h⟩:=h;cases hk
noncomputable def ku(K:PySem.W.Frag)(cv:Value)(t:aw):aw:=λδ Q=>t δ λd aa=>∃r,Bc K cv d r/\Q (.bl r) aa
theorem GH{y:Str}{q:Pos}{c:V}{cv:Value}(hg:Gl X "isinstance")(hm:X.mg "isinstance"=none)(hc:PE X (.Name y q) (tC c))(S5:Ba c=some cv)(ha:PE X a (lB ta))
  (hs:starEach [a,.Name y q] X.env=(false,eval a X.env)::starEach [.Name y q] X.env) (cm:starEach [.Name y q] X.env=(false,eval (.Name y q) X.env)::starEach [] X.env) (aR:(backTo pos (starEach [.Name y q] X.env)).any (·.1)=false) :
  PE X (.Call (.Name "isinstance" p) [a,.Name y q] [] pos) (lE (ku X.K cv ta)) :=
 b8 (zR S2 hg hm EY (cL ha (cL hc eM cm) hs) (by decide) (by decide) hs aR) λσ H Q zq=>by
 obtain⟨B,F,δ,ts,Qd,c,q,k⟩:=zq
 exact⟨B,F,δ,ts,_,c,q,λd ah v F1 H1 q1 f1 h1 c1 s1=>by
  obtain⟨r,e,qr⟩:=q1
  obtain⟨t,h2,h3⟩:=S4 (K:=X.K) s1 c1.ext e
  exact⟨v,_,_,t,r,rfl,S5,h2,h3,k _ ah _ F1 H1 qr f1 h1 (c1.pushS (.bl .nil) rfl)⟩⟩
theorem Bd{y:Str}{q:Pos}{C:Addr}(hg:Gl X "isinstance")(hm:X.mg "isinstance"=none)(kj:Gl X y)(hW:X.mg y=some (.ref C))(ha:PE X a (lB ta))(hd:(y==("__debug__":Str))=false:=by decide)
  (hs:starEach [a,.Name y q] X.env=(false,eval a X.env)::starEach [.Name y q] X.env:=by rfl) (cm:starEach [.Name y q] X.env=(false,eval (.Name y q) X.env)::starEach [] X.env:=by rfl) (aR:(backTo pos (starEach [.Name y q] X.env)).any (·.1)=false:=by rfl) :
  PE X (.Call (.Name "isinstance" p) [a,.Name y q] [] pos) (lE (ku X.K (.ref C) ta)) :=
 GH hg hm (Nb (v:=.ref C) kj hW rfl hd) rfl ha hs cm aR
theorem S6{n:String}{y:Str}{q:Pos}(hg:Gl X "isinstance")(hm:X.mg "isinstance"=none)(kj:Gl X y)(hW:X.mg y=none)(AU:bootBuiltins y=some (.type n))(ha:PE X a (lB ta))
  (hn:y≠"__name__":=by decide) (hd:(y==("__debug__":Str))=false:=by decide)
  (hs:starEach [a,.Name y q] X.env=(false,eval a X.env)::starEach [.Name y q] X.env:=by rfl) (cm:starEach [.Name y q] X.env=(false,eval (.Name y q) X.env)::starEach [] X.env:=by rfl) (aR:(backTo pos (starEach [.Name y q] X.env)).any (·.1)=false:=by rfl) :
  PE X (.Call (.Name "isinstance" p) [a,.Name y q] [] pos) (lE (ku X.K (.type n) ta)) :=
 GH hg hm (E4 kj hW AU hn hd) rfl ha hs cm aR
end
section
variable{K:PySem.W.Frag}{mg:Str->Option Value}{x:Str}{C:Addr}
theorem S7(hm:mg x=some (.ref C))(q:PySem.W.excIn K C [.type "ValueError",.type "Exception",.type "BaseException",.type "object"] "ValueError.__new__"=true):AY K mg x C:=by
 refine⟨λh X G=>⟨"ValueError.__new__","ValueError",_,_,"ValueError",_,_,[.type "ValueError",.type "Exception",.type "BaseException",.type "object"],?_,PySem.F.excBase_ValueError,rfl,PySem.F.excBase_ValueError⟩⟩
 refine⟨hm,?_⟩
 unfold PySem.W.excIn at q
 split at q
 ·rename_i dd cd sl ho
  split at q
  ·rename_i C' bm k0 k1 k2 k3 n k5 hm hs
   simp only[cJ,beq_iff_eq,Bool.not_eq_true']at q
   obtain⟨⟨⟨⟨⟨rfl,rfl⟩,uT⟩,ht⟩,au⟩,kr⟩:=q
   obtain⟨nm,bs,mro,ns,qn,hd,sn,sub,ab,col,del⟩:=cd
   dsimp only at hm uT au kr
   subst hm uT
   have Be:sl=#[k0,k1,k2,k3,some (.builtin "ValueError.__new__"),k5]:=by
    obtain⟨l⟩:=sl
    simp only at hs
    rw[hs]
   subst Be
   exact⟨bm,ns,nm,qn,bs,hd,sn,sub,ab,col,dd,k0,k1,k2,k3,k5,_,X _ _ ho,.of_isNs (PySem.W.isNs_of_in X au),PySem.W.nsMap_none_of_in X au kr,PySem.W.tail_of_in X ht⟩
  ·cases q
 ·cases q
open PySem.W in
theorem S8{c:Value}:kitOne K c c=some true:=by
 unfold kitOne
 rw[if_pos (by simp)]
open PySem.W in
theorem kit_cls{t:Value}{b:Bool}(eF:(t==.ref C)=false)(h1:(clsIn K C).isSome=true)(h2:typeIn K (.ref C)=some (.type "type"))(h3:subIn K t (.ref C)=some b):kitOne K t (.ref C)=some b:=by
 unfold kitOne kitCls
 rw[eF]
 simp only[i6,if_false]
 rw[h1,h2,if_pos (by rfl),h3]
open PySem.W in
theorem S9{t:Value}{n:String}{b:Bool}(eF:(t==.type n)=false)(h1:kitMeta n=true)(h3:subIn K t (.type n)=some b):kitOne K t (.type n)=some b:=by
 unfold kitOne kitCls
 rw[eF]
 simp only[i6,if_false]
 rw[if_pos h1,h3]
open PySem.W in
theorem exm_cls{t:Value}{b:Bool}(h1:(clsIn K C).isSome=true)(h2:typeIn K (.ref C)=some (.type "type"))(h0:subIn K (.ref C) (.type "BaseException")=some true)(h3:subIn K t (.ref C)=some b):exmOne K t (.ref C)=some b:=by
 unfold exmOne kitCls
 rw[h0,if_pos (by rfl)]
 simp only
 rw[h1,h2,if_pos (by rfl),h3]
end
theorem xv{P:Program}{w:World}{X:Cx}:iz (gz P w) X E0:=by
 rintro _ _ _ _ _ _ _ ⟨_,_,_,_,_,_,_,_,_,_,_,_,_,_,_,z⟩
 exact z.elim
theorem xw{P:Program}{w:World}{K:PySem.W.Frag}{mg:Str->Option Value}{base:Heap}{k:Nat}{f:Addr}{fd:FuncData}{ps:List Str}{sp:iO}(h:aL P w K mg base (gz P w) k f fd ps (jv sp)) :
  aL P w K mg base (gz P w) k f fd ps (bf λds Q=>sp ds Q λ_=>False) :=
 h.imp λvs H Q E zq=>by
 obtain⟨F,ds,Qd,e,r,q,k⟩:=zq
 exact⟨F,ds,Qd,_,e,r,q,k,λ_ _ _ z=>z.elim⟩
end L3
namespace L3
open PySem L2 PySem.Spec PyProof.Rows
theorem jx{CX:cn}{P:Program}{w:World}{K:PySem.W.Frag}{mg:Str->Option Value}{base:Heap}{N:List Str}{q:Str}{sc:Scope}{f:Addr}{aE:Value}{A:Around}{outer:List Env}{s:Shared}{H:Hp}{E:XK}:(fE CX P w K mg base N q sc f aE A outer s H E).K=K:=rfl
theorem xx{K:PySem.W.Frag}{cv:Value}{C:Addr}{nm:Str}{n:Int}{r:Bool}(x:gB K C)(h:PySem.W.kitOne K (.ref C) cv=some r):Bc K cv (.aS (.g6 C nm n)) r:=⟨C,.inr ⟨_,_,rfl⟩,x,h⟩
theorem sg(φ:j4):(D.aS φ).pl=true:=rfl
theorem si(φ:j4):(D.aS φ).sh=.aS φ:=rfl
end L3
namespace L3
open PySem L2 PySem.Spec PyProof.Rows
theorem jy{X:Cx}:X.eC.K=X.K:=rfl
end L3
namespace L3
open PySem L2 PySem.Spec PyProof.Rows
noncomputable def fg(xs ys:List D):List D:=vX (λx y=>D.tup [x,y]) xs ys
noncomputable def dq(xs:List D):List D:=xs.mapIdx λi x=>D.tup [.int i,x]
theorem GI(xs ys:List D):(fg xs ys).map D.sh=fg (xs.map D.sh) (ys.map D.sh):=by
 unfold fg
 rw[zb,List.zipWith_map]
 congr 1
theorem Ta{xs ys:List D}(h1:xs.all D.pl=true)(h2:ys.all D.pl=true):(fg xs ys).all D.pl=true:=by
 unfold fg
 rw[cX]at h1 h2 ⊢
 intro d hd
 obtain⟨i,hi,e⟩:=Dh hd
 rw[List.getElem_zipWith]at e
 subst e
 rw[iE]
 simp only[cZ,mU,i7,cJ]
 exact⟨h1 _ (i5 _),h2 _ (i5 _)⟩
theorem Tc(xs:List D):(dq xs).map D.sh=dq (xs.map D.sh):=by
 unfold dq
 apply List.ext_getElem?
 intro i
 simp only[cW,zc,Option.map_map]
 cases xs[i]? with
 | none=>rfl
 | some x =>
  show some (D.sh (.tup [.int i,x]))=some (D.tup [.int i,x.sh])
  rw[ji];rfl
theorem Td{xs:List D}(h1:xs.all D.pl=true):(dq xs).all D.pl=true:=by
 unfold dq
 rw[cX]at h1 ⊢
 intro d hd
 obtain⟨i,hi,e⟩:=Dh hd
 rw[List.getElem_mapIdx]at e
 subst e
 rw[iE]
 simp only[cZ,mU,i7,cJ]
 exact⟨rfl,h1 _ (i5 _)⟩
theorem pK(xs:List D):(dq xs).length=xs.length:=by simp[dq]
theorem Bf(xs ys:List D):(fg xs ys).length=min xs.length ys.length:=by simp[fg]
section
variable{F H:Hp}{d:D}{v:V}{xs ys:List D}{ws us:List V}{p q:Addr}{K:PySem.W.Frag}
theorem xy(s:S F H [d] [v])(e2:ae F H)(e:fP d=some xs):∃p ws,v=.ref p/\Rd H p (.lst ws)/\R H H (xs.map D.sh) ws []/\(d.pl=true->xs.all D.pl=true/\Rd F p (.lst ws)/\R F H xs ws []):=by
 cases s with
 | @shr p ws ys _ _ hp r _ =>
  obtain rfl:=bS e
  refine⟨p,ws,rfl,.inl (e2 _ _ hp),?_,λ_=>⟨r.pl,.inl hp,r⟩⟩
  rw[iG r.pl]
  exact r.shared e2 (ae.refl _)
 | @own p ws ys _ _ hp r _ =>
  obtain rfl:=bS e
  exact⟨p,ws,rfl,.inl hp,r.frozen e2,λz=>by simp[gE]at z⟩
 | @fz p o ws ys _ _ hp r _ =>
  obtain rfl:=bS e
  refine⟨p,ws,rfl,.inr ⟨o,e2 _ _ hp⟩,?_,λ_=>⟨r.pl,.inr ⟨o,hp⟩,r⟩⟩
  rw[iG r.pl]
  exact r.shared e2 (ae.refl _)
 | ao _=>cases e
 | bl _=>cases e
 | int _=>cases e
 | str _=>cases e
 | tup _ _ _=>cases e
 | obj _ _ _ _=>cases e
 | aS _ _=>cases e
theorem xA(r:R F H xs ws []){i:Nat}(hi:i<xs.length){x:V}(hx:ws[i]?=some x):R F H [xs[i]] [x] []:=by
 obtain⟨v,A1,e2,r1,sub⟩:=r.get (a9 hi)
 rw[hx]at e2;cases e2
 have:A1=[]:=MD.mpr λa ha=>by simpa using sub ha
 subst this
 exact r1
theorem GJ(hp:Rd F p (.lst ws))(r:R F H xs ws [])(hq:Rd F q (.lst us))(t:R F H ys us [])(hF:Full F H):JD (As K p q) F (fg xs ys) where
 go:=λi H' hs hi=>by
  rw[Bf]at hi
  have l1:=r.length
  have l2:=t.length
  exact⟨ws,us,_,_,.inl (dY hp hs),.inl (dY hq hs),a9 (show i<ws.length by omega),a9 (show i<us.length by omega)⟩
 fy:=λi H' v H2 hs hi zz=>by
  obtain⟨T,x,y,e1,e2,e3,hx,hy⟩:=zz
  subst e1 e3
  have iQ:=hi
  rw[Bf]at iQ
  have h1:=xA (r.full hF hs rfl) (show i<xs.length by omega) (hx ws (.inl (dY hp hs)))
  have h2:=xA (t.full hF hs rfl) (show i<ys.length by omega) (hy us (.inl (dY hq hs)))
  have sm:=ae.upd (o:=.tup [x,y]) e2
  refine⟨_,a9 hi,sm,?_⟩
  have eg:(fg xs ys)[i]=.tup [xs[i]'(by omega),ys[i]'(by omega)]:=by simp[fg]
  rw[eg]
  exact R.tup (A:=[]) (B:=[]) a5 ((h1.shared (ae.refl _) sm).cons (h2.shared (ae.refl _) sm)) .nil
 stop:=λi H' hs hi=>by
  rw[Bf]at hi
  have l1:=r.length
  have l2:=t.length
  exact⟨ws,us,.inl (dY hp hs),.inl (dY hq hs),by omega⟩
theorem GK(hp:Rd F p (.lst ws))(r:R F H xs ws [])(hF:Full F H):JD (Ay K p) F (dq xs) where
 go:=λi H' hs hi=>by
  rw[pK]at hi
  have l1:=r.length
  exact⟨ws,_,.inl (dY hp hs),a9 (show i<ws.length by omega)⟩
 fy:=λi H' v H2 hs hi zz=>by
  obtain⟨T,x,e1,e2,e3,hx⟩:=zz
  subst e1 e3
  have iQ:=hi
  rw[pK]at iQ
  have h1:=xA (r.full hF hs rfl) iQ (hx ws (.inl (dY hp hs)))
  have sm:=ae.upd (o:=.tup [.int i,x]) e2
  refine⟨_,a9 hi,sm,?_⟩
  have eg:(dq xs)[i]=.tup [.int i,xs[i]]:=by simp[dq]
  rw[eg]
  exact R.tup (A:=[]) (B:=[]) a5 (.int (h1.shared (ae.refl _) sm)) .nil
 stop:=λi H' hs hi=>by
  rw[pK]at hi
  have l1:=r.length
  exact⟨ws,.inl (dY hp hs),by omega⟩
end
section
variable{X:Cx}{a b:Expr}{ta:a6}{p pos gY:Pos}{elts:List Expr}{x1:Nat}
noncomputable def pL(t:a6):eo:=λδ Q=>t δ λds aa=>match ds with
 | [d1,d2]=>∃xs ys,fP d1=some xs/\fP d2=some ys/\Q (d1.pl&&d2.pl) (fg xs ys) aa
 | _=>False
theorem Te(hg:Gl X "zip")(hm:X.mg "zip"=none)(ha:PA X [a,b] (lA ta))(hs:starEach [a,b] X.env=[(false,eval a X.env),(false,eval b X.env)]:=by rfl)(cm:starEach [b] X.env=[(false,eval b X.env)]:=by rfl) :
  PI X (.Tuple elts x1 gY) (.Call (.Name "zip" p) [a,b] [] pos) (lI (pL ta)) :=
 oo (Rt hg hm ha hs cm) λσ H Q zq=>by
 obtain⟨B,F,δ,ts,Qd,c,q,k⟩:=zq
 exact⟨B,F,δ,ts,_,c,q,λds ah vs F1 H1 hd f1 h1 c1 s=>by
  match ds,hd,s with
  | [d1,d2],⟨xs,ys,i1,i2,hq⟩,s =>
   obtain⟨v1,bF,rfl,s1,s2⟩:=s.bW
   obtain⟨v2,ZE,rfl,s2,s3⟩:=s2.bW
   cases s3
   have e2:=c1.ext
   have sn:=lD e2
   obtain⟨p1,w1,rfl,r1,t1,u1⟩:=xy s1 e2 i1
   obtain⟨p2,w2,rfl,r2,t2,u2⟩:=xy s2 e2 i2
   refine⟨p1,p2,rfl,⟨w1,.inl r1⟩,⟨w2,.inl r2⟩,k _ _ ah _ _ H1 hq (f1.trans sn) h1 c1.snap ?_ λz=>?_⟩
   ·rw[GI]
    exact GJ r1 t1 r2 t2 (Full.refl _)
   ·rw[cJ]at z
    obtain⟨a1,a2,a3⟩:=u1 z.1
    obtain⟨b1,b2,b3⟩:=u2 z.2
    exact⟨Ta a1 b1,GJ (dY a2 sn) (a3.shared sn (ae.refl _)) (dY b2 sn) (b3.shared sn (ae.refl _)) nQ⟩⟩
noncomputable def pM(t:a6):eo:=λδ Q=>t δ λds aa=>match ds with
 | [d1]=>∃xs,fP d1=some xs/\Q d1.pl (dq xs) aa
 | _=>False
theorem xB(hg:Gl X "enumerate")(hm:X.mg "enumerate"=none)(ha:PA X [a] (lA ta))(hs:starEach [a] X.env=[(false,eval a X.env)]:=by rfl) :
  PI X (.Tuple elts x1 gY) (.Call (.Name "enumerate" p) [a] [] pos) (lI (pM ta)) :=
 oo (Rx hg hm ha hs) λσ H Q zq=>by
 obtain⟨B,F,δ,ts,Qd,c,q,k⟩:=zq
 exact⟨B,F,δ,ts,_,c,q,λds ah vs F1 H1 hd f1 h1 c1 s=>by
  match ds,hd,s with
  | [d1],⟨xs,i1,hq⟩,s =>
   obtain⟨v1,bF,rfl,s1,s2⟩:=s.bW
   cases s2
   have e2:=c1.ext
   have sn:=lD e2
   obtain⟨p1,w1,rfl,r1,t1,u1⟩:=xy s1 e2 i1
   refine⟨p1,rfl,⟨w1,.inl r1⟩,k _ _ ah _ _ H1 hq (f1.trans sn) h1 c1.snap ?_ λz=>?_⟩
   ·rw[Tc]
    exact GK r1 t1 (Full.refl _)
   ·obtain⟨a1,a2,a3⟩:=u1 z
    exact⟨Td a1,GK (dY a2 sn) (a3.shared sn (ae.refl _)) nQ⟩⟩
end
end L3
namespace L3
open PySem L2 PySem.Spec PyProof.Rows
section
variable{X:Cx}{F H:Hp}{e b:Expr}{pos p p2 p3 pr apos aP xp:Pos}{t ti te:aw}{x y:Str}{i j:Nat}
end
section
variable{X:Cx}{CX:cn}{k:Nat}{f:Addr}{fd:FuncData}{ps:List Str}{sp:a7}{E:XK}{fn x1 x2 y1 y2:Str}{i1 i2 j1 j2:Nat}{tk:Nat}
 {tp t1 t2 zp ZF q1 q2 fp ZG a1 a2 Tf ZH Tg cp xp pr apos aP ZI pos:Pos}
end
end L3
namespace L3
open PySem L2 PySem.Spec PyProof.Rows
theorem ai.Th{B:Bs}{F H:Hp}{σ:L2.St}{δ:Dl}{ts:List (D × V)}{a b:D}{v:V}(c:ai B F H σ δ ((.tup [a,b],v)::ts)):∃p u w,v=.ref p/\H p=some (.tup [u,w])/\ai B F H σ δ ((a,u)::(b,w)::ts):=by
 obtain⟨A,C,r,s,nd,fr⟩:=c.own
 cases r with
 | @tup p ws xs A1 _ _ B1 hp r1 r2 =>
  obtain⟨u,fO,A2,A3,rfl,rfl,h1,h2⟩:=r1.bW
  obtain⟨w,ZJ,A4,A5,rfl,rfl,h3,h4⟩:=h2.bW
  cases h4
  refine⟨p,u,w,rfl,hp,c.ext,c.b1,c.b2,c.b3,A2++(A4++B1),C,h1.cons (h3.cons r2),s,?_,?_⟩
  ·simpa using nd
  ·intro a ha;exact fr a (by simpa using ha)
section
variable{X:Cx}{y1 y2:Str}{i1 i2 tk m:Nat}{t1 t2 tp:Pos}
noncomputable def fh(i1 i2:Nat):dO:=λd δ Q=>match d with
 | .tup [a,b]=>Q ((δ.set i1 (some a)).set i2 (some b))
 | _=>False
theorem sj(hc:X.calm=true)(xC:X.N.Nodup)(m1:X.N[i1]?=some y1)(l1:Loc X.env.scope y1)(m2:X.N[i2]?=some y2)(l2:Loc X.env.scope y2)(GL:m<=i1:=by decide)(hW:m<=i2:=by decide)
  (f1:X.fn y1=true\/X.env.scope.names.lookup y1=some .local:=by first | exact .inl rfl | exact .inr rfl | assumption) (f2:X.fn y2=true\/X.env.scope.names.lookup y2=some .local:=by first | exact .inl rfl | exact .inr rfl | assumption)
  (Bg:(assignEach [.Name y1 t1,.Name y2 t2] X.env).map (·.2)=assign (.Name y1 t1) X.env::(assignEach [.Name y2 t2] X.env).map (·.2):=by rfl) (Bh:(assignEach [.Name y2 t2] X.env).map (·.2)=assign (.Name y2 t2) X.env::(assignEach [] X.env).map (·.2):=by rfl)
  (hn:(assignEach [.Name y1 t1,.Name y2 t2] X.env).length=2:=by rfl) (bt:(assignEach [.Name y1 t1,.Name y2 t2] X.env).findIdx? (·.1)=none:=by rfl) :
  PG X (.Tuple [.Name y1 t1,.Name y2 t2] tk tp) (lG m (fh i1 i2)) :=
 FI (NH hc (DR (zB xC m1 l1 f1) (DR (zB xC m2 l2 f2) NF Bh) Bg) hn bt) λv σ H Q zz=>by
  obtain⟨B,F,δ,ts,d,Qd,c,q,k⟩:=zz
  obtain⟨a,b,rfl,q⟩:∃a b,d=D.tup [a,b]/\Qd ((δ.set i1 (some a)).set i2 (some b)):=by
   unfold fh at q
   split at q
   ·exact⟨_,_,rfl,q⟩
   ·exact q.elim
  obtain⟨p,u,w,rfl,hp,c2⟩:=c.Th
  refine⟨p,[u,w],rfl,e7.of hp,rfl,u,[w],rfl,w,[],rfl,rfl,k _ _ q (by simp) (λj hj=>?_) ((c2.store i1).store i2)⟩
  rw[sS (by omega),sS (by omega)]
end
open Classical in
theorem xD{α:Type}{sh:Bool}{xs:List D}{az:List (Str × Nat)}{n m:Nat}{te:aw}{ah:Dl}{Q:D->Dl->Prop}(l:List α)(e g:α->D)(ky:xs.map D.sh=l.map e)(inj:∀a b,e a=e b->a=b)
  (hx:∀a∈l,te ((dH az n ah).set m (some (e a))) λd _=>d=g a) (cV:(sh&&az.all (fe ah))=true\/∀a∈l,(g a).fr=true) (hl:l.length<=sizeLine) (hq:Q (.lst true (l.map g)) ah):rh sh xs az n (gN m) hJ te ah Q:=by
 let f:D->D:=λx=>if h:∃a∈l,e a=x then g h.choose else .ao
 have hf:∀a∈l,f (e a)=g a:=λa ha=>by
  have h:∃b∈l,e b=e a:=⟨a,ha,rfl⟩
  show(if h:∃b∈l,e b=e a then g h.choose else .ao)=g a
  rw[dif_pos h]
  exact congrArg g (inj _ _ h.choose_spec.2)
 refine R0 f (λx h=>?_) (cV.imp id λh x hx=>?_) ?_ ?_
 ·rw[ky]at h
  obtain⟨a,ha,rfl⟩:=c9.mp h
  rw[hf a ha];exact hx a ha
 ·rw[ky]at hx
  obtain⟨a,ha,rfl⟩:=c9.mp hx
  rw[hf a ha];exact h a ha
 ·have:=congrArg C9 ky
  simp at this
  omega
 ·rw[ky,gP,show l.map (f ∘ e)=l.map g from zd λa ha=>hf a ha]
  exact hq
end L3
namespace L3
open PySem L2 PySem.Spec PyProof.Rows
end L3
namespace L2
open PySem PySem.Spec PyProof.Rows
section
variable{X:Cx}
end
end L2
namespace L3
open PySem L2 PySem.Spec PyProof.Rows
noncomputable abbrev tx(l:List Nat):D:=.str ⟨l.toArray⟩
section
variable{X:Cx}{F H:Hp}{e:Expr}{es:List Expr}{t:aw}{pos p p2 apos aP:Pos}
noncomputable def mf(x:D)(lo hi:Option Int)(Q:D->Prop):Prop:=match x with
 | .lst _ xs=>xs.all D.pl=true/\Q (.lst true (eK xs lo hi))
 | .fz xs=>Q (.lst true (eK xs lo hi))
 | .str z=>z.length<=sizeLine/\Q (tx (eK z.cps.toList lo hi))
 | _=>False
noncomputable def pO(t:aw)(tl th:rp):aw:=λδ Q=>t δ λx ah=>tl ah λl aC=>th aC λu fc=>mf x l u λd=>Q d fc
theorem Ti{lo hi:Option Expr}{tl th:rp}(he:PE X e (lB t))(hl:PO X lo (lP tl))(hu:PO X hi (lP th)):PE X (.Subscript e (.Slice lo hi none p2) pos) (lE (pO t tl th)) :=
 b8 (O3 (Ph.or RA) he hl hu) λσ H Q zq=>by
 obtain⟨B,F,δ,ts,Qd,c,q,k⟩:=zq
 exact⟨B,F,δ,ts,_,c,q,λx ah v F1 H1 q1 f1 h1 c1 s1=>⟨B,F1,ah,ts,_,c1,q1,λl aC F2 H2 q2 f2 h2 c2=>⟨B,F2,aC,ts,_,c2,q2,λu fc F3 H3 q3 f3 h3 c3=>by
  have kl:=s1.mono (f2.trans f3) (h2.trans h3)
  unfold mf at q3
  split at q3
  ·obtain⟨p,ws,rfl,h,t⟩:=lR kl c3.ext rfl
   exact .inl ⟨p,ws,rfl,kh h,λr hr=>k _ fc _ F3 _ q3.2 ((f1.trans f2).trans f3) (((h1.trans h2).trans h3).trans (ae.upd hr)) (c3.j5 hr (t.cut _ _) (Gn q3.1 _ _))⟩
  ·obtain⟨p,ws,rfl,h,t⟩:=lR kl c3.ext rfl
   cases kl with
   | fz h' r _=>exact .inl ⟨_,_,rfl,kh (.inr ⟨_,c3.ext _ _ h'⟩),λr' hr=>k _ fc _ F3 _ q3 ((f1.trans f2).trans f3) (((h1.trans h2).trans h3).trans (ae.upd hr)) (c3.j5 hr (r.s.cut _ _) (Gn r.pl _ _))⟩
  ·cases kl with
   | str _=>exact .inr ⟨_,rfl,q3.1,k _ fc _ F3 H3 q3.2 ((f1.trans f2).trans f3) ((h1.trans h2).trans h3) (c3.pushS (.str .nil) rfl)⟩
  ·exact q3.elim⟩⟩⟩
end
theorem sk(a:List Nat):(⟨a.toArray⟩:Str).length=a.length:=by show a.toArray.size=_;simp
end L3
namespace L3
open PySem L2 PySem.Spec PyProof.Rows
noncomputable def aN(l:List Nat):List D:=aD (l.map λ(n:Nat)=>(n:Int))
theorem eT(l:List Nat):(aN l).length=l.length:=by unfold aN;rw[iN,cI]
theorem iR(l:List Nat):aN l=l.map λ(n:Nat)=>D.int (n:Int):=by unfold aN aD;rw[gP];rfl
theorem Tj(l:List Nat):(aN l).map D.sh=l.map λ(n:Nat)=>D.int (n:Int):=by unfold aN;rw[gG];exact iR l
theorem Tn(a b:Nat)(h:D.int (a:Int)=D.int (b:Int)):a=b:=by injection h with h;omega
theorem pP(l:List Nat):(aN l).all D.pl=true:=l8 _
theorem pQ(l:List Nat):(aN l).map D.sh=aN l:=gG _
theorem sq(l:List Nat)(lo hi:Option Int):eK (aN l) lo hi=aN (eK l lo hi):=by
 unfold aN
 rw[pq]
 congr 1
 unfold eK
 rw[cI,Dr,Dq]
theorem To{α:Type}(xs:List α)(b:Nat):eK xs none (some (b:Int))=xs.take b:=by
 have:=Sw xs 0 b
 unfold eK at this ⊢
 simpa[HT.bO]using this
end L3
namespace L2
open PySem PySem.Spec PyProof.Rows
section
variable{X:Cx}{tg l o e:Expr}{tl to te:TE}{apos aP:Pos}
end
end L2
namespace L3
open PySem L2 PySem.Spec PyProof.Rows
section
variable{X:Cx}{F H:Hp}{tg l e:Expr}{te t tb:aw}{apos aP pos:Pos}
variable{o:Expr}
theorem GN:∀{ns:List Int} {ws:List V},S F H (aD ns) ws->ws=ns.map V.int
 | [],_,s=>by cases s;rfl
 | n::ns,_,s=>by
  cases s with
  | int s=>rw[GN s];rfl
end
end L3
namespace L3
open PySem L2 PySem.Spec PyProof.Rows
end L3
namespace L2
open PySem PySem.Spec PyProof.Rows
noncomputable def Tb(ts:List Addr)(H:Hp):Prop:=∀P∈ts,∃ps,H P=some (.bZ ps)
structure sr(ts:List Addr)(H:Hp):Prop where
 any:∀b,H b=none\/(∃o xs,H b=some (.bz o (.lst xs)))\/(b∈ts/\H b=some (.bZ #[]))
 tab:∀P∈ts,H P=some (.bZ #[])
theorem sr.tb{ts:List Addr}{H:Hp}(h:sr ts H):Tb ts H:=λP hP=>⟨#[],h.tab P hP⟩
noncomputable def Bm(mg:Str->Option Value)(base:Heap):Prop:=∃bm o,mg "__builtins__"=some (.ref bm)/\bm≠builtinsNs/\bm≠mainGlobals/\base.get? bm=some o/\o.cls=.type "module"/\o.dict=some builtinsNs/\o.data=.plain
theorem Tp{P:Program}{w:World}{K:PySem.W.Frag}{mg mb:Str->Option Value}{CX:cn}{k:Nat}{fa a:Addr}{fd:FuncData}{x:Str}{sp:Sp}{aQ:Shared}{vs:List Value}{ns:List Int}{ts:List Addr}
  (KX:K.In aQ.heap) (su:aQ.heap.Ns mainGlobals mg) (hb:aQ.heap.Ns builtinsNs mb) (Tq:∀x:Str,x≠"__name__"->mb x=bootBuiltins x) (Tr:aQ.heap.NoLimit) (hg:aQ.gens=#[])
  (ht:∀P∈ts,aQ.heap.get? P=some (PySem.W.tabObj #[])) (Bi:∀P∈ts,isCodeTable aQ.heap P) (Ts:∀P∈ts,K.lookup P=none)
  (ha:aQ.heap.get? a=some { cls:=.type "list",data:=.seq vs.toArray }) (hi:IntsAre vs ns) (hl:ns.length<=sizeLine) (hr:bu k callerA)
  (uU:Bm mg aQ.heap) (F:∀base:Heap,K.In base->base.Ns mainGlobals mg->Bm mg base->aL P w K mg base CX k fa fd [x] sp) (Tt:∀(s:Shared) (u:Value),BindsTo s fd ⟨[u],[]⟩ [(x,u)])
  (fF:∀H:Hp,sr ts H->a8 K H a (ns.map V.int)->sp [.ref a] H (λv _=>v=.bl true) λ_ _ _=>False)
  (Bj:∀H e s',CX [] H aQ (λ_ _ _=>False) e s'->False) :
  codeAny (model P w) callerA (.call (.ref fa) ⟨[.ref a],[]⟩) (λr s'=>r=.ok (.ret (.bool true))/\OldK aQ.heap s'.heap/\s'.os=aQ.os/\AllBare s'.gens) aQ:=by
 have rv:=Ez hi
 have Tu:=hi.length
 have nat:a ∉ ts:=λz=>by
  have:=ht a z
  rw[ha]at this
  cases this
 have core:∀H:Hp,sr ts H->a8 K H a (ns.map V.int)->bA P w H aQ.heap->(∀b,H b≠none->b=a\/b∈ts)->(H a≠none->K.lookup a=none) ->
   codeAny (model P w) callerA (.call (.ref fa) ⟨[.ref a],[]⟩) (λr s'=>r=.ok (.ret (.bool true))/\OldK aQ.heap s'.heap/\s'.os=aQ.os/\AllBare s'.gens) aQ:=by
  intro H hO hS au hA hK
  have Bk:∀{b:Addr} {o:Obj},aQ.heap.get? b=some o->H b=none->(i8 aQ.heap H).get? b=some o:=λe n=>M3 e n
  have t9:∀{b:Addr} {o:Obj} {es:Array DictEntry} {ep:Nat},aQ.heap.get? b=some o->o.data=.dict es ep->H b=none:=λ{b o es ep} e d=>by
   cases q:H b with
   | none=>rfl
   | some u =>
    rcases hA b (by rw[q];simp)with e' | e'
    ·subst e'
     rw[ha]at e;cases e
     have d':Data.seq vs.toArray _=Data.dict es ep:=d
     cases d'
    ·rw[ht b e']at e;cases e
     have d':sT #[]=Data.dict es ep:=d
     cases d'
  have xE:∀{b:Addr} {m:Str->Option Value},aQ.heap.Ns b m->(i8 aQ.heap H).Ns b m:=λ{b m} ⟨o,es,ep,e,d,r⟩=>⟨o,es,ep,Bk e (t9 e d),d,r⟩
  have GO:K.In (i8 aQ.heap H):=λb o e=>Bk (KX b o e) (by
   cases q:H b with
   | none=>rfl
   | some u =>
    rcases hA b (by rw[q];simp)with e' | e'
    ·subst e'
     rw[hK (by rw[q];simp)]at e;cases e
    ·rw[Ts b e']at e;cases e)
  have Tv:Bm mg (i8 aQ.heap H):=by
   obtain⟨bm,o,b1,b2,b3,b4,b5,b6,b7⟩:=uU
   refine⟨bm,o,b1,b2,b3,Bk b4 ?_,b5,b6,b7⟩
   cases q:H bm with
   | none=>rfl
   | some u =>
    rcases hA bm (by rw[q];simp)with e' | e'
    ·rw[e',ha]at b4;cases b4
     have d':Data.seq vs.toArray _=Data.plain:=b7
     cases d'
    ·rw[ht bm e']at b4;cases b4
     have d':sT #[]=Data.plain:=b7
     cases d'
  have hM:Mod K mg (i8 aQ.heap H):=⟨GO,xE su,⟨mb,xE hb,Tq⟩,let⟨mc,h1,h2⟩:=Tr;⟨mc,xE h1,h2⟩⟩
  have e0:fC P w K mg (i8 aQ.heap H) callerA [] aQ H:=⟨rfl,hM,λb o e=>M4 e,Nat.le_of_eq (M0 _ _),trivial,λb hb=>absurd (show b∈([]:List Addr) from hb) (by simp),au,.of_eq hg⟩
  refine codeAny_mono ((F _ GO (xE su) Tv).run callerA [] aQ H ⟨[.ref a],[]⟩ [.ref a] [.ref a] _ _ hr e0 (Tt aQ (.ref a)) (.cons rfl .nil) (fF H hO hS)) λr s' h=>?_
  cases r with
  | error e=>exact(Bj H e s' h).elim
  | ok fl =>
   cases fl with
   | next=>exact cH h
   | brk=>exact cH h
   | cont=>exact cH h
   | ret u =>
    obtain⟨v,H',os,bare,un,GP,r',q⟩:=h
    have q':v=.bl true:=q
    subst q'
    obtain rfl:u=yM true:=r'
    have each:∀b o,aQ.heap.get? b=some o->asItWas aQ.heap s'.heap b o/\∃o',s'.heap.get? b=some o':=λb o e=>by
     cases q:H b with
     | none =>
      have z:=un.keep b o e q (by intro z;exact absurd (show b∈([]:List Addr) from z) (by simp)) (by simp)
      exact⟨.inl z,o,z⟩
     | some u =>
      rcases hO.any b with z | ⟨ob,xs,z⟩ | ⟨gH,z⟩
      ·rw[q]at z;cases z
      ·have z2:=un.dA b ob _ z
       obtain⟨e1,_⟩:=au b _ z
       obtain⟨e2,_⟩:=GP b _ z2
       rw[e]at e1;cases e1
       exact⟨.inl e2,_,e2⟩
      ·obtain⟨more,z2⟩:=un.da b _ z
       have e2:=(GP b _ z2).1
       rw[ht b gH]at e;cases e
       exact⟨.inr (.inl ⟨Bi b gH,rfl,#[],more,rfl,e2⟩),_,e2⟩
    exact⟨rfl,⟨λb o e=>(each b o e).1,λb o e=>(each b o e).2⟩,os,bare⟩
 have tok:∀(H:Hp) (b:Addr),b∈ts->bq P w H aQ.heap b (.bZ #[]):=λH b hb=>⟨ht b hb,trivial,λpos cv q=>by cases q⟩
 cases hk:K.lookup a with
 | some o =>
  have e:=KX a o hk
  rw[ha]at e
  cases e
  refine core (λb=>if b∈ts then some (.bZ #[])else none) ⟨λb=>?_,λb hb=>if_pos hb⟩ (.inr ⟨_,vs.toArray,_,hk,rfl,rfl,rfl,by rw[bY,Tu];exact hl,by simpa using rv⟩) (λb u z=>?_) (λb z=>?_) λz=>absurd (if_neg nat) z
  ·by_cases hb:b∈ts
   ·exact .inr (.inr ⟨hb,if_pos hb⟩)
   ·exact .inl (if_neg hb)
  ·by_cases hb:b∈ts
   ·have z':=(if_pos hb).symm.trans z
    cases z'
    exact tok _ b hb
   ·have z':=(if_neg hb).symm.trans z
    cases z'
  ·by_cases hb:b∈ts
   ·exact .inr hb
   ·exact absurd (if_neg hb) z
 | none =>
  refine core (λb=>if b=a then some (.bz { cls:=.type "list",data:=.seq vs.toArray } (.lst (ns.map V.int)))else if b∈ts then some (.bZ #[])else none) ⟨λb=>?_,λb hb=>?_⟩ (.inl (.inr ⟨{ cls:=.type "list",data:=.seq vs.toArray },if_pos rfl⟩)) (λb u z=>?_) (λb z=>?_) λ_=>hk
  ·by_cases hb:b=a
   ·exact .inr (.inl ⟨_,_,if_pos hb⟩)
   ·by_cases gH:b∈ts
    ·exact .inr (.inr ⟨gH,(if_neg hb).trans (if_pos gH)⟩)
    ·exact .inl ((if_neg hb).trans (if_neg gH))
  ·have eF:b≠a:=λz=>nat (z ▸ hb)
   exact(if_neg eF).trans (if_pos hb)
  ·by_cases hb:b=a
   ·have z':=(if_pos hb).symm.trans z
    cases z'
    subst hb
    exact⟨ha,by rw[cI];exact hl,vs,_,rv,ha⟩
   ·by_cases gH:b∈ts
    ·have z':=((if_neg hb).trans (if_pos gH)).symm.trans z
     cases z'
     exact tok _ b gH
    ·have z':=((if_neg hb).trans (if_neg gH)).symm.trans z
     cases z'
  ·by_cases hb:b=a
   ·exact .inl hb
   ·by_cases gH:b∈ts
    ·exact .inr gH
    ·exact absurd ((if_neg hb).trans (if_neg gH)) z
theorem Tw{l:PySem.W.OpenLaw}{n k:Nat}{q:Program}{loose:List Str}{XP:(Str->Option Value)->Heap->Prop}{YP:World->Heap->Prop}{d:DefRec}{K:Params->PySem.W.Frag}{CX:World->cn}{sp:World->Sp}{x:Str}{ts:List Addr}
  (hn:l.most=some n) (wy:n<=sizeLine) (ua:d.params.defaults=[]) (hr:bu k callerA)
  (hY:∀(w:World) (h:Heap),YP w h->(K w.params).In h/\∀P∈ts,h.get? P=some (PySem.W.tabObj #[]))
  (hC:∀(w:World) (h:Heap),(K w.params).In h->∀P∈ts,(K w.params).lookup P=none/\∃c,PySem.W.CodeHd h c P)
  (F:∀(w:World) (mg:Str->Option Value) (fa:Addr) (h:Heap),(K w.params).In h->h.Ns mainGlobals mg->mg d.name=some (.ref fa) ->
   ∃fd:FuncData,(∀(s:Shared) (u:Value),BindsTo s fd ⟨[u],[]⟩ [(x,u)]) /\
    ∀base:Heap,(K w.params).In base->base.Ns mainGlobals mg->Bm mg base->aL l.prog w (K w.params) mg base (CX w) k fa fd [x] (sp w))
  (fF:∀(w:World) (H:Hp) (a:Addr) (ns:List Int),ns.length<=n->sr ts H->a8 (K w.params) H a (ns.map V.int)->sp w [.ref a] H (λv _=>v=.bl true) λ_ _ _=>False)
  (Bj:∀(w:World) (H:Hp) (s:Shared) (e:Value) (s':Shared),CX w [] H s (λ_ _ _=>False) e s'->False) :
  PySem.W.WalkO q loose XP YP l.row.toRowW d [] (λf vs=>PySem.call f vs):=by
 refine Att.PN hn ua λw bc aQ mg mb fa o pm cd doc a vs ns G Y ho hd br ub zZ hints hlen hg=>?_
 obtain⟨KX,hT⟩:=hY w _ Y
 obtain⟨fd,hb,hF⟩:=F w mg fa _ KX G.T.g ub
 have Bi:∀P∈ts,isCodeTable aQ.heap P:=λP hP=>by
  obtain⟨_,c,C⟩:=hC w _ KX P hP
  exact(C.tab (hT P hP)).isCodeTable
 have uU:Bm mg aQ.heap:=by
  obtain⟨bm,ob,b1,b2,b3,b4,b5,b6⟩:=G.T.bmain
  refine⟨bm,ob,b1,b2,λq=>?_,b3,b4,b5,b6⟩
  obtain⟨o,es,ep,e,hd,_⟩:=G.T.g
  rw[q,e]at b3;cases b3;rw[hd]at b6;cases b6
 exact Tp KX G.T.g G.T.b G.T.builtins G.T.nolimit hg hT Bi (λP hP=>(hC w _ KX P hP).1) zZ hints (dy hlen wy) hr uU hF hb (λH hO hS=>fF w H a ns hlen hO hS) λH e s'=>Bj w H aQ e s'
end L2
namespace L3
open PySem L2 PySem.Spec PyProof.Rows
noncomputable def uV(ts:List Addr)(sp:Sp):Sp:=λvs H Q E=>Tb ts H/\sp vs H Q E
theorem GQ{X:Cx}{pins:List (Addr × Obj)}{σ:L2.St}{H:Hp}{s:Shared}{ts:List Addr}(I:Inv X pins σ H s)(h:Tb ts X.gQ):Tb ts H:=λP hP=>by
 obtain⟨ps,e⟩:=h P hP
 obtain⟨m,e2⟩:=I.base.da P ps e
 exact⟨_,e2⟩
noncomputable def xF(ts:List Addr)(K:PySem.W.Frag):Sp:=λvs H Q _=>∃(a:Addr) (ns:List Int),vs=[.ref a]/\sr ts H/\a8 K H a (ns.map V.int)/\ns.length<=63/\∀H',Q (.bl true) H'
theorem Tx{ts:List Addr}{K:PySem.W.Frag}(nl:K.all (λp=>AW p.2)=true){vs:List V}{H:Hp}{Q:VK}{E:XK}(h:xF ts K vs H Q E):uV ts (bf Gq) vs H Q E:=by
 obtain⟨a,ns,rfl,hO,hS,hl,q⟩:=h
 have hz:∃o,H a=some (.bz o (.lst (ns.map V.int))):=by
  rcases hS with (hS | hS) | ⟨o,its,n,hk,hc,_⟩
  ·rcases hO.any a with z | ⟨o,xs,z⟩ | ⟨_,z⟩
   ·rw[hS]at z;cases z
   ·rw[hS]at z;cases z
   ·rw[hS]at z;cases z
  ·exact hS
  ·have hm:=Sv hk
   have:=cX.mp nl _ hm
   simp[AW,hc]at this
 obtain⟨o,ho⟩:=hz
 refine⟨hO.tb,H,[.fz (aD ns)],λd=>d=.bl true,ae.refl _,.fz ho (iM ns) .nil,⟨ns,rfl,hl,rfl⟩,λd v F' H' A hd hs hf he h3 r nd fr=>?_⟩
 subst hd
 cases r
 exact q H'
end L3
namespace L2
open PySem PySem.Spec PyProof.Rows
noncomputable def rem(H:Hp)(f c:Addr):Hp:=λb=>if b=f\/b=c then none else H b
noncomputable def kA(H H':Hp)(f c:Addr):Hp:=λb=>if b=f\/b=c then H b else H' b
section
variable{P:Program}{w:World}{H H':Hp}{h:Heap}{a b f c:Addr}{o:HO}{of oc:Obj}
theorem Bl:rem H f c f=none:=if_pos (.inl rfl)
theorem xG:rem H f c c=none:=if_pos (.inr rfl)
theorem dR(h1:b≠f)(h2:b≠c):rem H f c b=H b:=if_neg (by simp[h1,h2])
theorem jz(e:H b=none):rem H f c b=none:=by unfold rem;split;rfl;exact e
theorem xH(e:rem H f c b=some o):b≠f/\b≠c/\H b=some o:=by
 unfold rem at e
 split at e
 ·cases e
 ·rename_i n
  exact⟨λz=>n (.inl z),λz=>n (.inr z),e⟩
theorem mh(h1:b≠f)(h2:b≠c):kA H H' f c b=H' b:=if_neg (by simp[h1,h2])
theorem GR:kA H H' f c f=H f:=if_pos (.inl rfl)
theorem Bo:kA H H' f c c=H c:=if_pos (.inr rfl)
theorem bq.rem{φ:Heap->Prop}(x:bq P w H h a o)(ha:a≠f)(hf:H f=some (.ext φ))(hc:H c=some (.own f)\/H c=none)(pS:¬ ∀h',φ h'->∃q,h'.CodeRec (.ref f) q):bq P w (rem H f c) h a o:=by
 have own:∀b,H b=some (.own a)->L2.rem H f c b=some (.own a):=λb e=>by
  rw[dR (λz=>by subst z;rw[hf]at e;cases e) (λz=>by subst z;rcases hc with hc | hc<;>(rw[hc]at e;cases e);exact ha rfl)];exact e
 have tup:∀b xs,H b=some (.tup xs)->L2.rem H f c b=some (.tup xs):=λb xs e=>by
  rw[dR (λz=>by subst z;rw[hf]at e;cases e) (λz=>by subst z;rcases hc with hc | hc<;>(rw[hc]at e;cases e))];exact e
 induction o with
 | lst xs=>exact x
 | tup xs=>exact x
 | dK aj=>exact x
 | dT aj =>
  obtain⟨z,y,xs,r,ob⟩:=x
  exact⟨z,y,xs,Paired.wa r λp q z=>⟨z.1,tup _ _ z.2.1,z.2.2⟩,ob⟩
 | set S n=>exact x
 | ins C dx fs =>
  obtain⟨d,r⟩:=x
  exact⟨own _ d,r⟩
 | own y=>exact x
 | xd fs=>exact x
 | tK lo hi=>exact x
 | bz ob u ih=>obtain⟨e,q⟩:=x;exact⟨e,ih q⟩
 | bZ ps =>
  obtain⟨e,t,cc⟩:=x
  refine⟨e,t,λpos cv q=>?_⟩
  obtain⟨d,φ,e1,e2,e3⟩:=cc pos cv q
  refine⟨d,φ,e1,?_,e3⟩
  rw[dR (λz=>?_) (λz=>by subst z;rcases hc with hc | hc<;>(rw[hc]at e2;cases e2))]
  ·exact e2
  ·subst z
   rw[hf]at e2;cases e2
   exact pS e3
 | met f y=>exact x
 | ext φ=>obtain⟨p,r,st⟩:=x;exact⟨p,r,λh1 h2 p1 kk=>st h1 h2 p1 λb o hb q=>kk b o (hb.imp id (own b)) q⟩
theorem GS{φ:Heap->Prop}{fd:FuncData}(p:φ h)(g:∀h',φ h'->h'.get? f=some of)(hd:of.data=.func fd):¬ ∀h',φ h'->∃q,h'.CodeRec (.ref f) q:=λz=>by
 obtain⟨q,k,ok,vs,t,q1,q2,q3,_⟩:=z h p
 cases q1
 rw[g h p]at q2;cases q2
 rw[hd]at q3;cases q3
theorem bA.lam(ok:bA P w H h)(hf:H f=some (.ext (L3.gC of oc c f))):L3.gC of oc c f h:=(ok f _ hf).1
theorem bA.rem{fd:FuncData}(ok:bA P w H h)(hf:H f=some (.ext (L3.gC of oc c f)))(hc:H c=some (.own f))(hd:of.data=.func fd):bA P w (rem H f c) h:=λb o e =>
 let⟨h1,_,h3⟩:=xH e;(ok b o h3).rem h1 hf (.inl hc) (GS (ok.lam hf) (λ_ p=>p.1) hd)
end
theorem fC.rem{P:Program}{w:World}{K:PySem.W.Frag}{mg:Str->Option Value}{base:Heap}{A:Around}{outer:List Env}{s:Shared}{H:Hp}{f c:Addr}{of oc:Obj}{fd:FuncData}(e:fC P w K mg base A outer s H)
  (hf:H f=some (.ext (L3.gC of oc c f))) (hc:H c=some (.own f)) (hd:of.data=.func fd):fC P w K mg base A outer s (rem H f c) :=
 ⟨e.frames,e.mod,λb o q=>⟨(e.bs b o q).1,jz (e.bs b o q).2⟩,e.fu,e.dB,λb hb=>jz (e.fv b hb),e.au.rem hf hc hd,e.bare⟩
theorem CE.add{P:Program}{w:World}{K:PySem.W.Frag}{mg:Str->Option Value}{base:Heap}{A:Around}{outer:List Env}{s s':Shared}{H:Hp}{f c:Addr}{of oc:Obj}{Q Q':VK}{u:Value}(e0:fC P w K mg base A outer s H)
  (hf:H f=some (.ext (L3.gC of oc c f))) (hc:H c=some (.own f)) (h:CE outer P w (rem H f c) s Q u s') (hQ:∀v H',Q v H'->H' f=none->H' c=none->Q' v (kA H H' f c)):CE outer P w H s Q' u s':=by
 obtain⟨v,H',os,bare,un,au,r,q⟩:=h
 obtain⟨gf,gc⟩:=e0.au.lam hf
 have GU:∀{b o},H b=some o->b ∉ cw outer:=λ{b o} e z=>by rw[e0.fv b z]at e;cases e
 have nf:H' f=none:=un.free f _ gf Bl (by simp)
 have nc:H' c=none:=un.free c _ gc xG (by simp)
 have kf:=un.keep f _ gf Bl (GU hf) (by simp)
 have kc:=un.keep c _ gc xG (GU hc) (by simp)
 refine⟨v,kA H H' f c,os,bare,⟨λb o e n=>un.keep b o e (jz n),λb o e n=>un.slot b o e (jz n),λb o e n x=>?_,un.there,λb xs e=>?_,λb ob xs e=>?_,λb ps e=>?_⟩,λb o e=>?_,r,hQ v H' q nf nc⟩
 ·rw[mh (λz=>by subst z;rw[hf]at n;cases n) (λz=>by subst z;rw[hc]at n;cases n)]
  exact un.free b o e (jz n) x
 ·have n1:b≠f:=λz=>by subst z;rw[hf]at e;cases e
  have n2:b≠c:=λz=>by subst z;rw[hc]at e;cases e
  rw[mh n1 n2]
  exact un.dJ b xs (by rw[dR n1 n2];exact e)
 ·have n1:b≠f:=λz=>by subst z;rw[hf]at e;cases e
  have n2:b≠c:=λz=>by subst z;rw[hc]at e;cases e
  rw[mh n1 n2]
  exact un.dA b ob xs (by rw[dR n1 n2];exact e)
 ·have n1:b≠f:=λz=>by subst z;rw[hf]at e;cases e
  have n2:b≠c:=λz=>by subst z;rw[hc]at e;cases e
  rw[mh n1 n2]
  exact un.da b ps (by rw[dR n1 n2];exact e)
 ·by_cases z:b=f
  ·subst z
   rw[GR,hf]at e;cases e
   refine⟨⟨kf,kc⟩,⟨_,kf⟩,λh1 h2 p kk=>⟨kk b _ (.inl rfl) p.1,kk c _ (.inr ?_) p.2⟩⟩
   rw[Bo];exact hc
  ·by_cases z2:b=c
   ·subst z2
    rw[Bo,hc]at e;cases e
    exact⟨_,kc⟩
   ·rw[mh z z2]at e
    have up:∀{b' o'},H' b'=some o'->kA H H' f c b'=some o':=λ{b' o'} q=>by
     rw[mh (λz=>by subst z;rw[nf]at q;cases q) (λz=>by subst z;rw[nc]at q;cases q)];exact q
    exact(au b o e).eB (λ_ _ _ q=>q) (λ_ q=>up q) (λ_ _ q=>up q) λ_ _ q=>up q
theorem Tz{prog:Program}{w:World}{A:Around}{R:Result->Shared->Prop}{s:Shared}{a:Addr}{args:Args}{o:Obj}{fd:FuncData}{body:Expr}{q:Str}(TB:A.depth<recursionLimit)
  (ho:s.heap.get? a=some o)
  (tM:o.data=.func fd) (TC:fd.scope.isCoroutine=false) (TF:fd.scope.isGenerator=false) (e8:fd.body=.expr body) (br:s.heap.CodeRec fd.code q)
  (h:wpAny (model prog w) A.in1 (bindArgs fd args) (λbinds aQ =>
   wpAny (model prog w) A.in1 (newFunctionEnv fd.scope fd.globals fd.closure binds (q++".<locals>.") (some a) fd.code none fd.builtins)
    (λenv de=>de.heap.NoLimit/\codeAny (model prog w) A (.expr body env) R de) (λe s'=>R (.error e) s') aQ) (λe s'=>R (.error e) s') s) :
  codeAny (model prog w) A (.call (.ref a) args) R s:=by
 refine codeAny_of_tree ?_
 show wpAny _ A.in1 (callAny (.ref a) args) _ _ s
 simp only[callAny]
 refine wpAny_bind (wpAny_load ho ?_)
 obtain⟨c,oc,vs,tq,hc,fw,Ag,hq⟩:=br
 simp only[tM,callFunction,TC,TF,e8,hc]
 rw[hc]at h
 refine wpAny_bind (m:=field (.ref c) 1) (wpAny_field fw Ag hq (wpAny_bind (wpAny_pure ?_)))
 exact wpAny_bind (wpAny_mono h (λbinds aQ jA=>wpAny_bind (wpAny_mono jA (λenv de sA=>wpAny_bind (wpAny_enterFrame sA.1 TB
  (wpAny_pure (And.intro rfl sA.2)))) λ_ _ h'=>h')) λ_ _ h'=>h')
structure GV(p1 p2 x:Str)(sc:Scope):Prop where
 kind:sc.kind=.function
 co:sc.isCoroutine=false
 gen:sc.isGenerator=false
 nd:[p1,p2,x].Nodup
 l1:sc.names.lookup p1=some .local
 l2:sc.names.lookup p2=some .local
 GW:∀y∈sc.names,y.2≠.cell
 only:∀y∈sc.names,y.2=.free->y.1=x
 lx:sc.names.lookup x=some .free
noncomputable def pU(CX:cn)(P:Program)(w:World)(K:PySem.W.Frag)(mg:Str->Option Value)(base:Heap)(N:List Str)(qual:Str)(scope:Scope)(f:Addr)(cd:Value)(cl:List (Str × Addr))(A:Around)(outer:List Env)(s:Shared)(H:Hp)(E:XK):Cx where
 prog:=P
 w:=w
 K:=K
 mg:=mg
 base:=base
 A:=A.deeper (PySem.W.envX qual scope s.heap.objs.size f cd cl)
 N:=N
 bc:=s
 gQ:=H
 env:=PySem.W.envX qual scope s.heap.objs.size f cd cl
 outer:=outer
 stack:=PySem.W.envX qual scope s.heap.objs.size f cd cl::outer
 ex:=[]
 calm:=true
 fn:=λ_=>false
 pn:=[]
 xe:=λe s'=>wpAny (model P w) (A.deeper (PySem.W.envX qual scope s.heap.objs.size f cd cl)) (leaving (PySem.W.envX qual scope s.heap.objs.size f cd cl) e) (λ_ nE=>CX outer H s E e nE) (λe' nE=>CX outer H s E e' nE) s'
theorem TH{CX:cn}{P:Program}{w:World}{K:PySem.W.Frag}{mg:Str->Option Value}{base:Heap}{p1 p2 x qn q:Str}{params:Arguments}{body:Expr}{scope:Scope}{pm fW:Value}{f c c':Addr}{k:Nat}{A:Around}{outer:List Env}{s:Shared}{H:Hp}{E:XK}
  {u1 u2 uc:Value} {v1 v2 vc:V} {Q:VK} {t:TE} {args:Args} (S:GV p1 p2 x scope) (e0:fC P w K mg base A outer s H) (hr:bu (k+1) A)
  (hf:s.heap.get? f=some (PySem.W.kla_obj "<lambda>" qn params body scope [(x,c)] pm c' fW)) (hc:s.heap.IsCell c (some uc)) (rc:RelV vc uc) (hH:H c=none) (br:s.heap.CodeRec (.ref c') q)
  (hb:bindArgs (PySem.W.kla_fn "<lambda>" qn params body scope [(x,c)] pm (.ref c') fW) args=pure [(p1,u1),(p2,u2)]) (r1:RelV v1 u1) (r2:RelV v2 u2)
  (ht:PE (pU CX P w K mg base [p1,p2,x] q scope f (.ref c') [(x,c)] A outer s H E) body t) (h:t [some v1,some v2,some vc] H Q) :
  codeAny (model P w) A (.call (.ref f) args) (CR CX outer P w H s Q E) s:=by
 have lim:s.heap.NoLimit:=e0.mod.nolimit.keeps λb o e=>(e0.bs b o e).1
 refine Tz hr.depth hf rfl S.co S.gen rfl br ?_
 rw[hb]
 have TK:∀y∈[(p1,u1),(p2,u2)],scope.names.lookup y.1=some .local:=λy hy=>by
  simp at hy
  rcases hy with rfl | rfl
  ·exact S.l1
  ·exact S.l2
 refine wpAny_pure (wpAny_newFunctionEnv S.GW TK (λjA su GX=>⟨lim.fresh _ GX,?_⟩) S.kind)
 show codeAny _ _ (.expr body (PySem.W.envX q scope s.heap.objs.size f (.ref c') [(x,c)])) _ _
 have hk:∀b o,s.heap.get? b=some o->jA.get? b=some o:=λb o e=>GX.extBut b o (cG (a4 e)) (bU _ e)
 have cO:p1≠p2/\p1≠x/\p2≠x:=by have:=S.nd;simp at this;exact⟨this.1.1,this.1.2,this.2⟩
 have look:∀y d,([(x,c)]:List (Str × Addr)).lookup y=some d->y=x/\d=c:=λy d e=>by
  rw[gh]at e
  split at e
  ·rename_i z;exact⟨beq_iff_eq.mp z,(bS e).symm⟩
  ·cases e
 have I:Inv (pU CX P w K mg base [p1,p2,x] q scope f (.ref c') [(x,c)] A outer s H E) [] [some v1,some v2,some vc] H { s with heap:=jA,toks:=s.toks+[(p1,u1),(p2,u2)].length }:=by
  refine⟨⟨e0.mod,S.kind,rfl,rfl,aZ _,λy z d h1 h2=>?_,λy hy=>?_,λy d z _=>absurd z (by simp[pU]),λ_=>hr.hd,Around.frames_deeper e0.frames,.inr ⟨rfl,rfl⟩,λb z=>absurd z (by simp[pU]),e0.bs,e0.fu,λb _ _=>by simp[pU],λb z=>absurd z (by simp[pU]),e0.dB,e0.fv⟩,
   rfl,e0.bare,Un.kept hk,⟨_,su,λi y v h1 h2 h3=>?_⟩,λy d h=>?_,e0.au.fresh (aZ _),λy d h=>?_,λp hp=>absurd (show p∈([]:List (Addr × Obj)) from hp) (by simp),e0.au.kept hk,rfl⟩
  ·exact(look y d h1).1.trans (look z d h2).1.symm
  ·have hy:scope.names.lookup y=some .cell\/scope.names.lookup y=some .free:=hy
   rcases hy with hy | hy
   ·exact absurd rfl (S.GW _ (PySem.mem_of_lookup hy))
   ·obtain rfl:y=x:=S.only _ (PySem.mem_of_lookup hy) rfl
    exact⟨c,by show([(y,c)]:List (Str × Addr)).lookup y=_;rw[gh,beq_self_eq_true]⟩
  ·match i,h1,h2 with
   | 0,h1,h2 =>
    cases h1;cases h2
    exact⟨u1,r1,.inl ⟨S.l1,by
     show([(p1,u1),(p2,u2)]:List (Str × Value)).reverse.lookup p1=_
     simp[gh,beq_eq_false_iff_ne.mpr cO.1]⟩⟩
   | 1,h1,h2 =>
    cases h1;cases h2
    exact⟨u2,r2,.inl ⟨S.l2,by
     show([(p1,u1),(p2,u2)]:List (Str × Value)).reverse.lookup p2=_
     simp[gh]⟩⟩
   | 2,h1,h2 =>
    cases h1;cases h2
    exact⟨uc,rc,.inr ⟨.inr S.lx,c,by show([(x,c)]:List (Str × Addr)).lookup x=_;rw[gh,beq_self_eq_true],hc.keeps hk⟩⟩
   | n+3,h1,h2=>cases h2
  ·obtain⟨rfl,rfl⟩:=look y d h
   exact⟨_,hc.keeps hk⟩
  ·obtain⟨rfl,rfl⟩:=look y d h
   exact hH
 refine PySem.W.kla_codeExpr (wpAny_mono (ht [] _ _ H _ I h) (λu s' hs=>?_) λe s' hs=>hs)
 obtain⟨v,H',J,rv,q⟩:=hs
 exact⟨v,H',J.os,J.bare,J.base,J.au,rv,q⟩
end L2
namespace L3
open PySem L2 PySem.Spec PyProof.Rows
theorem ae.kA{H H':Hp}{f c:Addr}{o1 o2:HO}(h:ae (rem H f c) H')(h1:H f=some o1)(n1:fM o1=true)(h2:H c=some o2)(n2:fM o2=true):ae H (kA H H' f c) where
 get b o e n:=by
  by_cases z:b=f
  ·rw[z,GR,<- z];exact e
  ·by_cases z2:b=c
   ·rw[z2,Bo,<- z2];exact e
   ·rw[mh z z2];exact h.get b o (by rw[dR z z2];exact e) n
 tb b ps e:=by
  have z:b≠f:=λz=>by subst z;rw[h1]at e;cases e;cases n1
  have z2:b≠c:=λz=>by subst z;rw[h2]at e;cases e;cases n2
  rw[mh z z2]
  exact h.tb b ps (by rw[dR z z2];exact e)
noncomputable abbrev sC:=Int->Int->(Int->Prop)->Prop
structure uW(P:Program)(w:World)(K:PySem.W.Frag)(mg:Str->Option Value)(base:Heap)(n:Nat)(of oc:Obj)(c k:Addr)(sp:sC):Prop where
 fn:∃o1 od fd sl,of=⟨o1,od,.func fd,sl⟩
 run:∀(A:Around) (outer:List Env) (s:Shared) (H:Hp) (f:Addr) (t u:Tok) (i j:Int) (Qd:Int->Prop),bu n A->fC P w K mg base A outer s H->s.heap.get? f=some of->s.heap.get? c=some oc->H c=none->(∃q,s.heap.CodeRec (.ref k) q)->sp i j Qd ->
  codeAny (model P w) A (.call (.ref f) ⟨[.int i t,.int j u],[]⟩) (CR aV outer P w H s (λv H'=>∃r,v=.int r/\Qd r/\ae H H') (λ_ _ _=>False)) s
noncomputable def pV(L:Obj->Obj->Addr->Addr->sC->Prop)(i:Nat)(ta:a6):aw:=λδ Q=>∃of oc c k sp,δ[i]?=some (some (.aS (.lam of oc c k)))/\L of oc c k sp/\ta δ λds aa=>∃a b,ds=[.int a,.int b]/\sp a b λr=>Q (.int r) aa
theorem GY{X:Cx}{n i:Nat}{x:Str}{p pos:Pos}{e1 e2:Expr}{ta:a6}(hN:X.N[i]?=some x)(hv:gR X.env.scope x)(hr:bu n X.A)(ha:PA X [e1,e2] (lA ta))
  (hd:(x==("__debug__":Str))=false:=by decide) (br:(x==("__classdict__":Str))=false:=by decide) (he:starEach [e1,e2] X.env=(false,eval e1 X.env)::starEach [e2] X.env:=by rfl) (aR:(backTo pos (starEach [e2] X.env)).any (·.1)=false:=by rfl) :
  PE X (.Call (.Name x p) [e1,e2] [] pos) (lE (pV (uW X.prog X.w X.K X.mg X.base n) i ta)):=by
 intro pins s σ H Q I zz
 obtain⟨B,F,δ,ts,Qd,c,⟨of,oc,cc,k,sp,ed,L,q⟩,kk⟩:=zz
 obtain⟨v,ev,sv⟩:=c.look ed
 obtain⟨f,rfl,lam⟩:∃f,v=.ref f/\g7 H f of oc cc k:=by
  cases sv with
  | aS h _=>exact⟨_,rfl,h⟩
 refine wpAny_Call_Name_kw (aA (jb hN hv hd br pins s σ H (λv' H'=>v'=.ref f/\H'=H) I ⟨_,ev,rfl,rfl⟩) λu s1 zz=>?_)
 obtain⟨v',H',I1,r1,e1,e2⟩:=zz
 subst e1 e2
 obtain rfl:u=.ref f:=r1
 have fnAt:∀{H1:Hp} {s2:Shared},Inv X pins σ H1 s2->g7 H1 f of oc cc k->PySem.W.FnAt f s2.heap:=λ{H1 s2} J l=>by
  obtain⟨o1,od,fd,sl,e⟩:=L.fn
  exact⟨o1,od,fd,sl,by rw[<-e];exact(J.au.lam l.fn).1⟩
 refine PySem.W.callWith_F (fnAt I1 lam) (aA (ha pos pins s1 σ H' (λvs H2=>∃a b aa F',vs=[.int a,.int b]/\(sp a b λr=>Qd (.int r) aa)/\ae F F'/\ae H' H2/\ai B F' H2 σ aa ts) I1
  ⟨B,F,δ,ts,_,c,q,λds aa vs F' H2 ⟨a,b,TL,q2⟩ f1 h1 c1 s1=>?_⟩) λus s2 ⟨vs,H2,I2,r2,a,b,aa,F',TM,q2,f1,h1,c1⟩=>⟨fnAt I2 ((show iD H' f (.lam of oc cc k) from lam).mono λa o e _ t=>h1.get a o e t),?_⟩) he aR
 ·subst TL
  refine⟨a,b,aa,F',?_,q2,f1,h1,c1⟩
  cases s1 with
  | int s1=>cases s1 with
   | int s1=>cases s1;rfl
 ·subst TM
  have mi:g7 H2 f of oc cc k:=(show iD H' f (.lam of oc cc k) from lam).mono λa o e _ t=>h1.get a o e t
  obtain⟨o1,od,fd,sl,eof⟩:=L.fn
  have Bp:of.data=.func fd:=by rw[eof]
  obtain⟨gf,gc⟩:=I2.au.lam mi.fn
  obtain⟨ψ,TN,uX⟩:=mi.wO
  obtain⟨u1,u2,t1,t2,rfl⟩:∃(u1 u2:Unit) (t1 t2:Tok),us=[.int a t1,.int b t2]:=by
   cases r2 with
   | cons ra r2=>cases r2 with
    | cons rb r2 =>
     cases r2
     obtain⟨t1,rfl⟩:=ra
     obtain⟨t2,rfl⟩:=rb
     exact⟨(),(),t1,t2,rfl⟩
  refine wpAny_call (codeAny_mono (L.run X.A X.stack s2 (rem H2 f cc) f t1 t2 a b _ hr (I2.nC.rem mi.fn mi.cell Bp) gf gc xG (uX _ (I2.au k _ TN).1) q2) λr s' hq=>?_)
  cases r with
  | error e=>exact hq.elim
  | ok fl =>
   cases fl with
   | ret u =>
    refine I2.after (CE.add I2.nC mi.fn mi.cell hq (Q':=Q) ?_)
    rintro v H3 ⟨r,rfl,TQ,hs⟩ nf nc
    have sm:=hs.kA mi.fn rfl mi.cell rfl
    exact kk _ aa _ F' _ TQ f1 (h1.trans sm) ((c1.grow sm).pushS (.int .nil) rfl)
   | next=>exact cH hq
   | brk=>exact cH hq
   | cont=>exact cH hq
end L3
namespace L2
open PySem PySem.Spec PyProof.Rows
theorem TR{p:Pos}{c:Value}(l:List Value)(h:TriplesOk l):TriplesOk (l++[rawInt p.line,rawInt p.col,c]):=by
 fun_induction TriplesOk l with
 | case1=>simp[TriplesOk,rawInt]
 | case2 a b d e f rest ih=>exact ih h
 | case3=>exact h.elim
theorem TU{p q:Pos}{c cv:Value}(l:List Value)(h:TriplesOk l)(e:codeAmong q (l++[rawInt p.line,rawInt p.col,c])=some cv):codeAmong q l=some cv\/cv=c:=by
 fun_induction TriplesOk l with
 | case1 =>
  simp only[mP,rawInt,codeAmong]at e
  split at e
  ·exact .inr (bS e).symm
  ·cases e
 | case2 a b d e' f rest ih =>
  simp only[mV,codeAmong]at e ⊢
  split at e
  ·rename_i z;rw[if_pos z];exact .inl e
  ·rename_i z;rw[if_neg z];exact ih h e
 | case3=>exact h.elim
noncomputable def kB(f:Addr)(o:Obj):Heap->Prop:=λh=>h.get? f=some o
noncomputable def TV(P c:Addr)(x:Str)(params:Arguments)(body:Expr)(scope:Scope):TE:=λ_ H Q=>(∃ps,H P=some (.bZ ps)) /\
 ∀f k qn pm fW H',H f=none->H' f=some (.ext (kB f (PySem.W.kla_obj "<lambda>" qn params body scope [(x,c)] pm k fW)))->L3.AA H' k->k≠f->L3.ae H H'->(∀a ws,H' a=some (.lst ws)->H a=some (.lst ws))->Q (.ref f) H'
theorem GZ{X:Cx}{P c cc:Addr}{x:Str}{params:Arguments}{body:Expr}{scope:Scope}{pos:Pos}(dU:closureFor scope X.env=pure [(x,c)])(xI:X.env.code=.ref cc)(hK:PySem.W.codeHdIn X.K cc P=true)(uU:Bm X.mg X.base)
  (TX:defaultsOf params X.env=([],[]):=by rfl):PE X (.Lambda params body scope pos) (TV P c x params body scope):=by
 intro pins s σ H Q I zz
 obtain⟨⟨ps,hP⟩,q⟩:=zz
 obtain⟨bm,ob,b1,b2,b3,b4,b5,b6,b7⟩:=uU
 have C:=PySem.W.codeHd_of_K I.bh hK
 obtain⟨oP,xJ,codes⟩:=I.au P _ hP
 have hg:=I.mod.glob.keeps I.bk
 have G0:∀{b o},X.base.get? b=some o->b≠P:=λ{b o} e z=>by
  have:=(I.bs b o e).2
  rw[z,hP]at this;cases this
 have TY:mainGlobals≠P:=by
  obtain⟨o,es,ep,e,_⟩:=I.mod.glob
  exact G0 e
 have G1:s.heap.BuiltinsAt X.mg P:=⟨bm,ob,b1,b2,b3,G0 b4,I.bk _ _ b4,b5,b6,b7⟩
 refine PySem.W.kla_eval TX ?_
 have fresh:∀{b:Addr},s.heap.objs.size<=b->H b=none:=λ{b} h=>I.au.fresh h
 cases Bq:codeAmong pos ps.toList with
 | none =>
  refine PySem.W.kla_makeFunction (mg:=X.mg) dU I.ok.glob hg xI C oP xJ Bq TY G1 λk fW h' tk hx uY dW TZ G2=>?_
  have Br:P<s.heap.objs.size:=a4 oP
  have T3:k≠P:=λz=>by rw[z]at uY;exact absurd Br (s8.mpr uY)
  have pW:s.heap.objs.size<=h'.objs.size:=dy uY (vI dW)
  have T4:h'.objs.size≠P:=λz=>by rw[<-z]at Br;exact absurd Br (s8.mpr pW)
  have G3:k≠h'.objs.size:=cG dW
  generalize G4:PySem.W.kla_obj "<lambda>" (X.env.qual++"<lambda>") params body scope [(x,c)] ((X.mg "__name__").getD .none) k fW=obj
  have cV:obj.isFreed=false:=by rw[<-G4];rfl
  have uZ:∀b,b≠P->b≠k->b≠h'.objs.size->upd (upd (upd H P (.bZ (ps++#[rawInt pos.line,rawInt pos.col,.ref k]))) k (.ext λh=>∃q,h.CodeRec (.ref k) q)) h'.objs.size (.ext (kB h'.objs.size obj)) b=H b:=λb n1 n2 n3=>by
   rw[ay n3,ay n2,ay n1]
  have xK:upd (upd (upd H P (.bZ (ps++#[rawInt pos.line,rawInt pos.col,.ref k]))) k (.ext λh=>∃q,h.CodeRec (.ref k) q)) h'.objs.size (.ext (kB h'.objs.size obj)) h'.objs.size=some (.ext (kB h'.objs.size obj)):=a5
  have atK:upd (upd (upd H P (.bZ (ps++#[rawInt pos.line,rawInt pos.col,.ref k]))) k (.ext λh=>∃q,h.CodeRec (.ref k) q)) h'.objs.size (.ext (kB h'.objs.size obj)) k=some (.ext λh=>∃q,h.CodeRec (.ref k) q):=by rw[ay G3,a5]
  have xM:upd (upd (upd H P (.bZ (ps++#[rawInt pos.line,rawInt pos.col,.ref k]))) k (.ext λh=>∃q,h.CodeRec (.ref k) q)) h'.objs.size (.ext (kB h'.objs.size obj)) P=some (.bZ (ps++#[rawInt pos.line,rawInt pos.col,.ref k])):=by rw[ay T4.symm,ay T3.symm,a5]
  generalize ZK:upd (upd (upd H P (.bZ (ps++#[rawInt pos.line,rawInt pos.col,.ref k]))) k (.ext λh=>∃q,h.CodeRec (.ref k) q)) h'.objs.size (.ext (kB h'.objs.size obj))=Hn at uZ xK atK xM
  have old:∀{b o},H b=some o->b≠P->Hn b=some o:=λ{b o} e n=>by
   have hb:b<s.heap.objs.size:=I.au.lt e
   rw[uZ b n (λz=>absurd hb (s8.mpr (z ▸ uY))) (λz=>absurd hb (s8.mpr (z ▸ pW)))];exact e
  have kept:∀b o,b≠P->s.heap.get? b=some o->(h'.push obj).get? b=some o:=λb o n e=>bU _ (hx b o n e)
  have un:Un X.fs [] H Hn s.heap (h'.push obj):=by
   refine⟨λb o e n _ _=>kept b o (λz=>by rw[z,hP]at n;cases n) e,λb o e n _ _=>⟨o.slots,kept b o (λz=>by rw[z,hP]at n;cases n) e⟩,λb o e n _=>?_,λb o e _=>?_,λb xs e=>old e (λz=>by rw[z,hP]at e;cases e),λb ob xs e=>old e (λz=>by rw[z,hP]at e;cases e),λb G5 e=>?_⟩
   ·have hb:=a4 e
    rw[uZ b (λz=>by rw[z,hP]at n;cases n) (λz=>absurd hb (s8.mpr (z ▸ uY))) (λz=>absurd hb (s8.mpr (z ▸ pW)))];exact n
   ·by_cases z:b=P
    ·rw[z];exact⟨_,bU _ G2⟩
    ·exact⟨o,kept b o z e⟩
   ·by_cases z:b=P
    ·subst z
     rw[hP]at e;cases e
     exact⟨_,xM⟩
    ·exact⟨#[],by rw[old e z];simp⟩
  have au:bA X.prog X.w Hn (h'.push obj):=λb o e=>by
   by_cases z1:b=h'.objs.size
   ·subst z1
    rw[xK]at e;cases e
    exact⟨eY _ cV,⟨_,eY _ cV⟩,λh1 h2 p kk=>kk _ _ (.inl rfl) p⟩
   ·by_cases z2:b=k
    ·subst z2
     rw[atK]at e;cases e
     have hr:=TZ.push obj
     refine⟨⟨_,hr⟩,?_,λh1 h2 ⟨q,c1,o1,vs,t,e1,e2,r⟩ kk=>?_⟩
     ·obtain⟨c1,o1,vs,t,e1,e2,_⟩:=hr
      cases e1
      exact⟨o1,e2⟩
     ·cases e1
      exact⟨q,_,o1,vs,t,rfl,kk _ _ (.inl rfl) e2,r⟩
    ·by_cases z3:b=P
     ·subst z3
      rw[xM]at e;cases e
      refine⟨bU _ G2,by rw[MI];exact TR _ xJ,λp' cv e'=>?_⟩
      rw[MI]at e'
      rcases TU _ xJ e' with e' | e'
      ·obtain⟨d,φ,e1,e2,e3⟩:=codes p' cv e'
       exact⟨d,φ,e1,old e2 (λz=>by rw[z,hP]at e2;cases e2),e3⟩
      ·exact⟨k,_,e',atK,λh' p=>p⟩
     ·rw[uZ b z3 z2 z1]at e
      have nP:∀{b' o'},H b'=some o'->(∀ps,o'≠.bZ ps)->b'≠P:=λ{b' o'} e n z=>by rw[z,hP]at e;cases e;exact n _ rfl
      refine(I.au b o e).eB (λb' u iP e'=>kept b' u ?_ e') (λb' e'=>old e' (nP e' (λps z=>by cases z))) (λb' xs e'=>old e' (nP e' (λps z=>by cases z))) λb' φ e'=>old e' (nP e' (λps z=>by cases z))
      rcases iP with rfl | iP
      ·exact z3
      ·exact nP iP (λps z=>by cases z)
  refine⟨.ref h'.objs.size,Hn,I.un un au,rfl,q _ k _ _ _ _ (fresh pW) (by rw[G4];exact xK) ⟨_,atK,λh p=>p⟩ G3 ⟨λb o e n=>old e (λz=>by rw[z,hP]at e;cases e;cases n),λb G5 e=>?_⟩ λa ws e=>?_⟩
  ·exact un.da b G5 e
  ·by_cases z1:a=h'.objs.size
   ·subst z1;rw[xK]at e;cases e
   ·by_cases z2:a=k
    ·subst z2;rw[atK]at e;cases e
    ·by_cases z3:a=P
     ·subst z3;rw[xM]at e;cases e
     ·rw[uZ a z3 z2 z1]at e;exact e
 | some cv =>
  obtain⟨k,φ,rfl,hk,pS⟩:=codes pos cv Bq
  refine PySem.W.kla_makeFunctionHit (mg:=X.mg) dU I.ok.glob hg xI C oP xJ Bq G1 λfW h' tk hx pW=>?_
  have hf:=fresh pW
  refine⟨.ref h'.objs.size,upd H h'.objs.size (.ext (kB h'.objs.size (PySem.W.kla_obj "<lambda>" (X.env.qual++"<lambda>") params body scope [(x,c)] ((X.mg "__name__").getD .none) k fW))),I.laid (λb u e=>bU _ (hx b u e)) pW ?_,rfl,q _ k (X.env.qual++"<lambda>") ((X.mg "__name__").getD .none) fW _ hf a5 ⟨φ,?_,pS⟩ (cq hk hf) (L3.ae.of λb o e=>?_) λa ws e=>?_⟩
  ·exact⟨eY _ rfl,⟨_,eY _ rfl⟩,λh1 h2 p kk=>kk _ _ (.inl rfl) p⟩
  ·rw[ay (cq hk hf)];exact hk
  ·rw[ay (cq e hf)];exact e
  ·by_cases z:a=h'.objs.size
   ·subst z;rw[a5]at e;cases e
   ·rw[ay z]at e;exact e
end L2
namespace L2
open PySem PySem.Spec PyProof.Rows
structure u0(K:PySem.W.Frag)(C:Addr)(m:Str)(f:Addr):Prop where
 ga:PySem.W.specialIn K (.ref C) "__getattribute__"=some (some (.builtin "type.__getattribute__"))
 rd:PySem.W.readsIn K C (.type "type")=true
 at_:PySem.W.findCls K (.ref C) (.type "type") m=some (.val (.ref f))
 kp:PySem.W.keepIn K (.ref f)=true
section
variable{X:Cx}{CX:cn}{k:Nat}{f C:Addr}{fd:FuncData}{ps:List Str}{sp:Sp}{E:XK}{x m:Str}{p pos apos:Pos}{e o:Expr}{es:List Expr}{ta:TE}{t:TA}
theorem T5{pins:List (Addr × Obj)}{σ:St}{H:Hp}{s:Shared}{pl:Sem Bool}{A:Around}{E':Value->Shared->Prop}{Q:Value × List Value->Shared->Prop}(I:Inv X pins σ H s)(M:u0 X.K C m f)(h:∀s',Inv X pins σ H s'->Q (.ref f,[]) s') :
  wpAny (model X.prog X.w) A (getMethod (.ref C) m pl) Q E' s :=
 PySem.W.method_cls I.bh M.ga (PySem.W.cls_value (mc:=.type "type") I.bh M.rd M.at_ rfl (h _ (I.tok _)))
theorem T6{pins:List (Addr × Obj)}{σ:St}{H:Hp}{s:Shared}{pl:Sem Bool}{Q:Value->Shared->Prop}{QA:List V->Hp->Prop}(I:Inv X pins σ H s)(M:u0 X.K C m f)(hg:Gl X x)(hm:X.mg x=some (.ref C))(ha:PA X (e::es) t)(h:t σ H QA)
  (hq:∀us s1 vs H1,Inv X pins σ H1 s1->Vals vs us->QA vs H1->wpAny (model X.prog X.w) X.A (call (.ref f) us) Q X.xe s1)
  (bN:(x==("__debug__":Str))=false:=by decide) (bt:starEach (e::es) X.env=(false,eval e X.env)::starEach es X.env:=by rfl) (aR:(backTo pos (starEach es X.env)).any (·.1)=false:=by rfl)
  (ht:eval (.Call (.Attribute (.Name x p) m apos) (e::es) [] pos) X.env=(do
   let ov<-eval (.Name x p) X.env
   standAt apos.atName
   let (f,first)<-holding [ov] (getMethod ov m pl)
   callWith pos f first (backTo pos (starEach (e::es) X.env)) (backToKw pos (keywordEach [] X.env))):=by rfl) :
  wpAny (model X.prog X.w) X.A (eval (.Call (.Attribute (.Name x p) m apos) (e::es) [] pos) X.env) Q X.xe s:=by
 refine PySem.W.methodCall_KW (pl:=pl) (jW I hg hm ?_ bN) ht
 refine T5 I M λs1 I1=>?_
 refine PySem.W.callWith_K (first:=[]) (h₀:=X.base) I.ok.mod.ir M.kp (aA (ha pos pins s1 σ H _ I1 h) λus s2 ⟨vs,H2,I2,r,q2⟩=>⟨I2.bh,?_⟩) bt aR
 exact hq us s2 vs H2 I2 r q2
noncomputable def T7(sp:Sp)(E:XK)(c:Addr)(i:Nat)(t:TA):TE:=λσ H Q=>t σ H λvs H1=>∃f of fd v,H1 f=some (.ext (kB f of))/\of.data=.func fd/\σ[i]?=some (some v) /\
 ∀oc u,oc.data=.cell (some u)->RelV v u->H1 c=none->c≠f->sp vs (upd (upd H1 f (.ext (L3.gC of oc c f))) c (.own f)) (λr H2=>H2 f=some (.ext (L3.gC of oc c f))/\H2 c=some (.own f)/\Q r (rem H2 f c)) E
theorem G6{pl:Sem Bool}{y:Str}{c:Addr}{i:Nat}(M:u0 X.K C m f)(F:aL X.prog X.w X.K X.mg X.base aV k f fd ps sp)(hr:bu k X.A)(hb:Binds X.K fd ps [])(hg:Gl X x)(hm:X.mg x=some (.ref C))
  (hN:X.N[i]?=some y) (hy:X.env.scope.names.lookup y=some .cell) (dU:X.env.cells.lookup y=some c) (nq:X.fn y=true) (ha:PA X (e::es) t)
  (bN:(x==("__debug__":Str))=false:=by decide) (bt:starEach (e::es) X.env=(false,eval e X.env)::starEach es X.env:=by rfl) (aR:(backTo pos (starEach es X.env)).any (·.1)=false:=by rfl)
  (ht:eval (.Call (.Attribute (.Name x p) m apos) (e::es) [] pos) X.env=(do
   let ov<-eval (.Name x p) X.env
   standAt apos.atName
   let (f,first)<-holding [ov] (getMethod ov m pl)
   callWith pos f first (backTo pos (starEach (e::es) X.env)) (backToKw pos (keywordEach [] X.env))):=by rfl) :
  PE X (.Call (.Attribute (.Name x p) m apos) (e::es) [] pos) (T7 sp E c i t):=by
 intro pins s σ H Q I h
 refine T6 (pl:=pl) I M hg hm ha h (λus s1 vs H1 I1 r zq=>?_) bN bt aR ht
 obtain⟨fa,of,ZL,v,hf,hd,hv,hq⟩:=zq
 obtain⟨ml,_,hl⟩:=I1.loc
 obtain⟨u,rv,lk⟩:=hl i y v hN hv (.inr (.inl hy))
 obtain⟨oc,gc,fw⟩:∃oc,s1.heap.get? c=some oc/\oc.data=.cell (some u):=by
  rcases lk with⟨hk,_⟩ | ⟨_,c',tR,ic⟩
  ·rw[show X.env.kindOf y=some .cell from hy]at hk;cases hk
  ·rw[dU]at tR;cases tR;exact ic
 have nc:H1 c=none:=I1.cK y c dU
 have mj:c≠fa:=λz=>by rw[z,hf]at nc;cases nc
 have gf:s1.heap.get? fa=some of:=(I1.au fa _ hf).1
 have dE:=hq oc u fw rv nc mj
 have G7:=I1.ok.jV y c nq dU
 generalize hH:upd (upd H1 fa (.ext (L3.gC of oc c fa))) c (.own fa)=Hp at dE
 have G8:Hp c=some (.own fa):=by rw[<-hH,a5]
 have T8:Hp fa=some (.ext (L3.gC of oc c fa)):=by rw[<-hH,ay mj.symm,a5]
 have jB:∀b,b≠fa->b≠c->Hp b=H1 b:=λb n1 n2=>by rw[<-hH,ay n2,ay n1]
 have T9:c ∉ X.fs:=λhb=>by
  obtain⟨_,o,ho,_⟩:=I1.ok.dB.mem hb
  exact absurd (bK (a4 ho) G7) (fk _)
 have Ua:∀b∈cw X.stack,b≠c:=λb hb z=>by
  rcases bE.mp (I1.tN b hb)with e | hb
  ·exact I1.gS y c dU (z ▸ e)
  ·exact T9 (z ▸ hb)
 have Ub:bA X.prog X.w Hp s1.heap:=λb ob q=>by
  by_cases z1:b=c
  ·subst z1;rw[G8]at q;cases q;exact⟨_,gc⟩
  ·by_cases z2:b=fa
   ·subst z2;rw[T8]at q;cases q
    exact⟨⟨gf,gc⟩,⟨_,gf⟩,λh1 h2 p kk=>⟨kk _ _ (.inl rfl) p.1,kk _ _ (.inr G8) p.2⟩⟩
   ·rw[jB b z2 z1]at q
    have x1:=(I1.au b ob q).rem (f:=fa) (c:=c) z2 hf (.inr nc) (GS gf (λ_ p=>p) hd)
    have up:∀{b' o'},rem H1 fa c b'=some o'->Hp b'=some o':=λ{b' o'} q=>by
     obtain⟨n1,n2,q'⟩:=xH q
     rw[jB b' n1 n2];exact q'
    exact x1.eB (λ_ _ _ q=>q) (λ_ q=>up q) (λ_ _ q=>up q) λ_ _ q=>up q
 have e0:fC X.prog X.w X.K X.mg X.base X.A X.stack s1 Hp:=by
  have e1:=I1.nC
  refine⟨e1.frames,e1.mod,λb ob q=>⟨(e1.bs b ob q).1,?_⟩,e1.fu,e1.dB,λb hb=>?_,Ub,e1.bare⟩
  ·have Uc:=(I1.ok.bs b ob q).1
   rw[jB b (λz=>by have:=(e1.bs b ob q).2;rw[z,hf]at this;cases this) (λz=>absurd (bK (a4 Uc) (z ▸ G7)) (fk _))]
   exact(e1.bs b ob q).2
  ·have nb:=e1.fv b hb
   rw[jB b (λz=>by rw[z,hf]at nb;cases nb) (Ua b hb)];exact nb
 have hlen:us.length=ps.length:=by rw[<-r.length];exact F.len _ _ _ _ dE
 refine wpAny_call (codeAny_mono (F.run X.A X.stack s1 Hp ⟨us,[]⟩ us vs _ E hr e0 (by have:=hb s1 us I1.bh (by rw[gg];exact hlen);rwa [gg]at this) r dE) λrr s' hz=>?_)
 cases rr with
 | error e=>exact hz.elim
 | ok fl =>
  cases fl with
  | next=>exact cH hz
  | brk=>exact cH hz
  | cont=>exact cH hz
  | ret u' =>
   obtain⟨v',H2,os,bare,un,G9,Ud,q1,q2,q3⟩:=hz
   obtain⟨_,Ha⟩:=G9.lam q1
   refine I1.after ⟨v',rem H2 fa c,os,bare,⟨λb ob g n hb hx=>?_,λb ob g n hb hx=>?_,λb ob g n hx=>?_,un.there,λb xs g=>?_,λb ob xs g=>?_,λb ps g=>?_⟩,G9.rem q1 q2 hd,Ud,q3⟩
   ·by_cases z:b=c
    ·rw[z,gc]at g;cases g;rw[z];exact Ha
    ·exact un.keep b ob g (by rw[jB b (λz=>by rw[z,hf]at n;cases n) z];exact n) hb hx
   ·by_cases z:b=c
    ·rw[z,gc]at g;cases g;rw[z];exact⟨_,Ha⟩
    ·exact un.slot b ob g (by rw[jB b (λz=>by rw[z,hf]at n;cases n) z];exact n) hb hx
   ·by_cases z:b=c
    ·rw[z];exact xG
    ·exact jz (un.free b ob g (by rw[jB b (λz=>by rw[z,hf]at n;cases n) z];exact n) hx)
   ·have n1:b≠fa:=λz=>by rw[z,hf]at g;cases g
    have n2:b≠c:=λz=>by rw[z,nc]at g;cases g
    rw[dR n1 n2]
    exact un.dJ b xs (by rw[jB b n1 n2];exact g)
   ·have n1:b≠fa:=λz=>by rw[z,hf]at g;cases g
    have n2:b≠c:=λz=>by rw[z,nc]at g;cases g
    rw[dR n1 n2]
    exact un.dA b ob xs (by rw[jB b n1 n2];exact g)
   ·have n1:b≠fa:=λz=>by rw[z,hf]at g;cases g
    have n2:b≠c:=λz=>by rw[z,nc]at g;cases g
    rw[dR n1 n2]
    exact un.da b ps (by rw[jB b n1 n2];exact g)
end
end L2
namespace L3
open PySem L2 PySem.Spec PyProof.Rows
theorem Bt{ts:List Addr}{H H':Hp}(h:Tb ts H)(s:ae H H'):Tb ts H':=λP hP=>by
 obtain⟨ps,e⟩:=h P hP
 obtain⟨m,e2⟩:=s.tb P ps e
 exact⟨_,e2⟩
theorem Hb{P:Program}{w:World}{K:PySem.W.Frag}{mg:Str->Option Value}{base:Heap}{n:Nat}{p1 p2 x qn:Str}{params:Arguments}{body:Expr}{scope:Scope}{pm fW:Value}{oc:Obj}{c k:Addr}{m:Int}{tm:Tok}{sp:sC}(S:GV p1 p2 x scope)
  (fw:oc.data=.cell (some (.int m tm))) (hb:∀u1 u2:Value,bindArgs (PySem.W.kla_fn "<lambda>" qn params body scope [(x,c)] pm (.ref k) fW) ⟨[u1,u2],[]⟩=pure [(p1,u1),(p2,u2)])
  (e8:∀(q:Str) (f:Addr) (A:Around) (outer:List Env) (s:Shared) (H:Hp) (E:XK),bu n (A.deeper (PySem.W.envX q scope s.heap.objs.size f (.ref k) [(x,c)])) ->
   ∃t:aw,PE (pU aV P w K mg base [p1,p2,x] q scope f (.ref k) [(x,c)] A outer s H E).eC body (lE t)/\∀i j Qd,sp i j Qd->t [some (.int i),some (.int j),some (.int m)] λd _=>∃r,d=.int r/\Qd r) :
  uW P w K mg base (n+1) (PySem.W.kla_obj "<lambda>" qn params body scope [(x,c)] pm k fW) oc c k sp where
 fn:=⟨_,_,_,_,rfl⟩
 run A outer s H f t u i j Qd hr e0 gf gc hH br h:=by
  obtain⟨q,br⟩:=br
  obtain⟨tt,ht,hq⟩:=e8 q f A outer s H (λ_ _ _=>False) (hr.deeper _)
  refine TH (v1:=.int i) (v2:=.int j) (vc:=.int m) (E:=λ_ _ _=>False) S e0 hr gf ⟨oc,gc,fw⟩ ⟨tm,rfl⟩ hH br (hb _ _) ⟨t,rfl⟩ ⟨u,rfl⟩ ht.eC ?_
  refine⟨⟨H,H⟩,H,_,[],_,?_,hq i j Qd h,λd aa v F' H' hd f1 h1 c1=>?_⟩
  ·exact ai.start (ds:=[.int i,.int j,.int m]) (vs:=[.int i,.int j,.int m]) (ae.refl H) (.int (.int (.int .nil))) 0
  ·obtain⟨r,rfl,hd⟩:=hd
   have s1:=c1.top
   cases s1
   exact⟨r,rfl,hd,h1⟩
section
variable{X:Cx}{CX:cn}{n:Nat}{f:Addr}{fd:FuncData}{ps:List Str}{sp:a7}{E:XK}{x:Str}{p pos:Pos}{e:Expr}{es:List Expr}{t:a6}{tl:List Addr}
theorem Ue(hT:Tb tl X.gQ)(F:aL X.prog X.w X.K X.mg X.base CX n f fd ps (uV tl (bf sp)))(hr:bu n X.A)(hg:Gl X x)(hm:X.mg x=some (.ref f))(hk:PySem.W.keepIn X.K (.ref f)=true)(hb:Binds X.K fd ps [])(hx:iz CX X E)
  (ha:PA X (e::es) (lA t)) (bN:(x==("__debug__":Str))=false:=by decide) (he:starEach (e::es) X.env=(false,eval e X.env)::starEach es X.env:=by rfl) (aR:(backTo pos (starEach es X.env)).any (·.1)=false:=by rfl) :
  PE X (.Call (.Name x p) (e::es) [] pos) (lE (j8 sp t)):=by
 intro pins s σ H Q I zz
 obtain⟨B,F',δ,ts,Qd,c,q,k⟩:=zz
 have tb:=GQ I hT
 refine nD F hr hg hm hk hb .nil hx ha bN he aR pins s σ H Q I ⟨B,F',δ,ts,_,c,q,λds ah vs F1 H1 q1 f1 h1 c1 s1=>?_⟩
 refine⟨Bt tb h1,?_⟩
 rw[gg]
 exact w5 c1 s1 q1 λd v F' H' hd hf hs c'=>k d ah v F' H' hd (f1.trans hf) (h1.trans hs) c'
end
section
variable{P:Program}{w:World}{K:PySem.W.Frag}{mg:Str->Option Value}{base:Heap}
theorem Hc{x qual:Str}{st:Stmt}{f:Addr}{fd:FuncData}{N ps:List Str}{k:Nat}{sp:a7}{tl:List Addr}(F:gw K x qual st f fd)(S:aX N ps (aM st))(len:∀ds Q,sp ds Q->ds.length=ps.length)
  (e8:∀(aE:Value) (A:Around) (outer:List Env) (s:Shared) (H:Hp) (E:XK),Tb tl H->bu k (A.deeper (envOfC qual (aM st) s.heap.objs.size f aE)) ->
   ∃t:bw,PSs (fE aV P w K mg base N qual (aM st) f aE A outer s H E).eC (gZ st) (lS (fE aV P w K mg base N qual (aM st) f aE A outer s H E).eC t)/\∀ds Q,sp ds Q->t { nx:=λ_=>Q .ao,rt:=Q } (hG N ds)):aL P w K mg base aV (k+1) f fd ps (uV tl (bf sp)):=by
 refine F.ok S (λvs H Q E ⟨_,F,ds,Qd,e,r,h,_⟩=>by rw[<-r.length];exact len ds Qd h) λaE A outer s H vs Q E hr zz=>?_
 obtain⟨tb,F,ds,Qd,e,r,h,k⟩:=zz
 obtain⟨t,ht,hq⟩:=e8 aE A outer s H E tb hr
 have fin:∀d v aa av F' H',Qd d->ai ⟨H,F⟩ F' H' av aa [(d,v)]->Q v H':=λd v aa av F' H' hd c=>by
  obtain⟨A,C,r',s',nd,fr⟩:=c.own
  exact k d v F' H' A hd c.b1 c.b2 c.ext c.b3 r' (eI.mp nd).1 λa ha=>fr a (dz _ ha)
 have e1:L2.start N vs=vs.map some++aT (N.length-ds.length) none:=by unfold L2.start;rw[r.length]
 refine⟨_,ht,⟨H,F⟩,F,hG N ds,_,?_,hq ds Qd h,λaa av F' H' hd c=>fin .ao .ao aa av F' H' hd (c.pushS (.ao .nil) rfl),fin,λ_ _ _ _ z=>z.elim,λ_ _ _ _ z=>z.elim,XL.none (λ_ _ z=>z) λ_ _ z=>z⟩
 rw[e1]
 exact ai.start e r _
theorem Hd{x qual:Str}{st:Stmt}{f cc:Addr}{fd:FuncData}{N ps:List Str}{k:Nat}{sp:Sp}(F:gw K x qual st f fd)(xI:fd.code=.ref cc)(S:aX N ps (aM st))(len:∀vs H Q E,sp vs H Q E->vs.length=ps.length)
  (e8:∀(A:Around) (outer:List Env) (s:Shared) (H:Hp) (vs:List V) (Q:VK) (E:XK),bu k (A.deeper (envOfC qual (aM st) s.heap.objs.size f (.ref cc)))->sp vs H Q E ->
   ∃t,PSs (fE aV P w K mg base N qual (aM st) f (.ref cc) A outer s H E).eC (gZ st) t/\t { nx:=λ_ H'=>Q .ao H',rt:=Q } (L2.start N vs) H):aL P w K mg base aV (k+1) f fd ps sp:=by
 obtain⟨oc,od,kV,doc,pm,an,aE,ct,gn,rfl,lk,br⟩:=F.ex
 obtain rfl:aE=.ref cc:=xI
 refine zP lk br S len λA outer s H vs Q E hr fF=>?_
 obtain⟨t,h,q⟩:=e8 A outer s H vs Q E hr fF
 exact⟨t,h.eC,q⟩
end
end L3
namespace L3
open PySem L2 PySem.Spec PyProof.Rows
theorem Ug{ns:List Str}{xs:List D}{ws:List V}{F H:Hp}{f:Str}{d:D}(r:R F H xs ws [])(h:(ns.zip xs).lookup f=some d):∃w,(ns.zip ws).lookup f=some w/\R F H [d] [w] []:=by
 generalize e:([]:List Addr)=A at r
 induction ns generalizing xs ws A with
 | nil=>simp at h
 | cons n ns ih =>
  cases xs with
  | nil=>simp at h
  | cons x xs =>
   obtain⟨v,bF,A1,A2,rfl,rfl,h1,h2⟩:=R.bW r
   obtain⟨rfl,rfl⟩:=y6.mp e.symm
   rw[MJ]at h ⊢
   by_cases z:f=n
   ·subst z
    rw[gh,beq_self_eq_true]at h
    cases h
    refine⟨v,?_,h1⟩
    rw[gh,beq_self_eq_true]
   ·have z':(f==n)=false:=beq_eq_false_iff_ne.mpr z
    rw[gh,z']at h
    obtain⟨w,e1,e2⟩:=ih h [] rfl h2
    refine⟨w,?_,e2⟩
    rw[gh,z']
    exact e1
theorem He{ns:List Str}{ws:List V}{f:Str}(h:f ∉ ns):(ns.zip ws).lookup f=none:=by
 induction ns generalizing ws with
 | nil=>simp
 | cons n ns ih =>
  cases ws with
  | nil=>simp
  | cons w ws =>
   rw[MJ,gh]
   have hn:(f==n)=false:=beq_eq_false_iff_ne.mpr λz=>h (by rw[z];simp)
   simp only[hn]
   exact ih λz=>h (by simp[z])
theorem Bu{F H:Hp}{C:Addr}{ns:List Str}{xs:List D}{v:V}(s:S F H [.obj C ns xs] [v]):∃p dx ws,v=.ref p/\H p=some (.ins C dx (ns.zip ws))/\ns.length=ws.length/\R F H xs ws []:=by
 cases s with
 | obj h l r _=>exact⟨_,_,_,rfl,h,l,r⟩
section
variable{X:Cx}{e o:Expr}{es:List Expr}{f m x:Str}{pos p apos:Pos}{t to:aw}{ta:a6}{n:Nat}
noncomputable def mm(K:PySem.W.Frag)(t:aw)(f:Str):aw:=λδ Q=>t δ λd aa=>∃C ns xs v,d=.obj C ns xs/\cY K C/\bL K C f/\(ns.zip xs).lookup f=some v/\Q v aa
theorem Uh(he:PE X e (lB t))(hb:attributeBase e f X.env (eval e X.env)=eval e X.env:=by rfl):PE X (.Attribute e f pos) (lB (mm X.K t f)) :=
 b8 (wA he hb) λσ H Q zq=>by
 obtain⟨B,F,δ,ts,Qd,c,q,k⟩:=zq
 exact⟨B,F,δ,ts,_,c,q,λd aa v F' H' ⟨C,ns,xs,w,ed,hc,hn,hl,hq⟩ f1 h1 c1 s1=>by
  subst ed
  obtain⟨p,dx,ws,rfl,hp,_,r⟩:=Bu s1
  obtain⟨u,hu,ru⟩:=Ug r hl
  exact⟨p,C,dx,_,u,rfl,hp,hc,hn,hu,k w aa u F' H' hq f1 h1 c1 ru.s⟩⟩
structure pX(P:Program)(w:World)(K:PySem.W.Frag)(mg:Str->Option Value)(base:Heap)(n:Nat)(m:Str)(C:Addr)(sp:a7):Prop where
 cls:cY K C
 ex:∃f fd ps,Meth K C m f/\aL P w K mg base aV n f fd ps (bf sp)/\Binds K fd ps []
noncomputable def mq(MO:Addr->a7->Prop)(m:Str)(to:aw)(ta:a6):aw:=λδ Q=>to δ λd ah=>∃C ns xs sp,d=.obj C ns xs/\MO C sp/\m ∉ ns/\ta ah λds aC=>sp ((D.obj C ns xs::ds).map D.sh) λr=>((D.obj C ns xs::ds).all D.pl||r.fr)=true/\Q r aC
theorem Ui{pl:Sem Bool}(ho:PE X o (lB to))(hr:bu n X.A)(ha:PA X (e::es) (lA ta))
  (bt:starEach (e::es) X.env=(false,eval e X.env)::starEach es X.env:=by rfl) (aR:(backTo pos (starEach es X.env)).any (·.1)=false:=by rfl)
  (ht:eval (.Call (.Attribute o m apos) (e::es) [] pos) X.env=(do
   let ov<-eval o X.env
   standAt apos.atName
   let (f,first)<-holding [ov] (getMethod ov m pl)
   callWith pos f first (backTo pos (starEach (e::es) X.env)) (backToKw pos (keywordEach [] X.env))):=by rfl) :
  PE X (.Call (.Attribute o m apos) (e::es) [] pos) (lE (mq (pX X.prog X.w X.K X.mg X.base n m) m to ta)):=by
 intro pins s σ H Q I zz
 obtain⟨B,F,δ,ts,Qd,c,q,k⟩:=zz
 refine PySem.W.methodCall_KW (pl:=pl) (aA (ho pins s σ H (λx H1=>∃d ah F1,S F1 H1 [d] [x]/\ai B F1 H1 σ ah ts/\ae F F1/\ae H H1/\∃C ns xs sp,d=.obj C ns xs/\pX X.prog X.w X.K X.mg X.base n m C sp/\m ∉ ns/\ta ah λds aC=>sp ((D.obj C ns xs::ds).map D.sh) λr=>((D.obj C ns xs::ds).all D.pl||r.fr)=true/\Qd r aC) I
  ⟨B,F,δ,ts,_,c,q,λd ah v F1 H1 hq f1 h1 c1 s1=>⟨d,ah,F1,s1,c1,f1,h1,hq⟩⟩) λu s1 zq=>?_) ht
 obtain⟨x,H1,I1,rx,d,ah,F1,sd,c1,f1,h1,C,ns,xs,sp,ed,M,hm,hq⟩:=zq
 subst ed
 obtain⟨a,dx,ws,rfl,ea,hl,r0⟩:=Bu sd
 obtain rfl:u=bC a:=rx
 obtain⟨f,fd,ps,u3,FO,hb⟩:=M.ex
 refine zO I1 ea M.cls u3 (He hm) ?_
 refine PySem.W.callWith_K (first:=[.ref a]) (h₀:=X.base) I.ok.mod.ir u3.kp (aA (ha pos pins s1 σ H1 (λvs H2=>∃ds aC F2,S F2 H2 ds vs/\ai B F2 H2 σ aC ts/\ae F1 F2/\ae H1 H2/\sp ((D.obj C ns xs::ds).map D.sh) λr=>((D.obj C ns xs::ds).all D.pl||r.fr)=true/\Qd r aC) I1
  ⟨B,F1,ah,ts,_,c1,hq,λds aC vs F2 H2 hq f2 h2 c2 s2=>⟨ds,aC,F2,s2,c2,f2,h2,hq⟩⟩) λus s2 ⟨vs,H2,I2,r,ds,aC,F2,Bv,c2,f2,h2,fF⟩=>⟨I2.bh,?_⟩) bt aR
 refine wB (us:=.ref a::us) (vs:=.ref a::vs) (df:=[]) FO hr hb .nil gv I2 (.cons rfl r) ?_
 rw[gg]
 exact w5 c2 (.obj (h2 _ _ ea) hl (r0.shared f2 h2) Bv) fF λd v F' H' hd hf hs c'=>k d aC v F' H' hd (f1.trans (f2.trans hf)) (h1.trans (h2.trans hs)) c'
end
structure cC(x:Addr)(H H':Hp):Prop where
 get:∀b o,b≠x->H b=some o->fM o=true->H' b=some o
 tb:∀b ps,H b=some (.bZ ps)->∃more,H' b=some (.bZ (ps++more))
theorem cC.trans{x:Addr}{H H1 H2:Hp}(a:cC x H H1)(b:cC x H1 H2):cC x H H2 :=
 ⟨λc o n h t=>b.get c o n (a.get c o n h t) t,λc ps h=>by
  obtain⟨m1,e1⟩:=a.tb c ps h
  obtain⟨m2,e2⟩:=b.tb c _ e1
  exact⟨m1++m2,by rw[e2,vK]⟩⟩
theorem ae.x{x:Addr}{H H':Hp}(h:ae H H'):cC x H H':=⟨λb o _ e n=>h.get b o e n,h.tb⟩
theorem cC.upd{x C dx:Addr}{H:Hp}{o o':HO}(h:H x=some o)(n:fM o=true):cC x H (upd H x o') :=
 ⟨λb o z e _=>by rw[ay z];exact e,λb ps e=>⟨#[],by rw[ay (λz=>by rw[z,h]at e;cases e;cases n),e];simp⟩⟩
noncomputable def Bw(tl:List Addr)(C:Addr)(kC:List D->List Str->List D->Prop):Sp:=λvs H Q _=>∃x dx bF ds ns xs,vs=.ref x::bF/\Tb tl H/\H x=some (.ins C dx [])/\R H H ds bF []/\kC ds ns xs /\
 ∀H' ws A,cC x H H'->H' x=some (.ins C dx (ns.zip ws))->ns.length=ws.length->R (λ_=>none) H' xs ws A->A.Nodup->(∀a∈A,H a=none)->Q .ao H'
noncomputable def pY(C:Addr)(kC:List D->List Str->List D->Prop)(ta:a6):aw:=λδ Q=>ta δ λds aa=>∃ns xs,kC (ds.map D.sh) ns xs/\Q (.obj C ns (xs.map D.sh)) aa
theorem ai.made{B:Bs}{F H H':Hp}{σ:L2.St}{δ:Dl}{ts:List (D × V)}{C dx x:Addr}{ns:List Str}{xs:List D}{ws:List V}{A:List Addr}(c:ai B F H σ δ ts)(hs:ae H H')(hx:H' x=some (.ins C dx (ns.zip ws)))(hl:ns.length=ws.length)
  (r:R (λ_=>none) H' xs ws A) (fr:∀a∈A,H a=none):ae F (L3.bz F H' A)/\ai B (L3.bz F H' A) H' σ δ ((.obj C ns (xs.map D.sh),.ref x)::ts):=by
 have c1:=c.grow hs
 have hF:∀a∈A,F a=none:=λa ha=>c.ext.free (fr a ha)
 have r1:R F H' xs ws A:=r.keep (ae.of λb o e=>by cases e) (eQ.same (ae.refl _)) fN.nil hF (by simp)
 have r2:=r1.bz c1.ext A (λ_ h=>h)
 have fs:ae F (L3.bz F H' A):=jj c1.ext
 obtain⟨A',C',r',s',nd,wJ⟩:=c.own
 have out:∀a,(∃ws,H a=some (.lst ws))/\F a=none->L3.bz F H' A a=none:=λa zz=>by
  obtain⟨⟨ws,h⟩,hf⟩:=zz
  rw[wR (λz=>by rw[fr a z]at h;cases h)];exact hf
 have g1:=r'.grow fs hs λa ha=>out a (r'.lists a ha)
 have g2:=s'.keep fs (eQ.same hs) fN.nil (λa ha=>out a (s'.lists a ha)) (by simp)
 refine⟨fs,Fz c1.ext,c1.b1,c1.b2.trans fs,λa ws h=>?_,A',C',?_,g2,nd,wJ⟩
 ·by_cases z:a∈A
  ·exact .inr (c.b1.free (fr a z))
  ·rw[wR z]at h;exact c.b3 a ws h
 ·exact R.obj hx hl r2 g1
section
variable{X:Cx}{CX:cn}{n:Nat}{f C:Addr}{fd:FuncData}{ps:List Str}{kC:List D->List Str->List D->Prop}{E:XK}{x:Str}{p pos:Pos}{e:Expr}{es:List Expr}{t:a6}{tl:List Addr}
theorem Hf(hT:Tb tl X.gQ)(M:Mk X.K C f)(F:aL X.prog X.w X.K X.mg X.base CX n f fd ps (Bw tl C kC))(hr:bu (n+1) X.A)(hg:Gl X x)(hm:X.mg x=some (.ref C))(hb:Binds X.K fd ps [])(hx:iz CX X E)
  (ha:PA X (e::es) (lA t)) (bN:(x==("__debug__":Str))=false:=by decide) (he:starEach (e::es) X.env=(false,eval e X.env)::starEach es X.env:=by rfl) (aR:(backTo pos (starEach es X.env)).any (·.1)=false:=by rfl) :
  PE X (.Call (.Name x p) (e::es) [] pos) (lE (pY C kC t)):=by
 intro pins s σ H Q I zz
 obtain⟨B,F',δ,ts,Qd,c,q,k⟩:=zz
 have tb:=GQ I hT
 refine OU M F hr hg hm hb .nil hx ha bN he aR pins s σ H Q I ⟨B,F',δ,ts,_,c,q,λds ah vs F1 H1 q1 f1 h1 c1 s1=>?_⟩
 intro x dx cO dM eF
 obtain⟨ns,xs,hI,hq⟩:=q1
 have sm:ae H1 (upd (upd H1 dx (.own x)) x (.ins C dx [])):=.of λb o e=>by rw[ay (cq e cO),ay (cq e dM)];exact e
 refine⟨x,dx,vs,ds.map D.sh,ns,xs,by rw[gg],Bt (Bt tb h1) sm,a5,(s1.frozen c1.ext).shared sm sm,hI,λH' ws A Hg dF hl r nd fr=>⟨rfl,?_⟩⟩
 have s2:ae H1 H':=⟨λb o e n=>Hg.get b o (cq e cO) (sm.get b o e n) n,λb ps e=>by
  obtain⟨m1,e1⟩:=sm.tb b ps e
  obtain⟨m2,e2⟩:=Hg.tb b _ e1
  exact⟨m1++m2,by rw[e2,vK]⟩⟩
 obtain⟨fs,c2⟩:=c1.made s2 dF hl r λa ha=>sm.free (fr a ha)
 exact k _ ah _ _ H' hq (f1.trans fs) (h1.trans s2) c2
end
end L3
namespace Mf
open PySem L2 L3
noncomputable def gm(m:Bool × Nat)(a b:Nat):Nat:=if m.1 then md (cl a b) m.2 else a*b%m.2
noncomputable def ag(m:Bool × Nat):Nat:=if m.1 then 2 ^ (bl m.2-1)else m.2
noncomputable def xN(g:Nat->Nat->Nat)(a:Nat):Nat->Nat->List Int->Option (List Int)
 | 0,_,_=>none
 | f+1,p,acc=>if p=1 then some acc else if p<64 then xN g a f (g p a) (acc++[(p:Int)])else none
noncomputable def Bx(g:Nat->Nat->Nat)(a:Nat):Option (List Int):=xN g a 64 (g 1 a) [1]
noncomputable def xO(g:Nat->Nat->Nat)(many:Nat):Nat->Nat->List Int->Option (List Int)
 | 0,_,_=>none
 | f+1,st,l=>if l.length+1<many then(match Bx g (st+1)with | some l'=>xO g many f (st+1) l' | none=>none)else some l
noncomputable def u4(g:Nat->Nat->Nat)(many:Nat):Option (List Int):=match Bx g 1 with | some l=>xO g many 62 1 l | none=>none
noncomputable def u5(g:Nat->Nat->Nat):sC:=λi j Q=>∃a b:Nat,i=a/\j=b/\a<64/\b<64/\Q (g a b:Nat)
noncomputable def eU:List Nat:=[7,11,13,19,25,31,37,41,47,55,59,61,67,73,87,91,97,103,109,115,117]
noncomputable def kD:List Nat:=[2,3,5,7,11,13,17,19,23,29,31,37,41,43,47,53,59,61]
noncomputable def aI:List (Bool × Nat):=eU.map (λn=>(true,n))++kD.map λn=>(false,n)
noncomputable def kE(l:List Int):Nat->List Int
 | 0=>aT (l.length+1) 0
 | i+1=>(kE l i).set (l.getD i 0).toNat (i:Int)
noncomputable def cP(l:List Int):List Int:=kE l l.length
theorem u6(l:List Int):∀i,(kE l i).length=l.length+1
 | 0=>by simp[kE]
 | i+1=>by simp[kE,u6 l i]
noncomputable def mr(l g:List Int)(a:Nat):List Int:=if a=0 then aT (l.length+1) 0 else 0::(bD l.length).map λ(b:Nat)=>l.getD ((g.getD a 0+g.getD (b+1) 0)%(l.length:Int)).toNat 0
noncomputable def sD(l g:List Int)(n:Nat):List D:=(bD n).map λa=>D.lst true (aD (mr l g a))
noncomputable def mv(l g:List Int):List D:=sD l g (l.length+1)
end Mf
namespace L3
open PySem L2 Mf
noncomputable def LI(H:Hp)(p:Addr)(ns:List Int):Prop:=H p=some (.lst (ns.map V.int))
theorem LI.same{H H':Hp}{p:Addr}{ns:List Int}(h:LI H p ns)(s:ae H H'):LI H' p ns:=s.get _ _ h
theorem LI.upd{H:Hp}{p x:Addr}{ns:List Int}{o o':HO}(h:LI H p ns)(hx:H x=some o)(n:∀ws,o≠.lst ws):LI (upd H x o') p ns:=by
 unfold LI
 rw[ay (λz=>by rw[z]at h;unfold LI at h;rw[hx]at h;cases h;exact n _ rfl)];exact h
theorem Hh{F' H' H:Hp}{v:V}{A:List Addr}{ns:List Int}(r:R F' H' [.lst true (aD ns)] [v] A)(fr:∀a∈A,H a=none):∃p,v=.ref p/\LI H' p ns/\H p=none:=by
 cases r with
 | @own p ws xs A1 _ _ B1 hp hf r1 r2 =>
  have:=Gs r1.s
  subst this
  exact⟨p,rfl,hp,fr p (by simp)⟩
structure Uj(K:PySem.W.Frag)(C f:Addr):Prop where
 cls:cY K C
 many:bL K C "many"
 wide:bL K C "wide"
 By:bL K C "powers"
 Uk:bL K C "logs"
 step:bL K C "step"
 sp:Meth K C "step_power" f
structure Hi(g:Nat->Nat->Nat)(many:Nat)(l:List Int)(st:Int):Prop where
 lo:2<=many
 hi:many<=64
 step:u4 g many=some l
 len:l.length+1=many
 ins:∀x∈l,0<=x/\x.toNat<=l.length
 st:l[((1:Int)%((many:Int)-1)).toNat]?=some st
noncomputable def eV(b:Str):List Str:=[b,"many","wide","powers","logs","step"]
noncomputable def xP(n0:Int)(many:Nat)(p1 p2:Addr)(st:Int):List V:=[.int n0,.int many,.int ((bl many:Nat)-1),.ref p1,.ref p2,.int st]
theorem sE{f:Str}{v:V}:∀{fs:List (Str × V)},(∀p∈fs,p.1≠f)->dD f v fs=fs++[(f,v)]
 | [],_=>rfl
 | (g,x)::r,h=>by
  unfold dD
  rw[if_neg (h (g,x) (by simp)),sE λp hp=>h p (by simp[hp])];rfl
theorem g7.u7{H:Hp}{x C dx f c k:Addr}{fs:List (Str × V)}{o':HO}{of oc:Obj}(h:g7 H f of oc c k)(hx:H x=some (.ins C dx fs)):g7 (L2.upd H x o') f of oc c k:=by
 obtain⟨ψ,e,uX⟩:=h.wO
 exact⟨by rw[ay (λz=>by rw[<-z,h.fn]at hx;cases hx)];exact h.fn,by rw[ay (λz=>by rw[<-z,h.cell]at hx;cases hx)];exact h.cell,ψ,by rw[ay (λz=>by rw[<-z,e]at hx;cases hx)];exact e,uX⟩
theorem u9{H:Hp}{x p:Addr}{o o':HO}(hx:H x=some o)(h:L2.upd H x o' p=none):H p=none:=by
 by_cases z:p=x
 ·subst z;rw[a5]at h;cases h
 ·rw[ay z]at h;exact h
theorem xQ{α:Type}{b f:Str}{v:α}{r:List (Str × α)}(h:b≠f):((b,v)::r).lookup f=r.lookup f:=by
 rw[gh,beq_eq_false_iff_ne.mpr (cA h)]
section
variable{H2 H3 H':Hp}{x f c p:Addr}{o1 o2:HO}
theorem va{b:Addr}{o:HO}(e:H3 b=some o)(nb:b≠f)(nc:H3 c=none):L2.upd (L2.upd H3 f o1) c o2 b=some o:=by
 rw[ay (cq e nc),ay nb];exact e
theorem Hj(hs:ae H2 H3)(nf:H2 f=none)(nc:H3 c=none)(s:cC x (L2.upd (L2.upd H3 f o1) c o2) H'):cC x H2 (rem H' f c) where
 get b o n e t:=by
  have z1:=cq e nf
  have e3:=hs.get b o e t
  rw[dR z1 (cq e3 nc)]
  exact s.get b o n (va e3 z1 nc) t
 tb b ps e:=by
  have z1:=cq e nf
  obtain⟨m,e3⟩:=hs.tb b ps e
  obtain⟨m2,e4⟩:=s.tb b _ (va e3 z1 nc)
  exact⟨m++m2,by rw[dR z1 (cq e3 nc),e4,vK]⟩
theorem xR(hs:ae H2 H3)(h:L2.upd (L2.upd H3 f o1) c o2 p=none):H2 p=none:=by
 refine hs.free ?_
 by_cases z:p=c
 ·subst z;rw[a5]at h;cases h
 ·rw[ay z]at h
  by_cases z2:p=f
  ·subst z2;rw[a5]at h;cases h
  ·rw[ay z2]at h;exact h
theorem LI.rem{l:List Int}{φ:Heap->Prop}{y:Addr}(h:LI H' p l)(hf:H' f=some (.ext φ))(hc:H' c=some (.own y)):LI (rem H' f c) p l:=by
 unfold LI at h ⊢
 rw[dR (λz=>by rw[z,hf]at h;cases h) (λz=>by rw[z,hc]at h;cases h)];exact h
theorem Hk{of oc:Obj}{k:Addr}(eF:c≠f)(nc:H3 c=none)(hk:AA H3 k)(kf:k≠f):g7 (L2.upd (L2.upd H3 f (.ext (gC of oc c f))) c (.own f)) f of oc c k:=by
 obtain⟨ψ,e,uX⟩:=hk
 exact⟨by rw[ay eF.symm,a5],a5,ψ,va e kf nc,uX⟩
end
noncomputable def fl(m:Bool × Nat):List Int:=(u4 (gm m) (ag m)).getD []
noncomputable def fst(m:Bool × Nat):Int:=(fl m).getD ((1:Int)%((ag m:Int)-1)).toNat 0
noncomputable def Hl(m:Bool × Nat):Bool:=decide (2<=ag m)&&decide (ag m<=64)&&(u4 (gm m) (ag m)).isSome&&decide ((fl m).length+1=ag m)&&(fl m).all (λx=>decide (0<=x)&&decide (x.toNat<=(fl m).length))&&decide (((1:Int)%((ag m:Int)-1)).toNat<(fl m).length)
theorem Ul:aI.all Hl=true:=by decide +kernel
theorem cE{m:Bool × Nat}(h:m∈aI):Hi (gm m) (ag m) (fl m) (fst m):=by
 have h:=cX.mp Ul m h
 simp only[Hl,cJ,decide_eq_true_eq,cX]at h
 obtain⟨⟨⟨⟨⟨h1,h2⟩,h3⟩,h4⟩,h5⟩,h6⟩:=h
 obtain⟨l,e⟩:=sU.mp h3
 have el:fl m=l:=by unfold fl;rw[e];rfl
 refine⟨h1,h2,by rw[e,el],h4,λx hx=>h5 x hx,?_⟩
 unfold fst
 rw[bg,a9 h6];rfl
theorem Um:∀p∈kD,(decide (2<=(p:Int))&&decide ((p:Int)<=61)&&(bD ((p:Int).toNat-2)).all λi=>(p:Int)%(2+(i:Int)) != 0)=true:=by decide +kernel
theorem Uo:∀p∈eU,(decide (4<=(p:Int))&&decide ((p:Int)<=127)&&al (p:Int).toNat)=true:=by decide +kernel
theorem R.u7{F H:Hp}{x C dx:Addr}{fs:List (Str × V)}{o':HO}{ds:List D}{vs:List V}{A:List Addr}(r:R F H ds vs A)(hx:H x=some (.ins C dx fs))(hd:ds.all D.fr=true):R F (L2.upd H x o') ds vs A:=by
 have up:∀{a o},H a=some o->(∀C dx fs,o≠.ins C dx fs)->L2.upd H x o' a=some o:=λ{a o} e n=>by
  rw[ay (λz=>by rw[z,hx]at e;cases e;exact n _ _ _ rfl)];exact e
 induction r with
 | nil=>exact .nil
 | ao _ ih=>exact .ao (ih (by simpa[D.fr]using hd))
 | bl _ ih=>exact .bl (ih (by simpa[D.fr]using hd))
 | int _ ih=>exact .int (ih (by simpa[D.fr]using hd))
 | str _ ih=>exact .str (ih (by simpa[D.fr]using hd))
 | shr h x _ i1 ih=>simp[fb]at hd
 | own h f _ _ i1 i2 =>
  rw[cZ,fb,cJ,kT]at hd
  exact .own (up h λ_ _ _ z=>by cases z) f (i1 hd.1) (i2 hd.2)
 | tup h _ _ i1 i2 =>
  rw[cZ,lC,cJ]at hd
  exact .tup (up h λ_ _ _ z=>by cases z) (i1 hd.1) (i2 hd.2)
 | obj h l x _ i1 ih=>simp[D.fr]at hd
 | fz h x _ i1 ih=>simp[D.fr]at hd
 | @aS p z _ _ _ h r ih =>
  refine .aS ?_ (ih (by simpa[D.fr]using hd))
  cases z with
  | ext φ=>exact up h λ_ _ _ z=>by cases z
  | lam of oc c k=>exact g7.u7 h hx
  | g6 C nm n=>obtain⟨dx,h1,h2⟩:=h;exact⟨dx,up h1 (λ_ _ _ z=>by cases z),up h2 (λ_ _ _ z=>by cases z)⟩
theorem Hm(l g:List Int):(mv l g).all D.fr=true:=by
 unfold mv sD
 rw[sY,cX]
 intro a _
 show(D.lst true (aD _)).fr=true
 rw[fb,l9];rfl
theorem cC.free{x a:Addr}{H H':Hp}(s:cC x H H')(hx:H' x≠none)(h:H' a=none):H a=none:=by
 cases q:H a with
 | none=>rfl
 | some o =>
  by_cases z:a=x
  ·subst z;exact absurd h hx
  ·cases n:fM o with
   | true=>rw[s.get a o z q n]at h;cases h
   | false =>
    obtain⟨ps,rfl⟩:=Az n
    obtain⟨m,e⟩:=s.tb a ps q
    rw[e]at h;cases h
theorem Ho(l:List Int):∀i,∀x∈kE l i,0<=x
 | 0=>λx hx=>by rw[(y8.mp hx).2];exact Int.le_refl _
 | i+1=>λx hx=>by
  unfold kE at hx
  rcases MK hx with h | h
  ·exact Ho l i x h
  ·rw[h];exact C4 _
theorem Hq:∀p∈eU,bl p<=7:=by decide +kernel
theorem Hr:∀p∈eU,1<=bl p:=by decide +kernel
theorem Up(a b:Nat):bl (cl a b)<=bl a+bl b:=by
 by_cases ha:a=0
 ·subst ha;rw[lj];exact ij _
 ·by_cases hb:b=0
  ·subst hb
   have:cl a 0=0:=rfl
   rw[this];exact ij _
  ·rw[ER ha hb];omega
noncomputable def sF(l g:List Int):List D:=(bD (l.length+1)).map λa=>D.lst false (aD (mr l g a))
theorem Uq(l g:List Int):(D.lst true (mv l g)).sh=.lst false (sF l g):=by
 rw[eG]
 unfold mv sD sF
 rw[gP]
 congr 1
 apply zd
 intro a _
 show D.sh (.lst true (aD _))=_
 rw[eG,gG]
noncomputable abbrev pD(m:Bool × Nat):List D:=[.int m.2,.int (ag m),.int ((bl (ag m):Nat)-1),.lst false (aD (fl m)),.lst false (aD (cP (fl m))),.int (fst m)]
noncomputable def sG(C:Addr)(p:Nat):D:=.obj C (eV "prime") (pD (false,p))
noncomputable def xS(C:Addr)(p:Nat):D:=.obj C (eV "bits"++[("products":Str)]) (pD (true,p)++[.lst false (sF (fl (true,p)) (cP (fl (true,p))))])
noncomputable def fD(cb cp:Addr)(m:Bool × Nat):D:=if m.1 then xS cb m.2 else sG cp m.2
end L3
namespace L3
open PySem L2 Mf
theorem vb{u p:Nat}(h:bl u<bl p):md u p=u:=ug (q:=0) (by rw[lj,kR]) h
theorem Ur{u v n:Nat}(hu:bl u<n)(hv:bl v<n):bl (u ^^^ v)<n:=by
 have h1:u<2 ^ (n-1):=cU.mp (by omega)
 have h2:v<2 ^ (n-1):=cU.mp (by omega)
 have:=cU.mpr (qX h1 h2)
 omega
theorem xT{p:Nat}(hp:p≠0)(u v:Nat):md (u ^^^ v) p=md u p ^^^ md v p:=by
 obtain⟨⟨q1,e1⟩,l1⟩:=uf hp u
 obtain⟨⟨q2,e2⟩,l2⟩:=uf hp v
 refine ug (q:=q1 ^^^ q2) ?_ (Ur l1 l2)
 rw[lh,<- EF,<- e1,<- e2]
theorem Hs{p:Nat}(hp:p≠0)(w:Nat):md (cl p w) p=0:=by rw[ue];exact Qc w hp
theorem bR:∀m∈aI,0<m.2:=by decide +kernel
theorem iS(m:Bool × Nat)(a b:Nat):gm m a b=gm m b a:=by
 unfold gm
 split
 ·rw[ue]
 ·rw[jN]
theorem Ht{n:Nat}(hn:n≠0)(u c:Nat):md (cl (md u n) c) n=md (cl u c) n:=by
 obtain⟨⟨q,e⟩,_⟩:=uf hn u
 have h:cl u c=cl n (cl q c) ^^^ cl (md u n) c:=by
  conv=>lhs;rw[e]
  rw[lh,ue n q,EW]
 rw[h,xT hn,Hs hn,kR]
theorem kF{m:Bool × Nat}(h:0<m.2)(a b c:Nat):gm m (gm m a b) c=gm m a (gm m b c):=by
 unfold gm
 split
 ·rw[Ht (by omega),ue (md (cl b c) m.2) a,Ht (by omega),EW a b c,ue (cl b c) a]
 ·rw[s9,Du,<- s9,s9 a (b*c%m.2),Du,<- s9,qG]
theorem Hu{m:Bool × Nat}(h:m.1=true){a:Nat}:a<ag m↔bl a<=bl m.2-1:=by
 unfold ag
 rw[if_pos h];exact cU.symm
theorem Bz{m:Bool × Nat}{a:Nat}(ha:a<ag m):gm m 1 a=a:=by
 obtain⟨k,n⟩:=m
 cases k with
 | true =>
  show md (cl 1 a) n=a
  rw[z6]
  have h1:=(Hu (m:=(true,n)) rfl).mp ha
  have h1:bl a<=bl n-1:=h1
  by_cases z:bl n=0
  ·have a0:a=0:=by
    have:=cU (n:=a) (m:=0)
    have:=this.mp (by omega)
    omega
   subst a0
   have n0:n=0:=by
    have:=(cU (n:=n) (m:=0)).mp (by omega)
    omega
   subst n0
   decide
  ·exact vb (by omega)
 | false=>show 1*a%n=a;rw[Nat.one_mul];exact vY ha
theorem vd{m:Bool × Nat}{a:Nat}(ha:a<ag m):gm m a 1=a:=by rw[iS];exact Bz ha
noncomputable def lg(m:Bool × Nat)(a:Nat):Int:=(cP (fl m)).getD a 0
noncomputable def pw(m:Bool × Nat)(k:Nat):Int:=(fl m).getD k 0
noncomputable def BA(m:Bool × Nat):Bool:=((bD (ag m-1)).all λk=>decide (1<=pw m k)&&decide (pw m k<ag m)&&decide (lg m (pw m k).toNat=k))&&((bD (ag m-1)).all λa=>decide (0<=lg m (a+1))&&decide (lg m (a+1)<(ag m:Int)-1)&&decide (pw m (lg m (a+1)).toNat=((a+1:Nat):Int)))
theorem Hv:aI.all BA=true:=by decide +kernel
theorem xU{m:Bool × Nat}(hm:m∈aI){k:Nat}(hk:k<ag m-1):1<=pw m k/\pw m k<ag m/\lg m (pw m k).toNat=k:=by
 have h:=cX.mp Hv m hm
 simp only[BA,cJ,cX,decide_eq_true_eq,gM]at h
 have:=h.1 k hk
 exact⟨this.1.1,this.1.2,this.2⟩
theorem xV{m:Bool × Nat}(hm:m∈aI){a:Nat}(h1:1<=a)(h2:a<ag m):0<=lg m a/\lg m a<(ag m:Int)-1/\pw m (lg m a).toNat=a:=by
 have h:=cX.mp Hv m hm
 simp only[BA,cJ,cX,decide_eq_true_eq,gM]at h
 have:=h.2 (a-1) (by omega)
 rw[show a-1+1=a by omega]at this
 exact⟨this.1.1,this.1.2,this.2⟩
theorem ib(m:Bool × Nat)(b:Nat)(h:0<m.2):gm m 0 b=0:=by
 unfold gm
 split
 ·rw[lj];exact vb (by rw[j3];exact eN (by omega))
 ·rw[Nat.zero_mul,Nat.zero_mod]
theorem pZ(m:Bool × Nat)(b:Nat)(h:0<m.2):gm m b 0=0:=by rw[iS];exact ib m b h
noncomputable def stC(m:Bool × Nat):Bool:=decide (pw m 0=1)&&(bD (ag m-1)).all λk=>decide (gm m (pw m k).toNat (pw m (1%(ag m-1))).toNat=(pw m ((k+1)%(ag m-1))).toNat)
theorem Hw:aI.all stC=true:=by decide +kernel
theorem Us(m:Bool × Nat)(hm:m∈aI):pw m 0=1:=by
 have h:=cX.mp Hw m hm
 simp only[stC,cJ,decide_eq_true_eq]at h
 exact h.1
noncomputable def pN(m:Bool × Nat)(k:Nat):Nat:=(pw m (k%(ag m-1))).toNat
theorem Ut{m:Bool × Nat}(hm:m∈aI)(k:Nat):pN m k<ag m:=by
 have fG:=(cE hm).lo
 have:=xU hm (tf k (show 0<ag m-1 by omega))
 unfold pN
 omega
theorem Hx{m:Bool × Nat}(hm:m∈aI)(k:Nat):gm m (pN m k) (pN m 1)=pN m (k+1):=by
 have fG:=(cE hm).lo
 have h:=cX.mp Hw m hm
 simp only[stC,cJ,decide_eq_true_eq,cX,gM]at h
 have h2:=h.2 (k%(ag m-1)) (tf k (by omega))
 rw[ze]at h2
 exact h2
theorem Hy{m:Bool × Nat}(hm:m∈aI)(i:Nat):∀j,gm m (pN m i) (pN m j)=pN m (i+j)
 | 0=>by
  have e:pN m 0=1:=by unfold pN;rw[Nat.zero_mod,Us m hm];rfl
  rw[e,vd (Ut hm i)];rfl
 | j+1=>by rw[<-Hx hm j,<- kF (bR m hm),Hy hm i j,Hx hm];rfl
theorem BB{m:Bool × Nat}(hm:m∈aI){a b:Nat}(a1:1<=a)(a2:a<ag m)(b1:1<=b)(b2:b<ag m):((gm m a b:Nat):Int)=pw m ((lg m a+lg m b)%((ag m:Int)-1)).toNat:=by
 have fG:=(cE hm).lo
 obtain⟨g0,g1,g2⟩:=xV hm a1 a2
 obtain⟨f0,f1,f2⟩:=xV hm b1 b2
 have ea:pN m (lg m a).toNat=a:=by unfold pN;rw[vY (by omega),g2];rfl
 have eb:pN m (lg m b).toNat=b:=by unfold pN;rw[vY (by omega),f2];rfl
 have e:=Hy hm (lg m a).toNat (lg m b).toNat
 rw[ea,eb]at e
 rw[e]
 have ei:((lg m a+lg m b)%((ag m:Int)-1)).toNat=((lg m a).toNat+(lg m b).toNat)%(ag m-1):=by
  have:(((lg m a).toNat+(lg m b).toNat)%(ag m-1):Nat)=((lg m a+lg m b)%((ag m:Int)-1)):=by
   rw[mW,zf,zg g0,zg f0,Int.natCast_sub (by omega)];rfl
  omega
 rw[ei]
 have:=xU hm (tf ((lg m a).toNat+(lg m b).toNat) (show 0<ag m-1 by omega))
 unfold pN
 omega
theorem Uu{p a:Nat}(hp:p∈eU)(ha:a<ag (true,p)):mr (fl (true,p)) (cP (fl (true,p))) a=(bD (ag (true,p))).map λb=>((gm (true,p) a b:Nat):Int):=by
 have hm:(true,p)∈aI:=dz _ (zh hp)
 have h0:=bR _ hm
 have hF:=cE hm
 have hlen:=hF.len
 unfold mr
 split
 ·rename_i h
  subst h
  rw[hlen]
  refine List.ext_getElem (by simp) λi h1 h2=>?_
  simp[ib _ _ h0]
 ·rename_i h
  rw[<-hlen,MG,cj,gP,pZ _ _ h0]
  congr 1
  apply zd
  intro b hb
  have hb:=gM.mp hb
  show(fl (true,p)).getD (((cP (fl (true,p))).getD a 0+(cP (fl (true,p))).getD (b+1) 0)%((fl (true,p)).length:Int)).toNat 0=((gm (true,p) a (b+1):Nat):Int)
  rw[BB hm (by omega) ha (by omega) (by omega),show(((fl (true,p)).length:Nat):Int)=(ag (true,p):Int)-1 by omega]
  rfl
theorem Hz{p a b:Nat}(hp:p∈eU)(ha:a<ag (true,p))(hb:b<ag (true,p)):cM (aD (mr (fl (true,p)) (cP (fl (true,p))) a)) (b:Int)=some (.int (gm (true,p) a b:Nat)):=by
 refine jY (by omega) ?_
 rw[Uu hp ha]
 unfold aD
 rw[sV,cW,cW,qI hb];rfl
theorem HA{p a:Nat}(hp:p∈eU)(ha:a<ag (true,p)):cM (sF (fl (true,p)) (cP (fl (true,p)))) (a:Int)=some (.lst false (aD (mr (fl (true,p)) (cP (fl (true,p))) a))):=by
 have hF:=cE (m:=(true,p)) (dz _ (zh hp))
 refine jY (by omega) ?_
 unfold sF
 rw[sV,cW,qI (by rw[hF.len];exact ha)];rfl
end L3
namespace L3
open PySem L2 Mf
theorem Uv(C:Addr)(p:Nat):D.obj C (eV "bits"++[("products":Str)]) (List.map D.sh [.int p,.int (ag (true,p)),.int ((bl (ag (true,p)):Nat)-1),.lst true (aD (fl (true,p))),.lst true (aD (cP (fl (true,p)))),.int (fst (true,p)),.lst true (mv (fl (true,p)) (cP (fl (true,p))))])=xS C p:=by
 simp only[cj,jO]
 rw[Uq]
 simp only[eG,l7,gG];rfl
theorem Uw(C:Addr)(p:Nat):D.obj C (eV "prime") (List.map D.sh [.int p,.int p,.int ((bl p:Nat)-1),.lst true (aD (fl (false,p))),.lst true (aD (cP (fl (false,p)))),.int (fst (false,p))])=sG C p:=by
 simp only[cj,jO,eG,l7,gG];rfl
theorem xW{n:Nat}(h:(true,n)∈aI):n∈eU:=by
 rcases cQ.mp h with h | h
 ·obtain⟨x,hx,e⟩:=c9.mp h
  cases e;exact hx
 ·obtain⟨x,hx,e⟩:=c9.mp h
  cases e
theorem Ux{n:Nat}(h:(false,n)∈aI):n∈kD:=by
 rcases cQ.mp h with h | h
 ·obtain⟨x,hx,e⟩:=c9.mp h
  cases e
 ·obtain⟨x,hx,e⟩:=c9.mp h
  cases e;exact hx
open Classical in
theorem Uy{α:Type}{sh:Bool}{xs:List D}{az:List (Str × Nat)}{n:Nat}{g0:dO}{te:aw}{ah:Dl}{Q:D->Dl->Prop}(l:List α)(e g:α->D)(ky:xs.map D.sh=l.map e)(inj:∀a b,e a=e b->a=b)
  (hx:∀a∈l,g0 (e a) (dH az n ah) λaC=>te aC λd _=>d=g a) (hg:∀d δ (P P':Dl->Prop),(∀aa,P aa->P' aa)->g0 d δ P->g0 d δ P') (cV:(sh&&az.all (fe ah))=true\/∀a∈l,(g a).fr=true) (hl:l.length<=sizeLine) (hq:Q (.lst true (l.map g)) ah):rh sh xs az n g0 hJ te ah Q:=by
 let f:D->D:=λx=>if h:∃a∈l,e a=x then g h.choose else .ao
 have hf:∀a∈l,f (e a)=g a:=λa ha=>by
  have h:∃b∈l,e b=e a:=⟨a,ha,rfl⟩
  show(if h:∃b∈l,e b=e a then g h.choose else .ao)=g a
  rw[dif_pos h]
  exact congrArg g (inj _ _ h.choose_spec.2)
 refine⟨λ_=>true,f,λx h=>?_,cV.imp id λh x hx _=>?_,?_,?_⟩
 ·rw[ky]at h
  obtain⟨a,ha,rfl⟩:=c9.mp h
  rw[hf a ha]
  exact hg _ _ _ _ (λaa h=>⟨rfl,λ_=>h⟩) (hx a ha)
 ·rw[ky]at hx
  obtain⟨a,ha,rfl⟩:=c9.mp hx
  rw[hf a ha];exact h a ha
 ·have:=congrArg C9 ky
  simp at this
  omega
 ·rw[ky,ME.mpr (λ_ _=>rfl),gP,show l.map (f ∘ e)=l.map g from zd λa ha=>hf a ha]
  exact hq
theorem Uz{i1 i2:Nat}(d:D)(δ:Dl)(P P':Dl->Prop)(h:∀aa,P aa->P' aa)(q:fh i1 i2 d δ P):fh i1 i2 d δ P':=by
 unfold fh at q ⊢
 split at q
 ·exact h _ q
 ·exact q
theorem UA(xs ys:List Int):(fg (aD xs) (aD ys)).map D.sh=(xs.zip ys).map λz=>D.tup [.int z.1,.int z.2]:=by
 rw[GI,gG,gG]
 unfold fg aD
 rw[List.zipWith_map,List.zip,zb]
theorem UB{p x y:Nat}(hp:p≠0)(hx:bl x<bl p):md (cl x y) p=(if y%2=1 then x else 0) ^^^ md (cl (if bl (2*x)=bl p then 2*x ^^^ p else 2*x) (y/2)) p:=by
 have e0:md (if y%2=1 then x else 0) p=(if y%2=1 then x else 0):=by
  split
  ·exact vb hx
  ·exact vb (by rw[j3];exact eN hp)
 rw[EM,xT hp,e0]
 congr 1
 split
 ·rw[lh,xT hp,Hs hp,i4]
 ·rfl
theorem UC{p x:Nat}(hp:p≠0)(hx:bl x<bl p):bl (if bl (2*x)=bl p then 2*x ^^^ p else 2*x)<bl p:=by
 have h2:=Qf x
 have h0:=eN hp
 split
 ·rename_i h
  have n0:2*x≠0:=λz=>by rw[z,j3]at h;omega
  have a1:=fJ (2*x)
  have a2:=fJ p
  have b1:=qV n0
  have b2:=qV hp
  rw[h]at a1 b1
  obtain⟨k,hk⟩:∃k,bl p=k+1:=⟨bl p-1,by omega⟩
  rw[hk]at a1 a2 b1 b2 ⊢
  have:=cU.mpr (ED a1 a2 b1 b2)
  omega
 ·omega
end L3
namespace L3
open PySem L2 PySem.Spec PyProof.Rows
structure xX(P:Program)(w:World)(K:PySem.W.Frag)(mg:Str->Option Value)(base:Heap)(n:Nat)(m:Str)(C:Addr)(sp:iO):Prop where
 cls:cY K C
 ex:∃f fd ps,Meth K C m f/\aL P w K mg base (gz P w) n f fd ps (jv sp)/\Binds K fd ps []
section
variable{X:Cx}{e o:Expr}{es:List Expr}{f m x:Str}{pos p apos:Pos}{to:aw}{ta:a6}{n:Nat}
noncomputable def mw(MO:Addr->iO->Prop)(m:Str)(to:aw)(ta:a6):aw:=λδ Q=>to δ λd ah=>∃C ns xs sp,d=.obj C ns xs/\MO C sp/\m ∉ ns/\ta ah λds aC=>sp ((D.obj C ns xs::ds).map D.sh) (λr=>((D.obj C ns xs::ds).all D.pl||r.fr)=true/\Q r aC) λ_=>False
theorem UD{pl:Sem Bool}(ho:PE X o (lB to))(hr:bu n X.A)(ha:PA X (e::es) (lA ta))
  (bt:starEach (e::es) X.env=(false,eval e X.env)::starEach es X.env:=by rfl) (aR:(backTo pos (starEach es X.env)).any (·.1)=false:=by rfl)
  (ht:eval (.Call (.Attribute o m apos) (e::es) [] pos) X.env=(do
   let ov<-eval o X.env
   standAt apos.atName
   let (f,first)<-holding [ov] (getMethod ov m pl)
   callWith pos f first (backTo pos (starEach (e::es) X.env)) (backToKw pos (keywordEach [] X.env))):=by rfl) :
  PE X (.Call (.Attribute o m apos) (e::es) [] pos) (lE (mw (xX X.prog X.w X.K X.mg X.base n m) m to ta)):=by
 intro pins s σ H Q I zz
 obtain⟨B,F,δ,ts,Qd,c,q,k⟩:=zz
 refine PySem.W.methodCall_KW (pl:=pl) (aA (ho pins s σ H (λx H1=>∃d ah F1,S F1 H1 [d] [x]/\ai B F1 H1 σ ah ts/\ae F F1/\ae H H1/\∃C ns xs sp,d=.obj C ns xs/\xX X.prog X.w X.K X.mg X.base n m C sp/\m ∉ ns/\ta ah λds aC=>sp ((D.obj C ns xs::ds).map D.sh) (λr=>((D.obj C ns xs::ds).all D.pl||r.fr)=true/\Qd r aC) λ_=>False) I
  ⟨B,F,δ,ts,_,c,q,λd ah v F1 H1 hq f1 h1 c1 s1=>⟨d,ah,F1,s1,c1,f1,h1,hq⟩⟩) λu s1 zq=>?_) ht
 obtain⟨x,H1,I1,rx,d,ah,F1,sd,c1,f1,h1,C,ns,xs,sp,ed,M,hm,hq⟩:=zq
 subst ed
 obtain⟨a,dx,ws,rfl,ea,hl,r0⟩:=Bu sd
 obtain rfl:u=bC a:=rx
 obtain⟨f,fd,ps,u3,FO,hb⟩:=M.ex
 refine zO I1 ea M.cls u3 (He hm) ?_
 refine PySem.W.callWith_K (first:=[.ref a]) (h₀:=X.base) I.ok.mod.ir u3.kp (aA (ha pos pins s1 σ H1 (λvs H2=>∃ds aC F2,S F2 H2 ds vs/\ai B F2 H2 σ aC ts/\ae F1 F2/\ae H1 H2/\sp ((D.obj C ns xs::ds).map D.sh) (λr=>((D.obj C ns xs::ds).all D.pl||r.fr)=true/\Qd r aC) λ_=>False) I1
  ⟨B,F1,ah,ts,_,c1,hq,λds aC vs F2 H2 hq f2 h2 c2 s2=>⟨ds,aC,F2,s2,c2,f2,h2,hq⟩⟩) λus s2 ⟨vs,H2,I2,r,ds,aC,F2,Bv,c2,f2,h2,fF⟩=>⟨I2.bh,?_⟩) bt aR
 refine wB (us:=.ref a::us) (vs:=.ref a::vs) (df:=[]) (xw FO) hr hb .nil xv I2 (.cons rfl r) ?_
 rw[gg]
 exact w5 (sp:=λds Q=>sp ds Q λ_=>False) c2 (.obj (h2 _ _ ea) hl (r0.shared f2 h2) Bv) fF λd v F' H' hd hf hs c'=>k d aC v F' H' hd (f1.trans (f2.trans hf)) (h1.trans (h2.trans hs)) c'
end
section
variable{X:Cx}{tb th:bw}{body A8:List Stmt}{A9:Stmt}{K:Str}{Kc:Addr}{kp GG pos:Pos}
end
end L3
namespace L3
open PySem L2 Mf
theorem UE{m:Bool × Nat}(hm:m∈aI){a b:Nat}(a1:1<=a)(a2:a<ag m)(b1:1<=b)(b2:b<ag m):∃r:Nat,pw m ((lg m a-lg m b)%((ag m:Int)-1)).toNat=r/\r<ag m/\gm m r b=a:=by
 have hF:=cE hm
 have fG:=hF.lo
 have n0:=gi (lg m a-lg m b) (show(ag m:Int)-1≠0 by omega)
 have n1:=fm (lg m a-lg m b) (show(0:Int)<(ag m:Int)-1 by omega)
 obtain⟨p1,p2,p3⟩:=xU hm (k:=((lg m a-lg m b)%((ag m:Int)-1)).toNat) (by omega)
 obtain⟨g0,g1,g2⟩:=xV hm a1 a2
 refine⟨(pw m ((lg m a-lg m b)%((ag m:Int)-1)).toNat).toNat,by omega,by omega,?_⟩
 have e:=BB hm (a:=(pw m ((lg m a-lg m b)%((ag m:Int)-1)).toNat).toNat) (by omega) (by omega) b1 b2
 rw[p3,zg n0,Int.emod_add_emod,Int.sub_add_cancel,Int.emod_eq_of_lt g0 g1,g2]at e
 omega
end L3
namespace L3
open PySem L2 PySem.Spec PyProof.Rows
section
variable{X:Cx}{e o a:Expr}{es:List Expr}{f m y:Str}{pos p apos q:Pos}{t to ZM:aw}{ta:a6}{n:Nat}{P:Program}{w:World}{K:PySem.W.Frag}{mg:Str->Option Value}{base:Heap}
theorem jC(he:PE X e (lB t))(hK:K=X.K:=by rfl)(hb:attributeBase e f X.env (eval e X.env)=eval e X.env:=by rfl):PE X (.Attribute e f pos) (lB (mm K t f)):=by
 subst hK;exact Uh he hb
theorem kG{pl:Sem Bool}(ho:PE X o (lB to))(hr:bu n X.A)(ha:PA X (e::es) (lA ta))(hP:P=X.prog:=by rfl)(hw:w=X.w:=by rfl)(hK:K=X.K:=by rfl)(hm:mg=X.mg:=by rfl)(hb:base=X.base:=by rfl)
  (bt:starEach (e::es) X.env=(false,eval e X.env)::starEach es X.env:=by rfl) (aR:(backTo pos (starEach es X.env)).any (·.1)=false:=by rfl)
  (ht:eval (.Call (.Attribute o m apos) (e::es) [] pos) X.env=(do
   let ov<-eval o X.env
   standAt apos.atName
   let (f,first)<-holding [ov] (getMethod ov m pl)
   callWith pos f first (backTo pos (starEach (e::es) X.env)) (backToKw pos (keywordEach [] X.env))):=by rfl) :
  PE X (.Call (.Attribute o m apos) (e::es) [] pos) (lE (mq (pX P w K mg base n m) m to ta)):=by
 subst hP hw hK hm hb;exact Ui ho hr ha bt aR ht
theorem UG{pl:Sem Bool}(ho:PE X o (lB to))(hr:bu n X.A)(ha:PA X (e::es) (lA ta))(hP:P=X.prog:=by rfl)(hw:w=X.w:=by rfl)(hK:K=X.K:=by rfl)(hm:mg=X.mg:=by rfl)(hb:base=X.base:=by rfl)
  (bt:starEach (e::es) X.env=(false,eval e X.env)::starEach es X.env:=by rfl) (aR:(backTo pos (starEach es X.env)).any (·.1)=false:=by rfl)
  (ht:eval (.Call (.Attribute o m apos) (e::es) [] pos) X.env=(do
   let ov<-eval o X.env
   standAt apos.atName
   let (f,first)<-holding [ov] (getMethod ov m pl)
   callWith pos f first (backTo pos (starEach (e::es) X.env)) (backToKw pos (keywordEach [] X.env))):=by rfl) :
  PE X (.Call (.Attribute o m apos) (e::es) [] pos) (lE (mw (xX P w K mg base n m) m to ta)):=by
 subst hP hw hK hm hb;exact UD ho hr ha bt aR ht
end
theorem UH:∀m∈Mf.aI,1<=Mf.bl m.2/\Mf.bl m.2<=7:=by decide +kernel
end L3
namespace L3
open PySem L2 Mf
noncomputable def gp(m:Bool × Nat)(a b:Nat):Nat:=if m.1 then a ^^^ b else(a+b)%m.2
noncomputable def gl(m:Bool × Nat)(a b:Nat):Int:=if m.1 then(a ^^^ b:Nat)else((a:Int)-b)%m.2
noncomputable def mx(c:Int):Bool × Nat:=if c%2=0 then(true,eU.getD (c/2%21).toNat 0)else(false,kD.getD (c/2%18).toNat 0)
theorem UI(c:Int):mx c∈aI:=by
 unfold mx
 split
 ·refine dz _ (c9.mpr ⟨_,?_,rfl⟩)
  have h:(c/2%21).toNat<eU.length:=by
   have:=fm (c/2) (show(0:Int)<21 by decide)
   show _<21
   omega
  rw[bg,a9 h]
  exact i5 _
 ·refine cR _ (c9.mpr ⟨_,?_,rfl⟩)
  have h:(c/2%18).toNat<kD.length:=by
   have:=fm (c/2) (show(0:Int)<18 by decide)
   show _<18
   omega
  rw[bg,a9 h]
  exact i5 _
noncomputable def du(m:Bool × Nat):D:=.tup [.bl m.1,.int m.2]
theorem ve(cb cp:Addr)(m:Bool × Nat):fD cb cp m=.obj (if m.1 then cb else cp) (if m.1 then eV "bits"++[("products":Str)]else eV "prime") (if m.1 then pD (true,m.2)++[.lst false (sF (fl (true,m.2)) (cP (fl (true,m.2))))]else pD (false,m.2)):=by
 obtain⟨k,n⟩:=m
 cases k<;>rfl
theorem UJ(m:Bool × Nat)(x:Str)(h:x ∉ (["bits","prime","many","wide","powers","logs","step","products"]:List Str)):x ∉ (if m.1 then eV "bits"++[("products":Str)]else eV "prime"):=by
 obtain⟨k,n⟩:=m
 intro z
 apply h
 cases k
 ·have z:x∈eV "prime":=z
  simp[eV]at z
  simp only[bE]
  rcases z with z | z | z | z | z | z<;>simp[z]
 ·have z:x∈eV "bits"++[("products":Str)]:=z
  simp[eV]at z
  simp only[bE]
  rcases z with z | z | z | z | z | z | z<;>simp[z]
theorem UK(cb cp:Addr)(m:Bool × Nat):(fD cb cp m).sh=fD cb cp m:=by rw[ve];rfl
theorem UL(cb cp:Addr)(m:Bool × Nat):(fD cb cp m).pl=true:=by rw[ve];rfl
theorem UM(m:Bool × Nat):(du m).sh=du m:=rfl
theorem UN(m:Bool × Nat):(du m).pl=true:=rfl
noncomputable def HB(P:Program)(w:World)(K:PySem.W.Frag)(mg:Str->Option Value)(base:Heap)(n:Nat)(cb cp:Addr)(m:Bool × Nat)(x:Str)(ds:List D)(Q:D->Prop):Prop:=∃C ns xs sp,fD cb cp m=.obj C ns xs/\pX P w K mg base n x C sp/\x ∉ ns/\sp (.obj C ns xs::ds) Q
theorem iT(m:Bool × Nat)(a b:Nat):gp m a b=gp m b a:=by
 unfold gp
 split
 ·rw[Df]
 ·rw[vS]
theorem p9(m:Bool × Nat)(a b c:Nat):gp m (gp m a b) c=gp m a (gp m b c):=by
 unfold gp
 split
 ·rw[mR]
 ·rw[ze,Nat.add_mod_mod,Dn]
theorem xY{m:Bool × Nat}(h:0<m.2)(a b c:Nat):gm m (gp m a b) c=gp m (gm m a c) (gm m b c):=by
 unfold gm gp
 split
 ·rw[lh,xT (by omega)]
 ·rw[s9,Du,<- s9,Nat.add_mul,ze,Nat.add_mod_mod]
theorem HC{m:Bool × Nat}(h:0<m.2)(a b c:Nat):gm m c (gp m a b)=gp m (gm m c a) (gm m c b):=by rw[iS,xY h,iS m a,iS m b]
theorem UO:∀m∈aI,m.1=true->2<=bl m.2:=by decide +kernel
theorem my{m:Bool × Nat}(hm:m∈aI){a b:Nat}(ha:a<ag m)(hb:b<ag m):gp m a b<ag m:=by
 have h0:=bR m hm
 obtain⟨k,n⟩:=m
 cases k with
 | true=>exact qX ha hb
 | false=>exact tf _ h0
theorem fi{m:Bool × Nat}(hm:m∈aI)(a b:Nat):gm m a b<ag m:=by
 have h0:=bR m hm
 obtain⟨k,n⟩:=m
 cases k with
 | true =>
  have h2:=UO (true,n) hm rfl
  have:=(uf (show n≠0 by have:0<n:=h0;omega) (cl a b)).2
  refine(Hu rfl).mpr ?_
  show bl (md (cl a b) n)<=bl n-1
  omega
 | false=>exact tf _ h0
theorem iU{m:Bool × Nat}{a:Nat}(ha:a<ag m):gp m 0 a=a:=by
 obtain⟨k,n⟩:=m
 cases k with
 | true=>exact kR a
 | false=>show(0+a)%n=a;rw[Nat.zero_add];exact vY ha
theorem sH{m:Bool × Nat}{a:Nat}(ha:a<ag m):gp m a 0=a:=by rw[iT];exact iU ha
theorem UP{m:Bool × Nat}(hm:m∈aI){a b:Nat}(ha:a<ag m)(hb:b<ag m):∃r:Nat,gl m a b=r/\r<ag m/\gp m r b=a:=by
 have h0:=bR m hm
 obtain⟨k,n⟩:=m
 cases k with
 | true=>exact⟨a ^^^ b,rfl,qX ha hb,by show a ^^^ b ^^^ b=a;rw[mR,yT,i4]⟩
 | false =>
  have h0:0<n:=h0
  have ha:a<n:=ha
  have hb:b<n:=hb
  refine⟨(a+(n-b))%n,?_,tf _ h0,?_⟩
  ·show((a:Int)-b)%n=_
   rw[mW,zf,Int.natCast_sub (by omega),show((a:Int)+((n:Int)-b))=((a:Int)-b)+n by omega,Int.add_emod_right]
  ·show((a+(n-b))%n+b)%n=a
   rw[ze,show a+(n-b)+b=a+n by omega,Nat.add_mod_right,vY ha]
noncomputable def eS(m:Bool × Nat)(n:Int):Nat:=(pw m (n%((ag m:Int)-1)).toNat).toNat
theorem xZ{m:Bool × Nat}(hm:m∈aI)(n:Int):1<=eS m n/\eS m n<ag m/\lg m (eS m n)=n%((ag m:Int)-1)/\pw m (n%((ag m:Int)-1)).toNat=eS m n:=by
 have fG:=(cE hm).lo
 have n0:=gi n (show(ag m:Int)-1≠0 by omega)
 have n1:=fm n (show(0:Int)<(ag m:Int)-1 by omega)
 obtain⟨p1,p2,p3⟩:=xU hm (k:=(n%((ag m:Int)-1)).toNat) (by omega)
 unfold eS
 rw[p3]
 omega
theorem UQ{m:Bool × Nat}(hm:m∈aI)(a b:Int):gm m (eS m a) (eS m b)=eS m (a+b):=by
 obtain⟨a1,a2,a3,_⟩:=xZ hm a
 obtain⟨b1,b2,b3,_⟩:=xZ hm b
 have e:=BB hm a1 a2 b1 b2
 rw[a3,b3,<- Int.add_emod]at e
 have c:=(xZ hm (a+b)).2.2.2
 rw[c]at e
 omega
theorem HD{m:Bool × Nat}(hm:m∈aI){a:Nat}(h1:1<=a)(h2:a<ag m):eS m (lg m a)=a:=by
 obtain⟨g0,g1,g2⟩:=xV hm h1 h2
 unfold eS
 rw[Int.emod_eq_of_lt g0 g1,g2];rfl
theorem UR{m:Bool × Nat}(hm:m∈aI){a b:Nat}(a1:1<=a)(a2:a<ag m)(b1:1<=b)(b2:b<ag m):gm m a b≠0:=by
 rw[<-HD hm a1 a2,<- HD hm b1 b2,UQ hm]
 have:=(xZ hm (lg m a+lg m b)).1
 omega
noncomputable def aO(m:Bool × Nat)(x:Nat):List Nat->Nat
 | []=>0
 | a::l=>gp m (gm m (aO m x l) x) a
theorem mz{m:Bool × Nat}(hm:m∈aI)(x:Nat):∀{l:List Nat},(∀a∈l,a<ag m)->aO m x l<ag m
 | [],_=>by have:=(cE hm).lo;show 0<_;omega
 | a::l,h=>my hm (fi hm _ _) (h a (by simp))
end L3
namespace L2
open PySem PySem.Spec PyProof.Rows
noncomputable def BC(K:PySem.W.Frag)(a:Addr)(n:Nat):It :=
 ⟨λi H=>i<n/\∃xs x,a8 K H a xs/\xs[n-1-i]?=some x,λi H x H'=>H'=H/\∀xs,a8 K H a xs->xs[n-1-i]?=some x,λi _=>n<=i⟩
theorem US{P:Program}{w:World}{K:PySem.W.Frag}{tg:Expr}(a it:Addr)(n:Nat):Turn P w K tg (BC K a n) [it] it (λi h=>i<=n/\h.IsRevIter it a ((n:Int)-1-(i:Int))) where
 mem:=by simp
 obj:=λi h st b hb=>by
  have e:b=it:=by simpa using hb
  subst e
  obtain⟨_,o,e,c,d⟩:=st
  exact⟨o,e,λv z=>by rw[d]at z;cases z⟩
 keep:=λi h h' st k=>⟨st.1,st.2.at λo e=>k it (by simp) o e⟩
 item:=by
  intro X hP hw hK hc i pins s σ H E I hf st hg
  subst hP hw hK
  obtain⟨hi,xs,x,hq,hx⟩:=hg
  obtain⟨its,rv,p,hz⟩:=I.list hq
  obtain⟨u,hu,ru⟩:=rv.get hx
  obtain⟨f0,f1,f2,f3,f4,f5⟩:=hf it (by simp)
  obtain⟨hle,st⟩:=st
  have e0:(n:Int)-1-(i:Int)=((n-1-i:Nat):Int):=by omega
  rw[e0]at st
  refine wpAny_pyNext_rev_item st p.isList (x:=u) (by simpa using hu) λh' gW sb=>?_
  have e1:((n-1-i:Nat):Int)-1=(n:Int)-1-((i+1:Nat):Int):=by omega
  rw[e1]at gW
  have I1:Inv X pins σ H { s with heap:=h' }:=I.turned (t':=s.toks) (λb o hb e=>(sb.2 b hb).trans e) f0 f1 f3 f4 f5
  obtain⟨o,e,c,d⟩:=id gW
  exact⟨u,rfl,zC (s:={ s with heap:=h' }) e c d (by decide) ⟨x,H,I1,ru,⟨rfl,λys hy=>by rw[I.tT hy hq];exact hx⟩,⟨hi,gW⟩,λb hb=>(hf b hb).1⟩⟩
 done:=by
  intro X hP hw hK hc i pins s σ H E I hf st hg
  subst hP hw hK
  obtain⟨f0,f1,f2,f3,f4,f5⟩:=hf it (by simp)
  obtain⟨hle,st⟩:=st
  have hg:n<=i:=hg
  have e0:(n:Int)-1-(i:Int)=-1:=by omega
  rw[e0]at st
  exact wpAny_pyNext_rev_end (I.ok.hd hc) st λh' eb=>⟨rfl,I.turned (t':=s.toks) (λb o hb e=>eb b o hb e) f0 f1 f3 f4 f5⟩
 self:=λ_ _ _ _ _ st h=>wpAny_pyIter_revIter st.2 h
section
variable{X:Cx}{a:Expr}{ta:TA}{p pos:Pos}{tg:Expr}
noncomputable def UT(K:PySem.W.Frag)(ta:TA):TI:=λσ H R=>ta σ H λvs H1=>∃a xs,vs=[.ref a]/\a8 K H1 a xs/\R (BC K a xs.length) H1
theorem UU:bootBuiltins "reversed"=some (.type "reversed"):=by decide +kernel
theorem UW(hg:Gl X "reversed")(hm:X.mg "reversed"=none)(ha:PA X [a] ta)(hs:starEach [a] X.env=[(false,eval a X.env)]:=by rfl) :
  PI X tg (.Call (.Name "reversed" p) [a] [] pos) (UT X.K ta):=by
 intro pins s σ H R I h
 refine Call_ (je I hg hm UU (mK (aA (ha pos pins s σ H _ I h) λus s1 ⟨vs,H1,I1,r1,q1⟩=>?_) hs rfl))
 obtain⟨a,xs,e,hx,q⟩:=q1
 subst e
 cases r1 with
 | cons r rr =>
  cases rr
  cases r
  obtain⟨as,ra,pa,_⟩:=I1.list hx
  have hl:=ra.length
  have hit:(s1.heap.push (revObj a ((as.toArray.size:Int)-1))).IsRevIter s1.heap.objs.size a ((xs.length:Int)-1-((0:Nat):Int)):=by
   refine⟨_,eY _ rfl,rfl,?_⟩
   rw[show(xs.length:Int)-1-((0:Nat):Int)=(as.toArray.size:Int)-1 by simp;omega];rfl
  refine call_reversed_list pa.isList ?_
  refine wpAny_pyIter_revIter hit ?_
  refine⟨s1.heap.objs.size,[s1.heap.objs.size],_,_,H1,rfl,I1.kept (t':=s1.toks) λb o e=>bU _ e,US a _ xs.length,⟨ij _,hit⟩,λb hb=>?_,q⟩
  have e:b=s1.heap.objs.size:=by simpa using hb
  subst e
  exact I1.tW (aZ _) (I1.au.fresh (aZ _))
end
end L2
namespace L3
open PySem L2 PySem.Spec PyProof.Rows
section
variable{F H:Hp}{K:PySem.W.Frag}{p:Addr}{ws:List V}{xs:List D}
theorem HE(hp:Rd F p (.lst ws))(r:R F H xs ws [])(hF:Full F H):JD (BC K p ws.length) F xs.reverse where
 go:=λi H' hs hi=>by
  rw[qM]at hi
  have l1:=r.length
  exact⟨by omega,ws,_,.inl (dY hp hs),a9 (show ws.length-1-i<ws.length by omega)⟩
 fy:=λi H' v H2 hs hi zz=>by
  obtain⟨e,hx⟩:=zz
  subst e
  have iQ:=hi
  rw[qM]at iQ
  have l1:=r.length
  have h1:=xA (r.full hF hs rfl) (show xs.length-1-i<xs.length by omega) (x:=v) (by rw[l1];exact hx ws (.inl (dY hp hs)))
  refine⟨_,?_,ae.refl _,h1⟩
  rw[Dv iQ,a9]
 stop:=λi H' hs hi=>by
  rw[qM]at hi
  have l1:=r.length
  show ws.length<=i
  omega
end
section
variable{X:Cx}{a:Expr}{ta:a6}{p pos:Pos}{tg:Expr}
noncomputable def qa(t:a6):eo:=λδ Q=>t δ λds aa=>match ds with
 | [d1]=>∃xs,fP d1=some xs/\Q d1.pl xs.reverse aa
 | _=>False
theorem HF(hg:Gl X "reversed")(hm:X.mg "reversed"=none)(ha:PA X [a] (lA ta))(hs:starEach [a] X.env=[(false,eval a X.env)]:=by rfl) :
  PI X tg (.Call (.Name "reversed" p) [a] [] pos) (lI (qa ta)) :=
 oo (UW hg hm ha hs) λσ H Q zq=>by
 obtain⟨B,F,δ,ts,Qd,c,q,k⟩:=zq
 exact⟨B,F,δ,ts,_,c,q,λds ah vs F1 H1 hd f1 h1 c1 s=>by
  match ds,hd,s with
  | [d1],⟨xs,i1,hq⟩,s =>
   obtain⟨v1,bF,rfl,s1,s2⟩:=s.bW
   cases s2
   have e2:=c1.ext
   have sn:=lD e2
   obtain⟨p1,w1,rfl,r1,t1,u1⟩:=xy s1 e2 i1
   refine⟨p1,w1,rfl,.inl r1,k _ _ ah _ _ H1 hq (f1.trans sn) h1 c1.snap ?_ λz=>?_⟩
   ·rw[List.map_reverse]
    exact HE r1 t1 (Full.refl _)
   ·obtain⟨a1,a2,a3⟩:=u1 z
    exact⟨by rw[List.all_reverse];exact a1,HE (dY a2 sn) (a3.shared sn (ae.refl _)) nQ⟩⟩
end
end L3
namespace L3
open PySem L2 Mf
noncomputable def bx(l:List Nat):List Nat:=(l.reverse.dropWhile (·==0)).reverse
theorem HG{l:List Nat}{k:Nat}(hk:k<=l.length)(hz:∀x∈l.drop k,x=0)(hn:k=0\/l.getD (k-1) 0≠0):bx l=l.take k:=by
 unfold bx
 conv=>lhs;rw[<-tu k l]
 rw[ML,List.dropWhile_append_of_pos (λa ha=>by simp[hz a (List.mem_reverse.mp ha)])]
 rcases hn with rfl | hn
 ·simp
 ·by_cases h0:k=0
  ·subst h0;simp
  ·have e:l.take k=l.take (k-1)++[l.getD (k-1) 0]:=by
    conv=>lhs;rw[show k=k-1+1 by omega]
    rw[qJ,bg,a9 (by omega)];rfl
   rw[e,ML]
   generalize l.getD (k-1) 0=v at hn
   simp[List.dropWhile_cons,hn]
theorem vg(l:List Nat):∃k,k<=l.length/\(∀x∈l.drop k,x=0)/\(k=0\/l.getD (k-1) 0≠0)/\bx l=l.take k:=by
 have:∀n,n<=l.length->(∀x∈l.drop n,x=0)->∃k,k<=l.length/\(∀x∈l.drop k,x=0)/\(k=0\/l.getD (k-1) 0≠0):=by
  intro n
  induction n with
  | zero=>exact λh1 h2=>⟨0,h1,h2,.inl rfl⟩
  | succ n ih =>
   intro h1 h2
   by_cases h:l.getD n 0=0
   ·refine ih (by omega) λx hx=>?_
    rw[zi (by omega)]at hx
    rcases bE.mp hx with hx | hx
    ·rw[hx]
     rw[bg,a9 (by omega)]at h
     exact h
    ·exact h2 x hx
   ·exact⟨n+1,h1,h2,.inr h⟩
 obtain⟨k,h1,h2,h3⟩:=this l.length (aZ _) (by simp)
 exact⟨k,h1,h2,h3,HG h1 h2 h3⟩
theorem BD{l:List Nat}{x:Nat}(h:x∈bx l):x∈l:=by
 obtain⟨k,_,_,_,e⟩:=vg l
 rw[e]at h
 exact mT h
theorem HH(l:List Nat):(bx l).length<=l.length:=by
 obtain⟨k,_,_,_,e⟩:=vg l
 rw[e,iZ];omega
theorem BE(l:List Nat):(bx l).length=0\/(bx l).getD ((bx l).length-1) 0≠0:=by
 obtain⟨k,h1,_,h3,e⟩:=vg l
 rw[e,iZ,sZ h1]
 rcases h3 with h3 | h3
 ·exact .inl h3
 ·by_cases h0:k=0
  ·exact .inl h0
  ·right
   rw[bg]at h3 ⊢
   rw[za,if_pos (by omega)]
   exact h3
theorem BF{m:Bool × Nat}(hm:m∈aI)(x:Nat):∀{l:List Nat},(∀a∈l,a=0)->aO m x l=0
 | [],_=>rfl
 | a::l,h=>by
  have fG:=(cE hm).lo
  show gp m (gm m (aO m x l) x) a=0
  rw[BF hm x λa ha=>h a (by simp[ha]),h a (by simp),ib _ _ (bR m hm),iU (by omega)]
theorem HI{m:Bool × Nat}(hm:m∈aI)(x:Nat):∀(l:List Nat) (k:Nat),(∀a∈l.drop k,a=0)->aO m x (l.take k)=aO m x l
 | [],k,_=>by rw[List.take_nil]
 | a::l,0,h=>by rw[List.take_zero];exact(BF hm x h).symm
 | a::l,k+1,h=>by
  rw[List.take_succ_cons]
  show gp m (gm m (aO m x (l.take k)) x) a=gp m (gm m (aO m x l) x) a
  rw[HI hm x l k h]
theorem x4{m:Bool × Nat}(hm:m∈aI)(x:Nat)(l:List Nat):aO m x (bx l)=aO m x l:=by
 obtain⟨k,_,h2,_,e⟩:=vg l
 rw[e];exact HI hm x l k h2
noncomputable def px(m:Bool × Nat)(x:Nat):Nat->Nat
 | 0=>1
 | k+1=>gm m (px m x k) x
theorem UX{m:Bool × Nat}(hm:m∈aI)(x:Nat):∀k,px m x k<ag m
 | 0=>by have:=(cE hm).lo;show 1<_;omega
 | k+1=>fi hm _ _
noncomputable def gI(m:Bool × Nat)(t:List Nat)(k v:Nat):List Nat:=t.set k (gp m (t.getD k 0) v)
noncomputable def dv(m:Bool × Nat)(x:Nat):List Nat->Nat->List Nat->List Nat
 | t,_,[]=>t
 | t,i,y::b=>dv m x (gI m t i (gm m x y)) (i+1) b
noncomputable def eW(m:Bool × Nat)(b:List Nat):List Nat->Nat->List Nat->List Nat
 | t,_,[]=>t
 | t,i,x::a=>eW m b (dv m x t i b) (i+1) a
noncomputable def kH(m:Bool × Nat)(a b:List Nat):List Nat:=eW m b (aT (a.length+b.length) 0) 0 a
noncomputable def kI(m:Bool × Nat)(a b:List Nat):List Nat:=bx (kH m a b)
theorem HJ(m:Bool × Nat)(x:Nat):∀(b c t:List Nat) (i:Nat),dv m x t i (b++c)=dv m x (dv m x t i b) (i+b.length) c
 | [],c,t,i=>rfl
 | y::b,c,t,i=>by
  show dv m x (gI m t i (gm m x y)) (i+1) (b++c)=_
  rw[HJ m x b c,cS,show i+1+b.length=i+(b.length+1) by omega];rfl
theorem UY(m:Bool × Nat)(x:Nat)(b t:List Nat)(i:Nat){j:Nat}(hj:j<b.length):dv m x t i (b.take (j+1))=gI m (dv m x t i (b.take j)) (i+j) (gm m x b[j]):=by
 rw[qJ,a9 hj,HJ,iZ,sZ (by omega)];rfl
theorem HK(m:Bool × Nat)(b:List Nat):∀(a c t:List Nat) (i:Nat),eW m b t i (a++c)=eW m b (eW m b t i a) (i+a.length) c
 | [],c,t,i=>rfl
 | y::a,c,t,i=>by
  show eW m b (dv m y t i b) (i+1) (a++c)=_
  rw[HK m b a c,cS,show i+1+a.length=i+(a.length+1) by omega];rfl
theorem UZ(m:Bool × Nat)(b a t:List Nat)(i:Nat){j:Nat}(hj:j<a.length):eW m b t i (a.take (j+1))=dv m a[j] (eW m b t i (a.take j)) (i+j) b:=by
 rw[qJ,a9 hj,HK,iZ,sZ (by omega)];rfl
theorem BG(m:Bool × Nat)(t:List Nat)(k v:Nat):(gI m t k v).length=t.length:=by unfold gI;rw[List.length_set]
theorem vh(m:Bool × Nat)(x:Nat):∀(b t:List Nat) (i:Nat),(dv m x t i b).length=t.length
 | [],t,i=>rfl
 | y::b,t,i=>(vh m x b _ _).trans (BG m t i _)
theorem BH(m:Bool × Nat)(b:List Nat):∀(a t:List Nat) (i:Nat),(eW m b t i a).length=t.length
 | [],t,i=>rfl
 | y::a,t,i=>(BH m b a _ _).trans (vh m y b t i)
noncomputable def AllLt(n:Nat)(l:List Nat):Prop:=∀a∈l,a<n
theorem AllLt.getD{n:Nat}{l:List Nat}(h:AllLt n l)(h0:0<n)(k:Nat):l.getD k 0<n:=by
 rw[bg]
 cases e:l[k]? with
 | none=>exact h0
 | some v=>exact h v (kQ e)
theorem BI{m:Bool × Nat}(hm:m∈aI){t:List Nat}(ht:AllLt (ag m) t){k v:Nat}(hv:v<ag m):AllLt (ag m) (gI m t k v):=λa ha=>by
 unfold gI at ha
 have fG:=(cE hm).lo
 rcases MK ha with h | h
 ·exact ht a h
 ·rw[h];exact my hm (ht.getD (by omega) k) hv
theorem vi{m:Bool × Nat}(hm:m∈aI)(x:Nat):∀(b t:List Nat) (i:Nat),AllLt (ag m) t->AllLt (ag m) (dv m x t i b)
 | [],t,i,h=>h
 | y::b,t,i,h=>vi hm x b _ _ (BI hm h (fi hm _ _))
theorem BJ{m:Bool × Nat}(hm:m∈aI)(b:List Nat):∀(a t:List Nat) (i:Nat),AllLt (ag m) t->AllLt (ag m) (eW m b t i a)
 | [],t,i,h=>h
 | y::a,t,i,h=>BJ hm b a _ _ (vi hm y b t i h)
theorem vj{m:Bool × Nat}(hm:m∈aI)(n:Nat):AllLt (ag m) (aT n 0):=λa ha=>by
 have fG:=(cE hm).lo
 rw[(y8.mp ha).2];omega
theorem U0{m:Bool × Nat}(hm:m∈aI)(a b:List Nat):AllLt (ag m) (kH m a b):=BJ hm b a _ 0 (vj hm _)
theorem U1(m:Bool × Nat)(a b:List Nat):(kH m a b).length=a.length+b.length:=by unfold kH;rw[BH,qD]
theorem U2{m:Bool × Nat}(hm:m∈aI)(a b:List Nat):AllLt (ag m) (kI m a b):=λx hx=>U0 hm a b x (BD hx)
theorem HL{m:Bool × Nat}(hm:m∈aI)(X:Nat){v:Nat}(hv:v<ag m):∀(t:List Nat) (k:Nat),k<t.length->aO m X (gI m t k v)=gp m (aO m X t) (gm m v (px m X k))
 | [],k,h=>by simp at h
 | a::t,0,_=>by
  show gp m (gm m (aO m X t) X) (gp m a v)=gp m (gp m (gm m (aO m X t) X) a) (gm m v 1)
  rw[vd hv,p9]
 | a::t,k+1,h=>by
  have ih:=HL hm X hv t k (by simpa using h)
  have h0:=bR m hm
  show gp m (gm m (aO m X (gI m t k v)) X) a=gp m (gp m (gm m (aO m X t) X) a) (gm m v (gm m (px m X k) X))
  rw[ih,xY h0,kF h0,p9,p9,iT m _ a]
theorem HM{m:Bool × Nat}(hm:m∈aI)(X x:Nat):∀(b t:List Nat) (i:Nat),AllLt (ag m) t->i+b.length<=t.length->aO m X (dv m x t i b)=gp m (aO m X t) (gm m (gm m x (px m X i)) (aO m X b))
 | [],t,i,ht,_=>by
  show aO m X t=gp m (aO m X t) (gm m (gm m x (px m X i)) 0)
  rw[pZ _ _ (bR m hm),sH (mz hm X ht)]
 | y::b,t,i,ht,hl=>by
  have h0:=bR m hm
  rw[cS]at hl
  show aO m X (dv m x (gI m t i (gm m x y)) (i+1) b)=gp m (aO m X t) (gm m (gm m x (px m X i)) (gp m (gm m (aO m X b) X) y))
  rw[HM hm X x b _ _ (BI hm ht (fi hm _ _)) (by rw[BG];omega),HL hm X (fi hm _ _) t i (by omega),p9]
  congr 1
  rw[HC h0,iT]
  congr 1
  ·show gm m (gm m x (gm m (px m X i) X)) (aO m X b)=_
   rw[<-kF h0 x,kF h0 _ X,iS m X]
  ·rw[kF h0,kF h0,iS m y]
theorem HN{m:Bool × Nat}(hm:m∈aI)(X:Nat)(b:List Nat):∀(a t:List Nat) (i:Nat),AllLt (ag m) t->i+a.length+b.length<=t.length->aO m X (eW m b t i a)=gp m (aO m X t) (gm m (gm m (aO m X a) (px m X i)) (aO m X b))
 | [],t,i,ht,_=>by
  have h0:=bR m hm
  show aO m X t=gp m (aO m X t) (gm m (gm m 0 (px m X i)) (aO m X b))
  rw[ib _ _ h0,ib _ _ h0,sH (mz hm X ht)]
 | x::a,t,i,ht,hl=>by
  have h0:=bR m hm
  rw[cS]at hl
  show aO m X (eW m b (dv m x t i b) (i+1) a)=gp m (aO m X t) (gm m (gm m (gp m (gm m (aO m X a) X) x) (px m X i)) (aO m X b))
  rw[HN hm X b a _ _ (vi hm x b t i ht) (by rw[vh];omega),HM hm X x b t i ht (by omega),p9]
  congr 1
  rw[xY h0,xY h0,iT]
  congr 1
  show gm m (gm m (aO m X a) (gm m (px m X i) X)) (aO m X b)=_
  rw[iS m (px m X i) X,<- kF h0 (aO m X a)]
theorem U3{m:Bool × Nat}(hm:m∈aI)(X:Nat)(a b:List Nat)(ha:AllLt (ag m) a)(hb:AllLt (ag m) b):aO m X (kI m a b)=gm m (aO m X a) (aO m X b):=by
 unfold kI
 rw[x4 hm]
 unfold kH
 rw[HN hm X b a _ 0 (vj hm _) (by rw[qD];omega),BF hm X (λx hx=>(y8.mp hx).2)]
 show gp m 0 (gm m (gm m (aO m X a) 1) (aO m X b))=_
 rw[vd (mz hm X ha),iU (fi hm _ _)]
end L3
namespace L3
open PySem L2 PySem.Spec PyProof.Rows
theorem BK{n:Nat}(ih:∀d,b9 n d=true->bG d d=true):∀xs:List D,xs.all (b9 n)=true->bG.fS xs xs=true
 | [],_=>rfl
 | x::xs,h=>by
  rw[cZ,cJ]at h
  show(bG x x&&bG.fS xs xs)=true
  rw[ih x h.1,BK ih xs h.2];rfl
theorem sI:∀(n:Nat) (d:D),b9 n d=true->bG d d=true
 | _,.ao,_=>rfl
 | _,.bl a,_=>by show(a==a)=true;simp
 | _,.int a,_=>by show(a==a)=true;simp
 | _,.str a,_=>by show(a==a)=true;simp
 | n+1,.lst o xs,h=>by
  have h:xs.all (b9 n)=true:=h
  exact BK (sI n) xs h
 | n+1,.tup xs,h=>by
  have h:xs.all (b9 n)=true:=h
  exact BK (sI n) xs h
 | 0,.lst _ _,h=>by cases h
 | 0,.tup _,h=>by cases h
 | 0,.obj _ _ _,h=>by cases h
 | 0,.fz _,h=>by cases h
 | 0,.aS _,h=>by cases h
 | n+1,.obj _ _ _,h=>by cases h
 | n+1,.fz _,h=>by cases h
 | n+1,.aS _,h=>by cases h
theorem HP{l:List Nat}{k:Int}(h0:0<=k)(h:k.toNat<l.length):cM (aN l) k=some (.int ((l.getD k.toNat 0:Nat):Int)):=by
 refine jY h0 ?_
 rw[iR,cW,a9 h,bg,a9 h];rfl
theorem U4{l:List Nat}(h:0<l.length):cM (aN l) (-1)=some (.int ((l.getD (l.length-1) 0:Nat):Int)):=by
 unfold aN
 rw[Sz (by rw[cI];exact h),cI]
 congr 2
 rw[bg,bg,cW]
 cases l[l.length-1]?<;>rfl
theorem U5{n:Nat}{k:Int}(h0:0<=k)(h:k.toNat<n):gq n k=some k.toNat:=by
 unfold gq
 rw[if_pos h0,if_pos (by omega)]
theorem U6{l:List Nat}{k:Nat}(h1:0<k)(hk:k<=l.length)(hz:∀x∈l.drop k,x=0)(h0:l.getD (k-1) 0=0):∀x∈l.drop (k-1),x=0:=by
 intro x hx
 rw[zi (by omega)]at hx
 rcases bE.mp hx with hx | hx
 ·rw[hx]
  rw[bg,a9 (by omega)]at h0
  exact h0
 ·rw[show k-1+1=k by omega]at hx
  exact hz x hx
theorem U7(l:List Nat)(k v:Nat):(aN l).set k (.int (v:Nat))=aN (l.set k v):=by
 rw[iR,iR,List.map_set]
theorem HQ(l:List Nat):(aN l).all D.fr=true:=l9 _
theorem BL(o:Bool)(l:List Nat):(D.lst o (aN l)).sh=.lst false (aN l):=by rw[eG,pQ]
theorem vk(l:List Nat):(D.lst true (aN l)).fr=true:=by rw[fb,HQ];rfl
theorem U8{xs:List D}{i:Nat}{d:D}(h:(dq xs)[i]?=some d):∃hi:i<xs.length,d=.tup [.int i,xs[i]]:=by
 have hi:i<(dq xs).length:=(gb.mp h).1
 rw[pK]at hi
 refine⟨hi,?_⟩
 unfold dq at h
 rw[zc,a9 hi]at h
 exact(bS h).symm
theorem HR{l:List Nat}{i:Nat}{d:D}(h:(dq (aN l))[i]?=some d):∃hi:i<l.length,d=.tup [.int i,.int (l[i]:Nat)]:=by
 obtain⟨hi,e⟩:=U8 h
 rw[eT]at hi
 refine⟨hi,?_⟩
 rw[e]
 simp only[iR,List.getElem_map]
section
variable{X:Cx}
end
end L3
namespace L3
open PySem L2 Mf
noncomputable def jD(m:Bool × Nat)(a b:Nat):Nat:=(gl m a b).toNat
theorem x6{m:Bool × Nat}(hm:m∈aI){a b:Nat}(ha:a<ag m)(hb:b<ag m):gl m a b=(jD m a b:Nat)/\jD m a b<ag m/\gp m (jD m a b) b=a:=by
 obtain⟨r,e,h1,h2⟩:=UP hm ha hb
 have:jD m a b=r:=by unfold jD;rw[e];rfl
 rw[this]
 exact⟨e,h1,h2⟩
noncomputable def iV(l:List Nat)(n:Nat):List Nat:=l++aT (n-l.length) 0
theorem vm{l:List Nat}{n:Nat}(h:l.length<=n):(iV l n).length=n:=by unfold iV;rw[gO,qD];omega
theorem HS{m:Bool × Nat}(hm:m∈aI){l:List Nat}(h:AllLt (ag m) l)(n:Nat):AllLt (ag m) (iV l n):=λa ha=>by
 rcases cQ.mp ha with ha | ha
 ·exact h a ha
 ·exact vj hm _ a ha
noncomputable def jE(f:Nat->Nat->Nat)(a b:List Nat):List Nat:=vX f (iV a (max a.length b.length)) (iV b (max a.length b.length))
theorem x8(f:Nat->Nat->Nat)(a b:List Nat):(jE f a b).length=max a.length b.length:=by
 unfold jE
 rw[List.length_zipWith,vm (Dw _ _),vm (Nat.le_max_right _ _),y9]
theorem HU{n:Nat}{f:Nat->Nat->Nat}:∀{a b:List Nat},(∀x∈a,∀y∈b,f x y<n)->AllLt n (vX f a b)
 | [],_,_=>by intro x hx;simp at hx
 | _::_,[],_=>by intro x hx;simp at hx
 | x::a,y::b,h=>by
  intro z hz
  rw[List.zipWith_cons_cons]at hz
  rcases bE.mp hz with rfl | hz
  ·exact h x (by simp) y (by simp)
  ·exact HU (λx hx y hy=>h x (by simp[hx]) y (by simp[hy])) z hz
theorem HV{m:Bool × Nat}(hm:m∈aI){a b:List Nat}(ha:AllLt (ag m) a)(hb:AllLt (ag m) b):AllLt (ag m) (jE (gp m) a b):=HU λx hx y hy=>my hm (HS hm ha _ x hx) (HS hm hb _ y hy)
theorem U9(xs ys:List Nat):(fg (aN xs) (aN ys)).map D.sh=(xs.zip ys).map λz=>D.tup [.int (z.1:Int),.int (z.2:Int)]:=by
 unfold aN
 rw[UA,List.zip_map,gP];rfl
theorem Va{sh:Bool}{az:List (Str × Nat)}{n i1 i2:Nat}{te:aw}{ah:Dl}{Q:D->Dl->Prop}(f:Nat->Nat->Nat){A B:List Nat}(hx:∀x∈A,∀y∈B,fh i1 i2 (.tup [.int (x:Int),.int (y:Int)]) (dH az n ah) λaC=>te aC λd _=>d=.int ((f x y:Nat):Int))
  (hl:A.length<=100000) (hq:Q (.lst true (aN (vX f A B))) ah):rh sh (fg (aN A) (aN B)) az n (fh i1 i2) hJ te ah Q:=by
 refine Uy (A.zip B) (λz=>D.tup [.int (z.1:Int),.int (z.2:Int)]) (λz=>D.int ((f z.1 z.2:Nat):Int)) (U9 A B) (λa b h=>?_) (λz hz=>hx z.1 (vM hz).1 z.2 (vM hz).2) Uz (.inr λ_ _=>rfl) (by rw[List.length_zip,sL];omega) ?_
 ·injection h with h
  simp at h
  exact Prod.ext (by omega) (by omega)
 ·rw[show((A.zip B).map λz=>D.int ((f z.1 z.2:Nat):Int))=aN (vX f A B) by rw[iR,List.zip,zb,zb]]
  exact hq
end L3
namespace L3
open PySem L2 PySem.Spec PyProof.Rows
section
variable{X:Cx}{a b:Expr}{ta tb:aw}{pos:Pos}
end
end L3
namespace L3
open PySem L2 Mf
end L3
namespace L2
open PySem PySem.Spec PyProof.Rows
end L2
namespace L3
open PySem L2 PySem.Spec PyProof.Rows Mf
end L3
namespace L3
open PySem L2 Mf
noncomputable def cf(l:List Nat)(k:Nat):Nat:=l.getD k 0
theorem jF{l:List Nat}{k:Nat}(h:l.length<=k):cf l k=0:=by
 unfold cf;rw[bg,qL h];rfl
theorem vo{m:Bool × Nat}(hm:m∈aI){l:List Nat}(h:AllLt (ag m) l)(k:Nat):cf l k<ag m:=h.getD (by have:=(cE hm).lo;omega) k
theorem Vb(a:Nat)(l:List Nat)(k:Nat):cf (a::l) (k+1)=cf l k:=rfl
theorem Vc(l:List Nat)(n k:Nat):cf (l.take n) k=if k<n then cf l k else 0:=by
 unfold cf
 rw[bg,za]
 split
 ·rw[bg]
 ·rfl
theorem kJ(l:List Nat)(k:Nat):cf (bx l) k=cf l k:=by
 obtain⟨n,h1,h2,_,e⟩:=vg l
 rw[e,Vc]
 split
 ·rfl
 ·rename_i h
  symm
  by_cases hk:k<l.length
  ·have Vd:k-n<(l.drop n).length:=by rw[vQ];omega
   have:=h2 _ (i5 Vd)
   rw[List.getElem_drop]at this
   unfold cf
   rw[bg,a9 hk]
   simp only[show n+(k-n)=k by omega]at this
   exact this
  ·exact jF (by omega)
theorem HW{l l':List Nat}(h:∀k,cf l k=cf l' k):bx l=bx l':=by
 have key:∀{l l':List Nat},(∀k,cf l k=cf l' k)->(bx l).length<=(bx l').length:=λ{l l'} h=>by
  rcases BE l with h0 | h0
  ·omega
  ·have e:cf (bx l') ((bx l).length-1)≠0:=by
    rw[kJ,<- h,<- kJ];exact h0
   apply Mz
   intro z
   by_cases hz:(bx l).length=0
   ·omega
   ·exact e (jF (by omega))
 have len:(bx l).length=(bx l').length:=Nat.le_antisymm (key h) (key λk=>(h k).symm)
 refine List.ext_getElem len λk h1 h2=>?_
 have e:cf (bx l) k=cf (bx l') k:=by rw[kJ,kJ,h]
 unfold cf at e
 rw[bg,bg,a9 h1,a9 h2]at e
 exact e
theorem Ve(m:Bool × Nat)(t:List Nat){j:Nat}(hj:j<t.length)(v k:Nat):cf (gI m t j v) k=if k=j then gp m (cf t j) v else cf t k:=by
 unfold cf gI
 rw[bg,List.getElem?_set]
 by_cases h:k=j
 ·subst h
  rw[if_pos rfl,if_pos hj,if_pos rfl];rfl
 ·rw[if_neg (cA h),if_neg h,bg]
theorem HX{m:Bool × Nat}(hm:m∈aI)(x:Nat):∀(b t:List Nat) (i k:Nat),AllLt (ag m) t->i+b.length<=t.length->cf (dv m x t i b) k=gp m (cf t k) (if k<i then 0 else gm m x (cf b (k-i)))
 | [],t,i,k,ht,_=>by
  have e:(if k<i then 0 else gm m x (cf [] (k-i)))=0:=by
   split
   ·rfl
   ·rw[jF (ij _),pZ _ _ (bR m hm)]
  rw[e,sH (vo hm ht k)];rfl
 | y::b,t,i,k,ht,hl=>by
  rw[cS]at hl
  show cf (dv m x (gI m t i (gm m x y)) (i+1) b) k=_
  rw[HX hm x b _ (i+1) k (BI hm ht (fi hm _ _)) (by rw[BG];omega),Ve m t (by omega)]
  by_cases h1:k=i
  ·subst h1
   rw[if_pos rfl,if_pos (by omega),if_neg (by omega),vZ,sH (my hm (vo hm ht _) (fi hm _ _))];rfl
  ·rw[if_neg h1]
   by_cases h2:k<i
   ·rw[if_pos (by omega),if_pos h2]
   ·rw[if_neg (by omega),if_neg h2,show k-i=(k-(i+1))+1 by omega,Vb]
noncomputable def mB(m:Bool × Nat)(b:List Nat):List Nat->Nat->Nat
 | [],_=>0
 | x::q,k=>gp m (gm m x (cf b k)) (match k with | 0=>0 | k+1=>mB m b q k)
theorem HY{m:Bool × Nat}(hm:m∈aI)(b:List Nat):∀(q:List Nat) (k:Nat),mB m b q k<ag m
 | [],_=>by have:=(cE hm).lo;show 0<_;omega
 | x::q,0=>my hm (fi hm _ _) (by have:=(cE hm).lo;show 0<_;omega)
 | x::q,k+1=>my hm (fi hm _ _) (HY hm b q k)
theorem HZ{m:Bool × Nat}(hm:m∈aI)(b:List Nat):∀(a t:List Nat) (i k:Nat),AllLt (ag m) t->i+a.length+b.length<=t.length->cf (eW m b t i a) k=gp m (cf t k) (if k<i then 0 else mB m b a (k-i))
 | [],t,i,k,ht,_=>by
  have e:(if k<i then 0 else mB m b [] (k-i))=0:=by split<;>rfl
  rw[e,sH (vo hm ht k)];rfl
 | x::a,t,i,k,ht,hl=>by
  rw[cS]at hl
  have fG:=(cE hm).lo
  show cf (eW m b (dv m x t i b) (i+1) a) k=_
  rw[HZ hm b a _ (i+1) k (vi hm x b t i ht) (by rw[vh];omega),HX hm x b t i k ht (by omega),p9]
  congr 1
  by_cases h1:k<i
  ·rw[if_pos h1,if_pos (by omega),if_pos h1,iU (by omega)]
  ·rw[if_neg h1,if_neg h1]
   by_cases h2:k=i
   ·subst h2
    rw[if_pos (by omega),vZ];rfl
   ·rw[if_neg (by omega),show k-i=(k-(i+1))+1 by omega];rfl
theorem Vf(n k:Nat):cf (aT n 0) k=0:=by
 unfold cf
 rw[bg,vO]
 split<;>rfl
theorem Ia{m:Bool × Nat}(hm:m∈aI)(a b:List Nat)(k:Nat):cf (kI m a b) k=mB m b a k:=by
 unfold kI
 rw[kJ]
 unfold kH
 rw[HZ hm b a _ 0 k (vj hm _) (by rw[qD];omega),Vf,if_neg (Nat.not_lt_zero k),y0,iU (HY hm b a k)]
theorem Vg{m:Bool × Nat}(hm:m∈aI)(a b:List Nat)(k:Nat):cf (jE (gp m) a b) k=gp m (cf a k) (cf b k):=by
 have fG:=(cE hm).lo
 have pd:∀(l:List Nat) (n:Nat),cf (iV l n) k=cf l k:=λl n=>by
  unfold iV
  by_cases h:k<l.length
  ·unfold cf
   rw[bg,vP h,bg]
  ·rw[jF (show l.length<=k by omega)]
   unfold cf
   rw[bg,vN (by omega)]
   exact(by rw[vO];split<;>rfl)
 by_cases h:k<max a.length b.length
 ·unfold jE
  have e1:=pd a (max a.length b.length)
  have e2:=pd b (max a.length b.length)
  unfold cf at e1 e2 ⊢
  have l1:=vm (Dw a.length b.length)
  have l2:=vm (Nat.le_max_right a.length b.length)
  rw[bg,a9 (by omega)]at e1 e2
  rw[bg,List.getElem?_zipWith,a9 (by omega),a9 (by omega)]
  have e1:(iV a (max a.length b.length))[k]=a.getD k 0:=e1
  have e2:(iV b (max a.length b.length))[k]=b.getD k 0:=e2
  show gp m _ _=_
  rw[e1,e2]
 ·rw[jF (by rw[x8];omega),jF (by omega),jF (by omega),iU (by omega)]
end L3
namespace L3
open PySem L2 PySem.Spec PyProof.Rows
section
variable{B:Bs}{F H:Hp}{σ:L2.St}{δ:Dl}{ts ps:List (D × V)}{i k:Nat}{p q:Addr}{l1 l2 ys Fv:List D}{ws oU:List V}
end
section
variable{X:Cx}{F H:Hp}{e b:Expr}{pos p p2 p3 pr apos aP xp:Pos}{t ti te:aw}{x y:Str}{i j:Nat}
end
end L3
namespace L3
structure Rg(N:Nat)(p q:Nat->Nat->Nat):Prop where
 pc:∀a b,p a b=p b a
 pa:∀a b c,p (p a b) c=p a (p b c)
 mc:∀a b,q a b=q b a
 ma:∀{a b c},a<N->b<N->c<N->q (q a b) c=q a (q b c)
 dl:∀a b c,q a (p b c)=p (q a b) (q a c)
 z:∀{a},a<N->p 0 a=a
 qz:∀a,q a 0=0
 one:∀{a},a<N->q 1 a=a
 lp:∀{a b},a<N->b<N->p a b<N
 lq:∀a b,q a b<N
 ng:∀{a},a<N->∃b,b<N/\p a b=0
section
variable{N:Nat}{p q:Nat->Nat->Nat}
noncomputable def sm(p:Nat->Nat->Nat):Nat->(Nat->Nat)->Nat
 | 0,_=>0
 | n+1,f=>p (sm p n f) (f n)
theorem Rg.pos(r:Rg N p q):0<N:=kS (ij _) (r.lq 0 0)
theorem Rg.z'(r:Rg N p q){a:Nat}(h:a<N):p a 0=a:=by rw[r.pc];exact r.z h
theorem Rg.Vh(r:Rg N p q){a b c:Nat}(ha:a<N)(hb:b<N)(hc:c<N)(h:p a c=p b c):a=b:=by
 obtain⟨d,_,e⟩:=r.ng hc
 have:=congrArg (λx=>p x d) h
 simp only[r.pa,e]at this
 rw[r.z' ha,r.z' hb]at this
 exact this
theorem x9{f g:Nat->Nat}:∀{n:Nat},(∀j,j<n->f j=g j)->sm p n f=sm p n g
 | 0,_=>rfl
 | n+1,h=>by rw[sm,sm,x9 λj hj=>h j (by omega),h n (by omega)]
theorem Ib(r:Rg N p q){f:Nat->Nat}:∀{n:Nat},(∀j,j<n->f j<N)->sm p n f<N
 | 0,_=>r.pos
 | n+1,h=>r.lp (Ib r λj hj=>h j (by omega)) (h n (by omega))
theorem Ic(r:Rg N p q){f:Nat->Nat}:∀{n:Nat},(∀j,j<n->f j=0)->sm p n f=0
 | 0,_=>rfl
 | n+1,h=>by rw[sm,Ic r λj hj=>h j (by omega),h n (by omega)];exact r.z r.pos
theorem Rg.four(r:Rg N p q)(a b c d:Nat):p (p a b) (p c d)=p (p a c) (p b d):=by
 rw[r.pa,r.pa,<- r.pa b,<- r.pa c,r.pc b c]
theorem Ie(r:Rg N p q)(f g:Nat->Nat):∀n,sm p n (λj=>p (f j) (g j))=p (sm p n f) (sm p n g)
 | 0=>(r.z r.pos).symm
 | n+1=>by rw[sm,Ie r f g n,sm,sm,r.four]
theorem BM(r:Rg N p q)(c:Nat)(f:Nat->Nat):∀n,sm p n (λj=>q c (f j))=q c (sm p n f)
 | 0=>(r.qz c).symm
 | n+1=>by rw[sm,BM r c f n,sm,r.dl]
theorem Ig(r:Rg N p q){f:Nat->Nat}(n:Nat):∀k,(∀j,j<n+k->f j<N)->sm p (n+k) f=p (sm p n f) (sm p k λj=>f (n+j))
 | 0,h=>(r.z' (Ib r λj hj=>h j (by omega))).symm
 | k+1,h=>by
  rw[<-Dn,sm,Ig r n k λj hj=>h j (by omega),sm,r.pa]
theorem Vi(r:Rg N p q){f:Nat->Nat}(n:Nat)(h:∀j,j<n+1->f j<N):sm p (n+1) f=p (f 0) (sm p n λj=>f (j+1)):=by
 rw[vS n 1,Ig r 1 n λj hj=>h j (by omega)]
 show p (p 0 (f 0)) _=_
 rw[r.z (h 0 (by omega))]
 congr 1
 exact x9 λj _=>by rw[vS]
end
end L3
namespace L3
section
variable{N:Nat}{p q:Nat->Nat->Nat}
end
end L3
namespace L3
open PySem L2 Mf
theorem rg{m:Bool × Nat}(hm:m∈aI):Rg (ag m) (gp m) (gm m) where
 pc:=iT m
 pa:=p9 m
 mc:=iS m
 ma:=λ_ _ _=>kF (bR m hm) _ _ _
 dl:=λa b c=>HC (bR m hm) b c a
 z:=iU
 qz:=λa=>pZ m a (bR m hm)
 one:=Bz
 lp:=my hm
 lq:=fi hm
 ng:=λ{a} ha=>by
  have g:=x6 hm (a:=0) (b:=a) (by omega) ha
  exact⟨_,g.2.1,(iT m _ _).trans g.2.2⟩
theorem Vj{m:Bool × Nat}(hm:m∈aI)(f:Nat)(b:List Nat)(j:Nat):cf (b.map (gm m f)) j=gm m f (cf b j):=by
 unfold cf
 rw[bg,cW,bg]
 cases b[j]? with
 | none=>exact(pZ m f (bR m hm)).symm
 | some x=>rfl
end L3
namespace L3
open PySem L2 PySem.Spec PyProof.Rows
section
variable{X:Cx}{i j:Nat}{x y:Str}{p pos pos' apos aP:Pos}
end
section
variable{X:Cx}{e:Expr}{t:aw}{p pos:Pos}
end
section
variable{X:Cx}
end
end L3
namespace L3
open PySem L2 Mf
end L3
namespace L2
open PySem PySem.Spec PyProof.Rows
section
variable{X:Cx}{scope:Scope}{cl:List (Str × Addr)}
end
end L2
namespace L2
open PySem PySem.Spec PyProof.Rows
section
variable{X:Cx}{elt iter tg:Expr}{pos:Pos}{ifs:List Expr}{scope:Scope}{cl:List (Str × Addr)}{wi:TI}{tt:TT}{te:TE}{g:TG}
end
end L2
namespace L3
open PySem L2 PySem.Spec PyProof.Rows
section
variable{X:Cx}{elt iter tg:Expr}{pos:Pos}{ifs:List Expr}{scope:Scope}{cl:List (Str × Addr)}{ti:eo}{tt:dG}{te:aw}{g:dO}
end
end L3
namespace L3
open PySem L2 Mf
theorem lo1{m:Bool × Nat}(hm:m∈aI):1<ag m:=by have:=(cE hm).lo;omega
theorem Vk(f:Nat->Nat){w k:Nat}(h:k<w):cf ((bD w).map f) k=f k:=by
 unfold cf
 rw[bg,cW,qI h];rfl
end L3
namespace L3
open PySem L2 Mf
end L3
namespace L3
open PySem L2 PySem.Spec PyProof.Rows
section
variable{X:Cx}{F H:Hp}{e b:Expr}{pos pos' p p2 p3 apos aP:Pos}{ti te:aw}{x y:Str}{i j:Nat}
end
section
variable{X:Cx}
end
section
variable{X:Cx}{es:List Expr}{tr:a6}{pos:Pos}
end
end L3
namespace L3
open PySem L2 Mf
end L3
namespace L3
open PySem L2 Mf
end L3
namespace L3
open PySem L2 Mf
end L3
namespace L2
open PySem PySem.Spec PyProof.Rows
section
variable{X:Cx}
end
end L2
namespace L3
open PySem L2 PySem.Spec PyProof.Rows
section
variable{X:Cx}
end
end L3
namespace L2
open PySem PySem.Spec PyProof.Rows
section
variable{X:Cx}{a:Expr}{ta:TE}{p p2 pos dS:Pos}
noncomputable def Vl(ta:TE):TE:=λσ H Q=>ta σ H λv H1=>∃j:Nat,v=.int (j:Int)/\j<=1000/\∀l,H1 l=none->Q (.ref l) (upd H1 l (.lst ((bD j).map λ(k:Nat)=>V.int (k:Int))))
theorem Vm{n:Nat}{acc:Array Value}(h:ItemsOf (λ(i:Nat) (v:Value)=>∃t,v=kM ((0:Int)+(i:Int)*1) t) acc n):Vals ((bD n).map λ(k:Nat)=>V.int (k:Int)) acc.toList:=by
 have key:∀(l:List Value) (b:Nat),(∀(i:Nat) (v:Value),l[i]?=some v->∃t,v=kM ((b+i:Nat):Int) t)->Vals ((List.range' b l.length).map λ(k:Nat)=>V.int (k:Int)) l:=by
  intro l
  induction l with
  | nil=>exact λb _=>.nil
  | cons v l ih =>
   intro b hb
   rw[cS,List.range'_succ,cj]
   refine .cons ?_ (ih (b+1) λi v hv=>?_)
   ·obtain⟨t,rfl⟩:=hb 0 v rfl
    exact⟨t,rfl⟩
   ·obtain⟨t,e⟩:=hb (i+1) v (by simpa using hv)
    exact⟨t,by rw[e];congr 1;omega⟩
 have hl:acc.toList.length=n:=by rw[qA];exact h.1
 rw[List.range_eq_range',<- hl]
 refine key acc.toList 0 λi v hv=>?_
 obtain⟨t,e⟩:=h.2 i v (by simpa using hv)
 exact⟨t,by rw[e];congr 1;omega⟩
theorem Vn(hc:X.calm=true)(hg:Gl X "list")(hm:X.mg "list"=none)(kj:Gl X "range")(hW:X.mg "range"=none)(ha:PE X a ta)
  (hs:starEach [.Call (.Name "range" p2) [a] [] dS] X.env=(false,eval (.Call (.Name "range" p2) [a] [] dS) X.env)::starEach [] X.env:=by rfl) (aR:(backTo pos (starEach [] X.env)).any (·.1)=false:=by rfl)
  (cm:starEach [a] X.env=(false,eval a X.env)::starEach [] X.env:=by rfl) (BN:(backTo dS (starEach [] X.env)).any (·.1)=false:=by rfl) (vp:starEach [] X.env=[]:=by rfl) :
  PE X (.Call (.Name "list" p) [.Call (.Name "range" p2) [a] [] dS] [] pos) (Vl ta):=by
 intro pins s σ H Q I h
 refine wpAny_Call_Name_kw (je I hg hm wG ?_ (by decide) (by decide))
 refine mK ?_ hs aR
 rw[hs]
 show wpAny _ _ (spliced ((false,eval (.Call (.Name "range" p2) [a] [] dS) X.env)::backTo pos (starEach [] X.env))) _ _ s
 refine C7 ?_
 refine wpAny_Call_Name_kw (je I kj hW Qo ?_ (by decide) (by decide))
 refine mK ?_ cm BN
 rw[cm]
 show wpAny _ _ (spliced ((false,eval a X.env)::backTo dS (starEach [] X.env))) _ _ s
 refine C7 (aA (ha pins s σ H _ I h) λu s1 zz=>?_)
 obtain⟨x,H1,I1,r1,q1⟩:=zz
 obtain⟨j,rfl,hj,q⟩:=q1
 obtain⟨t,rfl⟩:=r1
 rw[vp]
 refine C6 ?_
 refine call_range_1 ?_
 refine C6 ?_
 have I2:Inv X pins σ H1 { s1 with heap:=s1.heap.push { cls:=.type "range",data:=.fields #[.int 0 s1.toks,.int j t,.int 1 (s1.toks+1)] },toks:=s1.toks+1+1 }:=I1.kept λb o e=>bU _ e
 refine call_list_range (n:=j) (I2.ok.hd hc) (IsRange.new ..) (small_one (by omega) (by omega) (by omega) (by omega)) (by rw[rangeSize_one];split<;>omega) (by omega) λh' tk Vo c' kp e uq=>?_
 have hv:=Vm uq
 exact⟨.ref _,_,I2.laid (t':=tk) kp (by omega) (show bq X.prog X.w _ h' _ (.lst _) from⟨by rw[cI,mS];have:=ny;unfold sizeLine;omega,Vo.toList,c',hv,by simpa using e⟩),rfl,q _ (I2.au.fresh (aZ _))⟩
end
end L2
namespace L3
open PySem L2 PySem.Spec PyProof.Rows
section
variable{X:Cx}{a:Expr}{t:aw}{p p2 pos dS:Pos}
noncomputable def qe(t:aw):aw:=λδ Q=>t δ λd ah=>∃j:Nat,d=.int (j:Int)/\j<=1000/\Q (.lst true (aN (bD j))) ah
theorem Vp(hc:X.calm=true)(hg:Gl X "list")(hm:X.mg "list"=none)(kj:Gl X "range")(hW:X.mg "range"=none)(ha:PE X a (lB t))
  (hs:starEach [.Call (.Name "range" p2) [a] [] dS] X.env=(false,eval (.Call (.Name "range" p2) [a] [] dS) X.env)::starEach [] X.env:=by rfl) (aR:(backTo pos (starEach [] X.env)).any (·.1)=false:=by rfl)
  (cm:starEach [a] X.env=(false,eval a X.env)::starEach [] X.env:=by rfl) (BN:(backTo dS (starEach [] X.env)).any (·.1)=false:=by rfl) (vp:starEach [] X.env=[]:=by rfl) :
  PE X (.Call (.Name "list" p) [.Call (.Name "range" p2) [a] [] dS] [] pos) (lE (qe t)) :=
 b8 (Vn hc hg hm kj hW ha hs aR cm BN vp) λσ H Q zq=>by
 obtain⟨B,F,δ,ts,Qd,c,q,k⟩:=zq
 exact⟨B,F,δ,ts,_,c,q,λd ah v F1 H1 q1 f1 h1 c1 s1=>by
  obtain⟨j,rfl,hj,hq⟩:=q1
  cases s1
  refine⟨j,rfl,hj,λl hl=>?_⟩
  have sn:∀ns:List Nat,S F1 H1 (aN ns) (ns.map λ(k:Nat)=>V.int (k:Int)):=λns=>by
   induction ns with
   | nil=>exact .nil
   | cons n ns ih=>exact .int ih
  exact k _ ah _ F1 _ hq f1 (h1.trans (ae.upd hl)) (c1.j5 hl (sn _) (pP _))⟩
end
end L3
namespace L3
open PySem L2 PySem.Spec PyProof.Rows
section
variable{F H:Hp}
end
section
variable{X:Cx}{e:Expr}{t:aw}{p2 pos:Pos}
end
end L3
namespace L3
open PySem L2 PySem.Spec PyProof.Rows
section
variable{F H:Hp}
end
section
variable{P:Program}{w:World}{K:PySem.W.Frag}{mg:Str->Option Value}{base:Heap}
end
section
variable{X:Cx}{CX:cn}{n i:Nat}{f:Addr}{fd:FuncData}{ps:List Str}{sp:a7}{E:XK}{fn x:Str}{e:Expr}{te:aw}{p p2 pos pos' dS:Pos}
end
end L3
namespace L2
section
variable{α:Type}{P:List α->Prop}
theorem Vq(h:P []):∀us:List α,us.length=0->P us:=by
 intro us hl;rcases us with _ | ⟨a,t⟩
 ·exact h
 ·cases hl
theorem BO(h:∀a,P [a]):∀us:List α,us.length=1->P us:=by
 intro us hl;rcases us with _ | ⟨a,t⟩
 ·cases hl
 ·exact Vq (P:=λt=>P (a::t)) (h a) t (Dx hl)
theorem BP(h:∀a b,P [a,b]):∀us:List α,us.length=2->P us:=by
 intro us hl;rcases us with _ | ⟨a,t⟩
 ·cases hl
 ·exact BO (P:=λt=>P (a::t)) (h a) t (Dx hl)
theorem Ih(h:∀a b c,P [a,b,c]):∀us:List α,us.length=3->P us:=by
 intro us hl;rcases us with _ | ⟨a,t⟩
 ·cases hl
 ·exact BP (P:=λt=>P (a::t)) (h a) t (Dx hl)
end
end L2
namespace L3
open PySem L2 PySem.Spec PyProof.Rows
section
variable{B:Bs}{F H:Hp}{σ:L2.St}{δ:Dl}{ts:List (D × V)}
theorem BQ{α β:Type}(f:α->β):∀(l:List α) (z:Nat),(l.map f).eraseIdx z=(l.eraseIdx z).map f
 | [],_=>rfl
 | _::_,0=>rfl
 | a::l,z+1=>congrArg (f a :: ·) (BQ f l z)
theorem Ii(F H:Hp):∀ns:List Int,R F H (aD ns) (ns.map V.int) []
 | []=>.nil
 | _::ns=>.int (Ii F H ns)
end
section
variable{X:Cx}{elt iter tg:Expr}{pos:Pos}{scope:Scope}{cl:List (Str × Addr)}{ti:eo}{te:aw}{g:dO}
end
end L3
namespace L2
open PySem PySem.Spec PyProof.Rows
section
variable{X:Cx}
end
end L2
namespace L3
open PySem L2 PySem.Spec PyProof.Rows
section
variable{X:Cx}
end
end L3
namespace L3
open PySem L2 Mf
end L3
namespace L3
open PySem L2 Mf
section
variable{m:Bool × Nat}{C:Nat->Nat->Nat}{w:Nat}
end
end L3
namespace L3
open PySem L2 Mf
section
variable{m:Bool × Nat}{C:Nat->Nat->Nat}{w:Nat}
end
end L3
namespace L3
open PySem L2 Mf
section
variable{m:Bool × Nat}{C:Nat->Nat->Nat}
end
end L3
namespace L3
open PySem L2 PySem.Spec PyProof.Rows
section
variable{B:Bs}{F H:Hp}{σ:L2.St}{δ:Dl}{ts:List (D × V)}
end
section
variable{X:Cx}{a:Expr}{ta:aw}{pos p2:Pos}{tk:Nat}
end
end L3
namespace L3
open PySem L2 PySem.Spec PyProof.Rows
section
variable{X:Cx}{a b:Expr}{ta tb:aw}{elts:List Expr}{x1:Nat}{gY p pos:Pos}
end
end L3
namespace L3
open PySem L2 Mf
section
variable{m:Bool × Nat}
end
end L3
namespace L3
open PySem L2 PySem.Spec PyProof.Rows
section
variable{B:Bs}{F H:Hp}{σ:L2.St}{δ:Dl}{ts ps:List (D × V)}{p:Addr}
end
section
variable{X:Cx}{iter tg:Expr}{te:aw}{g:dO}{t:bw}{pos:Pos}
end
section
variable{X:Cx}{e:Expr}{pos p pr apos aP xp tp:Pos}{t:aw}{x y:Str}{i j:Nat}{n0:Int}
end
end L3
namespace L2
open PySem PySem.Spec PyProof.Rows
section
variable{prog:Program}{w:World}{A:Around}{E:Value->Shared->Prop}{s:Shared}
end
section
variable{prog:Program}{w:World}{A:Around}{E:Value->Shared->Prop}{s:Shared}
end
section
variable{X:Cx}{pins:List (Addr × Obj)}{σ:St}{H:Hp}{s:Shared}
end
section
variable{X:Cx}{a b:Expr}{ta:TA}{p pos gY:Pos}{elts:List Expr}{x1:Nat}
end
end L2
namespace L3
open PySem L2 PySem.Spec PyProof.Rows
section
variable{F H:Hp}{p q:Addr}{xs ys:List D}{ws us:List V}
end
section
variable{X:Cx}{a b l tg:Expr}{ta:a6}{te:aw}{p pos gY:Pos}{elts:List Expr}{x1:Nat}
end
end L3
namespace L3
open PySem L2 Mf
section
variable{m:Bool × Nat}
theorem Vr(l:List Nat):bx (bx l)=bx l:=HW λk=>kJ l k
end
end L3
namespace L3
open PySem L2 PySem.Spec PyProof.Rows
section
variable{B:Bs}{F H:Hp}{σ:L2.St}{δ:Dl}{ts:List (D × V)}
end
section
variable{X:Cx}{a:Expr}{ta:aw}{pos p2:Pos}{tk:Nat}
end
end L3
namespace L2
open PySem PySem.Spec PyProof.Rows
end L2
namespace L2
open PySem PySem.Spec PyProof.Rows
section
variable{prog:Program}{w:World}{A:Around}{E:Value->Shared->Prop}{s:Shared}
end
end L2
namespace L2
open PySem PySem.Spec PyProof.Rows
section
variable{prog:Program}{w:World}{A:Around}{R:Result->Shared->Prop}{I:Addr}{fp wr:List Addr}{G:Array GenState->Array GenState->Prop}{n:Nat}{P:Nat->Value->Prop}{St:Nat->Shared->Prop}
end
section
variable{prog:Program}{w:World}{A:Around}{E:Value->Shared->Prop}{s:Shared}
end
end L2
namespace L2
open PySem PySem.Spec PyProof.Rows
section
variable{prog:Program}{w:World}{A:Around}{E:Value->Shared->Prop}{s:Shared}
end
end L2
namespace L2
open PySem PySem.Spec PyProof.Rows
section
variable{prog:Program}{w:World}{A:Around}{E:Value->Shared->Prop}{s:Shared}
end
end L2
namespace L2
open PySem PySem.Spec PyProof.Rows
section
variable{prog:Program}{w:World}{A:Around}{E:Value->Shared->Prop}{s:Shared}
end
end L2
namespace L2
open PySem PySem.Spec PyProof.Rows
section
variable{prog:Program}{w:World}{A:Around}{E:Value->Shared->Prop}{s:Shared}
end
end L2
namespace L2
open PySem PySem.Spec PyProof.Rows
section
variable{prog:Program}{w:World}{A:Around}{E:Value->Shared->Prop}{s:Shared}
end
end L2
namespace L2
open PySem PySem.Spec PyProof.Rows
section
variable{prog:Program}{w:World}{A:Around}{E:Value->Shared->Prop}{s:Shared}
end
end L2
namespace L2
open PySem PySem.Spec PyProof.Rows
section
variable{prog:Program}{w:World}{A:Around}{E:Value->Shared->Prop}{s:Shared}
end
end L2
namespace L2
open PySem PySem.Spec PyProof.Rows
section
variable{prog:Program}{w:World}{A:Around}{E:Value->Shared->Prop}{s:Shared}
end
end L2
namespace L2
open PySem PySem.Spec PyProof.Rows
section
variable{prog:Program}{w:World}{A:Around}{E:Value->Shared->Prop}{s:Shared}
end
section
variable{X:Cx}
end
end L2
namespace L3
open PySem L2 PySem.Spec PyProof.Rows
section
variable{X:Cx}{e:Expr}{tr:a6}{p p2 pos dS:Pos}
end
end L3
namespace L3
open PySem L2 Mf
end L3
namespace L2
open PySem PySem.Spec PyProof.Rows
section
variable{X:Cx}
end
end L2
namespace L3
open PySem L2 PySem.Spec PyProof.Rows
section
variable{X:Cx}{o e:Expr}{t tb:aw}{apos aP:Pos}
end
section
variable{X:Cx}{i:Nat}{x:Str}{p pos apos aP Tf dS:Pos}{a b:List Stmt}{t u:bw}{k:Int}{j}
end
end L3
namespace L3
open PySem L2 Mf
section
variable{N:Nat}{p q:Nat->Nat->Nat}
noncomputable def jG(p q:Nat->Nat->Nat)(n:Nat)(f:Nat->Nat):Nat->Nat
 | 0=>q (f 0) n
 | k+1=>p (q (f (k+1)) n) (f k)
theorem p4(r:Rg N p q)(a b c d:Nat):p (p a b) (p c d)=p (p a c) (p b d):=by rw[r.pa,r.pa,<- r.pa b,r.pc b c,r.pa c]
theorem Rg.dr(r:Rg N p q)(a b c:Nat):q (p a b) c=p (q a c) (q b c):=by rw[r.mc,r.dl,r.mc c,r.mc c]
theorem Ij(r:Rg N p q){n:Nat}{f:Nat->Nat}(hf:∀k,f k<N):∀k,jG p q n f k<N
 | 0=>r.lq _ _
 | _+1=>r.lp (r.lq _ _) (hf _)
theorem q3(r:Rg N p q){a b c:Nat}(ha:a<N)(hb:b<N)(hc:c<N):q (q a b) c=q (q a c) b:=by rw[r.ma ha hb hc,r.mc b c,r.ma ha hc hb]
theorem Vs(r:Rg N p q){n n':Nat}{f:Nat->Nat}(hn:n<N)(ja:n'<N)(hf:∀k,f k<N):jG p q n (jG p q n' f)=jG p q n' (jG p q n f):=funext λk=>by
 cases k with
 | zero=>exact q3 r (hf 0) ja hn
 | succ k =>
  cases k with
  | zero =>
   show p (q (p (q (f 1) n') (f 0)) n) (q (f 0) n')=p (q (p (q (f 1) n) (f 0)) n') (q (f 0) n)
   rw[r.dr,r.dr,q3 r (hf 1) ja hn,r.pa,r.pa,r.pc (q (f 0) n)]
  | succ k =>
   show p (q (p (q (f (k+2)) n') (f (k+1))) n) (p (q (f (k+1)) n') (f k))=p (q (p (q (f (k+2)) n) (f (k+1))) n') (p (q (f (k+1)) n) (f k))
   rw[r.dr,r.dr,q3 r (hf _) ja hn,p4 r,p4 r (q (q (f (k+2)) n) n')]
noncomputable def ie(p q:Nat->Nat->Nat)(ng:Nat->Nat)(c:Nat):List Nat->Nat->Nat
 | []=>λk=>if k=0 then c else 0
 | s::S=>jG p q (ng s) (ie p q ng c S)
variable{ng:Nat->Nat}{c:Nat}
theorem BR(r:Rg N p q)(hc:c<N):∀(S:List Nat) k,ie p q ng c S k<N
 | [],k=>by
  show(if k=0 then c else 0)<N
  split
  ·exact hc
  ·exact r.pos
 | _::S,k=>Ij r (BR r hc S) k
theorem Vt(r:Rg N p q)(hc:c<N)(hn:∀s,ng s<N){S S':List Nat}(h:S.Perm S'):ie p q ng c S=ie p q ng c S':=by
 induction h with
 | nil=>rfl
 | cons x _ ih=>show jG p q (ng x) _=jG p q (ng x) _;rw[ih]
 | swap x y l=>exact Vs r (hn _) (hn _) (BR r hc l)
 | trans _ _ a b=>exact a.trans b
theorem vq(r:Rg N p q):∀(S:List Nat) k,S.length<k->ie p q ng c S k=0
 | [],k,h=>if_neg (by simp at h;omega)
 | s::S,0,h=>absurd h (by simp)
 | s::S,k+1,h=>by
  rw[cS]at h
  show p (q (ie p q ng c S (k+1)) (ng s)) (ie p q ng c S k)=0
  rw[vq r S (k+1) (by omega),vq r S k (by omega),r.mc,r.qz,r.z r.pos]
theorem Ik(r:Rg N p q)(hc:c<N):∀S:List Nat,ie p q ng c S S.length=c
 | []=>rfl
 | s::S=>by
  show p (q (ie p q ng c S (S.length+1)) (ng s)) (ie p q ng c S S.length)=c
  rw[vq r S (S.length+1) (by omega),Ik r hc S,r.mc,r.qz,r.z hc]
end
section
variable{m:Bool × Nat}
theorem BS(hm:m∈aI){s:Nat}(hs:s<ag m):jD m 0 s<ag m/\gp m (jD m 0 s) s=0:=by
 have:=x6 hm (a:=0) (b:=s) (by omega) hs
 exact⟨this.2.1,this.2.2⟩
noncomputable def fX(m:Bool × Nat)(s:Nat):Nat:=if s<ag m then jD m 0 s else 0
theorem ya(hm:m∈aI)(s:Nat):fX m s<ag m:=by
 unfold fX
 split
 ·exact(BS hm ‹_›).1
 ·exact(rg hm).pos
theorem Il{s:Nat}(hs:s<ag m):fX m s=jD m 0 s:=if_pos hs
theorem Vu(hm:m∈aI){s x:Nat}(hs:s<ag m)(hx:x<ag m):gp m (fX m s) x=0↔x=s:=by
 have h:=(BS hm hs).2
 rw[Il hs]
 refine⟨λe=>?_,λe=>e ▸ h⟩
 refine(rg hm).Vh hx hs (BS hm hs).1 ?_
 rw[iT,e,iT,h]
noncomputable abbrev PF(m:Bool × Nat)(c:Nat)(S:List Nat):Nat->Nat:=ie (gp m) (gm m) (fX m) c S
theorem yb(hm:m∈aI){n:Nat}(hn:n<ag m):∀{L:List Nat},AllLt (ag m) L->∀k,mB m [n,1] L k=jG (gp m) (gm m) n (cf L) k
 | [],_,0=>by
  show 0=gm m 0 n
  rw[ib m _ (bR m hm)]
 | [],_,k+1=>by
  show 0=gp m (gm m 0 n) 0
  rw[ib m _ (bR m hm),iU (rg hm).pos]
 | x::L,h,0=>by
  show gp m (gm m x n) 0=gm m x n
  exact sH (fi hm _ _)
 | x::L,h,1=>by
  show gp m (gm m x 1) (mB m [n,1] L 0)=gp m (gm m (cf L 0) n) x
  rw[vd (h x (by simp)),yb hm hn (λa ha=>h a (by simp[ha])) 0,iT];rfl
 | x::L,h,k+2=>by
  show gp m (gm m x (cf [n,1] (k+2))) (mB m [n,1] L (k+1))=gp m (gm m (cf L (k+1)) n) (cf L k)
  rw[show cf [n,1] (k+2)=0 from rfl,pZ m _ (bR m hm),yb hm hn (λa ha=>h a (by simp[ha])) (k+1),iU (Ij (rg hm) (vo hm λa ha=>h a (by simp[ha])) _)];rfl
theorem Im(hm:m∈aI){x:Nat}{l l':List Nat}(h:∀k,cf l k=cf l' k):aO m x l=aO m x l':=by rw[<-x4 hm,HW h,x4 hm]
theorem Vv(hm:m∈aI){n x:Nat}(hn:n<ag m)(hx:x<ag m){L Q:List Nat}(hQ:AllLt (ag m) Q)(h:∀k,cf L k=jG (gp m) (gm m) n (cf Q) k):aO m x L=gm m (aO m x Q) (gp m n x):=by
 have lo:=lo1 hm
 rw[Im hm (l':=kI m Q [n,1]) λk=>by rw[h k,Ia hm,yb hm hn hQ],U3 hm x Q [n,1] hQ (λa ha=>by
  simp only[bE,iq,or_false]at ha
  rcases ha with rfl | rfl
  ·exact hn
  ·exact lo)]
 congr 1
 show gp m (gm m (gp m (gm m 0 x) 1) x) n=gp m n x
 rw[ib m _ (bR m hm),iU lo,Bz hx,iT]
noncomputable def mC(m:Bool × Nat)(c:Nat)(S:List Nat):List Nat:=(bD (S.length+1)).map (PF m c S)
theorem BU(hm:m∈aI)(c:Nat)(S:List Nat)(k:Nat):cf (mC m c S) k=PF m c S k:=by
 by_cases h:k<S.length+1
 ·exact Vk _ h
 ·rw[jF (by unfold mC;rw[cI,mS];omega)]
  exact(vq (rg hm) S k (by omega)).symm
theorem Vw(hm:m∈aI){c:Nat}(hc:c<ag m)(S:List Nat):AllLt (ag m) (mC m c S):=λa ha=>by
 obtain⟨k,_,rfl⟩:=c9.mp ha
 exact BR (rg hm) hc S k
theorem Io(hm:m∈aI){c x:Nat}(hc:c<ag m)(c0:c≠0)(hx:x<ag m):∀{S:List Nat},(∀s∈S,s<ag m)->(aO m x (mC m c S)=0↔x∈S)
 | [],_=>by
  show gp m (gm m 0 x) c=0↔_
  rw[ib m _ (bR m hm),iU hc]
  simp[c0]
 | s::S,h=>by
  have hs:=h s (by simp)
  have ih:=Io hm hc c0 hx (S:=S) λa ha=>h a (by simp[ha])
  have lS:=Vw hm hc S
  have hl:=mz hm x lS
  have ga:=my hm (ya hm s) hx
  rw[Vv hm (Q:=mC m c S) (ya hm s) hx lS λk=>by rw[BU hm,show cf (mC m c S)=_ from funext (BU hm c S)];rfl]
  rw[bE,<- ih,<- Vu hm hs hx]
  constructor
  ·intro e
   by_cases h1:aO m x (mC m c S)=0
   ·exact .inr h1
   ·by_cases h2:gp m (fX m s) x=0
    ·exact .inl h2
    ·exact absurd e (UR hm (by omega) hl (by omega) ga)
  ·rintro (e | e)
   ·rw[e,pZ m _ (bR m hm)]
   ·rw[e,ib m _ (bR m hm)]
theorem Ip(hm:m∈aI){c x:Nat}(hc:c<ag m)(c0:c≠0)(hx:x<ag m){S L:List Nat}(hS:∀s∈S,s<ag m)(h:∀k,cf L k=PF m c S k):aO m x L=0↔x∈S:=by
 rw[Im hm (l':=mC m c S) λk=>by rw[h k,BU hm]]
 exact Io hm hc c0 hx hS
theorem Vx{l:List Nat}{d:Nat}(h1:cf l d≠0)(h2:∀k,d<k->cf l k=0):(bx l).length=d+1:=by
 have e1:=kJ l
 rcases BE l with h | h
 ·refine absurd (e1 d ▸ h1) ?_
  rw[jF (by omega)];simp
 ·have a:¬ (bx l).length<=d:=λz=>h1 (by rw[<-e1 d];exact jF z)
  have b:¬ d+1<(bx l).length:=λz=>h (by
   have:=e1 ((bx l).length-1)
   rw[h2 _ (by omega)]at this
   exact this)
  omega
theorem yc(hm:m∈aI)(x:Nat):∀{l:List Nat},AllLt (ag m) l->∀n,l.length<=n->aO m x l=sm (gp m) n λk=>gm m (cf l k) (px m x k)
 | [],_,n,_=>(Ic (rg hm) λj _=>by rw[show cf [] j=0 from rfl,ib m _ (bR m hm)]).symm
 | a::l,h,0,hn=>by simp at hn
 | a::l,h,n+1,hn=>by
  have hl:AllLt (ag m) l:=λb hb=>h b (by simp[hb])
  rw[Vi (rg hm) n λ_ _=>fi hm _ _]
  show gp m (gm m (aO m x l) x) a=gp m (gm m a 1) (sm (gp m) n λj=>gm m (cf l j) (gm m (px m x j) x))
  rw[vd (h a (by simp)),iT,yc hm x hl n (by simpa using hn),iS m _ x,<- BM (rg hm)]
  congr 1
  exact x9 λj _=>by rw[iS m x,kF (bR m hm)]
end
end L3
namespace L2
open PySem PySem.Spec PyProof.Rows
section
variable{prog:Program}{w:World}{A:Around}{E:Value->Shared->Prop}{s:Shared}
end
section
variable{X:Cx}{e:Expr}{ta:TA}{p p2 pos dS:Pos}
end
end L2
namespace L3
open PySem L2 PySem.Spec PyProof.Rows
section
variable{X:Cx}{e:Expr}{tr:a6}{p p2 pos dS:Pos}
end
end L3
namespace L2
open PySem PySem.Spec PyProof.Rows
section
variable{κ:Type}[DecidableEq κ]
noncomputable def dw(aj:List (κ × V))(k:κ):Option V:=(aj.find? λkv=>decide (kv.1=k)).map (·.2)
noncomputable def fY(aj:List (κ × V))(k:κ)(v:V):List (κ × V) :=
 if(aj.any λkv=>decide (kv.1=k))=true then aj.map (λkv=>if kv.1=k then(kv.1,v)else kv)else aj++[(k,v)]
theorem iW{p:κ × V}{r:List (κ × V)}{k:κ}(e:p.1=k):dw (p::r) k=some p.2:=by simp[dw,tw,e]
theorem iX{p:κ × V}{r:List (κ × V)}{k:κ}(e:¬ p.1=k):dw (p::r) k=dw r k:=by simp[dw,tw,e]
theorem yd(k:κ):∀aj:List (κ × V),(aj.any λkv=>decide (kv.1=k))=(dw aj k).isSome
 | []=>rfl
 | p::r=>by
  rw[Dy]
  by_cases e:p.1=k
  ·simp only[iW e,decide_eq_true e,qN,Option.isSome_some]
  ·rw[iX e,decide_eq_false e,qO];exact yd k r
theorem Iq(k j:κ)(y:V):∀aj:List (κ × V),dw (aj.map λkv=>if kv.1=k then(kv.1,y)else kv) j=(dw aj j).map λx=>if j=k then y else x
 | []=>rfl
 | p::r=>by
  have ih:=Iq k j y r
  rw[cj]
  by_cases h:p.1=k
  ·rw[if_pos h]
   by_cases e:p.1=j
   ·rw[iW (p:=(p.1,y)) e,iW e,jS,if_pos (e.symm.trans h)]
   ·rw[iX (p:=(p.1,y)) e,iX e,ih]
  ·rw[if_neg h]
   by_cases e:p.1=j
   ·rw[iW (p:=p) e,iW e,jS,if_neg (λz=>h (e.trans z))]
   ·rw[iX (p:=p) e,iX e,ih]
theorem Ir(k j:κ)(y:V):∀aj:List (κ × V),dw aj k=none->dw (aj++[(k,y)]) j=if j=k then some y else dw aj j
 | [],_=>by
  by_cases e:k=j
  ·rw[if_pos e.symm];exact iW (p:=(k,y)) e
  ·rw[if_neg (λz=>e z.symm)];exact iX (p:=(k,y)) e
 | p::r,hn=>by
  rw[mV]
  have hk:¬ p.1=k:=λz=>by rw[iW z]at hn;cases hn
  rw[iX hk]at hn
  have ih:=Ir k j y r hn
  by_cases e:p.1=j
  ·rw[iW e,iW e,if_neg (λz=>hk (e.trans z))]
  ·rw[iX e,iX e,ih]
theorem Vy(aj:List (κ × V))(k j:κ)(y:V):dw (fY aj k y) j=if j=k then some y else dw aj j:=by
 unfold fY
 by_cases a:(aj.any λkv=>decide (kv.1=k))=true
 ·rw[if_pos a,Iq]
  rw[yd]at a
  by_cases e:j=k
  ·obtain⟨x,hx⟩:=sU.mp a
   rw[if_pos e,e,hx,jS,if_pos rfl]
  ·rw[if_neg e]
   cases dw aj j with
   | none=>rfl
   | some x=>rw[jS,if_neg e]
 ·rw[if_neg a]
  refine Ir k j y aj ?_
  rw[yd]at a
  cases q:dw aj k with
  | none=>rfl
  | some x=>rw[q]at a;exact(a rfl).elim
theorem BV(aj:List (κ × V))(k:κ)(v:V):(fY aj k v).length<=aj.length+1:=by
 unfold fY
 split
 ·rw[cI];omega
 ·rw[gO,cS,mX];omega
theorem ft.Iu{o:Option V}{u:Option Value}(r:ft o u):o.isSome=u.isSome:=by
 cases o with
 | none=>cases u with
  | none=>rfl
  | some _=>exact(show False from r).elim
 | some _=>cases u with
  | none=>exact(show False from r).elim
  | some _=>rfl
theorem KV.val{aj:List (κ × V)}{vs:List (κ × Value)}(r:KV aj vs)(k:κ):ft (dw aj k) (valueAt vs k):=by
 unfold KV at r
 induction r with
 | nil=>exact iY
 | @cons p q ps qs h t ih =>
  obtain⟨h1,h2⟩:=h
  by_cases e:p.1=k
  ·have e':q.1=k:=h1.symm.trans e
   have b:valueAt (q::qs) k=some q.2:=by simp[valueAt,tw,e']
   rw[iW e,b];exact h2
  ·have e':¬ q.1=k:=λz=>e (h1.trans z)
   have b:valueAt (q::qs) k=valueAt qs k:=by simp[valueAt,tw,e']
   rw[iX e,b];exact ih
theorem KV.any{aj:List (κ × V)}{vs:List (κ × Value)}(r:KV aj vs)(k:κ):(aj.any λkv=>decide (kv.1=k))=vs.any λkv=>decide (kv.1=k):=by
 unfold KV at r
 induction r with
 | nil=>rfl
 | cons h t ih=>rw[Dy,Dy,ih,h.1]
theorem KV.BW{aj:List (κ × V)}{vs:List (κ × Value)}(r:KV aj vs)(k:κ){y:V}{u:Value}(ry:RelV y u) :
  KV (aj.map λkv=>if kv.1=k then(kv.1,y)else kv) (vs.map λkv=>if kv.1=k then(kv.1,u)else kv):=by
 unfold KV at r ⊢
 induction r with
 | nil=>exact .nil
 | @cons p q ps qs h t ih =>
  rw[cj,cj]
  refine .cons ?_ ih
  obtain⟨h1,h2⟩:=h
  by_cases e:p.1=k
  ·rw[if_pos e,if_pos (h1.symm.trans e)];exact⟨h1,ry⟩
  ·rw[if_neg e,if_neg (λz=>e (h1.trans z))];exact⟨h1,h2⟩
theorem KV.put{aj:List (κ × V)}{vs:List (κ × Value)}(r:KV aj vs)(k:κ){y:V}{u:Value}(ry:RelV y u):KV (fY aj k y) (stored vs k u):=by
 unfold fY stored
 rw[r.any k]
 by_cases e:(vs.any λkv=>decide (kv.1=k))=true
 ·rw[if_pos e,if_pos e];exact r.BW k ry
 ·rw[if_neg e,if_neg e];exact Paired.snoc r ⟨rfl,ry⟩
theorem KV.length{aj:List (κ × V)}{vs:List (κ × Value)}(r:KV aj vs):aj.length=vs.length:=Paired.length r
end
theorem BX{P:Program}{w:World}{k:Key}{u:Value}(r:RelV (kV k) u):(gj P w).is k u=true:=by
 cases k with
 | inl i=>obtain⟨t,e⟩:=(show ∃t,u=kM i t from r);subst e;exact MV P w i t
 | inr x=>obtain⟨t,e⟩:=(show ∃t,u=vH x t from r);subst e;exact MW P w x t
theorem Iw{P:Program}{w:World}:∀{ks:List Key} {us:List Value},Vals (ks.map kV) us->ItemsAre (gj P w) ks us
 | [],_,r=>by rw[jO]at r;cases r;exact .nil
 | k::ks,_,r=>by
  rw[cj]at r
  cases r with
  | cons h t=>exact .cons (BX h) (Iw t)
noncomputable abbrev KT(H:Hp):List (List Key × V)->List (List Key × Addr × Value)->Prop:=Paired λp q=>p.1=q.1/\H q.2.1=some (.tup (p.1.map kV))/\RelV p.2 q.2.2
theorem KT.val{H:Hp}{aj:List (List Key × V)}{xs:List (List Key × Addr × Value)}(r:KT H aj xs)(k:List Key):ft (dw aj k) ((atKey xs k).map (·.2)):=by
 induction r with
 | nil=>exact iY
 | @cons p q ps qs h t ih =>
  obtain⟨h1,_,h2⟩:=h
  by_cases e:p.1=k
  ·have e':q.1=k:=h1.symm.trans e
   have b:atKey (q::qs) k=some q.2:=by simp[atKey,tw,e']
   rw[iW e,b];exact h2
  ·have e':¬ q.1=k:=λz=>e (h1.trans z)
   have b:atKey (q::qs) k=atKey qs k:=by simp[atKey,tw,e']
   rw[iX e,b];exact ih
theorem KT.BW{H:Hp}{aj:List (List Key × V)}{xs:List (List Key × Addr × Value)}(r:KT H aj xs)(k:List Key){y:V}{u:Value}(ry:RelV y u) :
  KT H (aj.map λkv=>if kv.1=k then(kv.1,y)else kv) (xs.map (putAt k u)):=by
 induction r with
 | nil=>exact .nil
 | @cons p q ps qs h t ih =>
  rw[cj,cj]
  refine .cons ?_ ih
  obtain⟨h1,h2,h3⟩:=h
  unfold putAt
  by_cases e:p.1=k
  ·rw[if_pos e,if_pos (h1.symm.trans e)];exact⟨h1,h2,ry⟩
  ·rw[if_neg e,if_neg (λz=>e (h1.trans z))];exact⟨h1,h2,h3⟩
theorem KT.put{H:Hp}{aj:List (List Key × V)}{xs:List (List Key × Addr × Value)}(r:KT H aj xs)(k:List Key){b:Addr}{y:V}{u:Value}(hb:H b=some (.tup (k.map kV)))(ry:RelV y u) :
  KT H (fY aj k y) (storedH xs k b u):=by
 have e:(aj.any λkv=>decide (kv.1=k))=(atKey xs k).isSome:=by
  rw[yd,(r.val k).Iu,Option.isSome_map]
 unfold fY storedH
 rw[e]
 by_cases q:(atKey xs k).isSome=true
 ·rw[if_pos q,if_pos q];exact r.BW k ry
 ·rw[if_neg q,if_neg q];exact Paired.snoc r ⟨rfl,hb,ry⟩
theorem KT.keeps{H H':Hp}{aj:List (List Key × V)}{xs:List (List Key × Addr × Value)}(r:KT H aj xs)(ht:∀b ys,H b=some (.tup ys)->H' b=some (.tup ys)):KT H' aj xs :=
 Paired.wa r λ_ _ z=>⟨z.1,ht _ _ z.2.1,z.2.2⟩
section
variable{P:Program}{w:World}{H:Hp}{h:Heap}{a:Addr}
theorem Iy{u:HO}(ok:bA P w H h)(e:Rd H a u):bq P w H h a u:=e.ok ok
theorem Vz{aj:List (Key × V)}(ok:bA P w H h)(e:Rd H a (.dK aj)):aj.length<=sizeLine/\(a==sysModules)=false/\∃vs,KV aj vs/\h.DictOf (gj P w) a vs :=
 show bq P w H h a (.dK aj) from Iy ok e
theorem BY{aj:List (Key × V)}(ok:bA P w H h)(e:H a=some (.dK aj)):aj.length<=sizeLine/\(a==sysModules)=false/\∃vs,KV aj vs/\h.DictOf (gj P w) a vs:=Vz ok (.inl e)
theorem Iz{ks:List Key}(ok:bA P w H h)(e:H a=some (.tup (ks.map kV))):(tupleKind (gj P w)).is h ks a:=by
 obtain⟨_,its,r,o,h1,h2,n,h3⟩:=(show bq P w H h a (.tup (ks.map kV)) from ok a _ e)
 exact⟨o,its.toArray,n,h1,h2,h3,by simpa using Iw r⟩
theorem VA{aj:List (List Key × V)}(ok:bA P w H h)(e:Rd H a (.dT aj)):aj.length<=sizeLine/\(a==sysModules)=false /\
  ∃xs,KT H aj xs/\h.DictOfH (tupleKind (gj P w)) a xs:=by
 obtain⟨z,y,xs,r,o,es,ep,h1,h2,h3,h4,h5⟩:=(show bq P w H h a (.dT aj) from Iy ok e)
 refine⟨z,y,xs,r,o,es,ep,h1,h2,h3,h4,λx hx=>?_,h5⟩
 have all:∀{l:List (List Key × V)} {m:List (List Key × Addr × Value)},KT H l m->∀x∈m,(tupleKind (gj P w)).is h x.1 x.2.1:=by
  intro l m q
  induction q with
  | nil=>intro x hx;exact nomatch hx
  | @cons p q ps qs hq t ih =>
   intro x hx
   rcases bE.mp hx with e | hx
   ·subst e
    exact Iz ok (by rw[<-hq.1];exact hq.2.1)
   ·exact ih x hx
 exact all r x hx
theorem VB{aj:List (List Key × V)}(ok:bA P w H h)(e:H a=some (.dT aj)):aj.length<=sizeLine/\(a==sysModules)=false /\
  ∃xs,KT H aj xs/\h.DictOfH (tupleKind (gj P w)) a xs:=VA ok (.inl e)
end
noncomputable def vt(H:Hp)(a:Addr)(y v:V)(H':Hp):Prop :=
 (∃aj k,H a=some (.dK aj)/\y=kV k/\aj.length<sizeLine/\H'=upd H a (.dK (fY aj k v))) \/
 ∃aj k b,H a=some (.dT aj)/\y=.ref b/\H b=some (.tup (k.map kV))/\aj.length<sizeLine/\H'=upd H a (.dT (fY aj k v))
theorem vt.k{H:Hp}{a:Addr}{aj:List (Key × V)}{k:Key}{v:V}(e:H a=some (.dK aj))(hl:aj.length<sizeLine):vt H a (kV k) v (upd H a (.dK (fY aj k v))):=.inl ⟨aj,k,e,rfl,hl,rfl⟩
section
variable{X:Cx}{pins:List (Addr × Obj)}{σ:St}{H:Hp}{s:Shared}{a:Addr}{y v:V}{u r:Value}{o:Option V}{A:Around}{E:Value->Shared->Prop}
theorem Inv.big(I:Inv X pins σ H s):sysModules<s.heap.objs.size:=by
 have h:mainGlobals<s.heap.objs.size:=(I.mod.glob.keeps I.bk).lt
 exact Nat.lt_trans (by decide) h
theorem IA{h':Heap}{t':Nat}{ob:HO}(I:Inv X pins σ H s)(mu:tL (H a))(hs:yO a s.heap h')(he:∃q,h'.get? a=some q)(new:bq X.prog X.w (upd H a ob) h' a ob) :
  Inv X pins σ (upd H a ob) { s with heap:=h',toks:=t' } :=
 I.write (x:=a) (e:=a) mu (.inl rfl) (λb q hb z=>(hs.2 b hb).trans z) he new
theorem VC{P:Program}{w:World}{H':Hp}{h':Heap}{aj:List (Key × V)}{vs:List (Key × Value)}(z:aj.length<=sizeLine)(hd:(a==sysModules)=false)(rel:KV aj vs)(dd:h'.DictOf (gj P w) a vs) :
  bq P w H' h' a (.dK aj):=⟨z,hd,vs,rel,dd⟩
theorem VD{H':Hp}{Q:Unit->Shared->Prop}(hu:A.units+1<cLine)(I:Inv X pins σ H s)(g:vt H a y v H')(ry:RelV y u)(rv:RelV v r)(h:∀s',Inv X pins σ H' s'->Q () s') :
  wpAny (model X.prog X.w) A (setItem (.ref a) u r) Q E s:=by
 rcases g with⟨aj,k,e,ey,l,eH⟩ | ⟨aj,k,b,e,ey,eb,l,eH⟩
 ·subst ey eH
  obtain⟨z,hd,vs,rel,dd⟩:=BY I.au e
  have hz:vs.length<=sizeLine:=by rw[<-rel.length];exact z
  have hl:(fY aj k v).length<=sizeLine:=by have:=BV aj k v;omega
  refine wpAny_setItem_pairs (hsz:=hz) (BX ry) dd λh' ye hs=>h _ ?_
  have he:∃q,h'.get? a=some q:=let⟨q,_,_,hq,_⟩:=ye;⟨q,hq⟩
  exact IA I (by rw[e];exact iY) hs he (VC hl hd (rel.put k rv) ye)
 ·subst ey eH
  cases(show u=bC b from ry)
  obtain⟨z,hd,xs,rel,dd⟩:=VB I.au e
  have hz:xs.length<=sizeLine:=by rw[<-Paired.length rel];exact z
  have hl:(fY aj k v).length<=sizeLine:=by have:=BV aj k v;omega
  refine wpAny_setItem_heap (hsz:=hz) (tupleKind_room_in1 hu) (Iz I.au eb) dd λh' ye hs=>h _ ?_
  obtain⟨q,es,ep,hq,h2,h3,h4,_,h5⟩:=ye
  refine IA I (by rw[e];exact iY) hs ⟨q,hq⟩ ⟨hl,hd,_,(rel.put k eb rv).keeps λc ys ec=>?_,q,es,ep,hq,h2,h3,h4,h5⟩
  rw[ay (MX ec e (λz=>nomatch z))]
  exact ec
end
section
variable{X:Cx}{pins:List (Addr × Obj)}{σ:St}{H:Hp}{s:Shared}{a:Addr}{aj:List (Key × V)}{k:Key}{u:Value}{A:Around}{E:Value->Shared->Prop}
end
noncomputable def VE(td ty tv:TE):TS:=λD σ H=>tv σ H λv H1=>td σ H1 λx H2=>ty σ H2 λy H3=>∃a H4,x=.ref a/\vt H3 a y v H4/\D.nx σ H4
section
variable{X:Cx}{o i e value:Expr}{pos pos' gY:Pos}{td ty tv:TE}
theorem VF(hu:X.A.units+1<cLine)(ho:PE X o td)(hi:PE X i ty)(hv:PE X value tv)(hs:swapsWith value (some (.Subscript o i pos')) pos.line X.env=pure false) :
  PS X (.Assign [.Subscript o i pos'] value pos) (VE td ty tv):=by
 intro pins s σ H D I h
 refine wpAny_Assign_Subscript (aA (hv pins s σ H _ I h) λr s1 ⟨v,H1,I1,rv,q1⟩=>aA (ho pins s1 σ H1 _ I1 q1) λu s2 ⟨x,H2,I2,rx,q2⟩=>aA (hi pins s2 σ H2 _ I2 q2) λiv s3 ⟨y,H3,I3,ry,a,H4,ex,g,q3⟩=>?_) hs
 subst ex
 obtain rfl:u=bC a:=rx
 exact VD hu I3 g ry rv λs4 I4=>⟨σ,H4,I4,q3⟩
end
theorem VG{P:Program}{w:World}{H:Hp}(h:Heap)(hb:sysModules<h.objs.size):bq P w H (h.push { cls:=.type "dict",data:=.dict #[] }) h.objs.size (.dK []) :=
 ⟨ij _,beq_eq_false_iff_ne.mpr (cA (cG hb)),[],.nil,Heap.DictOf.new h⟩
section
variable{X:Cx}{pos:Pos}
end
end L2
namespace L2
open PySem PySem.Spec PyProof.Rows
noncomputable def qf(H:Hp)(p:Addr):Hp:=λa=>if a=p then none else H a
theorem yf{H:Hp}{p:Addr}:qf H p p=none:=if_pos rfl
theorem yg{H:Hp}{p a:Addr}(h:a≠p):qf H p a=H a:=if_neg h
theorem VH{H:Hp}{p:Addr}{o:HO}(h:H p=none):qf (upd H p o) p=H:=funext λa=>by
 by_cases e:a=p
 ·rw[e,yf,h]
 ·rw[yg e,ay e]
section
variable{X:Cx}{pins:List (Addr × Obj)}{σ:St}{H:Hp}{s:Shared}{p:Addr}
theorem Inv.VI(I:Inv X pins σ H s)(h:X.bc.heap.objs.size<=p):p ∉ X.fs:=λhb=>by
 obtain⟨_,o,ho,_⟩:=I.ok.dB.mem hb
 exact absurd (bK (a4 ho) h) (fk _)
theorem Inv.hide{o:Obj}{aj:List (Key × V)}(I:Inv X pins σ H s)(hp:H p=some (.dK aj))(hs:X.bc.heap.objs.size<=p)(g:s.heap.get? p=some o)(hd:∀v,o.data≠.cell v):Inv X ((p,o)::pins) σ (qf H p) s:=by
 have nn:∀{b},H b=none->qf H p b=none:=λ{b} h=>by
  by_cases e:b=p
  ·rw[e];exact yf
  ·rw[yg e];exact h
 have kp:∀{b u},H b=some u->(∀aj,u≠.dK aj)->qf H p b=some u:=λ{b u} h n=>by
  rw[yg λe=>n aj (by rw[e,hp]at h;exact(bS h).symm)];exact h
 refine⟨I.ok,I.os,I.bare,⟨I.base.keep,I.base.slot,λb o a c d=>nn (I.base.free b o a c d),I.base.there,λb xs e=>kp (I.base.dJ b xs e) (λ_ z=>by cases z),λb o u e=>kp (I.base.dA b o u e) (λ_ z=>by cases z),λb ps e=>?_⟩,I.loc,I.cell,nn I.free,λx c e=>nn (I.cK x c e),λq hq=>?_,λa u e=>?_,I.len⟩
 ·obtain⟨m,e1⟩:=I.base.da b ps e
  exact⟨m,kp e1 (λ_ z=>by cases z)⟩
 ·have dE:q=(p,o)\/q∈X.pn++pins:=by
   rcases cQ.mp hq with h | h
   ·exact .inr (dz _ h)
   ·rcases bE.mp h with h | h
    ·exact .inl h
    ·exact .inr (cR _ h)
  rcases dE with rfl | h
  ·exact⟨g,yf,(λz=>by have f:=I.free;rw[<-show p=X.env.locals from z,hp]at f;cases f),I.VI hs,hd⟩
  ·obtain⟨a1,a2,a3⟩:=I.pin q h
   exact⟨a1,nn a2,a3⟩
 ·have ne:a≠p:=λz=>by rw[z,yf]at e;cases e
  rw[yg ne]at e
  exact(I.au a u e).eB (λ_ _ _ q=>q) (λb q=>kp q (λ_ z=>by cases z)) (λb xs q=>kp q (λ_ z=>by cases z)) λb φ q=>kp q (λ_ z=>by cases z)
theorem Inv.show{o:Obj}{u:HO}(I:Inv X ((p,o)::pins) σ H s)(hs:X.bc.heap.objs.size<=p)(hq:∀q∈X.pn++pins,q.1≠p)(new:bq X.prog X.w (upd H p u) s.heap p u):Inv X pins σ (upd H p u) s:=by
 obtain⟨g,hp,nl,nf,nc⟩:=I.pin (p,o) (cR _ sR)
 have nn:∀{b},b≠p->H b=none->upd H p u b=none:=λ{b} n h=>by rw[ay n];exact h
 have kp:∀{b v},H b=some v->upd H p u b=some v:=λ{b v} h=>by
  rw[ay λe=>by rw[e]at h;rw[show H p=none from hp]at h;cases h];exact h
 refine⟨I.ok,I.os,I.bare,⟨I.base.keep,I.base.slot,λb o a c d=>nn (cG (bK (a4 a) hs)) (I.base.free b o a c d),I.base.there,λb xs e=>kp (I.base.dJ b xs e),λb o u e=>kp (I.base.dA b o u e),λb ps e=>?_⟩,I.loc,I.cell,nn (cA nl) I.free,λx c e=>nn (λz=>?_) (I.cK x c e),λq dE=>?_,λa v e=>?_,I.len⟩
 ·obtain⟨m,e1⟩:=I.base.da b ps e
  exact⟨m,kp e1⟩
 ·obtain⟨v,ob,h1,h2⟩:=I.cell x c e
  rw[z,show s.heap.get? p=some o from g]at h1
  cases h1
  exact nc v h2
 ·obtain⟨a1,a2,a3⟩:=I.pin q (by
   rcases cQ.mp dE with h | h
   ·exact dz _ h
   ·exact cR _ (ig _ h))
  exact⟨a1,nn (hq q dE) a2,a3⟩
 ·by_cases z:a=p
  ·subst z
   rw[a5]at e;cases e
   exact new
  ·rw[ay z]at e
   exact(I.au a v e).eB (λ_ _ _ q=>q) (λb q=>kp q) (λb xs q=>kp q) λb φ q=>kp q
end
section
variable{X:Cx}{pos:Pos}{tg iter:Expr}{wi:TI}
theorem VJ:PE X (.Dict [] [] pos) (λ_ H Q=>∀p,H p=none->X.bc.heap.objs.size<=p->Q (.ref p) (upd H p (.dK []))):=λpins s σ H Q I h =>
 wpAny_Dict_empty ⟨.ref s.heap.objs.size,_,I.laid (a:=s.heap.objs.size) (o:=.dK []) (t':=s.toks) (λ_ _ q=>bU _ q) (aZ _) (VG s.heap I.big),rfl,h _ (I.au.fresh (aZ _)) I.sz⟩
theorem VL(hi:PI X tg iter wi):PI X tg iter (λσ H R=>∃p,H p=some (.dK [])/\X.bc.heap.objs.size<=p/\wi σ (qf H p) (λJ H1=>H1 p=none->R J (upd H1 p (.dK [])))):=by
 intro pins s σ H R I ⟨p,hp,hs,h⟩
 obtain⟨z,y,vs,rel,dd⟩:=BY I.au hp
 obtain⟨o,es,ep,g,ex,hd,r⟩:=id dd
 have nc:∀v,o.data≠.cell v:=λv e=>by rw[hd]at e;cases e
 have I1:=I.hide hp hs g nc
 refine aA (hi _ s σ _ _ I1 h) λv s1 h1=>aA h1 λwm s2 h2=>?_
 obtain⟨it,fp,tn,J,H2,e,I2,T,st,f2,q⟩:=h2
 have pn:=I2.pin (p,o) (cR _ sR)
 have ne:∀q∈X.pn++pins,q.1≠p:=λq hq z=>by
  have:=(I.pin q hq).2.1
  rw[z,hp]at this;cases this
 refine⟨it,fp,tn,J,upd H2 p (.dK []),e,I2.show hs ne ⟨ij _,y,vs,rel,dd.at λo' e'=>?_⟩,T,st,λb hb=>?_,q pn.2.1⟩
 ·rw[g]at e';cases e'
  exact pn.1
 ·obtain⟨b1,b2,b3,b4,b5,b6⟩:=f2 b hb
  refine⟨?_,b2,b3,b4,b5,λq hq=>b6 q ?_⟩
  ·rw[ay λz=>b6 (p,o) (cR _ sR) z.symm];exact b1
  ·rcases cQ.mp hq with h | h
   ·exact dz _ h
   ·exact cR _ (ig _ h)
end
end L2
namespace L3
open PySem L2 PySem.Spec PyProof.Rows
section
variable{F H:Hp}{p:Addr}{aj:List (Key × V)}{o:HO}{ds:List D}{vs:List V}{A:List Addr}
theorem iD.swap(hp:H p=some (.dK aj)){q:Addr}:∀{z:j4},iD H q z->iD (upd H p o) q z
 | .ext φ,x=>by
  have x:H q=some (.ext (φ q)):=x
  show upd H p o q=some (.ext (φ q))
  rw[ay λe=>by rw[e,hp]at x;cases x];exact x
 | .lam f oc c k',x=>by
  have ne:∀{b u},H b=some u->(∀aj,u≠.dK aj)->upd H p o b=some u:=λ{b u} h n=>by
   rw[ay λe=>n aj (by rw[e,hp]at h;exact(bS h).symm)];exact h
  exact⟨ne x.fn (λ_ z=>by cases z),ne x.cell (λ_ z=>by cases z),let⟨ψ,e,h⟩:=x.wO;⟨ψ,ne e (λ_ z=>by cases z),h⟩⟩
 | .g6 C nm n,⟨dx,x,y⟩=>by
  have ne:∀{b u},H b=some u->(∀aj,u≠.dK aj)->upd H p o b=some u:=λ{b u} h n=>by
   rw[ay λe=>n aj (by rw[e,hp]at h;exact(bS h).symm)];exact h
  exact⟨dx,ne x (λ_ z=>by cases z),ne y (λ_ z=>by cases z)⟩
theorem R.swap(hp:H p=some (.dK aj))(r:R F H ds vs A):R F (upd H p o) ds vs A:=by
 have ne:∀{b u},H b=some u->(∀aj,u≠.dK aj)->upd H p o b=some u:=λ{b u} h n=>by
  rw[ay λe=>n aj (by rw[e,hp]at h;exact(bS h).symm)];exact h
 induction r with
 | nil=>exact .nil
 | ao _ ih=>exact .ao ih
 | bl _ ih=>exact .bl ih
 | int _ ih=>exact .int ih
 | str _ ih=>exact .str ih
 | shr h x _ i1 ih=>exact .shr h i1 ih
 | own h f _ _ i1 i2=>exact .own (ne h (λ_ z=>by cases z)) f i1 i2
 | tup h _ _ i1 i2=>exact .tup (ne h (λ_ z=>by cases z)) i1 i2
 | obj h l x _ i1 ih=>exact .obj (ne h (λ_ z=>by cases z)) l i1 ih
 | fz h x _ i1 ih=>exact .fz h i1 ih
 | aS h _ ih=>exact .aS (h.swap hp) ih
theorem RS.swap{δ:Dl}{σ:L2.St}{C:List Addr}(hp:H p=some (.dK aj))(r:RS F H δ σ C):RS F (upd H p o) δ σ C:=by
 induction r with
 | nil=>exact .nil
 | ao _ ih=>exact .ao ih
 | dN h _ ih=>exact .dN (h.swap hp) ih
theorem IB{G:Hp}(e:ae G H)(n:G p=none):ae G (upd H p o) :=
 ⟨λb u h t=>by rw[ay λz=>by rw[z,n]at h;cases h];exact e.get b u h t,λb ps h=>by rw[ay λz=>by rw[z,n]at h;cases h];exact e.tb b ps h⟩
theorem ai.swap{B:Bs}{σ:L2.St}{δ:Dl}{ts:List (D × V)}(c:ai B F H σ δ ts)(hp:H p=some (.dK aj))(n1:F p=none)(n2:B.H0 p=none):ai B F (upd H p o) σ δ ts:=by
 obtain⟨A,C,r,s,nd,fr⟩:=c.own
 exact⟨IB c.ext n1,IB c.b1 n2,c.b2,c.b3,A,C,r.swap hp,s.swap hp,nd,fr⟩
end
section
variable{X:Cx}{tg iter e:Expr}{rest:List Stmt}{ti:eo}{g:dO}{te:aw}{t:bw}{i:Nat}{x:Str}{p1 p2 p3 p4 p5 p6 p7 p8:Pos}{j1}
end
end L3
namespace L2
open PySem PySem.Spec PyProof.Rows
section
variable{X:Cx}
end
end L2
namespace L3
open PySem L2 PySem.Spec PyProof.Rows
section
variable{X:Cx}{o e:Expr}{t tb:aw}{apos aP:Pos}
theorem xk{A:Around}{k:Nat}(hr:bu k A):A.units+1<cLine:=by have:=hr.un;omega
end
end L3
namespace L3
open PySem L2 Mf
section
variable{m:Bool × Nat}
end
end L3
namespace L2
open PySem PySem.Spec PyProof.Rows
noncomputable abbrev TJ:=Str->St->Hp->(Str->Hp->Prop)->Prop
section
variable{X:Cx}{e v1 v2:Expr}{es rest:List Expr}{te:TE}{t:TJ}{pos:Pos}
noncomputable def PJ(X:Cx)(es:List Expr)(t:TJ):Prop:=∀(pins:List (Addr × Obj)) (s:Shared) (σ:St) (H:Hp) (acc:Str) (Q:Str->Hp->Prop),Inv X pins σ H s->t acc σ H Q ->
 Joins (model X.prog X.w) X.A X.xe (evalEach es X.env) acc (λout s1=>out.length<=sizeLine/\∃H',Inv X pins σ H' s1/\Q out H') s
theorem VM(hs:evalEach [] X.env=[]:=by rfl):PJ X [] (λacc _ H Q=>acc.length<=sizeLine/\Q acc H):=λpins s σ H acc Q I zq=>by
 obtain⟨h1,h2⟩:=zq
 rw[hs]
 exact⟨h1,H,I,h2⟩
theorem BZ(he:PE X e te)(hr:PJ X es t)(hs:evalEach (e::es) X.env=eval e X.env::evalEach es X.env:=by rfl) :
  PJ X (e::es) (λacc σ H Q=>te σ H λv H1=>∃y,v=.str y/\(acc++y).length<=sizeLine/\t (acc++y) σ H1 Q):=λpins s σ H acc Q I h=>by
 rw[hs]
 refine aA (he pins s σ H _ I h) λu s1 ⟨x,H1,I1,r1,y,ex,hl,q⟩=>?_
 subst ex
 obtain⟨tk,rfl⟩:=r1
 exact⟨y,tk,rfl,hl,hr pins s1 σ H1 _ Q I1 q⟩
theorem VN(h:PJ X (v1::v2::rest) t):PE X (.JoinedStr (v1::v2::rest) pos) (λσ H Q=>t qC σ H λout H'=>Q (.str out) H'):=λpins s σ H Q I hq=>by
 refine wpAny_JoinedStr ?_
 have mono:∀(ps:List (Sem Value)) (acc:Str) (Q1 Q2:Str->Shared->Prop) (s:Shared),(∀o s,Q1 o s->Q2 o s)->Joins (model X.prog X.w) X.A X.xe ps acc Q1 s->Joins (model X.prog X.w) X.A X.xe ps acc Q2 s:=by
  intro ps
  induction ps with
  | nil=>exact λacc Q1 Q2 s m h=>m _ _ h
  | cons p ps ih=>exact λacc Q1 Q2 s m h=>aA h λv s1 ⟨y,tk,a,b,c⟩=>⟨y,tk,a,b,ih _ _ _ _ m c⟩
 exact mono _ _ _ _ _ (λout s1 ⟨hl,H',I',q⟩=>⟨hl,.str out,H',I'.tok _,⟨_,rfl⟩,q⟩) (h pins s σ H qC _ I hq)
theorem VO(he:PE X e te):PE X (.FormattedValue e (-1) none pos) (λσ H Q=>te σ H λv H1=>∃n:Int,v=.int n/\n.natAbs.log2<1920/\Q (.str (toString n)) H1):=λpins s σ H Q I h=>by
 refine wpAny_FormattedValue_plain (aA (he pins s σ H _ I h) λu s1 ⟨x,H1,I1,r1,n,ex,hn,q⟩=>?_)
 subst ex
 obtain⟨tk,rfl⟩:=r1
 exact wpAny_formatField_int hn ⟨.str _,H1,I1.tok _,⟨_,rfl⟩,q⟩
end
end L2
namespace L3
open PySem L2 PySem.Spec PyProof.Rows
section
variable{X:Cx}{e v1 v2:Expr}{es rest:List Expr}{te:aw}{t:ZN}{pos:Pos}
end
end L3
namespace L3
open PySem L2 PySem.Spec PyProof.Rows
section
variable{X:Cx}{n:Nat}{f C:Addr}{fd:FuncData}{ps:List Str}{x:Str}{p pos:Pos}{e:Expr}{es:List Expr}{t:a6}
end
end L3
namespace L3
open PySem L2 Mf
section
variable{m:Bool × Nat}
section
variable{b e L o:Nat}{y:List (Option Nat)}{w c:List Nat}{bb:Nat->Nat}
end
end
end L3
namespace L3
open PySem L2 PySem.Spec PyProof.Rows
section
variable{X:Cx}{e:Expr}{tr:a6}{p p2 pos dS:Pos}
end
end L3
namespace L3
open PySem L2 Mf
section
variable{m:Bool × Nat}
end
end L3
namespace L3
open PySem L2 Mf
section
variable{m:Bool × Nat}
end
end L3
namespace L3
open PySem L2 Mf
section
variable{m:Bool × Nat}
end
end L3
namespace L3
open PySem L2 Mf
section
variable{m:Bool × Nat}
end
end L3
namespace L3
open PySem L2 PySem.Spec PyProof.Rows
section
variable{X:Cx}{e:Expr}{t:aw}
end
end L3
namespace L3
open PySem L2 Mf
section
variable{m:Bool × Nat}
end
end L3
namespace L3
open PySem L2 Mf
section
variable{m:Bool × Nat}
end
end L3
namespace L2
open PySem PySem.Spec PyProof.Rows
section
variable{X:Cx}{CX:cn}{k:Nat}{f C:Addr}{fd:FuncData}{ps:List Str}{sp:Sp}{E:XK}{x m:Str}{p pos apos:Pos}{e:Expr}{es:List Expr}{t:TA}
end
end L2
namespace L3
open PySem L2 PySem.Spec PyProof.Rows
end L3
namespace L3
open PySem L2 PySem.Spec PyProof.Rows
section
variable{X:Cx}{CX:cn}{n:Nat}{f C:Addr}{fd:FuncData}{ps:List Str}{kC:List D->List Str->List D->Prop}{E:XK}{x:Str}{p pos:Pos}{e:Expr}{es:List Expr}{t:a6}{tl:List Addr}
end
section
variable{X:Cx}{e:Expr}{te:aw}{x:Str}{p pos:Pos}{i:Nat}
end
end L3
namespace L3
open PySem L2 Mf
section
variable{m:Bool × Nat}
end
end L3
namespace L2
open PySem PySem.Spec PyProof.Rows
section
variable{P:Program}{w:World}{K:PySem.W.Frag}{mg:Str->Option Value}{base:Heap}
end
end L2
namespace L3
open PySem L2 Mf
section
variable{m:Bool × Nat}{G:List (List Nat)}
end
end L3
namespace L3
open PySem L2 PySem.Spec PyProof.Rows
section
variable{X:Cx}{scope:Scope}{tg iter elt:Expr}{ifs:List Expr}{pos:Pos}{cl:List (Str × Addr)}{ti:eo}{g:dO}{tt:dG}{te:aw}
end
end L3
namespace L2
open PySem
theorem bo{N P:List Str}{sc:Scope}(a:sc.kind=.function:=by rfl)(b:sc.isCoroutine=false:=by rfl)(c:sc.isGenerator=false:=by rfl)(d:N.Nodup:=by decide +kernel)(e:N.take P.length=P:=by rfl)(f:∀x∈P,sc.names.lookup x=some .local\/sc.names.lookup x=some .cell:=by decide +kernel)(g:∀y∈sc.names,y.2≠.free:=by decide +kernel):aX N P sc:=⟨a,b,c,d,e,f,g⟩
end L2
namespace L2
open PySem
end L2
namespace L3
open PySem L2 PySem.Spec PyProof.Rows
theorem sJ{X:Cx}{m i:Nat}{x:Str}{pos:Pos}(hN:X.N.Nodup)(hi:X.N[i]?=some x:=by rfl)(hx:Loc X.env.scope x:=by first | exact aB (lookup_relabel_local rfl) | exact ck rfl | exact aB rfl)(hm:m<=i:=by decide)
  (hf:X.fn x=true\/X.env.scope.names.lookup x=some .local:=by first | exact .inr (lookup_relabel_local rfl) | exact .inl rfl | exact .inr rfl):PG X (.Name x pos) (lG m (gN i)):=oq hN hi hx hm hf
theorem VP{X:Cx}{m i1 i2:Nat}{y1 y2:Str}{t1 t2 tp:Pos}{tk:Nat}(xC:X.N.Nodup)(hc:X.calm=true:=by rfl)(m1:X.N[i1]?=some y1:=by rfl)(l1:Loc X.env.scope y1:=by first | exact aB (lookup_relabel_local rfl) | exact ck rfl)(m2:X.N[i2]?=some y2:=by rfl)(l2:Loc X.env.scope y2:=by first | exact aB (lookup_relabel_local rfl) | exact ck rfl)(GL:m<=i1:=by decide)(hW:m<=i2:=by decide)
  (f1:X.fn y1=true\/X.env.scope.names.lookup y1=some .local:=by first | exact .inr (lookup_relabel_local rfl) | exact .inl rfl) (f2:X.fn y2=true\/X.env.scope.names.lookup y2=some .local:=by first | exact .inr (lookup_relabel_local rfl) | exact .inl rfl)
  (Bg:(assignEach [.Name y1 t1,.Name y2 t2] X.env).map (·.2)=assign (.Name y1 t1) X.env::(assignEach [.Name y2 t2] X.env).map (·.2):=by rfl) (Bh:(assignEach [.Name y2 t2] X.env).map (·.2)=assign (.Name y2 t2) X.env::(assignEach [] X.env).map (·.2):=by rfl)
  (hn:(assignEach [.Name y1 t1,.Name y2 t2] X.env).length=2:=by rfl) (bt:(assignEach [.Name y1 t1,.Name y2 t2] X.env).findIdx? (·.1)=none:=by rfl) :
  PG X (.Tuple [.Name y1 t1,.Name y2 t2] tk tp) (lG m (fh i1 i2)):=sj hc xC m1 l1 m2 l2 GL hW f1 f2 Bg Bh hn bt
end L3
namespace L2
open PySem
structure Fk(K:PySem.W.Frag)(mg:Str->Option Value)(x:Str)(st:Stmt)(ps:List Str)(f:Addr)(fd:FuncData):Prop where
 F:gw K x x st f fd
 g:mg x=some (.ref f)
 b:Binds K fd ps []
structure Fm(K:PySem.W.Frag)(x q:Str)(st:Stmt)(ps:List Str)(f:Addr)(fd:FuncData):Prop where
 F:gw K x q st f fd
 b:Binds K fd ps []
end L2
namespace L3
open PySem L2 PySem.Spec PyProof.Rows
theorem bX{X:Cx}{x:Str}{st:Stmt}{ps:List Str}{f:Addr}{fd:FuncData}{n k:Nat}{sp:a7}{e:Expr}{es:List Expr}{t:a6}{p pos:Pos}(Q:Fk X.K X.mg x st ps f fd)(F:aL X.prog X.w X.K X.mg X.base aV n f fd ps (bf sp))(hr:bu k X.A)(ha:PA X (e::es) (lA t))(hn:n<=k:=by decide)(hg:Gl X x:=by rfl)
  (bN:(x==("__debug__":Str))=false:=by decide) (he:starEach (e::es) X.env=(false,eval e X.env)::starEach es X.env:=by rfl) (aR:(backTo pos (starEach es X.env)).any (·.1)=false:=by rfl) :
  PE X (.Call (.Name x p) (e::es) [] pos) (lE (j8 sp t)):=uC (F.mono hn) hr hg Q.g Q.F.kp Q.b gv ha bN he aR
end L3
namespace L3
open PySem L2 Mf
end L3
namespace L3
open PySem L2 Mf
section
variable{m:Bool × Nat}
variable{G:List (List Nat)}
end
end L3
namespace L2
open PySem PySem.Spec PyProof.Rows
end L2
namespace L3
open PySem L2 PySem.Spec PyProof.Rows
section
variable{X:Cx}{i:Nat}{x:Str}{p pos gY:Pos}{b e:Expr}{ti te:aw}
end
end L3
namespace L3
open PySem L2 PySem.Spec PyProof.Rows
section
variable{X:Cx}{e:Expr}{t:aw}{apos aP:Pos}{F H:Hp}
end
end L3
namespace L2
open PySem PySem.Spec PyProof.Rows
section
variable{X:Cx}{a b:Expr}{ta:TA}{p p2 pos dS:Pos}
end
end L2
namespace L3
open PySem L2 PySem.Spec PyProof.Rows
section
variable{X:Cx}{a b:Expr}{t:a6}{p p2 pos dS:Pos}
end
end L3
namespace L3
open PySem L2 PySem.Spec PyProof.Rows
section
variable{P:Program}{w:World}{K:PySem.W.Frag}{mg:Str->Option Value}{base:Heap}
end
section
variable{X:Cx}{CX:cn}{n:Nat}{f C:Addr}{fd:FuncData}{ps:List Str}{kC:List D->List Str->List D->Prop}{E:XK}{x:Str}{p pos:Pos}{e:Expr}{es:List Expr}{t:a6}{tl:List Addr}
end
end L3
namespace L3
open PySem L2 PySem.Spec PyProof.Rows
section
variable{X:Cx}{i j:Nat}{x y:Str}{e:Expr}{te:aw}{p q pos apos aP Tg ZO:Pos}
end
end L3
namespace L3
open PySem L2 PySem.Spec PyProof.Rows
section
variable{X:Cx}{CX:cn}{n:Nat}{f:Addr}{fd:FuncData}{ps:List Str}{sp:a7}{E:XK}{fn:Str}{e:Expr}{es:List Expr}{t:a6}{p pos:Pos}
end
end L3
namespace L3
open PySem L2 PySem.Spec PyProof.Rows
section
variable{B:Bs}{F H:Hp}{σ:L2.St}{δ:Dl}{ts:List (D × V)}{p:Addr}{xs:List D}{ws:List V}
end
section
variable{X:Cx}{e b a:Expr}{pos pos' p p2 p3:Pos}{ti te ta:aw}{x y:Str}{i j:Nat}
end
end L3
namespace L3
open PySem L2 PySem.Spec PyProof.Rows
section
variable{X:Cx}{CX:cn}{n:Nat}{f C:Addr}{fd:FuncData}{ps:List Str}{kC:List D->List Str->List D->Prop}{E:XK}{x:Str}{p pos:Pos}{e:Expr}{es:List Expr}{t:a6}{tl:List Addr}
end
end L3
namespace L3
open PySem L2 PySem.Spec PyProof.Rows
end L3
namespace L3
open PySem L2 PySem.Spec PyProof.Rows
section
variable{B B':Bs}{F H:Hp}{σ:L2.St}{δ:Dl}{ts:List (D × V)}{p:Addr}{xs:List D}{ws:List V}
end
section
variable{X:Cx}{e:Expr}{scope:Scope}{cl:List (Str × Addr)}{te:aw}{x y:Str}{i:Nat}{p tp p1 pos gY:Pos}
end
section
variable{X:Cx}{e:Expr}{pos p p2 p3 p4 p5 apos aP:Pos}{t:aw}{x:Str}{i:Nat}
end
end L3
namespace L2
open PySem
section
variable{K:PySem.W.Frag}{h:Heap}{mg:Str->Option Value}{x y:Str}{st:Stmt}{ps:List Str}{f:Addr}{fd:FuncData}
noncomputable def IC(x y:Str)(st:Stmt)(ps:List Str):Prop:=∀(kV doc pm:Value) (an:Option Addr) (aE ct:Value) (us:List Value),us.length=ps.length->bindArgs (PySem.W.fnOf x y (nJ st) (gZ st) (aM st) .none kV doc pm an aE ct) ⟨us,[]⟩=pure (ps.zip us)
theorem Fk.of(X:K.In h)(G:h.Ns mainGlobals mg)(a:PySem.W.nsIn K mainGlobals x=some (some (.ref f)))(F:gw K x x st f fd)(b:IC x x st ps):Fk K mg x st ps f fd:=⟨F,PySem.W.mg_of X G a,F.binds b⟩
theorem Fm.of(F:gw K x y st f fd)(b:IC x y st ps):Fm K x y st ps f fd:=⟨F,F.binds b⟩
end
end L2
namespace L3
open PySem L2
end L3
namespace L3
open PySem L2 PySem.Spec PyProof.Rows
section
variable{X:Cx}{K:PySem.W.Frag}{a:Expr}{ta:aw}{p q pos:Pos}{y:Str}
end
end L3
namespace L3
open PySem L2 Mf
end L3
namespace L3
open PySem L2 Mf
section
variable{sh:Bool}{az:List (Str × Nat)}{n m:Nat}{te:aw}{ah:Dl}{Q:D->Dl->Prop}
theorem B0(l:List Nat)(g:Nat->D)(hx:∀a∈l,te ((dH az n ah).set m (some (.int (a:Nat)))) λd _=>d=g a)(cV:(sh&&az.all (fe ah))=true\/∀a∈l,(g a).fr=true)(hq:Q (.lst true (l.map g)) ah)(hl:l.length<=16777216:=by omega):rh sh (aN l) az n (gN m) hJ te ah Q :=
 xD l (λ(i:Nat)=>D.int (i:Int)) g (Tj _) Tn hx cV (by rw[sL];exact hl) hq
end
end L3
namespace L2
open PySem PySem.Spec PyProof.Rows
section
variable{prog:Program}{w:World}{A:Around}{E:Value->Shared->Prop}{h:Heap}{g:Array GenState}{d:Drawn}{t:Nat}{os:OsState}
variable{nm q:Str}{C N:Addr}{bs bm eA:List Value}{hdct:Bool}{sn:List Str}{sub:List Value}{ab:Bool}{col:Option Bool}{dd:Option Addr}{k0 k1 k2 k3 k5:Option Value}{B Bn newId kq jw pG:String}{pH:List Value}
noncomputable abbrev jH(C T:Addr)(dc:Option Addr:=none):Obj:={ cls:=.ref C,dict:=dc,data:=.fields #[.ref T,.none,.none,.none,.bool false,.none] }
theorem VQ(Fn:ExcBaseFacts Bn newId pG pH)(hB:eA.contains (.type Bn)=true)(F:ExcBaseFacts B kq jw eA)(T:OwnTail h eA bm){mN:Str->Option Value}{us:List Value}{fI:Addr}{oI:Obj}{Q:Fin->Shared->Prop}
  (hC:h.get? C=some (excClassObj nm q C N bs bm hdct sn sub ab col dd k0 k1 k2 k3 k5 newId)) (hn:h.Ns N mN) (hi:mN "__init__"=some (.ref fI)) (hf:h.get? fI=some oI) (qg:oI.cls=.type "function")
  (hq:∀h' e,yX h h' e (.ref C) us->wpAny (model prog w) A (call (.ref fI) (.ref e::us)) (λr s'=>r=.none/\Q (.done (.ret (.ref e))) s') E ⟨h',g,d,t,os⟩) (hl:us.length<=sizeLine) :
  wpAny (model prog w) A (Builtin.«type.__call__» ⟨.ref C::us,[]⟩) Q E ⟨h,g,d,t,os⟩:=by
 repeat (first | with_reducible refine wpAny_loadPart_at hC ?_ | with_reducible refine wpAny_madeBy_exc hC ?_ | wp_step)
 refine codeAny_call_builtin_code (Code.quiet_builtin _ Fn.quiet) (wpAny_check_new_subU Fn hB T hC ?_)
 refine codeAny_exc_new_subU Fn hB F T hC ?_ hl
 show wpAny _ _ _ _ _ _
 generalize hp:h.push { cls:=.type "tuple",data:=.seq us.toArray }=p1
 have g1:∀b o,h.get? b=some o->(p1.push (jH C h.objs.size)).get? b=some o:=λb o e=>by rw[<-hp];exact bU _ (bU _ e)
 have c1:=g1 _ _ hC
 have n1:(p1.push (jH C h.objs.size)).Ns N mN:=hn.keeps g1
 have T1:=T.keeps g1
 have z1:p1.objs.size=h.objs.size+1:=by rw[<-hp,yP]
 have x1:(p1.push (jH C h.objs.size)).get? (h.objs.size+1)=some (jH C h.objs.size):=by rw[<-z1];exact Dz rfl rfl
 have cc:(bC C::bm).contains (.ref C)=true:=by simp
 unfold isInstance
 repeat (first | with_reducible refine wpAny_loadPart_at x1 ?_ | (with_reducible refine wpAny_isSubtype_exc c1 ?_;rw[cc]) | wp_step)
 show wpAny _ _ (typeLookup (.ref C) _) _ _ _
 refine wpAny_typeLookup_tail c1 n1 T1 F.mroIs F.init.lookup ?_
 rw[hi]
 refine wpAny_holding (wpAny_bind ?_)
 unfold bindSpecial
 refine wpAny_bind (wpAny_typeOf (T:="function") ⟨_,g1 _ _ hf,qg⟩ ?_)
 rw[if_pos (by decide)]
 refine wpAny_pure (wpAny_bind (wpAny_mono (hq _ (h.objs.size+1) ⟨g1,yN (C8 _),h.objs.size,x1,yN (aZ _),?_⟩) (λr s' hr=>?_) λ_ _ x=>x))
 ·rw[<-hp]
  exact bU _ (Dz rfl rfl)
 ·obtain⟨rfl,hQ⟩:=hr
  wp_walk
  exact hQ
theorem VR(Fn:ExcBaseFacts Bn newId pG pH)(hB:eA.contains (.type Bn)=true)(F:ExcBaseFacts B kq jw eA)(T:OwnTail h eA bm){mN:Str->Option Value}{us:List Value}{fI:Addr}{oI:Obj}{Q:Value->Shared->Prop}
  (hC:h.get? C=some (excClassObj nm q C N bs bm hdct sn sub ab col dd k0 k1 k2 k3 k5 newId)) (hn:h.Ns N mN) (hi:mN "__init__"=some (.ref fI)) (hf:h.get? fI=some oI) (qg:oI.cls=.type "function")
  (hq:∀h' e,yX h h' e (.ref C) us->wpAny (model prog w) (A.under (.builtin "type.__call__" ⟨.ref C::us,[]⟩)) (call (.ref fI) (.ref e::us)) (λr s'=>r=.none/\Q (.ref e) s') E ⟨h',g,d,t,os⟩) (hl:us.length<=sizeLine) :
  wpAny (model prog w) A (call (.ref C) us) Q E ⟨h,g,d,t,os⟩:=by
 have f1:=tc_lookup
 have f2:=tc_bind (.ref C)
 have hT:(⟨h,g,d,t,os⟩:Shared).TypeIs (.ref C) "type":=⟨_,hC,rfl⟩
 refine wpAny_call (codeAny_of_tree ?_)
 show wpAny _ _ (callAny (.ref C) _) _ _ _
 repeat (any_goals (first | assumption | with_reducible refine wpAny_loadPart_at hC ?_ | wp_step))
 refine⟨rfl,?_⟩
 exact codeAny_call_builtin_at (Code.quiet_builtin _ (by decide +kernel)) entry_typeCall (wpAny_check_type_call_sub hC (VQ Fn hB F T hC hn hi hf qg hq hl))
end
section
variable{M:Model}{A:Around}{E:Value->Shared->Prop}{env:Env}
variable{nm q:Str}{C N:Addr}{bs bm:List Value}{hdct:Bool}{sn:List Str}{sub:List Value}{ab:Bool}{col:Option Bool}{dd:Option Addr}{k0 k1 k2 k3 k5:Option Value}{newId:String}
theorem VS{s:Shared}{x:Sem Value}{Q:Flow->Shared->Prop}(hb:bm.contains (.type "BaseException")=true)(hh:A.handled=none)
  (h:wpAny M A x (λv aQ=>∃e T dc,v=.ref e/\aQ.heap.get? C=some (excClassObj nm q C N bs bm hdct sn sub ab col dd k0 k1 k2 k3 k5 newId)/\aQ.heap.get? e=some (jH C T dc)/\E (.ref e) aQ) E s) :
  wpAny M A (raiseStmt env (some x) none) Q E s:=by
 have cB:(bC C::bm).contains (.type "BaseException")=true:=by rw[List.contains_cons,hb,mY]
 unfold raiseStmt
 refine wpAny_bind (wpAny_mono h (λv aQ jA=>?_) λ_ _ x=>x)
 obtain⟨e,T,dc,rfl,hC,he,hE⟩:=jA
 obtain⟨hp,g,d,tk,os⟩:=aQ
 repeat (first | with_reducible refine wpAny_loadPart_at he ?_ | with_reducible refine wpAny_loadPart_at hC ?_ | (with_reducible refine wpAny_isSubtype_exc hC ?_;rw[cB]) | wp_step)
 exact wpAny_raiseNew_none hh hE
end
section
variable{prog:Program}{w:World}{A:Around}{E:Value->Shared->Prop}{s:Shared}{env:Env}
variable{nm q:Str}{C N:Addr}{bs bm eA:List Value}{hdct:Bool}{sn:List Str}{sub:List Value}{ab:Bool}{col:Option Bool}{dd:Option Addr}{k0 k1 k2 k3 k5:Option Value}{B Bn newId kq jw pG:String}{pH:List Value}
theorem VT(Fn:ExcBaseFacts Bn newId pG pH)(AZ:eA.contains (.type Bn)=true)(F:ExcBaseFacts B kq jw eA){mN:Str->Option Value}{x:Str}{np aP pos:Pos}{args:List Expr}{fI:Addr}{Q:Flow->Shared->Prop}
  (hb:bm.contains (.type "BaseException")=true) (hh:A.handled=none) (aR:(backTo aP (starEach args env)).any (·.1)=false) (hi:mN "__init__"=some (.ref fI))
  (h:wpAny (model prog w) A (eval (.Name x np) env) (λf aQ=>f=.ref C/\wpAny (model prog w) A (evalArgs (.ref C) true (backTo aP (starEach args env)) [])
   (λa de=>a.kw=[]/\a.pos.length<=sizeLine/\de.heap.get? C=some (excClassObj nm q C N bs bm hdct sn sub ab col dd k0 k1 k2 k3 k5 newId)/\de.heap.Ns N mN/\OwnTail de.heap eA bm/\(∃oI,de.heap.get? fI=some oI/\oI.cls=.type "function") /\
    ∀h' e,yX de.heap h' e (.ref C) a.pos->wpAny (model prog w) (A.under (.builtin "type.__call__" ⟨.ref C::a.pos,[]⟩)) (call (.ref fI) (.ref e::a.pos)) (λr s'=>r=.none/\s'.heap.get? C=some (excClassObj nm q C N bs bm hdct sn sub ab col dd k0 k1 k2 k3 k5 newId)/\(∃T dc,s'.heap.get? e=some (jH C T dc))/\E (.ref e) s') E { de with heap:=h' }) E aQ) E s) :
  wpAny (model prog w) A (exec (.Raise (some (.Call (.Name x np) args [] aP)) none pos) env) Q E s:=by
 rw[arm_exec_Raise]
 refine wpAny_bind (wpAny_standAt (VS (C:=C) (nm:=nm) (q:=q) (N:=N) (bs:=bs) (bm:=bm) (hdct:=hdct) (sn:=sn) (sub:=sub) (ab:=ab) (col:=col) (dd:=dd) (k0:=k0) (k1:=k1) (k2:=k2) (k3:=k3) (k5:=k5) (newId:=newId) hb hh (wpAny_bind (wpAny_mono (wpAny_Call_ofName (wpAny_mono h (λf aQ jA=>?_) λ_ _ x=>x)) (λv DT VU=>wpAny_bind (wpAny_standAt (wpAny_pure VU))) λ_ _ x=>x))))
 obtain⟨rfl,jA⟩:=jA
 unfold callWith
 refine wpAny_bind (wpAny_holding (wpAny_mono jA (λa de sA=>wpAny_bind (wpAny_standAt ?_)) λ_ _ x=>x))
 obtain⟨us,ak⟩:=a
 obtain⟨hk,hl,hC,hn,T,⟨oI,hf,qg⟩,sA⟩:=sA
 cases(show ak=[] from hk)
 obtain⟨hp,g,d,tk,os⟩:=de
 simp only[aR]
 refine wpAny_bind (wpAny_keeperOf_exc hC ?_)
 refine wpAny_bind (VR Fn AZ F T hC hn hi hf qg (λh' e hm=>wpAny_mono (sA h' e hm) (λr s' hr=>?_) λ_ _ x=>x) hl)
 obtain⟨rfl,Ah,⟨T',dc,he⟩,hE⟩:=hr
 exact⟨rfl,wpAny_bind (wpAny_holding (wpAny_point (wpAny_pure ⟨e,T',dc,rfl,Ah,he,hE⟩)))⟩
end
end L2
namespace L2
open PySem PySem.W PySem.Spec PySem.Calls PyProof.Rows PySem.Builtin PySem.Builtin.ObjectAttr
noncomputable abbrev vv:List Value:=[.type "ValueError",.type "Exception",.type "BaseException",.type "object"]
noncomputable def B3:List Value->Bool
 | .ref _::r=>B3 r
 | l=>l==vv
noncomputable def B4(K:Frag)(C:Addr):Bool:=(clsIn K C).any λcd=>B3 cd.mro&&cd.hasDict && !cd.mro.isEmpty
theorem VV(self:Value):∀{l:List Value},B3 l=true->refuseLoop self "__setattr__" l=pure ():=by
 intro l
 induction l with
 | nil=>intro e;cases e
 | cons a r ih =>
  intro e
  by_cases q:∃c,a=.ref c
  ·obtain⟨c,rfl⟩:=q
   rw[refuseLoop_ref]
   exact ih e
  ·have e:a::r=vv:=by
    have e':(a::r==vv)=true:=by
     cases a<;>first | exact e | exact absurd ⟨_,rfl⟩ q
    exact beq_iff_eq.mp e'
   rw[e]
   exact PySem.F.store_ValueError.passes self
section
variable{prog:Program}{w:World}{A:Around}{s:Shared}{K:Frag}{x C:Addr}{R:Result->Shared->Prop}
theorem VW{oe:Obj}{name:Str}{tk:Tok}{v:Value}{vs:Array Value}(Bp:oe.data=.fields vs)(X:K.In s.heap)(I:InstAt s.heap x oe C none)(hp:B4 K C=true)(ho:mroIn K C (.type "object")=some true)(ht:findIn K (.ref C) name=some none)
  (h:∀h' dx B5,s.heap.get? dx=none->h'.get? x=some { oe with dict:=some dx }->(∃od,h'.get? dx=some od/\lookIn name od=some (some v))->(∀b o,b≠x->s.heap.get? b=some o->h'.get? b=some o) ->
   R (.ok (.ret .none)) { s with heap:=h',toks:=B5 }) :
  codeAny (model prog w) A (.call (.builtin "object.__setattr__") ⟨[.ref x,.str name tk,v],[]⟩) R s:=by
 have SF:=PySem.F.store_object
 obtain⟨cd,hc,br⟩:=any_some hp
 simp only[cJ]at br
 obtain⟨⟨hm,hd⟩,_⟩:=br
 have sub:Looks (model prog w) s.heap (isInstance (.ref x) (.type "object")) true:=I.type.andThen (looks_mroIn X ho)
 refine codeAny_call_builtin SF.slot.plain SF.entry (@check_slot (model prog w) _ _ s "object.__setattr__" "object" "__setattr__" (.ref x) [.str name tk,v] [] _ SF.kind SF.split sub (SF.args (.ref x) (.str name tk) v) ?_)
 have ia:Looks (model prog w) s.heap (mroOf (.ref C)) cd.mro:=(looks_clsIn X hc).andThen .now
 rw[osa_eq,refuse_eq]
 refine wpAny_bind (wpAny_bind (I.type.here (wpAny_bind (ia.here ?_))))
 rw[VV _ hm]
 refine wpAny_pure (wpAny_bind (I.type.here (wpAny_bind ((looks_findIn X ht).here (wpAny_bind ?_)))))
 refine wpAny_pure ?_
 obtain⟨hx,dU,hn,Am⟩:=I
 obtain⟨oc,od,VX,gn⟩:=oe
 cases(show oc=bC C from dU)
 cases od with
 | some _=>exact Am.elim
 | none =>
 obtain⟨gJ,g,d,t,os⟩:=s
 dsimp only at hx h
 refine wpAny_bind (wpAny_pure (wpAny_bind (wpAny_bind (wpAny_loadPart hx (wpAny_bind ((looks_clsIn X hc).here ?_))))))
 rw[hd]
 cases(show VX=sT vs from Bp)
 rw[if_neg (by decide)]
 dsimp only
 rw[if_neg (by simp[typeHasDict])]
 have xs:x≠gJ.objs.size:=cG (a4 hx)
 generalize yh:gJ.push { cls:=.type "dict",data:=.dict #[] }=p1
 have x1:p1.get? x=some { cls:=bC C,data:=sT vs,slots:=gn }:=by rw[<-yh];exact bU _ hx
 have d1:p1.get? gJ.objs.size=some { cls:=.type "dict",data:=.dict #[] }:=by rw[<-yh];exact Dz rfl rfl
 refine wpAny_bind (wpAny_alloc' ?_)
 rw[yh]
 refine wpAny_bind (wpAny_update' x1 (wpAny_pure ?_))
 show wpAny _ _ (storeInDict gJ.objs.size (.str name tk) name v) _ _ _
 generalize B6:p1.update x (λo=>{ cls:=o.cls,dict:=some gJ.objs.size,data:=o.data,slots:=o.slots })=p2
 have x2:p2.get? x=some { cls:=bC C,dict:=some gJ.objs.size,data:=sT vs,slots:=gn }:=by rw[<-B6];exact sW _ x1 rfl
 have d2:p2.get? gJ.objs.size=some { cls:=.type "dict",data:=.dict #[] }:=by rw[<-B6,i3 _ _ xs];exact d1
 have nd:p2.Ns gJ.objs.size (λ_=>none):=⟨_,#[],_,d2,rfl,λe he=>absurd he (by simp),λ_=>rfl⟩
 unfold storeInDict newKeyGuard
 refine wpAny_bind (wpAny_pure (wpAny_bind (wpAny_nsSet1 (Heap.Ns1.of_empty nd) λh' ja hs=>?_)))
 obtain⟨oD,Ox,Oy,zL,zM,iy⟩:=ja.count (Within.cons name v Within.nil)
 refine wpAny_bind (wpAny_lookBehind zL (by rw[zM];exact pastItsLine_dict (dy iy (by rw[cS,mX,sizeLine_eq];omega))) ?_)
 wp_walk
 refine h h' gJ.objs.size _ (yN (aZ _)) ((hs.2 x xs).trans x2) ?_ λb o hb e=>?_
 ·obtain⟨o,es,ep,e1,e2,_,_,e4⟩:=ja
  refine⟨o,e1,?_⟩
  have e5:nsFind es name=some v:=(e4 name).trans (if_pos rfl)
  unfold nsFind findBy at e5
  obtain⟨en,f1,f2⟩:=qK.mp e5
  unfold lookIn
  rw[e2]
  dsimp only
  rw[C5,f1,<- f2]
 ·refine(hs.2 b (cG (a4 e))).trans ?_
  rw[<-B6,i3 _ _ (cA hb),<- yh]
  exact bU _ e
end
end L2
namespace L2
open PySem PySem.W PySem.Spec PySem.Calls PyProof.Rows
section
variable{prog:Program}{w:World}{A:Around}{E:Value->Shared->Prop}{s:Shared}{K:Frag}{x D:Addr}{ox:Obj}{gA:Option Obj}{nm:Str}{v:Value}
theorem VY{tk:Tok}{Q:Fin->Shared->Prop}(X:K.In s.heap)(I:PySem.W.InstAt s.heap x ox D gA)(hf:findObj K D gA nm=some (.value v))(hq:Q (.done (.ret v)) s) :
  wpAny (model prog w) A (Builtin.«object.__getattribute__» ⟨[.ref x,.str nm tk],[]⟩) Q E s:=by
 obtain⟨hh,g,d,t,os⟩:=s
 have L0:=I.type (M:=model prog w)
 have L1:=looks_find (M:=model prog w) X I hf
 unfold Builtin.«object.__getattribute__»
 repeat (any_goals (first | assumption | refine wpAny_bind (L0.at ?_) | refine wpAny_bind (L1.at ?_) | wp_step))
theorem VZ{ex:Bool}{Q:Value->Shared->Prop}(X:K.In s.heap)(I:PySem.W.InstAt s.heap x ox D gA)(Aq:findIn K (.ref D) "__getattribute__"=some (some (.builtin "BaseException.__getattribute__")))(Ar:findIn K (.ref D) "__getattr__"=some none)
  (hf:findObj K D gA nm=some (.value v)) (hb:mroIn K D (.type "BaseException")=some true) (hv:handedIn v=true)
  (h:Q v { s with toks:=s.toks+1 }):wpAny (model prog w) A (getAttr (.ref x) nm ex) Q E s:=by
 have xc:=λ(R:Result->Shared->Prop) (tk:Tok) (hR:R (.ok (.ret v)) { s with toks:=s.toks+1 }) (A:Around)=>codeAny_call_builtin (prog:=prog) (w:=w) (A:=A) (R:=R) (s:={ s with toks:=s.toks+1 }) (args:=⟨[.ref x,.str nm tk],[]⟩) (by decide +kernel) F.entry_bexc_ga (Fj (s:={ s with toks:=s.toks+1 }) X I hb (VY (s:={ s with toks:=s.toks+1 }) X I hf hR))
 obtain⟨hh,g,d,t,os⟩:=s
 have L0:=I.type (M:=model prog w)
 have L1:=looks_findIn (M:=model prog w) X Aq
 have L2:=looks_findIn (M:=model prog w) X Ar
 have f3:=(F.excAttr_ValueError).ga.bind (.ref x)
 have dM:(kW "BaseException.__getattribute__"==kW "object.__getattribute__")=false:=by decide +kernel
 have cO:(onTheHeap (bC D)&&kW "BaseException.__getattribute__"==kW "object.__getattribute__")=false:=by rw[dM];rfl
 unfold getAttr getAttrBy
 refine wpAny_bind (wpAny_mkText (wpAny_holding (wpAny_bind (L0.at (wpAny_bind (L1.at ?_))))))
 dsimp only
 rw[cO]
 simp only[i6,if_false]
 unfold getAttrByItsOwn
 repeat (any_goals (first | assumption | refine wpAny_bind (L0.at ?_) | refine wpAny_bind (L2.at ?_) | wp_step))
 rw[show(ex&&onTheHeap (kW "BaseException.__getattribute__"))=false by cases ex<;>rfl]
 simp only[i6,if_false]
 repeat (any_goals (first | assumption | wp_step))
 refine xc _ t ?_ _
 show wpAny _ _ (handedOut v) _ _ _
 exact handed_on hv h
end
end L2
namespace L2
open PySem PySem.W PySem.Spec PySem.Calls PyProof.Rows
section
variable{prog:Program}{w:World}{A:Around}{R:Result->Shared->Prop}{h:Heap}{g:Array GenState}{d:Drawn}{t:Nat}{os:OsState}
variable{nm q:Str}{C N e T0:Addr}{dc:Option Addr}{bs bm eA:List Value}{hdct:Bool}{sn:List Str}{sub:List Value}{ab:Bool}{col:Option Bool}{dd:Option Addr}{k0 k1 k2 k3 k5:Option Value}{B newId kq jw:String}
theorem V0(F:ExcBaseFacts B kq jw eA)(T:OwnTail h eA bm){us:List Value}(hC:h.get? C=some (excClassObj nm q C N bs bm hdct sn sub ab col dd k0 k1 k2 k3 k5 newId))(he:h.get? e=some (jH C T0 dc))(hl:us.length<=sizeLine)
  (hq:∀h',(∀b o,b≠e->h.get? b=some o->h'.get? b=some o)->(∃T1,h'.get? e=some (jH C T1 dc))->R (.ok (.ret .none)) ⟨h',g,d,t,os⟩) :
  codeAny (model prog w) A (.call (.builtin jw) ⟨.ref e::us,[]⟩) R ⟨h,g,d,t,os⟩:=by
 refine codeAny_call_builtin F.init.plain F.initEntry (wpAny_check_init_subU F T hC he rfl ?_)
 wp_walk
 refine hq _ (λb o hb q=>?_) ⟨h.objs.size,?_⟩
 ·rw[i3 _ _ (cA hb)]
  exact bU _ q
 ·rw[sW _ (bU _ he) rfl]
  rfl
end
end L2
namespace L2
open PySem PySem.Spec PyProof.Rows
noncomputable def cy(e C:Addr)(dc:Option Addr):Heap->Prop:=λh=>∃T,h.get? e=some (jH C T dc)
theorem B7{e C:Addr}{dc:Option Addr}(g g':Heap)(h:cy e C dc g)(k:∀o,g.get? e=some o->g'.get? e=some o):cy e C dc g':=h.imp λ_ q=>k _ q
theorem V1{e C:Addr}{dc:Option Addr}{h:Heap}(x:cy e C dc h):ur h e (.ref C) dc:=let⟨_,q⟩:=x;⟨_,_,q,rfl,rfl,rfl,rfl⟩
section
variable{X:Cx}{pins:List (Addr × Obj)}{σ:St}{H:Hp}{s:Shared}{e:Addr}{φ ψ:Heap->Prop}{h':Heap}
theorem Inv.ID{t':Nat}(I:Inv X pins σ H s)(he:H e=some (.ext φ))(kp:∀b o,b≠e->s.heap.get? b=some o->h'.get? b=some o)(ho:∃o,h'.get? e=some o)(h1:ψ h')
  (h2:∀g g':Heap,ψ g->(∀o,g.get? e=some o->g'.get? e=some o)->ψ g') (pS:¬ ∀h',φ h'->∃q,h'.CodeRec (.ref e) q):Inv X pins σ (upd H e (.ext ψ)) { s with heap:=h',toks:=t' }:=by
 have ne:∀{b:Addr} {u:HO},H b=some u->(∀φ,u≠.ext φ)->b≠e:=λ{b u} q n z=>by rw[z,he]at q;cases q;exact n _ rfl
 have nn:∀{b:Addr},H b=none->b≠e:=λ{b} q z=>by rw[z,he]at q;cases q
 have nb:∀{b o},X.bc.heap.get? b=some o->X.gQ b=none->b ∉ X.ex->b≠e:=λ{b o} q n hx=>nn (I.base.free b o q n hx)
 obtain⟨m,su,hl⟩:=I.loc
 have nl:=nn I.free
 refine⟨I.ok,I.os,I.bare,⟨λb o q n hb hx=>kp b o (nb q n hx) (I.base.keep b o q n hb hx),λb o q n hb hx=>?_,λb o q n hx=>?_,λb o q hx=>?_,λb xs q=>?_,λb o u q=>?_,λb ps q=>?_⟩,?_,λx c q=>?_,?_,λx c q=>?_,λp hp=>?_,λb u q=>?_,I.len⟩
 ·obtain⟨sl,z⟩:=I.base.slot b o q n hb hx
  exact⟨sl,kp b _ (nb q n hx) z⟩
 ·rw[ay (nb q n hx)];exact I.base.free b o q n hx
 ·by_cases z:b=e
  ·rw[z];exact ho
  ·obtain⟨o',q'⟩:=I.base.there b o q hx
   exact⟨o',kp b o' z q'⟩
 ·have z:=I.base.dJ b xs q;rw[ay (ne z λ_ y=>by cases y)];exact z
 ·have z:=I.base.dA b o u q;rw[ay (ne z λ_ y=>by cases y)];exact z
 ·obtain⟨mo,z⟩:=I.base.da b ps q;exact⟨mo,by rw[ay (ne z λ_ y=>by cases y)];exact z⟩
 ·obtain⟨o,es,ep,a1,a2⟩:=su
  refine⟨m,⟨o,es,ep,kp _ _ nl a1,a2⟩,λi x v q1 q2 q3=>?_⟩
  obtain⟨u,r,l⟩:=hl i x v q1 q2 q3
  refine⟨u,r,?_⟩
  rcases l with l | ⟨k,c,a,z⟩
  ·exact .inl l
  ·obtain⟨oc,b1,b2⟩:=z
   exact .inr ⟨k,c,a,oc,kp _ _ (nn (I.cK x c a)) b1,b2⟩
 ·obtain⟨v,oc,b1,b2⟩:=I.cell x c q
  exact⟨v,oc,kp _ _ (nn (I.cK x c q)) b1,b2⟩
 ·rw[ay nl];exact I.free
 ·rw[ay (nn (I.cK x c q))];exact I.cK x c q
 ·obtain⟨q1,q2,q3⟩:=I.pin p hp
  exact⟨kp _ _ (nn q2) q1,by rw[ay (nn q2)];exact q2,q3⟩
 ·by_cases z:b=e
  ·subst z
   rw[a5]at q
   cases q
   exact⟨h1,ho,λg g' a k=>h2 g g' a λo y=>k _ o (.inl rfl) y⟩
  ·rw[ay z]at q
   have up:∀{c v},rem H e X.env.locals c=some v->c≠e/\upd H e (.ext ψ) c=some v:=λ{c v} y=>by
    obtain⟨y1,_,y3⟩:=xH y
    exact⟨y1,by rw[ay y1];exact y3⟩
   exact((I.au b u q).rem z he (.inr I.free) pS).eB (λc v hc y=>kp c v (hc.elim (λx=>x ▸ z) λx=>(up x).1) y) (λc y=>(up y).2) (λc xs y=>(up y).2) λc ξ y=>(up y).2
theorem Inv.drop(I:Inv X pins σ H s)(he:H e=some (.ext φ))(ho:X.bc.heap.get? e=none)(pS:¬ ∀h',φ h'->∃q,h'.CodeRec (.ref e) q):Inv X pins σ (rem H e X.env.locals) s:=by
 have ne:∀{b:Addr} {u:HO},H b=some u->(∀φ,u≠.ext φ)->rem H e X.env.locals b=some u:=λ{b u} q n=>by
  rw[dR (λz=>by rw[z,he]at q;cases q;exact n _ rfl) (λz=>by rw[z,I.free]at q;cases q)];exact q
 refine⟨I.ok,I.os,I.bare,⟨I.base.keep,I.base.slot,λb o q n hx=>jz (I.base.free b o q n hx),I.base.there,λb xs q=>ne (I.base.dJ b xs q) (λ_ y=>by cases y),λb o u q=>ne (I.base.dA b o u q) (λ_ y=>by cases y),λb ps q=>?_⟩,I.loc,I.cell,jz I.free,λx c q=>jz (I.cK x c q),λp hp=>?_,λb u q=>?_,I.len⟩
 ·obtain⟨mo,z⟩:=I.base.da b ps q
  exact⟨mo,ne z λ_ y=>by cases y⟩
 ·obtain⟨q1,q2,q3⟩:=I.pin p hp
  exact⟨q1,jz q2,q3⟩
 ·obtain⟨y1,_,y3⟩:=xH q
  exact(I.au b u y3).rem y1 he (.inr I.free) pS
theorem B8{e C:Addr}{dc:Option Addr}{h:Heap}(x:cy e C dc h):¬ ∀h',cy e C dc h'->∃q,h'.CodeRec (.ref e) q:=λz=>by
 obtain⟨T,a⟩:=x
 obtain⟨q,c,oc,vs,tq,hc,jk,gk,hq⟩:=z h ⟨T,a⟩
 cases hc
 rw[a]at jk
 cases jk
 cases gk
 cases hq
end
end L2
namespace L2
open PySem PySem.Spec PyProof.Rows
theorem V2{K:PySem.W.Frag}{h:Heap}{N:Addr}{mN:Str->Option Value}{n:Str}{v:Value}(X:K.In h)(G:h.Ns N mN)(e:PySem.W.nsIn K N n=some (some v)):mN n=some v:=by
 obtain⟨o,es,ep,ho,hd,_,hf⟩:=G
 unfold PySem.W.nsIn at e
 split at e
 ·rename_i q
  have y:=X _ _ q
  rw[ho]at y
  cases y;cases hd
  split at e
  ·rename_i he
   cases e
   rw[<-hf];unfold nsFind findBy
   rw[<-C5,he];rfl
  ·split at e<;>cases e
 ·cases e
noncomputable def vw(K:PySem.W.Frag)(C fI:Addr):Bool:=match K.lookup C with
 | some ⟨.type "type",_,.cls cd,sl⟩=>(match cd.mro,sl.toList with
  | .ref C'::bm,[_,_,_,_,some (.builtin n),_]=>C'==C&&n == "ValueError.__new__" && !cd.hasDel&&PySem.W.tailIn K vv bm&&PySem.W.nsOkIn K cd.ns&&PySem.W.nsIn K cd.ns "__init__"==some (some (.ref fI))
  | _,_=>false)
 | _=>false
noncomputable def V3(C fI:Addr)(h:Heap):Prop:=∃bm N nm q bs hdct sn sub ab col dd k0 k1 k2 k3 k5 mN,h.get? C=some (excClassObj nm q C N bs bm hdct sn sub ab col dd k0 k1 k2 k3 k5 "ValueError.__new__")/\h.Ns N mN/\mN "__init__"=some (.ref fI)/\OwnTail h vv bm
theorem IE{K:PySem.W.Frag}{C fI:Addr}{h:Heap}(X:K.In h)(q:vw K C fI=true):V3 C fI h:=by
 unfold vw at q
 split at q
 ·rename_i dd cd sl ho
  split at q
  ·rename_i C' bm k0 k1 k2 k3 n k5 hm hs
   simp only[cJ,beq_iff_eq,Bool.not_eq_true']at q
   obtain⟨⟨⟨⟨⟨rfl,rfl⟩,uT⟩,ht⟩,au⟩,kr⟩:=q
   obtain⟨nm,bs,mro,ns,qn,hd,sn,sub,ab,col,del⟩:=cd
   dsimp only at hm uT au kr
   subst hm uT
   have Be:sl=#[k0,k1,k2,k3,some (.builtin "ValueError.__new__"),k5]:=by
    obtain⟨l⟩:=sl
    simp only at hs
    rw[hs]
   subst Be
   have N1:h.Ns ns (h.nsMap ns):=.of_isNs (PySem.W.isNs_of_in X au)
   exact⟨bm,ns,nm,qn,bs,hd,sn,sub,ab,col,dd,k0,k1,k2,k3,k5,_,X _ _ ho,N1,V2 X N1 kr,PySem.W.tail_of_in X ht⟩
  ·cases q
 ·cases q
structure B9(K:PySem.W.Frag)(C:Addr):Prop where
 ga:PySem.W.specialIn K (.ref C) "__getattribute__"=some (some (.builtin "type.__getattribute__"))
 rd:PySem.W.readsIn K C (.type "type")=true
 at_:PySem.W.findCls K (.ref C) (.type "type") "__init__"=some (.val (.builtin "ValueError.__init__"))
section
variable{X:Cx}{C Me fI:Addr}{x f:Str}{p pos pos' apos:Pos}{e o value:Expr}{es:List Expr}{t:TA}{ta tv:TE}
noncomputable def V4(C:Addr)(t:TA):TE:=λσ H Q=>t σ H λvs H1=>∃a rest,vs=.ref a::rest/\rest.length<=9/\H1 a=some (.ext (cy a C none))/\Q .ao H1
theorem V5{pl:Sem Bool}(M:B9 X.K Me)(hC:vw X.K C fI=true)(hg:Gl X x)(hm:X.mg x=some (.ref Me))(ha:PA X (e::es) t)
  (bN:(x==("__debug__":Str))=false:=by decide) (bt:starEach (e::es) X.env=(false,eval e X.env)::starEach es X.env:=by rfl) (aR:(backTo pos (starEach es X.env)).any (·.1)=false:=by rfl)
  (ht:eval (.Call (.Attribute (.Name x p) "__init__" apos) (e::es) [] pos) X.env=(do
   let ov<-eval (.Name x p) X.env
   standAt apos.atName
   let (f,first)<-holding [ov] (getMethod ov "__init__" pl)
   callWith pos f first (backTo pos (starEach (e::es) X.env)) (backToKw pos (keywordEach [] X.env))):=by rfl) :
  PE X (.Call (.Attribute (.Name x p) "__init__" apos) (e::es) [] pos) (V4 C t):=by
 intro pins s σ H Q I h
 refine PySem.W.methodCall_KW (pl:=pl) (jW I hg hm ?_ bN) ht
 refine PySem.W.method_cls I.bh M.ga (PySem.W.cls_value (mc:=.type "type") I.bh M.rd M.at_ rfl ?_)
 refine Ms (aA (ha pos pins _ σ H _ (I.tok _) h) λus s1 ⟨vs,H1,I1,r,a,rest,ev,hl,hH,q⟩=>?_) bt aR
 subst ev
 cases r with | @cons _ u _ oU ru rs=>?_
 cases(show u=bC a from ru)
 obtain⟨bm,N,nm,q',bs,hdct,sn,sub,ab,col,dd,k0,k1,k2,k3,k5,mN,g1,g2,g3,g4⟩:=IE I1.bh hC
 obtain⟨x1,_,_⟩:=(show bq X.prog X.w H1 s1.heap a (.ext (cy a C none)) from I1.au a _ hH)
 obtain⟨T0,x2⟩:=id x1
 have hu:upd H1 a (.ext (cy a C none))=H1:=funext λb=>by
  by_cases z:b=a
  ·rw[z,a5,hH]
  ·rw[ay z]
 refine wpAny_call (V0 PySem.F.excBase_ValueError g4 g1 x2 (by rw[<-rs.length];exact dy hl (by decide)) λh' kp xn=>?_)
 have J:=I1.ID (ψ:=cy a C none) (h':=h') (t':=s1.toks) hH kp (let⟨_,y⟩:=xn;⟨_,y⟩) xn B7 (B8 x1)
 rw[hu]at J
 exact⟨.ao,H1,J,rfl,q⟩
end
end L2
namespace L2
open PySem PySem.Spec PyProof.Rows
section
variable{X:Cx}{C Me fI:Addr}{x f:Str}{p pos pos' apos:Pos}{e o value:Expr}{es:List Expr}{t:TA}{ta tv:TE}
structure IF(K:PySem.W.Frag)(C:Addr)(f:Str):Prop where
 sa:PySem.W.findIn K (.ref C) "__setattr__"=some (some (.builtin "object.__setattr__"))
 no:PySem.W.findIn K (.ref C) f=some none
 Ca:B4 K C=true
 mo:PySem.W.mroIn K C (.type "object")=some true
noncomputable def V6(C:Addr)(ta tv:TE)(f:Str):TS:=λD σ H=>tv σ H λy H1=>ta σ H1 λz H2=>∃a n,y=.int n/\z=.ref a/\H2 a=some (.ext (cy a C none)) /\
 ∀dx,H2 dx=none->dx≠a->D.nx σ (upd (upd H2 a (.ext (cy a C (some dx)))) dx (.ext (L3.gD f n dx)))
theorem V7(M:IF X.K C f)(hex:X.ex=[])(ha:PE X o ta)(hv:PE X value tv)(hs:swapsWith value (some (.Attribute o f pos')) pos.line X.env=pure false:=by rfl):PS X (.Assign [.Attribute o f pos'] value pos) (V6 C ta tv f):=by
 intro pins s σ H D I h
 refine plainObj_wpAny_Assign_Attribute (aA (hv pins s σ H _ I h) λu s1 ⟨y,H1,I1,ry,q⟩=>aA (ha pins s1 σ H1 _ I1 q) λov s2 ⟨z,H2,I2,rz,a,n,ey,ez,hH,q2⟩=>?_) hs
 subst ey ez
 cases(show ov=bC a from rz)
 obtain⟨tk,rfl⟩:=ry
 obtain⟨x1,_,_⟩:=(show bq X.prog X.w H2 s2.heap a (.ext (cy a C none)) from I2.au a _ hH)
 obtain⟨T0,x2⟩:=id x1
 have J:PySem.W.InstAt s2.heap a (jH C T0 none) C none:=⟨x2,rfl,rfl,trivial⟩
 refine PySem.W.set_plain I2.bh J M.sa (VW (s:={ s2 with toks:=s2.toks+1 }) rfl I2.bh J M.Ca M.mo M.no λh' dx B5 hd hx ho kp=>?_)
 have nd:dx≠a:=λz=>by rw[z,x2]at hd;cases hd
 have J1:=I2.ID (ψ:=cy a C (some dx)) (h':=h') (t':=B5) hH kp ⟨_,hx⟩ ⟨T0,hx⟩ B7 (B8 x1)
 have pd:=I2.apart (H':=upd H2 a (.ext (cy a C (some dx)))) hex hd (by rw[ay nd];exact I2.au.none hd)
 refine⟨σ,_,L3.A7 (φ:=L3.gD f n dx) J1 pd (ho.imp λ_ z=>z.1) (let⟨od,o1,o2⟩:=ho;⟨od,tk,o1,o2⟩) (λg g' ⟨od,k,o1,o2⟩ kk=>⟨od,k,kk _ o1,o2⟩),q2 dx (I2.au.none hd) nd⟩
end
end L2
namespace L3
open PySem L2 PySem.Spec PyProof.Rows
noncomputable def Cb(C:Addr)(nm:Str):L2.Sp:=λvs H Q _=>∃a n,vs=[.ref a,.int n]/\0<=n/\n<1000/\H a=some (.ext (cy a C none)) /\
 ∀dx,H dx=none->dx≠a->Q .ao (upd (upd H a (.ext (cy a C (some dx)))) dx (.ext (gD nm n dx)))
noncomputable def qh(C:Addr)(nm:Str)(t:a6):bw:=λD δ=>t δ λds aa=>∃n,ds=[.int n]/\0<=n/\n<1000/\D.xr ⟨C,some (nm,n)⟩ aa
section
variable{X:Cx}{CX:cn}{k:Nat}{C fI:Addr}{fd:FuncData}{ps:List Str}{x nm:Str}{e:Expr}{es:List Expr}{t:a6}{np aP pos:Pos}
theorem V8(hm:X.mg x=some (.ref C))(hi:vw X.K C fI=true)(nq:∃oI,X.K.lookup fI=some oI/\oI.cls=.type "function")(F:aL X.prog X.w X.K X.mg X.base CX k fI fd ps (Cb C nm))(hr:bu (k+1) X.A)(hb:L2.Binds X.K fd ps [])(hx:iz CX X E0)(hc:X.calm=true)(hg:Gl X x)(ha:PA X (e::es) (lA t))
  (bN:(x==("__debug__":Str))=false:=by decide) (he:starEach (e::es) X.env=(false,eval e X.env)::starEach es X.env:=by rfl) (aR:(backTo aP (starEach es X.env)).any (·.1)=false:=by rfl) (hex:X.ex=[]:=by rfl) :
  PS X (.Raise (some (.Call (.Name x np) (e::es) [] aP)) none pos) (lS X (qh C nm t)):=by
 intro pins s σ H D I zz
 obtain⟨B,F',δ,Dd,c,q,k1,k2,k3,k4,xl⟩:=zz
 obtain⟨bm,N,V9,qn,bs,hdct,sn,sub,ab,col,dd,k0,kb,lY,A6,k5,mN,hC,hN,kr,T⟩:=IE I.ok.mod.ir hi
 obtain⟨oI,Wa,qg⟩:=nq
 have FB:=PySem.F.excBase_ValueError
 refine VT (k5:=k5) (k3:=A6) (k2:=lY) (k1:=kb) (k0:=k0) (dd:=dd) (col:=col) (ab:=ab) (sub:=sub) (sn:=sn) (hdct:=hdct) (bs:=bs) (N:=N) (q:=qn) (nm:=V9) (C:=C) FB rfl FB (mN:=mN) (fI:=fI) (T.hasType FB.hasBase) (I.ok.hd hc) (by rw[he];show(false||(backTo aP (starEach es X.env)).any (·.1))=false;rw[aR];rfl) kr (jW I hg hm ⟨rfl,?_⟩ bN)
 have pI:=ha aP pins s σ H (λvs H1=>∃n aa F1,vs=[.int n]/\0<=n/\n<1000/\Dd.xr ⟨C,some (nm,n)⟩ aa/\ai B F1 H1 σ aa []) I ⟨B,F',δ,[],_,c,q,λds ah vs F1 H1 q1 f1 h1 c1 s1=>by
  obtain⟨n,rfl,n0,n1,hx⟩:=q1
  cases s1 with
  | int s1=>cases s1;exact⟨n,ah,F1,rfl,n0,n1,hx,c1⟩⟩
 rw[he]at pI ⊢
 refine Dc (wpAny_mono pI (λus s2 h2=>?_) λ_ _ y=>y)
 obtain⟨vs,H1,I1,r,n,aa,F1,rfl,n0,n1,Wb,cu⟩:=h2
 refine⟨rfl,by rw[<-r.length];show 1<=sizeLine;decide,I1.bk _ _ hC,hN.keeps I1.bk,T.keeps I1.bk,⟨oI,I1.bh _ _ Wa,qg⟩,λh' a ia=>?_⟩
 have nw:=ia.new
 have J0:=I1.wM (h':=h') hex [] (λ_ z=>absurd z (by simp)) (λb o _ _ q=>ia.keeps b o q) (λb o _ q=>⟨o.slots,ia.keeps b o q⟩) s2.gens s2.toks s2.drawn I1.bare
 have fa:=I1.au.none nw
 have pa:=I1.apart (H':=H1) hex nw fa
 have xa:cy a C none h':=by obtain⟨T',e1,_,_⟩:=ia.there;exact⟨T',e1⟩
 have J1:=A7 (φ:=cy a C none) J0 pa (let⟨_,z⟩:=xa;⟨_,z⟩) xa B7
 have ZP:ae H1 (upd H1 a (.ext (cy a C none))):=ae.upd fa
 have r2:Vals (V.ref a::[V.int n]) (bC a::us):=.cons rfl r
 have hq:Cb C nm [.ref a,.int n] (upd H1 a (.ext (cy a C none))) (λv H'=>v=.ao/\∃dx,H1 dx=none/\dx≠a/\H'=upd (upd (upd H1 a (.ext (cy a C none))) a (.ext (cy a C (some dx)))) dx (.ext (gD nm n dx))) E0 :=
  ⟨a,n,rfl,n0,n1,a5,λdx hd eF=>⟨rfl,dx,by rw[ay eF]at hd;exact hd,eF,rfl⟩⟩
 have hl:((bC a::us)++[]).length=ps.length:=by rw[gg,<- r2.length];exact F.len _ _ _ _ hq
 have iP:=hb _ (bC a::us) J1.bh hl
 rw[gg]at iP
 refine wpAny_call (codeAny_mono (F.run _ X.stack _ _ ⟨bC a::us,[]⟩ (bC a::us) _ _ E0 (hr.make C us []) (J1.nC.make C us []) iP r2 hq) λr s' dE=>?_)
 cases r with
 | error e=>exact hx pins σ _ _ e s' J1 dE
 | ok fl =>
  cases fl with
  | ret u =>
   obtain⟨v,H',J2,rv,ev,dx,hd,eF,eH⟩:=J1.after dE
   subst ev eH
   cases(show u=kN from rv)
   have ea:∀{o:HO},upd (upd (upd H1 a (.ext (cy a C none))) a (.ext (cy a C (some dx)))) dx o a=some (.ext (cy a C (some dx))):=λ{o}=>by rw[ay (cA eF),a5]
   obtain⟨x1,_,_⟩:=(show bq X.prog X.w _ s'.heap a (.ext (cy a C (some dx))) from J2.au a _ ea)
   have J3:=J2.drop ea pa.old (B8 x1)
   have sm:ae H1 (L2.rem (upd (upd (upd H1 a (.ext (cy a C none))) a (.ext (cy a C (some dx)))) dx (.ext (gD nm n dx))) a X.env.locals):=.of λb o q=>by
    rw[dR (cq q fa) (cq q I1.free),ay (cq q hd),ay (cq q fa),ay (cq q fa)];exact q
   refine⟨rfl,J2.bk _ _ hC,⟨_,_,x1.choose_spec⟩,xl.2 ⟨C,some (nm,n)⟩ (some dx) aa pins σ F1 _ s' a Wb (cu.grow sm) J3 ⟨dx,rfl,?_⟩ (V1 x1) ⟨pa.old,Bl,pa.loc,pa.cell,pa.pin,pa.fr⟩⟩
   have nl:dx≠X.env.locals:=λz=>by
    have y:=J2.free
    rw[<-z,a5]at y;cases y
   rw[dR eF nl,a5]
  | next=>exact cH dE
  | brk=>exact cH dE
  | cont=>exact cH dE
end
end L3
namespace L3
open PySem L2 PySem.Spec PyProof.Rows
structure Cc(K:PySem.W.Frag)(C:Addr)(f:Str):Prop where
 cls:gB K C
 hd:PySem.W.hasDictIn K C=true
 no:PySem.W.findIn K (.ref C) f=some none
noncomputable def qi(K:PySem.W.Frag)(te:aw)(f:Str):aw:=λδ Q=>te δ λd aa=>∃C n,d=.aS (.g6 C f n)/\Cc K C f/\Q (.int n) aa
section
variable{X:Cx}{e:Expr}{te:aw}{f:Str}{pos:Pos}
theorem IG(he:PE X e (lB te))(hb:attributeBase e f X.env (eval e X.env)=eval e X.env:=by rfl):PE X (.Attribute e f pos) (lE (qi X.K te f)):=by
 intro pins s σ H Q I zz
 obtain⟨B,F,δ,ts,Qd,c,q,k⟩:=zz
 refine D7 hb (aA (he pins s σ H (λv H1=>∃a C n dx ah F1,v=.ref a/\H1 a=some (.ext (lz a C dx))/\H1 dx=some (.ext (gD f n dx))/\Cc X.K C f/\Qd (.int n) ah/\ae F F1/\ae H H1/\ai B F1 H1 σ ah ts) I ⟨B,F,δ,ts,_,c,q,λd ah v F1 H1 q1 f1 h1 c1 s1=>by
  obtain⟨C,n,rfl,xg,hq⟩:=q1
  cases s1 with
  | aS h' _ =>
   obtain⟨dx,a1,a2⟩:=h'
   exact⟨_,C,n,dx,ah,F1,rfl,a1,a2,xg,hq,f1,h1,c1⟩⟩) λu s1 zq=>?_)
 obtain⟨v,H1,I1,rv,a,C,n,dx,ah,F1,rfl,a1,a2,xg,hq,f1,h1,c1⟩:=zq
 cases(show u=bC a from rv)
 obtain⟨xa,_,_⟩:=(show bq X.prog X.w H1 s1.heap a (.ext (lz a C dx)) from I1.au a _ a1)
 obtain⟨xd,_,_⟩:=(show bq X.prog X.w H1 s1.heap dx (.ext (gD f n dx)) from I1.au dx _ a2)
 obtain⟨ox,od,J,tk,lk⟩:=Bb xa xd
 exact VZ I1.bh J xg.cls.ga xg.cls.gt (PySem.W.findObj_own xg.hd xg.no rfl lk) xg.cls.mb rfl ⟨.int n,H1,I1.tok _,⟨tk,rfl⟩,k _ ah _ F1 H1 hq f1 h1 (c1.pushS (.int .nil) rfl)⟩
end
end L3
namespace L2
open PySem PySem.Spec PyProof.Rows
theorem Wc{X:Cx}:bI X (compareOp .In) (λx y H Q=>∃(k:Int) (p:Addr) (aj:List (Key × V)),x=.int k/\y=.ref p/\H p=some (.dK aj)/\Q (.bl (dw aj (.inl k)).isSome) H):=by
 intro pins s σ H x y v u Q I rx ry ⟨k,p,aj,ex,ey,hp,q⟩
 subst ex;subst ey
 obtain rfl:u=bC p:=ry
 obtain⟨z,nm,vs,rel,dd⟩:=BY I.au hp
 refine wpAny_in_of (BX (k:=.inl k) rx) nm dd.mapOf ?_
 rw[<-(rel.val (.inl k)).Iu]
 exact⟨.bl _,H,I.tok _,rfl,q⟩
end L2
namespace L3
open PySem L2 PySem.Spec PyProof.Rows
noncomputable def qj(i:Nat)(ti:eo)(g:dO)(t1 te:aw)(tr:bw):bw:=λEn δ=>i<δ.length/\ti (δ.set i none) λsh xs ah=>sh=true/\∃(Iv:Nat->Dl->Prop) (ks:Nat->Int),Iv 0 ah /\
 (∀j d aa,xs[j]?=some d->Iv j aa->g d aa λaC=>(t1 aC λy fc=>y=.int (ks j)/\fc=aC) /\
  (if ks j∈(bD j).map ks then tr { nx:=λ_=>False,rt:=λ_=>False,xr:=En.xr } aC else(te aC λy _=>y=.int (ks j))/\Iv (j+1) aC))/\xs.length<=1000/\∀aa,Iv xs.length aa->En.nx aa
section
variable{X:Cx}{tg iter e e1:Expr}{rb:List Stmt}{ti:eo}{g:dO}{t1 te:aw}{tr:bw}{i:Nat}{x:Str}{p1 p2 p3 p4 p5 p6 p7 p8 q1 q2 q3:Pos}{j1}
theorem Wd(nd:X.N.Nodup)(hN:X.N[i]?=some x)(hx:Loc X.env.scope x)(hv:gR X.env.scope x)(hu:X.A.units+1<cLine)(hp:PassesOwn (model X.prog X.w) X.A X.env X.xe)(hc:X.calm=true)(hi:PI X tg iter (lI ti))(hg:PG X tg (lG (i+1) g))(h1:PE X e1 (lB t1))(hr:PSs X rb (lS X tr))(he:PE X e (lB te))
  (hd:(x==("__debug__":Str))=false:=by decide) (br:(x==("__classdict__":Str))=false:=by decide) (hs:swapsWith (.Dict [] [] p2) (some (.Name x p1)) p3.line X.env=pure false:=by rfl)
  (hf:X.fn x=true\/X.env.scope.names.lookup x=some .local:=by first | exact .inl rfl | exact .inr rfl | assumption) (cm:swapsWith (.Constant (.bool true) j1 p6) (some (.Subscript (.Name x p4) e p5)) p7.line X.env=pure false:=by rfl)
  (We:∀x,foldedSetIterable iter X.env x=pure x:=by intro _;rfl) (hb:behindInMarks .In (.Name x q1)=false:=by rfl) :
  PSs X [.Assign [.Name x p1] (.Dict [] [] p2) p3,.For tg iter [.If (.Compare e1 [.In] [.Name x q1] q2) rb [] q3,.Assign [.Subscript (.Name x p4) e p5] (.Constant (.bool true) j1 p6) p7] [] p8] (lS X (qj i ti g t1 te tr)) :=
 AE (fx (wk nd hN hx VJ hs hf) (jX (DX hp hc (VL hi) hg (fx (wg (D1 Wc h1 (jb hN hv hd br) hb) hr tU) (jX (VF hu (jb hN hv hd br) he DN cm))) We))) λEn σ H zz=>by
  obtain⟨B,F,δ,Dd,c,⟨Wf,q⟩,k⟩:=zz
  intro p gJ hsz
  have nB:B.H0 p=none:=c.b1.free gJ
  have c0:ai B F H (σ.set i (some (.ref p))) (δ.set i none) []:=(c.forget i).nR _ (by rw[vL Wf];exact .inl rfl)
  refine⟨p,a5,hsz,?_⟩
  rw[VH gJ]
  refine⟨B,F,δ.set i none,[],_,c0,q,λsh xs ah J F1 H1 hq f1 gy c1 _ jd yi=>?_⟩
  obtain⟨nI,Iv,ks,i0,turn,hlen,fin⟩:=hq
  obtain⟨aR,jd⟩:=jd nI
  have Wg:F1 p=none:=c1.ext.free yi
  have un:∀{F' H':Hp} {av:L2.St} {aa:Dl} {ts:List (D × V)},ai ⟨B.H0,F1⟩ F' H' av aa ts->ai B F' H' av aa ts:=λc'=>c'.FC c1.b2 c1.b3
  have Wh:(σ.set i (some (V.ref p)))[i]?=some (some (.ref p)):=vL (by have:=c.len;omega)
  refine⟨λj m av H'=>m=xs.length-j/\j<=xs.length/\∃aa aj,ai ⟨B.H0,F1⟩ F1 H' av aa []/\Iv j aa/\H' p=some (.dK aj)/\aj.length<=j/\(∀z:Int,(dw aj (.inl z)).isSome=decide (z∈(bD j).map ks))/\av[i]?=some (some (.ref p)),
   ⟨_,rfl,ij _,ah,[],(c1.grow (ae.upd yi)).rebase,i0,a5,aZ _,λ_=>rfl,Wh⟩,?_⟩
  rintro j m gX H2 ⟨rfl,hj,aC,aj,c2,iv,hk,ZQ,IH,Wi⟩
  by_cases dW:j<xs.length
  ·refine .inr ⟨jd.go j H2 c2.ext dW,λav H'=>∃aa aj,ai ⟨B.H0,F1⟩ F1 H' av aa []/\Iv (j+1) aa/\H' p=some (.dK aj)/\aj.length<=j+1/\(∀z:Int,(dw aj (.inl z)).isSome=decide (z∈(bD (j+1)).map ks))/\av[i]?=some (some (.ref p)),λav H' z=>⟨xs.length-(j+1),by omega,rfl,dW,z⟩,λv H3 y=>?_⟩
   obtain⟨d,ed,s3,r⟩:=jd.fy j H2 v H3 c2.ext dW y
   have c3:=(c2.grow s3).pushS (d:=d) (v:=v) r.s (by have:=r.pl;simpa using this)
   refine⟨⟨B.H0,F1⟩,F1,aC,[],d,_,c3,turn j d aC ed iv,λaa av Cd tQ Wj c4=>?_⟩
   obtain⟨Wk,yj⟩:=Cd
   have Ce:av[i]?=some (some (.ref p)):=by rw[Wj i (by omega)];exact Wi
   refine⟨⟨B.H0,F1⟩,F1,aa,[],_,c4,Wk,λd5 fQ v5 F5 H5 Wl f5 h5 c5 s5=>?_⟩
   obtain⟨rfl,rfl⟩:=Wl
   cases s5
   have II:H5 p=some (.dK aj):=h5 _ _ (s3 _ _ hk)
   refine⟨.ref p,Ce,ks j,p,aj,rfl,rfl,II,?_⟩
   refine⟨_,rfl,?_⟩
   show if(dw aj (.inl (ks j))).isSome=true then _ else _
   have c6:=c4.grow h5
   rw[IH]
   by_cases hm:ks j∈(bD j).map ks
   ·rw[if_pos hm]at yj
    rw[if_pos (decide_eq_true hm)]
    exact⟨B,F1,_,_,un c6,yj,λ_ _ _ _ z=>z.elim,λ_ _ _ _ _ _ z=>z.elim,λ_ _ _ _ z=>z.elim,λ_ _ _ _ z=>z.elim,λ_ _ _ _ _ _ _ _ _ _ z=>z.elim,k.k4.2.2⟩
   ·rw[if_neg hm]at yj
    obtain⟨wL,Wm⟩:=yj
    rw[if_neg (by simpa using hm)]
    refine⟨.ref p,Ce,⟨B.H0,F1⟩,F1,_,[],_,c6,wL,λd7 ZR v7 F7 H7 Wn f7 h7 c7 s7=>?_⟩
    subst Wn
    cases s7
    have IJ:H7 p=some (.dK aj):=h7 _ _ II
    have lp:=BV aj (.inl (ks j)) (.bl true)
    refine⟨p,_,rfl,vt.k (k:=.inl (ks j)) IJ (by rw[sizeLine_eq];omega),_,fY aj (.inl (ks j)) (.bl true),(c6.grow h7).swap IJ Wg nB,Wm,a5,by omega,λz=>?_,Ce⟩
    rw[Vy,List.range_succ,eZ]
    by_cases ez:z=ks j
    ·subst ez
     rw[if_pos rfl]
     exact(decide_eq_true (cR _ (by simp))).symm
    ·rw[if_neg (λw=>ez (Sum.inl.inj w)),IH z,decide_eq_decide]
     refine⟨λw=>dz _ w,λw=>?_⟩
     rcases cQ.mp w with w | w
     ·exact w
     ·simp at w;exact absurd w ez
  ·have ej:j=xs.length:=by omega
   subst ej
   exact .inl ⟨jd.stop _ H2 c2.ext (aZ _),k.k1 aC gX F1 H2 (fin aC iv) (un c2)⟩
end
end L3
namespace L2
open PySem PySem.Spec PyProof.Rows
structure mD(K:PySem.W.Frag)(C fI:Addr)(f:Str):Prop where
 at_:PySem.W.findIn K (.ref C) "__init__"=some (some (.ref fI))
 ty:PySem.W.typeIn K (.ref fI)=some (.type "function")
 sa:PySem.W.findIn K (.ref C) "__setattr__"=some (some (.builtin "object.__setattr__"))
 no:PySem.W.findIn K (.ref C) f=some none
 mo:PySem.W.mroIn K C (.type "object")=some true
 hd:PySem.W.hasDictIn K C=true
 Ca:B4 K C=true
 ex:vw K C fI=true
theorem mD.wX{K:PySem.W.Frag}{C fI:Addr}{f:Str}(x:mD K C fI f):IF K C f:=⟨x.sa,x.no,x.Ca,x.mo⟩
theorem mD.get{K:PySem.W.Frag}{C fI:Addr}{f:Str}(x:mD K C fI f)(c:gB K C):L3.Cc K C f:=⟨c,x.hd,x.no⟩
theorem mD.fn{K:PySem.W.Frag}{C fI:Addr}{f:Str}(x:mD K C fI f):∃oI,K.lookup fI=some oI/\oI.cls=.type "function":=by
 have q:=x.ty
 unfold PySem.W.typeIn at q
 obtain⟨o,h1,h2⟩:=qK.mp q
 exact⟨o,h1,h2⟩
section
variable{X:Cx}
noncomputable def Wo:V->List V->Hp->VK->Prop:=λx vs H Q=>∃l xs y,∃k:Nat,x=.ref l/\vs=[.int k,y]/\H l=some (.lst xs)/\k<=xs.length/\xs.length<1000/\Q .ao (upd H l (.lst (xs.take k++y::xs.drop k)))
theorem Wq:zW X "list.insert" Wo:=by
 intro pins s σ H x vs v us Q I rx rv h
 obtain⟨l,xs,y,k,rfl,rfl,hH,hk,tQ,q⟩:=h
 cases rx
 obtain⟨u1,u2,rfl,Wr,Ws⟩:=rv.two
 obtain⟨t,rfl⟩:=Wr
 obtain⟨z,its,n,r,hl,e⟩:=I.qU hH
 have hf:Builtin.List.listFitsIndex (k:Int)=true:=fitsIndex_both (by omega) (by omega)
 have IK:¬ (!Builtin.List.listFitsIndex (k:Int))=true:=by rw[hf];decide
 have hz:its.toArray.size<=sizeLine:=by rw[bY];omega
 have lt:its.length=xs.length:=r.length.symm
 generalize Wt:(k:Int)=kz at IK
 have M1:=PySem.AutoSeq1.list_insert_list_int_val_1 l its.toArray n kz t u2
 have M2:=M1 IK
 have M:=M2 hz
 have ar:=F.args_list_insert_3 (.ref l) (.int kz t) u2
 refine call_meets F.slot_list_insert ⟨_,e,rfl⟩ F.entry_list_insert ar M ⟨e,?_⟩
 refine⟨.ao,_,I.zX (its':=its.take k++u2::its.drop k) hH e ?_ ((r.take k).append (.cons Ws (r.drop k))) ?_,rfl,q⟩
 ·have k0:¬ (kz<0):=by omega
  dsimp only
  rw[if_neg k0,<- Wt,sV,bY,sZ (by omega)]
  apply Array.ext'
  simp
  exact MF (by rw[vQ];exact aZ _)
 ·rw[gO,cS,iZ,vQ,sizeLine_eq]
  omega
end
end L2
namespace L3
open PySem L2 PySem.Spec PyProof.Rows
section
variable{X:Cx}{i j:Nat}{x y:Str}{e e1 e2:Expr}{te t1 t2:aw}{p pos pos' apos aP:Pos}
noncomputable def qk(j i:Nat)(te:aw):bw:=λD δ=>(∃xs,δ[i]?=some (some (.lst true xs)))/\te δ λd ah=>∃(P:List Int) (z:Nat) (a:Int),d=.int (z:Nat)/\z<1000000/\ah[i]?=some (some (.lst true (aD P)))/\P[z]?=some a/\D.nx ((ah.set i (some (.lst true (aD (P.eraseIdx z))))).set j (some (.int a)))
theorem Wu(nd:X.N.Nodup)(hj:X.N[j]?=some y)(hy:Loc X.env.scope y)(hN:X.N[i]?=some x)(hv:gR X.env.scope x)(he:PE X e (lE te))(hd:(x==("__debug__":Str))=false:=by decide)(br:(x==("__classdict__":Str))=false:=by decide)
  (gr:attributeBase (.Name x p) "pop" X.env (eval (.Name x p) X.env)=eval (.Name x p) X.env:=by rfl)
  (nG:((backTo aP (starEach [e] X.env)).all (λx=>!x.1)&&(backToKw aP (keywordEach [] X.env)).all (λx=>x.1.isSome)&&decide ([e].length+([]:List Keyword).length+(if([]:List Keyword).isEmpty then 0 else 1)<30))=true:=by rfl)
  (gu:(apos.endLine==aP.line)=true:=by rfl) (hs:starEach [e] X.env=(false,eval e X.env)::starEach [] X.env:=by rfl) (nH:(backTo aP (starEach [] X.env)).any (·.1)=false:=by rfl)
  (uQ:swapsWith (.Call (.Attribute (.Name x p) "pop" apos) [e] [] aP) (some (.Name y pos')) pos.line X.env=pure false:=by rfl)
  (hf:X.fn y=true\/X.env.scope.names.lookup y=some .local:=by first | exact .inl rfl | exact .inr rfl | assumption) :
  PS X (.Assign [.Name y pos'] (.Call (.Attribute (.Name x p) "pop" apos) [e] [] aP) pos) (lS X (qk j i te)) :=
 jl (wk nd hj hy (zV PySem.F.plainAttrs_list PySem.F.slot_list_pop PySem.F.type_list_pop Pr (jb hN hv hd br) (cL he eM hs) gr nG gu hs nH) uQ hf) λEn σ H zz=>by
  obtain⟨B,F,δ,Dd,c,⟨⟨ZS,Wv⟩,q⟩,k1,k2,k3,k4⟩:=zz
  obtain⟨p1,ZT,h1,h2,h3⟩:=c.ownAt Wv
  refine⟨.ref p1,h1,.inl ⟨rfl,_,a8.of h2⟩,B,F,δ,[],_,c,q,λd aa v F' H' hd sf sh c'=>?_⟩
  obtain⟨P,z,a,rfl,hz,eP,ea,hn⟩:=hd
  obtain⟨p3,vs,t1,t2,t3⟩:=c'.ownAt eP
  rw[h1]at t1;cases t1
  have sv:=c'.top
  cases sv
  have ew:vs=P.map V.int:=by
   obtain⟨v1,ev,s1⟩:=c'.look eP
   rw[h1]at ev;cases ev
   obtain⟨q1,us,z1,z2,z3⟩:=hV s1 c'.ext
   cases z1
   rw[t2]at z2;cases z2
   exact GN z3
  subst ew
  have ZU:z<P.length:=(gb.mp ea).1
  refine⟨p1,P.map V.int,z,z,.int a,rfl,rfl,t2,by omega,by omega,?_,by rw[cW,ea];rfl,k1 _ _ F' _ hn ?_⟩
  ·rw[cI]
   unfold seqIndex?
   have z0:¬ ((z:Int)<0):=by omega
   have z1:(z:Int)<(P.length:Int):=by omega
   simp[z0,z1]
  ·have c3:ai B F' (upd H' p1 (.lst ((P.eraseIdx z).map V.int))) σ (aa.set i (some (.lst true (aD (P.eraseIdx z))))) []:=ai.mut (ps:=[(.int (z:Nat),.int (z:Nat))]) c' eP h1 λfO A1 A2 h r1 r2 nd=>⟨[],Ii _ _ _,.nil,λa ha=>nomatch ha⟩
   rw[BQ]
   exact(c3.pushS (d:=.int a) (v:=.int a) (.int .nil) rfl).store j
noncomputable def ql(i:Nat)(t1 t2:aw):bw:=λD δ=>(∃xs,δ[i]?=some (some (.lst true xs)))/\t1 δ λd1 ah=>t2 ah λd2 aC=>∃(k:Nat) (xs:List L3.D),d1=.int (k:Nat)/\aC[i]?=some (some (.lst true xs))/\k<=xs.length/\xs.length<1000/\D.nx (aC.set i (some (.lst true (xs.take k++d2::xs.drop k))))
theorem Ww(hN:X.N[i]?=some x)(hv:gR X.env.scope x)(h1:PE X e1 (lE t1))(h2:PE X e2 (lE t2))(hd:(x==("__debug__":Str))=false:=by decide)(br:(x==("__classdict__":Str))=false:=by decide)
  (gr:attributeBase (.Name x p) "insert" X.env (eval (.Name x p) X.env)=eval (.Name x p) X.env:=by rfl)
  (nG:((backTo aP (starEach [e1,e2] X.env)).all (λx=>!x.1)&&(backToKw aP (keywordEach [] X.env)).all (λx=>x.1.isSome)&&decide ([e1,e2].length+([]:List Keyword).length+(if([]:List Keyword).isEmpty then 0 else 1)<30))=true:=by rfl)
  (gu:(apos.endLine==aP.line)=true:=by rfl) (hs:starEach [e1,e2] X.env=(false,eval e1 X.env)::starEach [e2] X.env:=by rfl) (cm:starEach [e2] X.env=(false,eval e2 X.env)::starEach [] X.env:=by rfl) (nH:(backTo aP (starEach [e2] X.env)).any (·.1)=false:=by rfl)
  (uQ:swapsWith (.Call (.Attribute (.Name x p) "insert" apos) [e1,e2] [] aP) none pos.line X.env=pure false:=by rfl) :
  PS X (.Expr (.Call (.Attribute (.Name x p) "insert" apos) [e1,e2] [] aP) pos) (lS X (ql i t1 t2)) :=
 jl (tV (zV PySem.F.plainAttrs_list PySem.F.slot_list_insert PySem.F.type_list_insert Wq (jb hN hv hd br) (cL h1 (cL h2 eM cm) hs) gr nG gu hs nH) uQ) λEn σ H zz=>by
  obtain⟨B,F,δ,Dd,c,⟨⟨ZV,Wx⟩,q⟩,k1,k2,k3,k4⟩:=zz
  obtain⟨p0,wW,g1,g2,g3⟩:=c.ownAt Wx
  refine⟨.ref p0,g1,.inl ⟨rfl,_,a8.of g2⟩,B,F,δ,[],_,c,q,λd1 ah v1 F1 H1 AJ f1 s1 c1=>⟨B,F1,ah,[(d1,v1)],_,c1,AJ,λd2 aC v2 F2 H2 Cd f2 s2 c2=>?_⟩⟩
  obtain⟨k,xs,rfl,ex,hk,hl,hn⟩:=Cd
  obtain⟨p2,ws,r1,r2,r3⟩:=c2.ownAt ex
  rw[g1]at r1;cases r1
  have sv:=c2.pop.top
  cases sv
  have c3:ai B F2 H2 σ aC [(d2,v2)]:=ai.perm (c2.perm (Dm _ _ [])).pop (List.Perm.refl _)
  refine⟨p0,ws,v2,k,rfl,rfl,r2,by omega,by omega,k1 _ _ F2 _ hn ?_⟩
  refine ai.mut (ps:=[(d2,v2)]) (ts:=[]) c3 ex g1 λfO A1 A2 h q1 q2 nd=>?_
  rw[r2]at h;cases h
  obtain⟨v3,v4,B1,B2,ev,rfl,h3,h4⟩:=R.split (show R F2 H2 (xs.take k++xs.drop k) ws A1 by rw[tu];exact q1)
  have l3:(ws.take k).length=v3.length:=by rw[<-h3.length,iZ,iZ];omega
  obtain⟨rfl,rfl⟩:=y7 ((tu k ws).trans ev) l3
  have pm:((B1++A2)++B2).Perm ((B1++B2)++A2):=by
   rw[cT,cT]
   exact jR.append_left B1
  refine⟨(B1++A2)++B2,by simpa using(h3.append q2).append h4,pm.nodup_iff.mpr nd,λa ha=>pm.mem_iff.mp ha⟩
end
end L3
namespace HK13
open PySem.W (Frag codeHdIn kitOne CodeHd)
open PySem L2 L3 Mf
seal L2.PSs L2.PS L2.PE L2.PT L2.PA L2.PI L2.PG L2.PO L2.PW
local macro_rules | `(tactic| walk_at "l3") => do
  let l ← (("oa og oh oi dT jn j6 j7 dC lJ j8 lQ lM n8 n9 ke o8 l6 o9 pe nU nV nW nX nY nZ n6 lK oY lZ l4 ii lU oF lV oG oH oJ oK oM oN iI eu oO oQ oR oS rm oW oX gN pf oZ oj ot ou ow oy oA ph pj oB hJ dH fR fe kU mM jS tD hG fP l5 pz pC pB pE pF pJ ku jx pO mf pL fh jy sg si cj jO mV mP cS mX aT tE tF mZ m8 tG exists_eq_left' exists_eq_left D.bl.injEq D.int.injEq D.lst.injEq D.fz.injEq D.str.injEq D.tup.injEq tH and_true true_and cZ mU i7 kT rq rA rB rC rD rE gE iE l7 rK rL rM rN rO eG ji rF rG rH rJ fb lC tI tJ qB mY qN qO qE rT rV rW rX rY rZ r6 iN l8 l9 gG pk rQ pq rP rR rS kn if_true i6 if_false reduceIte r9 decide_eq_true_eq eT pP pQ sq sk om pV mw pM mm mq pY qa qe qh qj qi qk ql sL UK UL UM UN".splitOn " ").toArray.map fun (s : String) => Lean.mkIdent s.toName).mapM fun i => `(Lean.Parser.Tactic.simpLemma| $i:term)
  `(tactic| (try dsimp only [$l,*]) <;> (try simp only [$l,*]))
noncomputable def top (i:Nat):Stmt:=PySem.Challenge.pw_mendfield_k13_points_met.main.body.getD i (.Pass ⟨0,0,0,0⟩)
noncomputable abbrev IL:Stmt:=top 34
theorem Cf:aX ["_law_cell_here","_law_some","_law_primes"] ["_law_cell_here"] (aM IL):=bo
noncomputable abbrev IM:Stmt:=top 22
theorem yk:aX ["a","product","found","power"] ["a","product"] (aM IM):=bo
noncomputable abbrev IP:Stmt:=top 23
theorem vx:aX ["many","product","step","found"] ["many","product"] (aM IP):=bo
noncomputable abbrev IQ:Stmt:=top 24
theorem Cg:aX ["powers","logs","n","a"] ["powers"] (aM IQ):=bo
noncomputable abbrev IS:Stmt:=fH (top 28) 8
theorem Wy:aX ["self","n"] ["self","n"] (aM IS):=bo
noncomputable abbrev IT:Stmt:=fH (top 28) 0
theorem Wz:aX ["self","many","product"] ["self","many","product"] (aM IT):=bo
noncomputable abbrev IU:Stmt:=top 27
theorem WA:aX ["prime"] ["prime"] (aM IU):=bo
noncomputable abbrev vy:Stmt:=fH (top 30) 0
theorem WB:aX ["self","prime"] ["self","prime"] (aM vy):=bo
noncomputable abbrev IV:Stmt:=top 25
theorem yl:aX ["powers","logs","many","rows","a"] ["powers","logs"] (aM IV):=bo
noncomputable abbrev IW:Stmt:=top 19
theorem sM:aX ["a","b","quotient","rest","shift"] ["a","b"] (aM IW):=bo
noncomputable abbrev IY:Stmt:=top 20
theorem Ci:aX ["a","half","b"] ["a"] (aM IY):=bo
noncomputable abbrev IZ:Stmt:=top 26
theorem WC:aX ["bits"] ["bits"] (aM IZ):=bo
noncomputable abbrev I0:Stmt:=top 18
theorem ym:aX ["a","b","product","k"] ["a","b"] (aM I0):=bo
noncomputable abbrev vz:Stmt:=fH (top 29) 0
theorem Ja:aX ["self","bits","many"] ["self","bits"] (aM vz):=bo
noncomputable abbrev Jb:Stmt:=top 36
theorem WD:aX ["_law_told_here"] ["_law_told_here"] (aM Jb):=bo
noncomputable abbrev Jc:Stmt:=top 35
theorem WE:aX ["_law_told_here"] ["_law_told_here"] (aM Jc):=bo
noncomputable abbrev Jd:Stmt:=top 32
theorem WG:aX ["_law_script","_law_k"] ["_law_script","_law_k"] (aM Jd):=bo
noncomputable abbrev Je:Stmt:=top 44
theorem vA:aX ["_law_script","_law_many_here","_law_count","_law_pool","_law_points_here","_law_k","_law_x"] ["_law_script","_law_many_here","_law_count"] (aM Je):=bo
noncomputable abbrev Jf:Stmt:=fH (top 5) 0
theorem WH:aX ["self","place"] ["self","place"] (aM Jf):=bo
noncomputable abbrev Jg:Stmt:=top 15
theorem Cj:aX ["points","met","place","point"] ["points"] (aM Jg):=bo
noncomputable abbrev Jh:Stmt:=fH (top 29) 2
theorem WI:aX ["self","a","b"] ["self","a","b"] (aM Jh):=bo
noncomputable abbrev Ji:Stmt:=fH (top 30) 2
theorem WJ:aX ["self","a","b"] ["self","a","b"] (aM Ji):=bo
noncomputable abbrev Jj:Stmt:=fH (top 28) 5
theorem WK:aX ["self","a","b"] ["self","a","b"] (aM Jj):=bo
noncomputable abbrev Jk:Stmt:=top 8
theorem Ck:aX ["a","length"] ["a"] (aM Jk):=bo
noncomputable abbrev Jl:Stmt:=fH (top 29) 1
theorem WL:aX ["self","a","b"] ["self","a","b"] (aM Jl):=bo
noncomputable abbrev Jm:Stmt:=fH (top 30) 1
theorem WM:aX ["self","a","b"] ["self","a","b"] (aM Jm):=bo
noncomputable abbrev Jn:Stmt:=top 9
theorem WN:aX ["a","length"] ["a","length"] (aM Jn):=bo
noncomputable abbrev Jo:Stmt:=top 10
theorem Jp:aX ["field","a","b","length"] ["field","a","b"] (aM Jo):=bo
noncomputable abbrev Jq:Stmt:=fH (top 29) 3
theorem WO:aX ["self","a","b"] ["self","a","b"] (aM Jq):=bo
noncomputable abbrev Jr:Stmt:=fH (top 30) 3
theorem WQ:aX ["self","a","b"] ["self","a","b"] (aM Jr):=bo
noncomputable abbrev Js:Stmt:=top 11
theorem yn:aX ["field","a","b","total","i","x","j","y"] ["field","a","b"] (aM Js):=bo
noncomputable abbrev Jt:Stmt:=top 12
theorem yo:aX ["field","a","x","value","number"] ["field","a","x"] (aM Jt):=bo
noncomputable abbrev Ju:Stmt:=fH (top 29) 6
theorem Jv:aX ["self","a","row","by_a"] ["self","a","row"] (aM Ju):=bo
noncomputable abbrev Jw:Stmt:=fH (top 30) 6
theorem Jx:aX ["self","a","row","prime"] ["self","a","row"] (aM Jw):=bo
noncomputable abbrev Jy:Stmt:=top 14
theorem WR:aX ["field","r"] ["field","r"] (aM Jy):=bo
noncomputable abbrev Jz:Stmt:=top 16
theorem mE:aX ["field","points","found","nought","x","y","off","factor"] ["field","points"] (aM Jz):=bo
noncomputable abbrev JA:Stmt:=top 33
theorem WS:aX ["_law_x"] ["_law_x"] (aM JA):=bo
noncomputable abbrev JB:Stmt:=top 45
theorem yp:aX ["_law_field_here","_law_points_here","_law_place","_law_error","e"] ["_law_field_here","_law_points_here","_law_place"] (aM JB):=bo
noncomputable abbrev JC:Stmt:=top 40
theorem WT:aX ["_law_found","_law_many_here"] ["_law_found","_law_many_here"] (aM JC):=bo
noncomputable abbrev JE:Stmt:=top 41
theorem WU:aX ["_law_found","_law_many_here"] ["_law_found","_law_many_here"] (aM JE):=bo
noncomputable abbrev at2:Stmt:=top 37
theorem WV:aX ["_law_told_here","_law_a","_law_b"] ["_law_told_here","_law_a","_law_b"] (aM at2):=bo
noncomputable abbrev JF:Stmt:=top 39
theorem sN:aX ["_law_told_here","_law_a","_law_b","_law_total"] ["_law_told_here","_law_a","_law_b"] (aM JF):=bo
noncomputable abbrev JG:Stmt:=top 43
theorem yq:aX ["_law_told_here","_law_a","_law_x","_law_total","_law_y"] ["_law_told_here","_law_a","_law_x"] (aM JG):=bo
noncomputable abbrev JH:Stmt:=top 46
theorem gK:aX ["_law_script","_law_told_here","_law_field_here","_law_many_here","_law_room","_law_count","_law_points_here","_law_way","_law_place","_law_from_place","_law_handed","_law_found"] ["_law_script"] (aM JH):=bo
set_option genInjectivity false in
set_option genSizeOf false in
structure jg where
 JI:Addr
 JJ:FuncData
 JK:Addr
 JL:FuncData
 JM:Addr
 JN:FuncData
 JO:Addr
 JP:FuncData
 vB:Addr
 JQ:FuncData
 Cm:Addr
 JR:FuncData
 JS:Addr
 JT:FuncData
 Cn:Addr
 Co:FuncData
 JU:Addr
 JV:FuncData
 JW:Addr
 JX:FuncData
 JY:Addr
 JZ:FuncData
 J4:Addr
 J5:FuncData
 J6:Addr
 J7:FuncData
 Cp:Addr
 Cq:FuncData
 J8:Addr
 J9:FuncData
 Ka:Addr
 Kb:FuncData
 Kd:Addr
 Ke:FuncData
 Kf:Addr
 Kg:FuncData
 Cr:Addr
 Kh:FuncData
 Ki:Addr
 Kj:FuncData
 Cs:Addr
 Kk:FuncData
 Ct:Addr
 Kl:FuncData
 yr:Addr
 Km:FuncData
 Kn:Addr
 Ko:FuncData
 Cu:Addr
 Kp:FuncData
 Cv:Addr
 Kq:FuncData
 Kr:Addr
 Ks:FuncData
 Kt:Addr
 Ku:FuncData
 Cw:Addr
 Kv:FuncData
 Cy:Addr
 Kw:FuncData
 Kx:Addr
 Ky:FuncData
 Kz:Addr
 KA:FuncData
 Cz:Addr
 KC:FuncData
 CA:Addr
 KD:FuncData
 KG:Addr
 KH:FuncData
 KI:Addr
 KJ:FuncData
 KL:Addr
 KN:FuncData
 KO:Addr
 KP:FuncData
 KQ:Addr
 KR:FuncData
 KS:Addr
 KU:FuncData
 KW:Addr
 KY:FuncData
 KZ:Addr
 K0:FuncData
 K1:Addr
 K2:FuncData
 K3:Addr
 CB:FuncData
 CC:Addr
 mF:Addr
 CD:Addr
 mG:Addr
 ba:Addr
 gL:Addr
 K4:Addr
 vC:Addr
 fZ:Addr
 yt:Addr
 bB:Addr
structure Txt(K:Frag)(mg:Str->Option Value)(t:jg):Prop where
 WW:mg "BitField"=some (.ref t.ba)
 WX:mg "ByNought"=some (.ref t.gL)
 K5:mg "Field"=some (.ref t.K4)
 K6:mg "MendError"=some (.ref t.vC)
 K7:mg "NoPoints"=some (.ref t.fZ)
 WY:mg "NoSign"=some (.ref t.yt)
 WZ:mg "PrimeField"=some (.ref t.bB)
 W0:mg "ValueError"=none
 CF:mg "all"=none
 W2:mg "bool"=none
 yu:mg "enumerate"=none
 W3:mg "int"=none
 qm:mg "isinstance"=none
 f9:mg "len"=none
 yv:mg "list"=none
 W4:mg "max"=none
 W5:mg "min"=none
 qo:mg "range"=none
 K8:mg "reversed"=none
 W6:mg "zip"=none
 W7:Meth K t.ba "minus" t.Cs
 W8:Meth K t.ba "over" t.yr
 W9:Meth K t.ba "plus" t.Cu
 Xa:Meth K t.ba "scaled" t.Cz
 K9:Meth K t.ba "step_power" t.vB
 Xb:Meth K t.ba "times" t.Cw
 Xc:Meth K t.bB "minus" t.Ct
 Xd:Meth K t.bB "over" t.yr
 Xe:Meth K t.bB "plus" t.Cv
 Xf:Meth K t.bB "scaled" t.CA
 La:Meth K t.bB "step_power" t.vB
 Xg:Meth K t.bB "times" t.Cy
 Xh:Mk K t.ba t.Cp
 Xi:Mk K t.bB t.Cn
 Lb:u0 K t.K4 "__init__" t.Cm
 Xj:B9 K t.vC
 sO:mD K t.fZ t.Cr "place"
 Lc:Fk K mg "_law_told" IL ["_law_cell_here"] t.JI t.JJ
 CG:Fk K mg "powers_of" IM ["a","product"] t.JK t.JL
 yw:Fk K mg "step_powers" IP ["many","product"] t.JM t.JN
 yx:Fk K mg "logs_of" IQ ["powers"] t.JO t.JP
 yy:Fk K mg "makes_prime_field" IU ["prime"] t.JS t.JT
 yz:Fk K mg "product_rows" IV ["powers","logs"] t.JU t.JV
 qp:Fk K mg "bits_divided" IW ["a","b"] t.JW t.JX
 Ld:Fk K mg "stands_alone" IY ["a"] t.JY t.JZ
 yA:Fk K mg "makes_bit_field" IZ ["bits"] t.J4 t.J5
 yB:Fk K mg "bits_times" I0 ["a","b"] t.J6 t.J7
 yC:Fk K mg "_law_field" Jb ["_law_told_here"] t.J8 t.J9
 Le:Fk K mg "_law_many" Jc ["_law_told_here"] t.Ka t.Kb
 jI:Fk K mg "_law_cell" Jd ["_law_script","_law_k"] t.Kd t.Ke
 Lf:Fk K mg "_law_points" Je ["_law_script","_law_many_here","_law_count"] t.Kf t.Kg
 yD:Fk K mg "refuse_doubled" Jg ["points"] t.Ki t.Kj
 CH:Fk K mg "trimmed" Jk ["a"] t.Kn t.Ko
 CI:Fk K mg "filled" Jn ["a","length"] t.Kr t.Ks
 Lg:Fk K mg "poly_plus" Jo ["field","a","b"] t.Kt t.Ku
 Lh:Fk K mg "poly_times" Js ["field","a","b"] t.Kx t.Ky
 CJ:Fk K mg "value_at" Jt ["field","a","x"] t.Kz t.KA
 Li:Fk K mg "less_root" Jy ["field","r"] t.KG t.KH
 qt:Fk K mg "through" Jz ["field","points"] t.KI t.KJ
 CK:Fk K mg "_law_whole" JA ["_law_x"] t.KL t.KN
 Lj:Fk K mg "_law_refused" JB ["_law_field_here","_law_points_here","_law_place"] t.KO t.KP
 Lk:Fk K mg "_law_signs" JC ["_law_found","_law_many_here"] t.KQ t.KR
 Ll:Fk K mg "_law_poly" JE ["_law_found","_law_many_here"] t.KS t.KU
 Lm:Fk K mg "_law_plus" at2 ["_law_told_here","_law_a","_law_b"] t.KW t.KY
 Ln:Fk K mg "_law_times" JF ["_law_told_here","_law_a","_law_b"] t.KZ t.K0
 Lo:Fk K mg "_law_value" JG ["_law_told_here","_law_a","_law_x"] t.K1 t.K2
 CL:Fk K mg "law" JH ["_law_script"] t.K3 t.CB
 yE:Fm K "step_power" "Field.step_power" IS ["self","n"] t.vB t.JQ
 CM:Fm K "__init__" "Field.__init__" IT ["self","many","product"] t.Cm t.JR
 Lp:Fm K "__init__" "PrimeField.__init__" vy ["self","prime"] t.Cn t.Co
 Lq:Fm K "__init__" "BitField.__init__" vz ["self","bits"] t.Cp t.Cq
 Lr:Fm K "__init__" "NoPoints.__init__" Jf ["self","place"] t.Cr t.Kh
 Ls:Fm K "minus" "BitField.minus" Jh ["self","a","b"] t.Cs t.Kk
 Lu:Fm K "minus" "PrimeField.minus" Ji ["self","a","b"] t.Ct t.Kl
 CN:Fm K "over" "Field.over" Jj ["self","a","b"] t.yr t.Km
 Lv:Fm K "plus" "BitField.plus" Jl ["self","a","b"] t.Cu t.Kp
 Lw:Fm K "plus" "PrimeField.plus" Jm ["self","a","b"] t.Cv t.Kq
 Lx:Fm K "times" "BitField.times" Jq ["self","a","b"] t.Cw t.Kv
 Ly:Fm K "times" "PrimeField.times" Jr ["self","a","b"] t.Cy t.Kw
 Lz:Fm K "scaled" "BitField.scaled" Ju ["self","a","row"] t.Cz t.KC
 LA:Fm K "scaled" "PrimeField.scaled" Jw ["self","a","row"] t.CA t.KD
 Xk:t.Co.code=.ref t.CC
 Xl:t.Cq.code=.ref t.CD
 Xm:codeHdIn K t.CC t.mF=true
 Xn:codeHdIn K t.CD t.mG=true
 eX:cY K t.ba
 fj:cY K t.bB
 Xo:bL K t.ba "bits"
 yF:bL K t.ba "logs"
 LB:bL K t.ba "many"
 CO:bL K t.ba "powers"
 CP:bL K t.ba "products"
 Xp:bL K t.ba "step"
 Xq:bL K t.ba "wide"
 CQ:bL K t.bB "logs"
 LC:bL K t.bB "many"
 LD:bL K t.bB "powers"
 vD:bL K t.bB "prime"
 Xr:bL K t.bB "step"
 Xs:bL K t.bB "wide"
 LF:AY K mg "ByNought" t.gL
 ZW:gB K t.gL
 sP:gB K t.fZ
 ZX:kitOne K (.ref t.gL) (.ref t.gL)=some true
 ZY:kitOne K (.ref t.gL) (.ref t.vC)=some true
 ZZ:kitOne K (.ref t.gL) (.ref t.yt)=some false
 Z0:kitOne K (.ref t.gL) (.type "ValueError")=some true
 Xt:kitOne K (.ref t.fZ) (.ref t.gL)=some false
 Xu:kitOne K (.ref t.fZ) (.ref t.vC)=some true
 Xv:kitOne K (.ref t.fZ) (.ref t.yt)=some false
 Xw:kitOne K (.ref t.fZ) (.type "ValueError")=some true
 Z1:kitOne K (.type "NoneType") (.ref t.gL)=some false
 Z2:kitOne K (.type "NoneType") (.ref t.vC)=some false
 Z3:kitOne K (.type "NoneType") (.ref t.yt)=some false
 Z4:PySem.W.exmOne K (.ref t.gL) (.ref t.fZ)=some false
 Xx:PySem.W.exmOne K (.ref t.fZ) (.ref t.fZ)=some true
section
variable{P:Program}{w:World}{K:Frag}{mg:Str->Option Value}{base:Heap}{t:jg}
noncomputable abbrev Xy:a7:=λds Q=>∃c:Int,ds=[.int c]/\Q (du (mx c))
theorem Xz(T:Txt K mg t):aL P w K mg base aV 1 t.JI t.JJ ["_law_cell_here"] (bf (Xy )):=by
 refine bM T.Lc.F Cf (λds Q h=>by obtain⟨c,rfl,q⟩:=h<;>rfl) λaE A outer s H E hr=>⟨_,(aH (aY (i:=1) Cf.nd rfl (aB rfl) (Gv (ns:=[7,11,13,19,25,31,37,41,47,55,59,61,67,73,87,91,97,103,109,115,117]) (by decide +kernel)))
   (aH (aY (i:=2) Cf.nd rfl (aB rfl) (Gv (ns:=[2,3,5,7,11,13,17,19,23,29,31,37,41,43,47,53,59,61]) (by decide +kernel)))
   (aH (dm (di (ff (dQ hr)) (af (aJ dn (bv 0) (af ax))) (af ax) (cx _)) (aK (aW (uB (dj jm (dj (dZ (bH (bv 1) (af (aJ dn (af (aJ rk (bv 0) (af ax))) (af ax))) (λ_ _=>rfl))) eJ))))) dk)
   (aK (aW (uB (dj jm (dj (dZ (bH (bv 2) (af (aJ dn (af (aJ rk (bv 0) (af ax))) (af ax))) (λ_ _=>rfl))) eJ)))))))),λds Q h=>?_⟩
 obtain⟨c,rfl,q⟩:=h
 refine aG λU hU=>?_
 walk_at"l3"
 refine⟨by decide,hU _ ?_⟩
 clear hU U
 refine aG λU hU=>?_
 walk_at"l3"
 refine⟨by decide,hU _ ?_⟩
 clear hU U
 refine aG λU hU=>?_
 walk_at"l3"
 refine⟨by decide,?_⟩
 have n1:=gi (c/2) (show(21:Int)≠0 by decide)
 have n2:=fm (c/2) (show(0:Int)<21 by decide)
 have n3:=gi (c/2) (show(18:Int)≠0 by decide)
 have n4:=fm (c/2) (show(0:Int)<18 by decide)
 split
 ·rename_i hc
  refine⟨rj (by decide) (by decide),by decide,_,ju n1 (by simpa using n2),rfl,by decide,?_⟩
  have e:du (mx c)=.tup [.bl true,.int (([7,11,13,19,25,31,37,41,47,55,59,61,67,73,87,91,97,103,109,115,117]:List Int).getD (c/2%21).toNat 0)]:=by
   unfold mx du
   rw[if_pos hc]
   have:∀k:Nat,((eU.getD k 0:Nat):Int)=([7,11,13,19,25,31,37,41,47,55,59,61,67,73,87,91,97,103,109,115,117]:List Int).getD k 0:=λk=>by
    show _=(eU.map (λ(n:Nat)=>(n:Int))).getD k ((0:Nat):Int)
    rw[bg,bg,cW]
    cases eU[k]?<;>rfl
   rw[<-this]
  rw[<-e];exact q
 ·rename_i hc
  refine hU _ ?_
  walk_at"l3"
  refine⟨rj (by decide) (by decide),by decide,_,ju n3 (by simpa using n4),rfl,by decide,?_⟩
  have e:du (mx c)=.tup [.bl false,.int (([2,3,5,7,11,13,17,19,23,29,31,37,41,43,47,53,59,61]:List Int).getD (c/2%18).toNat 0)]:=by
   unfold mx du
   rw[if_neg hc]
   have:∀k:Nat,((kD.getD k 0:Nat):Int)=([2,3,5,7,11,13,17,19,23,29,31,37,41,43,47,53,59,61]:List Int).getD k 0:=λk=>by
    show _=(kD.map (λ(n:Nat)=>(n:Int))).getD k ((0:Nat):Int)
    rw[bg,bg,cW]
    cases kD[k]?<;>rfl
   rw[<-this]
  rw[<-e];exact q
noncomputable abbrev XA(L:Obj->Obj->Addr->Addr->sC->Prop):a7:=λds Q=>∃(a:Nat) (of oc:Obj) (c k:Addr) (g:Nat->Nat->Nat) (l:List Int),ds=[.int a,.aS (.lam of oc c k)]/\L of oc c k (u5 g)/\a<64/\Bx g a=some l/\Q (.lst true (aD l))
theorem LG(T:Txt K mg t):aL P w K mg base aV 5 t.JK t.JL ["a","product"] (bf (XA (uW P w K mg base 4))):=by
 refine bM T.CG.F yk (λds Q h=>by obtain⟨a,of,oc,c,k,g,l,rfl,hL,ha,hp,q⟩:=h<;>rfl) λaE A outer s H E hr=>⟨_,(aH (aY (i:=2) yk.nd rfl (aB rfl) (g9 (dj ax eJ)))
   (aH (aY (i:=3) yk.nd rfl (aB rfl) (GY (n:=4) (i:=1) rfl (by first | exact aB rfl | exact ck (aB rfl)) (hr.mono (by decide)) (aq (af ax) (aq (bv 0) aF))))
   (aH (uE fo (di (xm (dQ hr)) (bv 3) (af ax) (cx _))
    (aH (uP (i:=2) rfl (by first | exact aB rfl | exact ck (aB rfl)) (dZ (bv 3)))
    (aK (aY (i:=3) yk.nd rfl (aB rfl) (GY (n:=4) (i:=1) rfl (by first | exact aB rfl | exact ck (aB rfl)) (hr.mono (by decide)) (aq (bv 3) (aq (bv 0) aF)))))))
   (aK (aW (em 2)))))),λds Q h=>?_⟩
 obtain⟨a,of,oc,c,k,g,l,rfl,hL,ha,hp,q⟩:=h
 refine aG λU hU=>?_
 walk_at"l3"
 refine⟨by decide,hU _ ?_⟩
 clear hU U
 refine aG λU hU=>?_
 walk_at"l3"
 refine⟨of,oc,c,k,u5 g,rfl,hL,1,a,⟨rfl,rfl⟩,1,a,rfl,rfl,by decide,ha,hU _ ?_⟩
 clear hU U
 refine aG λU hU=>?_
 walk_at"l3"
 refine⟨λm δ=>∃(p:Nat) (acc:List Int),δ=[some (.int a),some (.aS (.lam of oc c k)),some (.lst true (aD acc)),some (.int p)]/\acc.length+m<=70/\xN g a m p acc=some l,⟨64,_,[1],rfl,by decide,hp⟩,?_⟩
 rintro m δ ⟨p,acc,rfl,hn,hg⟩
 walk_at"l3"
 cases m with
 | zero=>cases hg
 | succ m =>
  unfold xN at hg
  split at hg
  ·rename_i h1
   subst h1
   cases hg
   rw[if_neg (by simp)]
   refine hU _ ?_
   walk_at"l3"
   exact q
  ·rename_i h1
   rw[if_pos (by simp;omega)]
   split at hg
   ·rename_i h2
    clear hU
    refine aG λU hU=>?_
    walk_at"l3"
    refine⟨⟨_,rfl⟩,by omega,hU _ ?_⟩
    clear hU
    walk_at"l3"
    exact⟨of,oc,c,k,u5 g,rfl,hL,p,a,⟨rfl,rfl⟩,p,a,rfl,rfl,h2,ha,m,by omega,g p a,acc++[(p:Int)],⟨by rw[<-pk];rfl,rfl⟩,by simp;omega,hg⟩
   ·cases hg
noncomputable abbrev XB(L:Obj->Obj->Addr->Addr->sC->Prop):a7:=λds Q=>∃(n:Nat) (of oc:Obj) (c k:Addr) (g:Nat->Nat->Nat) (l:List Int),ds=[.int n,.aS (.lam of oc c k)]/\L of oc c k (u5 g)/\u4 g n=some l/\Q (.lst true (aD l))
theorem XE(T:Txt K mg t):aL P w K mg base aV 6 t.JM t.JN ["many","product"] (bf (XB (uW P w K mg base 4))):=by
 refine bM T.yw.F vx (λds Q h=>by obtain⟨n,of,oc,c,k,g,l,rfl,hL,hp,q⟩:=h<;>rfl) λaE A outer s H E hr=>⟨_,(aH (aY (i:=2) vx.nd rfl (aB rfl) ax)
   (aH (aY (i:=3) vx.nd rfl (aB rfl) (bX T.CG (LG T) hr (aq (bv 2) (aq (bv 1) aF))))
   (aH (uE fo (di uK (af (dP (fV) (by rfl) T.f9 fK (aq (bv 3) aF))) (af (aJ jr (bv 0) (af ax))) (cx _))
    (aH (uD (i:=2) vx.nd rfl (aB rfl) (af ax) Sf)
    (aK (aY (i:=3) vx.nd rfl (aB rfl) (bX T.CG (LG T) hr (aq (bv 2) (aq (bv 1) aF)))))))
   (aK (aW (em 3)))))),λds Q h=>?_⟩
 obtain⟨n,of,oc,c,k,g,l,rfl,hL,hp,q⟩:=h
 unfold u4 at hp
 split at hp
 ·rename_i l0 h0
  refine aG λU hU=>?_
  walk_at"l3"
  refine hU _ ?_
  clear hU U
  refine aG λU hU=>?_
  walk_at"l3"
  refine⟨1,of,oc,c,k,g,l0,rfl,hL,by decide,h0,hU _ ?_⟩
  clear hU U
  refine aG λU hU=>?_
  walk_at"l3"
  refine⟨λm δ=>∃(st:Nat) (l1:List Int),δ=[some (.int n),some (.aS (.lam of oc c k)),some (.int st),some (.lst true (aD l1))]/\st+m<=63/\xO g n m st l1=some l,⟨62,1,l0,rfl,by decide,hp⟩,?_⟩
  rintro m δ ⟨st,l1,rfl,hn,hg⟩
  walk_at"l3"
  cases m with
  | zero=>cases hg
  | succ m =>
   unfold xO at hg
   split at hg
   ·rename_i h1
    rw[if_pos (by omega)]
    split at hg
    ·rename_i l2 h2
     clear hU
     refine aG λU hU=>?_
     walk_at"l3"
     refine hU _ ?_
     clear hU
     walk_at"l3"
     exact⟨st+1,of,oc,c,k,g,l2,rfl,hL,by omega,h2,m,by omega,st+1,l2,⟨rfl,rfl⟩,by omega,hg⟩
    ·cases hg
   ·rename_i h1
    rw[if_neg (by omega)]
    cases hg
    refine hU _ ?_
    walk_at"l3"
    exact q
 ·cases hp
noncomputable abbrev XF:a7:=λds Q=>∃(l:List Int),ds=[.lst false (aD l)]/\l.length<=64/\(∀x∈l,0<=x/\x.toNat<=l.length)/\Q (.lst true (aD (cP l)))
theorem XG(T:Txt K mg t):aL P w K mg base aV 1 t.JO t.JP ["powers"] (bf (XF )):=by
 refine bM T.yx.F Cg (λds Q h=>by obtain⟨l,rfl,hl,hx,q⟩:=h<;>rfl) λaE A outer s H E hr=>⟨_,(aH (aY (i:=1) Cg.nd rfl (aB rfl) (aJ js (af (g9 (dj ax eJ))) (af (aJ eR (af (dP (fV) (by rfl) T.f9 fK (aq (bv 0) aF))) (af ax)))))
   (aH (jo fo rfl (xB rfl T.yu (aq (bv 0) aF)) (sj (i1:=2) (i2:=3) rfl Cg.nd rfl (aB rfl) rfl (aB rfl))
    (aK (Gp (i:=1) rfl (by first | exact aB rfl | exact ck (aB rfl)) (dZ (bv 2)) (bv 3))))
   (aK (aW (em 1))))),λds Q h=>?_⟩
 obtain⟨l,rfl,hl,hx,q⟩:=h
 refine aG λU hU=>?_
 walk_at"l3"
 refine⟨by decide,⟨by omega,by omega,by omega⟩,hU _ ?_⟩
 clear hU U
 refine aG λU hU=>?_
 walk_at"l3"
 refine gF.mk (λi δ=>∃o1 o2,δ=[some (.lst false (aD l)),some (.lst true (aD (kE l i))),o1,o2]) ⟨none,none,?_⟩ ?_ ?_
 ·rw[show((l.length:Int)+1).toNat=l.length+1 by omega];rfl
 ·rintro i d δ hd ⟨o1,o2,rfl⟩
  obtain⟨hi,rfl⟩:∃h:i<l.length,d=.tup [.int i,.int l[i]]:=by
   unfold dq aD at hd
   rw[zc,cW]at hd
   by_cases hi:i<l.length
   ·rw[a9 hi]at hd
    simp at hd
    exact⟨hi,hd.symm⟩
   ·rw[qL (by omega)]at hd;simp at hd
  have cO:=hx l[i] (i5 _)
  walk_at"l3"
  refine⟨_,(l[i]).toNat,rfl,?_,_,_,?_,rfl,rfl⟩
  ·unfold gq
   rw[iN,u6,if_pos cO.1,if_pos (by omega)]
  ·unfold aD
   rw[<-List.map_set]
   congr 1
   show _=(kE l i).set (l.getD i 0).toNat (i:Int)
   rw[bg,a9 hi];rfl
 ·rintro δ ⟨o1,o2,rfl⟩
  refine hU _ ?_
  simp only[oa,og,oh,oi,dT,jn,j6,j7,dC,lJ,j8,lQ,lM,n8,n9,ke,o8,l6,o9,pe,nU,nV,nW,nX,nY,nZ,n6,lK,oY,lZ,l4,ii,lU,oF,lV,oG,oH,oJ,oK,oM,oN,iI,eu,oO,oQ,oR,oS,rm,oW,oX,gN,pf,oZ,oj,ot,ou,ow,oy,oA,ph,pj,oB,hJ,dH,fR,fe,kU,mM,jS,tD,hG,fP,l5,pz,pC,pB,pE,pF,pJ,ku,jx,pO,mf,pL,fh,jy,sg,si,cj,jO,mV,mP,cS,mX,aT,tE,tF,mZ,m8,tG,exists_eq_left',exists_eq_left,D.bl.injEq,D.int.injEq,D.lst.injEq,D.fz.injEq,D.str.injEq,D.tup.injEq,tH,and_true,true_and,cZ,mU,i7,kT,rq,rA,rB,rC,rD,rE,gE,iE,l7,rK,rL,rM,rN,rO,eG,ji,rF,rG,rH,rJ,fb,lC,tI,tJ,qB,mY,qN,qO,qE,rT,rV,rW,rX,rY,rZ,r6,iN,l8,l9,gG,pk,rQ,pq,rP,rR,rS,kn,if_true,i6,if_false,reduceIte,r9,decide_eq_true_eq,eT,pP,pQ,sq,sk,om,pV,mw,pM,mm,mq,pY,qa,qe,qh,qj,qi,qk,ql,pK]
  exact q
noncomputable abbrev CS(K:Frag):a7:=λds Q=>∃(C:Addr) (ns:List Str) (xs:List D) (n:Int) (many:Nat) (l:List Int) (r:Int),ds=[.obj C ns xs,.int n]/\cY K C/\bL K C "powers"/\bL K C "many"/\(ns.zip xs).lookup ("powers":Str)=some (.lst false (aD l))/\(ns.zip xs).lookup ("many":Str)=some (.int many)/\2<=many/\l[(n%((many:Int)-1)).toNat]?=some r/\Q (.int r)
theorem CT(T:Txt K mg t):aL P w K mg base aV 1 t.vB t.JQ ["self","n"] (bf (CS K)):=by
 refine bM T.yE.F Wy (λds Q h=>by obtain⟨C,ns,xs,n,many,l,r,rfl,hC,h1,h2,h3,h4,h5,h6,q⟩:=h<;>rfl) λaE A outer s H E hr=>⟨_,(aK (aW (dZ (bH (jC (K:=K) (bv 0)) (af (aJ dn (bv 1) (af (aJ jr (jC (K:=K) (bv 0)) (af ax))))) (λ_ _=>rfl))))),λds Q h=>?_⟩
 obtain⟨C,ns,xs,n,many,l,r,rfl,hC,h1,h2,h3,h4,h5,h6,q⟩:=h
 walk_at"l3"
 refine⟨C,ns,xs,_,rfl,hC,h1,h3,C,ns,xs,_,rfl,hC,h2,h4,?_⟩
 refine⟨by omega,_,jY (d:=.int r) (gi _ (by omega)) ?_,rfl,q⟩
 unfold aD
 rw[cW,h6];rfl
noncomputable abbrev XH(P:Program)(w:World)(K:Frag)(mg:Str->Option Value)(base:Heap)(fs:Addr):Sp:=λvs H Q _=>∃(x dx f C:Addr) (b:Str) (n0:Int) (many:Nat) (of oc:Obj) (c k:Addr) (g:Nat->Nat->Nat) (l:List Int) (st:Int),
 vs=[.ref x,.int many,.ref f]/\H x=some (.ins C dx [(b,.int n0)])/\(∀n∈(["many","wide","powers","logs","step","step_power"]:List Str),b≠n)/\Uj K C fs/\g7 H f of oc c k/\uW P w K mg base 4 of oc c k (u5 g)/\Hi g many l st /\
 ∀H' p1 p2,cC x H H'->H' x=some (.ins C dx ((eV b).zip (xP n0 many p1 p2 st)))->LI H' p1 l->LI H' p2 (cP l)->p1≠p2->H p1=none->H p2=none->Q .ao H'
theorem LH(T:Txt K mg t):aL P w K mg base aV 7 t.Cm t.JR ["self","many","product"] (XH P w K mg base t.vB):=by
 refine T.CM.F.ok Wz (λvs H Q E h=>?_) λaE A outer s H vs Q E hr h=>?_
 ·obtain⟨x,dx,f,C,b,n0,many,of,oc,c,k,g,l,st,rfl,_⟩:=h;rfl
 obtain⟨x,dx,f,C,b,n0,many,of,oc,c,k,g,l,st,rfl,hx,hb,hC,XI,hL,hF,q⟩:=h
 refine⟨_,fx (k8 (pv 0) (pv 1) rfl) (fx (k8 (pv 0) (wu zJ (Ab (pv 1)) tS) rfl)
  (fx (k8 (pv 0) (nD ((XE T).mono (by decide)) hr rfl T.yw.g T.yw.F.kp T.yw.b .nil gv (cL (pv 1) (cL (pv 2) eM))) rfl)
  (fx (k8 (pv 0) (nD ((XG T).mono (by decide)) hr rfl T.yx.g T.yx.F.kp T.yx.b .nil gv (cL (wA (pv 0) rfl) eM)) rfl)
  (jX (k8 (pv 0) (OS (pv 0) hC.cls hC.sp ((CT T).mono (by decide)) hr T.yE.b .nil gv (cL tS eM)) rfl))))),?_⟩
 try dsimp only[jx,jy]
 have nb:∀n∈(["many","wide","powers","logs","step","step_power"]:List Str),b≠n:=hb
 refine⟨.int many,rfl,.ref x,rfl,x,C,dx,_,rfl,hx,hC.cls,hC.many,kS (aZ 1) (by decide),?_⟩
 rw[sE (by simpa using nb "many" (by simp))]
 generalize e1:upd H x (HO.ins C dx ([(b,V.int n0)]++[(("many":Str),V.int many)]))=H1
 have cO:H1 x=some (.ins C dx [(b,V.int n0),(("many":Str),V.int many)]):=by rw[<-e1,a5];rfl
 have s1:cC x H H1:=by rw[<-e1];exact cC.upd (C:=C) (dx:=dx) hx rfl
 have l1:g7 H1 f of oc c k:=by rw[<-e1];exact XI.u7 hx
 have n1:∀p,H1 p=none->H p=none:=λp h=>u9 hx (by rw[e1];exact h)
 refine⟨_,rfl,rfl,_,rfl,rfl,_,_,rfl,rfl,.ref x,rfl,x,C,dx,_,rfl,cO,hC.cls,hC.wide,kS (aZ 2) (by decide),?_⟩
 rw[sE (by simp;exact⟨nb "wide" (by simp),by decide⟩),fq]
 generalize e2:upd H1 x (HO.ins C dx ([(b,V.int n0),(("many":Str),V.int many)]++[(("wide":Str),V.int ((bl many:Nat)-1))]))=H2
 have dM:H2 x=some (.ins C dx [(b,V.int n0),(("many":Str),V.int many),(("wide":Str),V.int ((bl many:Nat)-1))]):=by rw[<-e2,a5];rfl
 have s2:cC x H H2:=by rw[<-e2];exact s1.trans (cC.upd (C:=C) (dx:=dx) cO rfl)
 have l2:g7 H2 f of oc c k:=by rw[<-e2];exact l1.u7 cO
 have n2:∀p,H2 p=none->H p=none:=λp h=>n1 p (u9 cO (by rw[e2];exact h))
 refine⟨_,rfl,_,rfl,H2,[.int many,.aS (.lam of oc c k)],λd=>d=.lst true (aD l),ae.refl _,.int (.aS l2 .nil),⟨many,of,oc,c,k,g,l,rfl,hL,hF.step,rfl⟩,λd v F' H3 A' hd hs hf he h3 r nd fr=>?_⟩
 subst hd
 obtain⟨p1,rfl,yi,vE⟩:=Hh r fr
 have jJ:=hs.get _ _ dM
 have s3:=s2.trans (hs.x (x:=x))
 refine⟨.ref x,rfl,x,C,dx,_,rfl,jJ,hC.cls,hC.By,kS (aZ 3) (by decide),?_⟩
 rw[sE (by simp;exact⟨nb "powers" (by simp),by decide,by decide⟩)]
 generalize e4:upd H3 x (HO.ins C dx ([(b,V.int n0),(("many":Str),V.int many),(("wide":Str),V.int ((bl many:Nat)-1))]++[(("powers":Str),V.ref p1)]))=H4
 have mH:H4 x=some (.ins C dx [(b,V.int n0),(("many":Str),V.int many),(("wide":Str),V.int ((bl many:Nat)-1)),(("powers":Str),V.ref p1)]):=by rw[<-e4,a5];rfl
 have s4:cC x H H4:=by rw[<-e4];exact s3.trans (cC.upd (C:=C) (dx:=dx) jJ rfl)
 have p4:LI H4 p1 l:=by rw[<-e4];exact yi.upd jJ (λws z=>by cases z)
 have n4:∀p,H4 p=none->H p=none:=λp h=>n2 p (hs.free (u9 jJ (by rw[e4];exact h)))
 refine⟨.ref x,rfl,x,C,dx,_,.ref p1,rfl,mH,hC.cls,hC.By,by rw[xQ (nb "powers" (by simp))];rfl,H4,[.lst false (aD l)],λd=>d=.lst true (aD (cP l)),ae.refl _,.shr p4 (iM l) .nil,⟨l,rfl,by have:=hF.len;have:=hF.hi;omega,hF.ins,rfl⟩,λd v F' H5 A' hd mI hf he h3 r nd fr=>?_⟩
 subst hd
 obtain⟨p2,rfl,LJ,qu⟩:=Hh r fr
 have jK:=mI.get _ _ mH
 have s5:=s4.trans (mI.x (x:=x))
 have XJ:p1≠p2:=λz=>by rw[<-z]at qu;unfold LI at p4;rw[qu]at p4;cases p4
 refine⟨.ref x,rfl,x,C,dx,_,rfl,jK,hC.cls,hC.Uk,kS (aZ 4) (by decide),?_⟩
 rw[sE (by simp;exact⟨nb "logs" (by simp),by decide,by decide,by decide⟩)]
 generalize e6:upd H5 x (HO.ins C dx ([(b,V.int n0),(("many":Str),V.int many),(("wide":Str),V.int ((bl many:Nat)-1)),(("powers":Str),V.ref p1)]++[(("logs":Str),V.ref p2)]))=H6
 have CU:H6 x=some (.ins C dx (([b,"many","wide","powers","logs"]:List Str).zip [V.int n0,V.int many,V.int ((bl many:Nat)-1),V.ref p1,V.ref p2])):=by rw[<-e6,a5];rfl
 have s6:cC x H H6:=by rw[<-e6];exact s5.trans (cC.upd (C:=C) (dx:=dx) jK rfl)
 have p6:LI H6 p1 l:=by rw[<-e6];exact(p4.same mI).upd jK (λws z=>by cases z)
 have q6:LI H6 p2 (cP l):=by rw[<-e6];exact LJ.upd jK (λws z=>by cases z)
 refine⟨.ref x,rfl,x,dx,_,rfl,CU,by show jL ("step_power":Str) ((b,V.int n0)::_)=none;rw[xQ (nb "step_power" (by simp))];rfl,H6,[.obj C [b,"many","wide","powers","logs"] [.int n0,.int many,.int ((bl many:Nat)-1),.lst false (aD l),.lst false (aD (cP l))],.int 1],λd=>d=.int st,ae.refl _,
  .obj CU rfl (.int (.int (.int (.shr p6 (iM l) (.shr q6 (iM _) .nil))))) (.int .nil),⟨C,_,_,1,many,l,st,rfl,hC.cls,hC.By,hC.many,by show jL ("powers":Str) ((b,D.int n0)::_)=_;rw[xQ (nb "powers" (by simp))];rfl,by show jL ("many":Str) ((b,D.int n0)::_)=_;rw[xQ (nb "many" (by simp))];rfl,hF.lo,hF.st,rfl⟩,λd v F' H7 A' hd yG hf he h3 r nd fr=>?_⟩
 subst hd
 cases r
 have yH:=yG.get _ _ CU
 refine⟨.ref x,rfl,x,C,dx,_,rfl,yH,hC.cls,hC.step,kS (aZ 5) (by decide),?_⟩
 rw[sE (by simp;exact⟨nb "step" (by simp),by decide,by decide,by decide,by decide⟩)]
 refine q _ p1 p2 ((s6.trans (yG.x (x:=x))).trans (cC.upd (C:=C) (dx:=dx) yH rfl)) (by rw[a5];rfl) ((p6.same yG).upd yH (λws z=>by cases z)) ((q6.same yG).upd yH (λws z=>by cases z)) XJ (n2 p1 vE) (n4 p2 qu)
noncomputable abbrev XM:a7:=λds Q=>∃a:Int,ds=[.int a]/\Q (.bl (decide (2<=a)&&decide (a<=61)&&(bD (a.toNat-2)).all λi=>a%(2+(i:Int)) != 0))
theorem XN(T:Txt K mg t):aL P w K mg base aV 1 t.JS t.JT ["prime"] (bf (XM )):=by
 refine bM T.yy.F WA (λds Q h=>by obtain⟨a,rfl,q⟩:=h<;>rfl) λaE A outer s H E hr=>⟨_,(aK (aW (n5 (af (AQ uL uL (af ax) (bv 0) (af ax))) (k6 (dP (AR rfl) (by rfl) T.CF Aa (aq (af (oC [("prime",0)] ["d"] rfl (xf rfl T.qo (aq (af ax) (aq (bv 0) aF))) (λ_ _ _ _=>(sJ (i:=1) (show(["prime","d"]:List Str).Nodup by decide +kernel))) (λ_ _ _ _=>oE) (λ_ _ _ _=>(nS (xm (dQ hr)) (af (aJ dn (bv 0) (bv 1))) (af ax) (cx _))) rfl)) aF)))))),λds Q h=>?_⟩
 obtain⟨a,rfl,q⟩:=h
 walk_at"l3"
 split
 ·rename_i h1
  split
  ·rename_i h2
   refine⟨2,a,⟨rfl,rfl⟩,⟨by decide,by decide,by omega,by omega⟩,?_⟩
   have e0:(a-2).toNat=a.toNat-2:=by omega
   rw[e0]
   refine xD (bD (a.toNat-2)) (λ(k:Nat)=>D.int (2+(k:Int))) (λ(k:Nat)=>D.bl (a%(2+(k:Int)) != 0)) (by rw[xb]) (λx y h=>by injection h with h;omega) (λk hk=>?_) (.inr λ_ _=>rfl) (by rw[mS,sL];omega) ?_
   ·walk_at"l3"
    refine⟨by omega,?_⟩
    by_cases z:a%(2+(k:Int))=0<;>simp[z]
   ·refine⟨(bD (a.toNat-2)).map λ(k:Nat)=>a%(2+(k:Int)) != 0,?_,?_⟩
    ·unfold uO;rw[gP];rfl
    ·have e:(decide (2<=a)&&decide (a<=61)&&(bD (a.toNat-2)).all λi=>a%(2+(i:Int)) != 0)=((bD (a.toNat-2)).map λ(k:Nat)=>a%(2+(k:Int)) != 0).all id:=by
      simp[h1,h2,sY]
     rw[<-e];exact q
  ·rename_i h2
   have e:(decide (2<=a)&&decide (a<=61)&&(bD (a.toNat-2)).all λi=>a%(2+(i:Int)) != 0)=false:=by simp[h2]
   rw[e]at q;exact q
 ·rename_i h1
  have e:(decide (2<=a)&&decide (a<=61)&&(bD (a.toNat-2)).all λi=>a%(2+(i:Int)) != 0)=false:=by simp[h1]
  rw[e]at q;exact q
noncomputable abbrev XO:List D->List Str->List D->Prop:=λds ns xs=>∃p:Nat,ds=[.int p]/\p∈kD/\ns=eV "prime"/\xs=[.int p,.int p,.int ((bl p:Nat)-1),.lst true (aD (fl (false,p))),.lst true (aD (cP (fl (false,p)))),.int (fst (false,p))]
theorem XQ(T:Txt K mg t)(hB:Bm mg base):aL P w K mg base aV 8 t.Cn t.Co ["self","prime"] (Bw [t.mF,t.mG] t.bB XO):=by
 refine Hd T.Lp.F T.Xk WB (λvs H Q E h=>?_) λA outer s H vs Q E hr h=>?_
 ·obtain⟨x,dx,bF,ds,ns,xs,rfl,_,_,r,⟨p,rfl,_⟩,_⟩:=h
  have:=r.length
  simp at this
  simp[this]
 obtain⟨x,dx,bF,ds,ns,xs,rfl,tb,hx,r,⟨p,rfl,hp,rfl,rfl⟩,q⟩:=h
 obtain rfl:bF=[.int p]:=by
  cases r with
  | int r=>cases r;rfl
 have hm:(false,p)∈aI:=cR _ (zh hp)
 have hF:=cE hm
 refine⟨_,fx (wg (zw (zt (nD ((XN T).mono (by decide)) hr rfl T.yy.g T.yy.F.kp T.yy.b .nil gv (cL (pv 1) eM)))) (jX DP) tU)
  (fx (k8 (pv 0) (pv 1) rfl)
  (jX (tV (G6 (E:=E0) (i:=1) T.Lb ((LH T).mono (by decide)) hr T.CM.b rfl T.K5 rfl rfl rfl rfl (cL (pv 0) (cL (pv 1) (cL (GZ rfl rfl T.Xm hB) eM))))))),?_⟩
 try dsimp only[jx,jy]
 refine⟨_,rfl,H,[.int p],λd=>d=.bl true,ae.refl _,.int .nil,⟨p,rfl,by rw[Um p hp]⟩,λd v F' H1 A1 hd qv hf he h3 r nd fr=>?_⟩
 subst hd
 cases r
 refine⟨true,rfl,?_⟩
 refine iB ?_
 have cO:=qv.get _ _ hx
 refine⟨.int p,rfl,.ref x,rfl,x,t.bB,dx,_,rfl,cO,T.fj,T.vD,by decide,?_⟩
 generalize e2:upd H1 x (HO.ins t.bB dx (dD "prime" (.int p) []))=H2
 have dM:H2 x=some (.ins t.bB dx [(("prime":Str),.int p)]):=by rw[<-e2,a5];rfl
 have s2:cC x H H2:=by rw[<-e2];exact(qv.x (x:=x)).trans (cC.upd (C:=x) (dx:=dx) cO rfl)
 have n2:∀p,H2 p=none->H p=none:=λp h=>qv.free (u9 cO (by rw[e2];exact h))
 obtain⟨ps,hP⟩:=tb t.mF (by simp)
 obtain⟨more,CV⟩:=s2.tb _ ps hP
 refine⟨.ref x,rfl,.int p,rfl,⟨_,CV⟩,λf k qn pm fW H3 nf CW hk kf kK XR=>?_⟩
 refine⟨f,_,_,.int p,CW,rfl,rfl,λoc u fw hu nc mj=>?_⟩
 obtain⟨tm,rfl⟩:∃tm,u=kM p tm:=hu
 have jJ:=kK.get _ _ dM
 refine⟨x,dx,f,t.bB,"prime",p,p,_,oc,_,k,gm (false,p),fl (false,p),fst (false,p),rfl,va jJ (λz=>by rw[z,nf]at dM;cases dM) nc,by decide,⟨T.fj,T.LC,T.Xs,T.LD,T.CQ,T.Xr,T.La⟩,Hk mj nc hk kf,?_,hF,λH' p1 p2 sx dF CY k9 ne vE qu=>?_⟩
 ·refine Hb (n:=3) ⟨rfl,rfl,rfl,by decide,rfl,rfl,by decide,by decide,rfl⟩ fw (λu1 u2=>rfl) λq f A outer s H E hr=>?_
  refine⟨_,aJ dn (af (aJ js (bv 0) (bv 1))) (bv 2),λi j Qd h=>?_⟩
  obtain⟨a,b,rfl,rfl,ha,hb,hq⟩:=h
  walk_at"l3"
  have gJ:2<=p:=hF.lo
  refine⟨k7.ok (.inr ⟨by omega,by omega⟩),by omega,?_⟩
  have e:((gm (false,p) a b:Nat):Int)=(a:Int)*b%p:=by
   show((a*b%p:Nat):Int)=_
   rw[mW,zj]
  rw[<-e];exact hq
 ·have gf:H' f=some (.ext (gC _ oc _ f)):=sx.get f _ (λz=>by rw[z]at nf;rw[nf]at dM;cases dM) (by rw[ay mj.symm,a5]) rfl
  have gc:=sx.get _ _ (cq jJ nc).symm a5 rfl
  refine⟨gf,gc,?_⟩
  refine q _ (xP p p p1 p2 (fst (false,p))) [p1,p2] (s2.trans (Hj kK nf nc sx)) ?_ rfl ?_ (by simp[ne]) (λa ha=>?_)
  ·rw[dR (λz=>by rw[z,gf]at dF;cases dF) (λz=>by rw[z,gc]at dF;cases dF)];exact dF
  ·exact .int (.int (.int (.own (CY.rem gf gc) rfl (iM _) (.own (k9.rem gf gc) rfl (iM _) (.int .nil)))))
  ·simp at ha
   rcases ha with rfl | rfl
   ·exact n2 _ (xR kK vE)
   ·exact n2 _ (xR kK qu)
noncomputable abbrev XS:a7:=λds Q=>∃(l g:List Int),ds=[.lst false (aD l),.lst false (aD g)]/\1<=l.length/\l.length<=63/\g.length=l.length+1/\(∀x∈g,0<=x)/\Q (.lst true (mv l g))
theorem XT(T:Txt K mg t):aL P w K mg base aV 1 t.JU t.JV ["powers","logs"] (bf (XS )):=by
 refine bM T.yz.F yl (λds Q h=>by obtain⟨l,g,rfl,h1,h2,h3,h4,q⟩:=h<;>rfl) λaE A outer s H E hr=>⟨_,(aH (aY (i:=2) yl.nd rfl (ck rfl) (aJ eR (af (dP (fV) (by rfl) T.f9 fK (aq (bv 0) aF))) (af ax)))
   (aH (aY (i:=3) yl.nd rfl (aB rfl) (g9 (dj (aJ js (af (g9 (dj ax eJ))) (bv 2)) eJ)))
   (aH (jo fo rfl (xf rfl T.qo (aq (af ax) (aq (bv 2) aF))) (oq (i:=4) yl.nd rfl (ck rfl))
    (aK (uP (i:=3) rfl (by first | exact aB rfl | exact ck (aB rfl)) (aJ eR (af (g9 (dj ax eJ))) (af (oC [("powers",0),("many",2),("logs",1),("a",4)] ["b"] rfl (xf rfl T.qo (aq (af ax) (aq (bv 2) aF))) (λ_ _ _ _=>(sJ (i:=4) (show(["powers","many","logs","a","b"]:List Str).Nodup by decide +kernel))) (λ_ _ _ _=>oE) (λ_ _ _ _=>(dZ (bH (bv 0) (af (aJ dn (af (aJ eR (bH (bv 2) (bv 3) (λ_ _=>rfl)) (bH (bv 2) (bv 4) (λ_ _=>rfl)))) (af (aJ jr (bv 1) (af ax))))) (λ_ _=>rfl)))) rfl))))))
   (aK (aW (em 3)))))),λds Q h=>?_⟩
 obtain⟨l,g,rfl,h1,h2,h3,h4,q⟩:=h
 refine aG λU hU=>?_
 walk_at"l3"
 refine hU _ ?_
 clear hU U
 refine aG λU hU=>?_
 walk_at"l3"
 refine⟨by decide,⟨by omega,by omega,by omega⟩,by decide,hU _ ?_⟩
 clear hU U
 refine aG λU hU=>?_
 walk_at"l3"
 refine⟨1,(l.length:Int)+1,⟨rfl,rfl⟩,⟨by decide,by decide,by omega,by omega⟩,?_⟩
 have en:((l.length:Int)+1-1).toNat=l.length:=by omega
 rw[en]
 refine gF.mk (λi δ=>∃o,δ=[some (.lst false (aD l)),some (.lst false (aD g)),some (.int ((l.length:Int)+1)),some (.lst true (sD l g (i+1))),o]) ⟨none,?_⟩ ?_ ?_
 ·rw[show((l.length:Int)+1).toNat=l.length+1 by omega];rfl
 ·rintro i d δ hd ⟨o,rfl⟩
  obtain⟨hi,rfl⟩:i<l.length/\d=.int (1+(i:Int)):=by
   rw[cW]at hd
   by_cases hi:i<l.length
   ·rw[qI hi]at hd
    exact⟨hi,(bS hd).symm⟩
   ·rw[qL (by simpa using hi)]at hd;cases hd
  walk_at"l3"
  refine⟨⟨_,rfl⟩,by decide,1,(l.length:Int)+1,⟨rfl,rfl⟩,⟨by decide,by decide,by omega,by omega⟩,?_⟩
  rw[en]
  refine xD (bD l.length) (λ(k:Nat)=>D.int (1+(k:Int))) (λ(k:Nat)=>D.int (l.getD ((g.getD (i+1) 0+g.getD (k+1) 0)%(l.length:Int)).toNat 0)) (by rw[xb]) (λx y h=>by injection h with h;omega) (λk hk=>?_) (.inr λ_ _=>rfl) (by rw[mS,sL];omega) ?_
  ·have E9:=gM.mp hk
   walk_at"l3"
   have e1:(1+(i:Int)).toNat=i+1:=by omega
   have e2:(1+(k:Int)).toNat=k+1:=by omega
   have e3:(l.length:Int)+1-1=l.length:=by omega
   have n0:=gi (g.getD (i+1) 0+g.getD (k+1) 0) (show(l.length:Int)≠0 by omega)
   have n1:=fm (g.getD (i+1) 0+g.getD (k+1) 0) (show(0:Int)<l.length by omega)
   refine⟨_,ju (by omega) (by omega),_,ju (by omega) (by omega),?_⟩
   rw[e1,e2,e3]
   exact⟨by omega,_,ju n0 n1,rfl,rfl⟩
  ·walk_at"l3"
   refine⟨⟨by simp;omega,by rw[sY,cX];intro x _;rfl⟩,by simp[sD];omega,_,?_,rfl⟩
   unfold sD
   rw[List.range_succ (n:=i+1),eZ]
   congr 1
   show _=[D.lst true (aD (mr l g (i+1)))]
   unfold mr
   rw[if_neg (by omega)]
   unfold aD
   rw[cj,gP];rfl
 ·rintro δ ⟨o,rfl⟩
  refine hU _ ?_
  simp only[oa,og,oh,oi,dT,jn,j6,j7,dC,lJ,j8,lQ,lM,n8,n9,ke,o8,l6,o9,pe,nU,nV,nW,nX,nY,nZ,n6,lK,oY,lZ,l4,ii,lU,oF,lV,oG,oH,oJ,oK,oM,oN,iI,eu,oO,oQ,oR,oS,rm,oW,oX,gN,pf,oZ,oj,ot,ou,ow,oy,oA,ph,pj,oB,hJ,dH,fR,fe,kU,mM,jS,tD,hG,fP,l5,pz,pC,pB,pE,pF,pJ,ku,jx,pO,mf,pL,fh,jy,sg,si,cj,jO,mV,mP,cS,mX,aT,tE,tF,mZ,m8,tG,exists_eq_left',exists_eq_left,D.bl.injEq,D.int.injEq,D.lst.injEq,D.fz.injEq,D.str.injEq,D.tup.injEq,tH,and_true,true_and,cZ,mU,i7,kT,rq,rA,rB,rC,rD,rE,gE,iE,l7,rK,rL,rM,rN,rO,eG,ji,rF,rG,rH,rJ,fb,lC,tI,tJ,qB,mY,qN,qO,qE,rT,rV,rW,rX,rY,rZ,r6,iN,l8,l9,gG,pk,rQ,pq,rP,rR,rS,kn,if_true,i6,if_false,reduceIte,r9,decide_eq_true_eq,eT,pP,pQ,sq,sk,om,pV,mw,pM,mm,mq,pY,qa,qe,qh,qj,qi,qk,ql,cI,mS]
  exact q
noncomputable abbrev XU(t:jg):iO:=λds Q Ex=>∃a b:Nat,ds=[.int a,.int b]/\bl a<=1000000/\bl b<=1000000/\(b=0->Ex t.gL)/\(b≠0->∀q r:Nat,a=cl q b ^^^ r->bl r<bl b->Q (.tup [.int q,.int r]))
theorem LL(T:Txt K mg t):aL P w K mg base (gz P w) 1 t.JW t.JX ["a","b"] (jv (XU t )):=by
 refine xt T.qp.F sM (λds Q Ex h=>by obtain⟨a,b,rfl,ha,hb,qx,q⟩:=h<;>rfl) λaE A outer s H E hr=>⟨_,(aH (dm (di (ff (dQ hr)) (bv 1) (af ax) (cx _)) (aK (GA T.LF rfl (by rfl) (aq (af FF) aF))) dk)
   (aH (aY (i:=2) sM.nd rfl (aB rfl) ax)
   (aH (aY (i:=3) sM.nd rfl (aB rfl) (em 0))
   (aH (Gz (uE fo (di Sh (af (km (bv 3))) (af (km (bv 1))) (cx _))
    (aH (aY (i:=4) sM.nd rfl (aB rfl) (aJ jr (af (km (bv 3))) (af (km (bv 1)))))
    (aH (uD (i:=2) sM.nd rfl (aB rfl) (af (aJ rl (af ax) (bv 4))) AL)
    (aK (uD (i:=3) sM.nd rfl (aB rfl) (af (aJ rl (bv 1) (bv 4))) AL))))))
   (aK (aW (uB (dj (em 2) (dj (em 3) eJ))))))))),λds Q Ex h=>?_⟩
 obtain⟨a,b,rfl,ha,hb,qx,q⟩:=h
 refine aG λU hU=>?_
 walk_at"l3"
 split
 ·rename_i h0
  exact⟨by decide,qx (by omega)⟩
 ·rename_i h0
  have b0:b≠0:=by omega
  refine hU _ ?_
  clear hU U
  refine aG λU hU=>?_
  walk_at"l3"
  refine hU _ ?_
  clear hU U
  refine aG λU hU=>?_
  walk_at"l3"
  refine hU _ ?_
  clear hU U
  refine aG λU hU=>?_
  walk_at"l3"
  refine⟨λm δ=>∃(x r:Nat) (o sh:Option D),δ=[o,some (.int b),some (.int (x:Nat)),some (.int (r:Nat)),sh]/\a=cl x b ^^^ r/\bl r<=bl a/\m=bl r,
   ⟨bl a,0,a,_,none,rfl,by rw[lj,kR],aZ _,rfl⟩,?_⟩
  rintro m δ ⟨x,r,o,sh,rfl,inv,Z5,rfl⟩
  simp only[oa,og,oh,oi,dT,jn,j6,j7,dC,lJ,j8,lQ,lM,n8,n9,ke,o8,l6,o9,pe,nU,nV,nW,nX,nY,nZ,n6,lK,oY,lZ,l4,ii,lU,oF,lV,oG,oH,oJ,oK,oM,oN,iI,eu,oO,oQ,oR,oS,rm,oW,oX,gN,pf,oZ,oj,ot,ou,ow,oy,oA,ph,pj,oB,hJ,dH,fR,fe,kU,mM,jS,tD,hG,fP,l5,pz,pC,pB,pE,pF,pJ,ku,jx,pO,mf,pL,fh,jy,sg,si,cj,jO,mV,mP,cS,mX,aT,tE,tF,mZ,m8,tG,exists_eq_left',exists_eq_left,D.bl.injEq,D.int.injEq,D.lst.injEq,D.fz.injEq,D.str.injEq,D.tup.injEq,tH,and_true,true_and,cZ,mU,i7,kT,rq,rA,rB,rC,rD,rE,gE,iE,l7,rK,rL,rM,rN,rO,eG,ji,rF,rG,rH,rJ,fb,lC,tI,tJ,qB,mY,qN,qO,qE,rT,rV,rW,rX,rY,rZ,r6,iN,l8,l9,gG,pk,rQ,pq,rP,rR,rS,kn,if_true,i6,if_false,reduceIte,r9,decide_eq_true_eq,eT,pP,pQ,sq,sk,om,pV,mw,pM,mm,mq,pY,qa,qe,qh,qj,qi,qk,ql,fq]
  split
  ·rename_i hc
   have hle:bl b<=bl r:=by omega
   have less:=ET b0 hle
   have es:(((bl r:Nat):Int)-((bl b:Nat):Int))=((bl r-bl b:Nat):Int):=by omega
   clear hU
   refine aG λU hU=>?_
   walk_at"l3"
   simp only[fq,es]
   refine hU _ ?_
   clear hU
   refine aG λU hU=>?_
   walk_at"l3"
   have o1:bl (1:Int).natAbs=1:=by decide
   refine⟨⟨by omega,by omega⟩,hU _ ?_⟩
   clear hU
   simp only[oa,og,oh,oi,dT,jn,j6,j7,dC,lJ,j8,lQ,lM,n8,n9,ke,o8,l6,o9,pe,nU,nV,nW,nX,nY,nZ,n6,lK,oY,lZ,l4,ii,lU,oF,lV,oG,oH,oJ,oK,oM,oN,iI,eu,oO,oQ,oR,oS,rm,oW,oX,gN,pf,oZ,oj,ot,ou,ow,oy,oA,ph,pj,oB,hJ,dH,fR,fe,kU,mM,jS,tD,hG,fP,l5,pz,pC,pB,pE,pF,pJ,ku,jx,pO,mf,pL,fh,jy,sg,si,cj,jO,mV,mP,cS,mX,aT,tE,tF,mZ,m8,tG,exists_eq_left',exists_eq_left,D.bl.injEq,D.int.injEq,D.lst.injEq,D.fz.injEq,D.str.injEq,D.tup.injEq,tH,and_true,true_and,cZ,mU,i7,kT,rq,rA,rB,rC,rD,rE,gE,iE,l7,rK,rL,rM,rN,rO,eG,ji,rF,rG,rH,rJ,fb,lC,tI,tJ,qB,mY,qN,qO,qE,rT,rV,rW,rX,rY,rZ,r6,iN,l8,l9,gG,pk,rQ,pq,rP,rR,rS,kn,if_true,i6,if_false,reduceIte,r9,decide_eq_true_eq,eT,pP,pQ,sq,sk,om,pV,mw,pM,mm,mq,pY,qa,qe,qh,qj,qi,qk,ql,fq]
   refine⟨⟨by omega,by rw[fq];omega⟩,_,less,x ^^^ 2 ^ (bl r-bl b),r ^^^ b <<< (bl r-bl b),o,_,⟨rfl,?_,?_,rfl⟩,P2 inv,by omega,rfl⟩
   ·rw[show(1:Int)=((1:Nat):Int) from rfl,qY,lr,zk]
   ·rw[qY,lr]
  ·rename_i hc
   refine hU _ ?_
   walk_at"l3"
   refine⟨by decide,q b0 x r inv (by omega)⟩
noncomputable abbrev XW:a7:=λds Q=>∃a:Nat,ds=[.int a]/\bl a<=60/\Q (.bl (al a))
theorem XX(T:Txt K mg t):aL P w K mg base aV 2 t.JY t.JZ ["a"] (bf (XW )):=by
 refine bM T.Ld.F Ci (λds Q h=>by obtain⟨a,rfl,ha,q⟩:=h<;>rfl) λaE A outer s H E hr=>⟨_,(aH (dm (di uK (bv 0) (af ax) (cx _)) (aK (aW jm)) dk)
   (aH (aY (i:=1) Ci.nd rfl (aB rfl) (aJ rk (af (aJ jr (af (km (bv 0))) (af ax))) (af ax)))
   (aH (jo fo rfl (xf rfl T.qo (aq (af ax) (aq (af (aJ rl (af ax) (af (aJ eR (bv 1) (af ax))))) aF))) (oq (i:=2) Ci.nd rfl (aB rfl))
    (aK (dm (di (ff (dQ hr)) (bH (af (uC (xw ((LL T).mono (by decide))) hr rfl T.qp.g T.qp.F.kp T.qp.b xv (aq (bv 0) (aq (bv 2) aF)))) (af ax) (λ_ _=>rfl)) (af ax) (cx _)) (aK (aW jm)) dk)))
   (aK (aW jm))))),λds Q h=>?_⟩
 obtain⟨a,rfl,ha,q⟩:=h
 refine aG λU hU=>?_
 walk_at"l3"
 split
 ·rename_i h2
  rw[Qg (by omega)]at q;exact q
 ·rename_i h2
  have h2:2<=a:=by omega
  have hp:=eN (show a≠0 by omega)
  refine hU _ ?_
  clear hU U
  refine aG λU hU=>?_
  walk_at"l3"
  simp only[fq]
  refine⟨rj (by omega) (by omega),hU _ ?_⟩
  clear hU U
  have eh:((((bl a:Nat):Int)-1)/2+1)=(((bl a-1)/2+1:Nat):Int):=by omega
  have e1:(1:Int)*2 ^ ((((bl a:Nat):Int)-1)/2+1).toNat=((2 ^ ((bl a-1)/2+1):Nat):Int):=by
   rw[eh,show(1:Int)=((1:Nat):Int) from rfl,qY,zk]
  have big:2 ^ ((bl a-1)/2+1)<=2 ^ 40:=vT (by decide) (by omega)
  have o1:bl (1:Int).natAbs=1:=by decide
  refine aG λU hU=>?_
  walk_at"l3"
  rw[e1]
  have Z6:((2 ^ ((bl a-1)/2+1):Nat):Int)<=2 ^ 40:=by exact_mod_cast big
  have nn:(0:Int)<=((2 ^ ((bl a-1)/2+1):Nat):Int):=C4 _
  refine⟨⟨by omega,by omega⟩,_,_,⟨rfl,rfl⟩,⟨by decide,by decide,by omega,by omega⟩,?_⟩
  have en:(((2 ^ ((bl a-1)/2+1):Nat):Int)-2).toNat=2 ^ ((bl a-1)/2+1)-2:=by omega
  rw[en]
  refine gF.mk (λi δ=>(∃o1 o2,δ=[some (.int a),o1,o2])/\∀j,j<i->md a (2+j)≠0) ⟨⟨_,_,rfl⟩,λj hj=>absurd hj (by omega)⟩ ?_ ?_
  ·rintro i d δ hd ⟨⟨o1,o2,rfl⟩,inv⟩
   obtain⟨hi,rfl⟩:i<2 ^ ((bl a-1)/2+1)-2/\d=.int (2+(i:Int)):=by
    rw[cW]at hd
    by_cases hi:i<2 ^ ((bl a-1)/2+1)-2
    ·rw[qI hi]at hd
     exact⟨hi,(bS hd).symm⟩
    ·rw[qL (by simpa using hi)]at hd;cases hd
   have bi:bl (2+i)<=60:=by
    have:=(Qj h2 (show 2+i<2 ^ ((bl a-1)/2+1) by omega)).2
    omega
   walk_at"l3"
   refine⟨a,2+i,by rw[show((2+i:Nat):Int)=2+(i:Int) by omega],by omega,by omega,by omega,λ_ x r e l=>?_⟩
   have em:md a (2+i)=r:=ug e l
   refine⟨.int r,rfl,rfl,?_⟩
   rw[kn]
   split
   ·rename_i hz
    have r0:r=0:=by have:=of_decide_eq_true hz;omega
    rw[Qi hi (em.trans r0)]at q
    exact q
   ·rename_i hz
    refine⟨⟨_,_,rfl,rfl⟩,λj hj=>?_⟩
    by_cases ej:j=i
    ·rw[ej,em]
     intro r0
     exact hz (decide_eq_true (by omega))
    ·exact inv j (by omega)
  ·rintro δ ⟨⟨o1,o2,rfl⟩,inv⟩
   rw[cI,mS]at inv
   rw[Qh h2 inv]at q
   refine hU _ ?_
   walk_at"l3"
   exact q
noncomputable abbrev XY:a7:=λds Q=>∃a:Int,ds=[.int a]/\Q (.bl (decide (4<=a)&&decide (a<=127)&&al a.toNat))
theorem XZ(T:Txt K mg t):aL P w K mg base aV 3 t.J4 t.J5 ["bits"] (bf (XY )):=by
 refine bM T.yA.F WC (λds Q h=>by obtain⟨a,rfl,q⟩:=h<;>rfl) λaE A outer s H E hr=>⟨_,(aK (aW (n5 (af (AQ uL uL (af ax) (bv 0) (af ax))) (k6 (bX T.Ld (XX T) hr (aq (bv 0) aF)))))),λds Q h=>?_⟩
 obtain⟨a,rfl,q⟩:=h
 walk_at"l3"
 split
 ·rename_i h1
  split
  ·rename_i h2
   refine⟨a.toNat,by rw[zg (by omega)],?_,?_⟩
   ·have:bl a.toNat<=bl 127:=z9 (by omega)
    exact dy this (by decide)
   ·have e:(decide (4<=a)&&decide (a<=127)&&al a.toNat)=al a.toNat:=by simp[h1,h2]
    rw[e]at q;exact q
  ·rename_i h2
   have e:(decide (4<=a)&&decide (a<=127)&&al a.toNat)=false:=by simp[h2]
   rw[e]at q;exact q
 ·rename_i h1
  have e:(decide (4<=a)&&decide (a<=127)&&al a.toNat)=false:=by simp[h1]
  rw[e]at q;exact q
noncomputable abbrev X0:a7:=λds Q=>∃a b:Nat,ds=[.int a,.int b]/\bl a<=1000/\bl b<=1000/\Q (.int (cl a b:Nat))
theorem X1(T:Txt K mg t):aL P w K mg base aV 1 t.J6 t.J7 ["a","b"] (bf (X0 )):=by
 refine bM T.yB.F ym (λds Q h=>by obtain⟨a,b,rfl,ha,hb,q⟩:=h<;>rfl) λaE A outer s H E hr=>⟨_,(aH (aY (i:=2) ym.nd rfl (aB rfl) ax)
   (aH (jo fo rfl (FK rfl T.qo (aq (af (km (bv 1))) aF)) (oq (i:=3) ym.nd rfl (aB rfl))
    (aK (dm (di (ff (dQ hr)) (af (aJ FX (af (aJ FW (bv 1) (bv 3))) (af ax))) (af ax) (cx _)) (aK (uD (i:=2) ym.nd rfl (aB rfl) (af (aJ rl (bv 0) (bv 3))) AL)) dk)))
   (aK (aW (em 2))))),λds Q h=>?_⟩
 obtain⟨a,b,rfl,ha,hb,q⟩:=h
 refine aG λU hU=>?_
 walk_at"l3"
 refine hU _ ?_
 clear hU U
 refine aG λU hU=>?_
 walk_at"l3"
 simp only[fq]
 refine⟨⟨by omega,by omega⟩,Gw (λi δ=>∃o,δ=[some (.int a),some (.int b),some (.int (Mf.P a b i:Nat)),o]) ⟨none,rfl⟩ ?_ ?_⟩
 ·rintro i δ hi ⟨o,rfl⟩
  walk_at"l3"
  refine⟨by omega,?_⟩
  have yI:(kP ((b:Int)/2 ^ ((i:Int)).toNat) 1=1)↔b.testBit i=true:=by
   have h:=Qt b i
   rw[Dt]at h
   rw[<-h,dI]
  split
  ·rename_i hc
   have h:=Qu (a:=a) (yI.mp hc)
   rw[Dt]at h
   exact⟨⟨by omega,by rw[fq];omega⟩,_,h,rfl⟩
  ·rename_i hc
   exact⟨_,by rw[Qv (λz=>hc (yI.mpr z))],rfl⟩
 ·rintro δ ⟨o,rfl⟩
  refine hU _ ?_
  walk_at"l3"
  exact q
noncomputable abbrev X2:List D->List Str->List D->Prop:=λds ns xs=>∃p:Nat,ds=[.int p]/\p∈eU/\ns=eV "bits"++[("products":Str)]/\xs=[.int p,.int (ag (true,p)),.int ((bl (ag (true,p)):Nat)-1),.lst true (aD (fl (true,p))),.lst true (aD (cP (fl (true,p)))),.int (fst (true,p)),.lst true (mv (fl (true,p)) (cP (fl (true,p))))]
theorem X3(T:Txt K mg t)(hB:Bm mg base):aL P w K mg base aV 8 t.Cp t.Cq ["self","bits"] (Bw [t.mF,t.mG] t.ba X2):=by
 refine Hd T.Lq.F T.Xl Ja (λvs H Q E h=>?_) λA outer s H vs Q E hr h=>?_
 ·obtain⟨x,dx,bF,ds,ns,xs,rfl,_,_,r,⟨p,rfl,_⟩,_⟩:=h
  have:=r.length
  simp at this
  simp[this]
 obtain⟨x,dx,bF,ds,ns,xs,rfl,tb,hx,r,⟨p,rfl,hp,rfl,rfl⟩,q⟩:=h
 obtain rfl:bF=[.int p]:=by
  cases r with
  | int r=>cases r;rfl
 have hm:(true,p)∈aI:=dz _ (zh hp)
 have hF:=cE hm
 refine⟨_,fx (wg (zw (zt (nD ((XZ T).mono (by decide)) hr rfl T.yA.g T.yA.F.kp T.yA.b .nil gv (cL (pv 1) eM)))) (jX DP) tU)
  (fx (k8 (pv 0) (pv 1) rfl)
  (fx (wk (i:=2) Ja.nd rfl (aB rfl) (wu E3 tS (wu zJ (Ab (pv 1)) tS)))
  (fx (tV (G6 (E:=E0) (i:=1) T.Lb ((LH T).mono (by decide)) hr T.CM.b rfl T.K5 rfl rfl rfl rfl (cL (pv 0) (cL (pv 2) (cL (GZ rfl rfl T.Xn hB) eM)))))
  (jX (k8 (pv 0) (nD ((XT T).mono (by decide)) hr rfl T.yz.g T.yz.F.kp T.yz.b .nil gv (cL (wA (pv 0) rfl) (cL (wA (pv 0) rfl) eM))) rfl))))),?_⟩
 try dsimp only[jx,jy]
 refine⟨_,rfl,H,[.int p],λd=>d=.bl true,ae.refl _,.int .nil,⟨p,rfl,by rw[Uo p hp]⟩,λd v F' H1 A1 hd qv hf he h3 r nd fr=>?_⟩
 subst hd
 cases r
 refine⟨true,rfl,?_⟩
 refine iB ?_
 have cO:=qv.get _ _ hx
 refine⟨.int p,rfl,.ref x,rfl,x,t.ba,dx,_,rfl,cO,T.eX,T.Xo,by decide,?_⟩
 generalize e2:upd H1 x (HO.ins t.ba dx (dD "bits" (.int p) []))=H2
 have dM:H2 x=some (.ins t.ba dx [(("bits":Str),.int p)]):=by rw[<-e2,a5];rfl
 have s2:cC x H H2:=by rw[<-e2];exact(qv.x (x:=x)).trans (cC.upd (C:=x) (dx:=dx) cO rfl)
 have n2:∀p,H2 p=none->H p=none:=λp h=>qv.free (u9 cO (by rw[e2];exact h))
 obtain⟨ps,hP⟩:=tb t.mG (by simp)
 obtain⟨more,CV⟩:=s2.tb _ ps hP
 have bp:bl p<=7:=Hq p hp
 have yJ:1<=bl p:=Hr p hp
 refine⟨.int p,rfl,rfl,p,rfl,rfl,_,_,rfl,rfl,_,_,rfl,rfl,?_,?_⟩
 ·have o1:bl (1:Int).natAbs=1:=by decide
  rw[fq]
  exact⟨by omega,by omega⟩
 have em:(1:Int)*2 ^ (((bl ((p:Int)).natAbs:Nat):Int)-1).toNat=((ag (true,p):Nat):Int):=by
  rw[fq,show(((bl p:Nat):Int)-1)=((bl p-1:Nat):Int) by omega,show(1:Int)=((1:Nat):Int) from rfl,qY,zk];rfl
 show zA 2 (.int ((1:Int)*2 ^ (((bl ((p:Int)).natAbs:Nat):Int)-1).toNat)) _ _ _
 rw[em]
 refine⟨.ref x,rfl,.int (ag (true,p)),rfl,⟨_,CV⟩,λf k qn pm fW H3 nf CW hk kf kK XR=>?_⟩
 refine⟨f,_,_,.int p,CW,rfl,rfl,λoc u fw hu nc mj=>?_⟩
 obtain⟨tm,rfl⟩:∃tm,u=kM p tm:=hu
 have jJ:=kK.get _ _ dM
 refine⟨x,dx,f,t.ba,"bits",p,ag (true,p),_,oc,_,k,gm (true,p),fl (true,p),fst (true,p),rfl,va jJ (λz=>by rw[z,nf]at dM;cases dM) nc,by decide,⟨T.eX,T.LB,T.Xq,T.CO,T.yF,T.Xp,T.K9⟩,Hk mj nc hk kf,?_,hF,λH' p1 p2 sx dF CY k9 ne vE qu=>?_⟩
 ·refine Hb (n:=3) ⟨rfl,rfl,rfl,by decide,rfl,rfl,by decide,by decide,rfl⟩ fw (λu1 u2=>rfl) λq f A outer s H E hr=>?_
  refine⟨_,dZ (bH (af (uC (xw ((LL T).mono (by decide))) hr rfl T.qp.g T.qp.F.kp T.qp.b xv (aq (af (uC ((X1 T).mono (by decide)) hr rfl T.yB.g T.yB.F.kp T.yB.b gv (aq (bv 0) (aq (bv 1) aF)))) (aq (bv 2) aF)))) (af ax) (λ_ _=>rfl)),λi j Qd h=>?_⟩
  obtain⟨a,b,rfl,rfl,ha,hb,hq⟩:=h
  walk_at"l3"
  have b1:bl a<=6:=by
   have:bl a<=bl 63:=z9 (by omega)
   exact dy this (by decide)
  have b2:bl b<=6:=by
   have:bl b<=bl 63:=z9 (by omega)
   exact dy this (by decide)
  have p0:p≠0:=by
   intro z
   rw[z]at yJ
   exact absurd yJ (by decide)
  refine⟨a,b,rfl,by omega,by omega,cl a b,p,rfl,dy (Up a b) (by omega),by omega,λz=>p0 z,λ_ x r e l=>⟨by simp[D.pl],.int r,rfl,rfl,r,rfl,?_⟩⟩
  have er:gm (true,p) a b=r:=ug e l
  rw[<-er];exact hq
 ·have gf:H' f=some (.ext (gC _ oc _ f)):=sx.get f _ (λz=>by rw[z]at nf;rw[nf]at dM;cases dM) (by rw[ay mj.symm,a5]) rfl
  have gc:=sx.get _ _ (cq jJ nc).symm a5 rfl
  refine⟨gf,gc,?_⟩
  have s4:=s2.trans (Hj kK nf nc sx)
  have f1:=n2 _ (xR kK vE)
  have f2:=n2 _ (xR kK qu)
  have l1:=CY.rem gf gc
  have l2:=k9.rem gf gc
  have mH:rem H' f (s.heap.objs.size+1) x=some (.ins t.ba dx ((eV "bits").zip (xP p (ag (true,p)) p1 p2 (fst (true,p))))):=by
   rw[dR (λz=>by rw[z,gf]at dF;cases dF) (λz=>by rw[z,gc]at dF;cases dF)];exact dF
  generalize rem H' f (s.heap.objs.size+1)=H4 at s4 l1 l2 mH
  refine⟨.ref x,rfl,x,t.ba,dx,_,.ref p1,rfl,mH,T.eX,T.CO,rfl,.ref x,rfl,x,t.ba,dx,_,.ref p2,rfl,mH,T.eX,T.yF,rfl,H4,[.lst false (aD (fl (true,p))),.lst false (aD (cP (fl (true,p))))],λd=>d=.lst true (mv (fl (true,p)) (cP (fl (true,p)))),ae.refl _,.shr l1 (iM _) (.shr l2 (iM _) .nil),
   ⟨_,_,rfl,by have:=hF.len;have:=hF.lo;omega,by have:=hF.len;have:=hF.hi;omega,u6 _ _,Ho _ _,rfl⟩,λd v F' H5 A' hd mI hf he h3 r nd fr=>?_⟩
  subst hd
  obtain⟨p3,rfl⟩:∃p3,v=.ref p3:=by cases r;exact⟨_,rfl⟩
  have jK:=mI.get _ _ mH
  have nA:∀{a ws},H4 a=some (.lst ws)->a ∉ A':=λ{a ws} e z=>by rw[fr a z]at e;cases e
  refine⟨.ref x,rfl,x,t.ba,dx,_,rfl,jK,T.eX,T.CP,kS (aZ 6) (by decide),?_⟩
  refine q _ (xP p (ag (true,p)) p1 p2 (fst (true,p))++[.ref p3]) (p1::p2::A') ((s4.trans (mI.x (x:=x))).trans (cC.upd (C:=x) (dx:=dx) jK rfl)) (by rw[a5];rfl) rfl ?_ ?_ ?_
  ·exact .int (.int (.int (.own ((l1.same mI).upd jK (λws z=>by cases z)) rfl (iM _) (.own ((l2.same mI).upd jK (λws z=>by cases z)) rfl (iM _) (.int ((r.wU (by simp[fb,Hm]) (ae.of λb o e=>by cases e)).u7 jK (by simp[fb,Hm])))))))
  ·exact jM.mpr ⟨by simp[ne];exact nA l1,jM.mpr ⟨nA l2,nd⟩⟩
  ·intro a ha
   rcases bE.mp ha with rfl | ha
   ·exact f1
   ·rcases bE.mp ha with rfl | ha
    ·exact f2
    ·exact s4.free (by rw[mH];simp) (fr a ha)
noncomputable abbrev X4(cb cp:Addr):a7:=λds Q=>∃m:Bool × Nat,ds=[du m]/\m∈aI/\Q (fD cb cp m)
theorem X5(T:Txt K mg t)(hB:Bm mg base):aL P w K mg base aV 10 t.J8 t.J9 ["_law_told_here"] (uV [t.mF,t.mG] (bf (X4 t.ba t.bB))):=by
 refine Hc T.yC.F WD (λds Q h=>by obtain⟨m,rfl,hm,q⟩:=h<;>rfl) λaE A outer s H E hT hr=>⟨_,(aH (dm (g8 (bH (bv 0) (af ax) (λ_ _=>rfl))) (aK (aW (Hf hT T.Xh ((X3 T hB).mono (by decide)) hr rfl T.WW T.Lq.b gv (aq (bH (bv 0) (af ax) (λ_ _=>rfl)) aF)))) dk)
   (aK (aW (Hf hT T.Xi ((XQ T hB).mono (by decide)) hr rfl T.WZ T.Lp.b gv (aq (bH (bv 0) (af ax) (λ_ _=>rfl)) aF))))),λds Q h=>?_⟩
 obtain⟨m,rfl,hm,q⟩:=h
 unfold du at *
 refine aG λU hU=>?_
 walk_at"l3"
 obtain⟨b,n⟩:=m
 cases b with
 | true =>
  refine⟨_,rfl,true,rfl,?_⟩
  rw[if_pos rfl]
  refine⟨_,rfl,_,_,⟨n,rfl,xW hm,rfl,rfl⟩,?_⟩
  rw[Uv];exact q
 | false =>
  refine⟨_,rfl,false,rfl,?_⟩
  rw[if_neg (by decide)]
  refine hU _ ?_
  walk_at"l3"
  refine⟨_,rfl,_,_,⟨n,rfl,Ux hm,rfl,rfl⟩,?_⟩
  rw[Uw];exact q
noncomputable abbrev X6:a7:=λds Q=>∃m:Bool × Nat,ds=[du m]/\bl m.2<=1000/\1<=bl m.2/\Q (.int (ag m:Nat))
theorem X7(T:Txt K mg t):aL P w K mg base aV 1 t.Ka t.Kb ["_law_told_here"] (bf (X6 )):=by
 refine bM T.Le.F WE (λds Q h=>by obtain⟨m,rfl,h1,h2,q⟩:=h<;>rfl) λaE A outer s H E hr=>⟨_,(aH (dm (g8 (bH (bv 0) (af ax) (λ_ _=>rfl))) (aK (aW (aJ rl (af ax) (af (aJ jr (af (km (bH (bv 0) (af ax) (λ_ _=>rfl)))) (af ax)))))) dk)
   (aK (aW (dZ (bH (bv 0) (af ax) (λ_ _=>rfl)))))),λds Q h=>?_⟩
 obtain⟨m,rfl,h1,h2,q⟩:=h
 unfold du at *
 refine aG λU hU=>?_
 walk_at"l3"
 obtain⟨b,n⟩:=m
 cases b with
 | true =>
  refine⟨_,rfl,true,rfl,?_⟩
  rw[if_pos rfl]
  refine⟨_,rfl,?_⟩
  have o1:bl (1:Int).natAbs=1:=by decide
  have e:(1:Int)*2 ^ (((bl ((n:Int)).natAbs:Nat):Int)-1).toNat=((ag (true,n):Nat):Int):=by
   have gx:1<=bl n:=h2
   rw[fq,show(((bl n:Nat):Int)-1)=((bl n-1:Nat):Int) by omega,show(1:Int)=((1:Nat):Int) from rfl,qY,zk];rfl
  refine⟨?_,by rw[e];exact q⟩
  rw[fq]
  have gy:bl n<=1000:=h1
  have gx:1<=bl n:=h2
  exact⟨by omega,by omega⟩
 | false =>
  refine⟨_,rfl,false,rfl,?_⟩
  rw[if_neg (by decide)]
  refine hU _ ?_
  walk_at"l3"
  exact⟨_,rfl,rfl,q⟩
noncomputable abbrev X8:a7:=λds Q=>∃(ns:List Int) (k:Int),ds=[.fz (aD ns),.int k]/\0<=k/\Q (.int (ns.getD k.toNat 0))
theorem kL(T:Txt K mg t):aL P w K mg base aV 1 t.Kd t.Ke ["_law_script","_law_k"] (bf (X8 )):=by
 refine bM T.jI.F WG (λds Q h=>by obtain⟨ns,k,rfl,hk,q⟩:=h<;>rfl) λaE A outer s H E hr=>⟨_,(aH (dm (di uK (bv 1) (af (dP (fV) (by rfl) T.f9 fK (aq (bv 0) aF))) (cx _)) (aK (aW (dZ (bH (bv 0) (bv 1) (λ_ _=>rfl))))) dk)
   (aK (aW ax))),λds Q h=>?_⟩
 obtain⟨ns,k,rfl,hk,q⟩:=h
 refine aG λU hU=>?_
 walk_at"l3"
 split
 ·rename_i h
  exact⟨_,ju hk h,rfl,q⟩
 ·rename_i h
  refine hU _ ?_
  walk_at"l3"
  rw[bg,qL (by omega)]at q
  exact q
noncomputable def bJ(l:List (Nat × Nat)):List D:=l.map λz=>D.tup [.int (z.1:Nat),.int (z.2:Nat)]
theorem mJ(l:List (Nat × Nat)):(bJ l).length=l.length:=by unfold bJ;rw[cI]
theorem LM{l:List (Nat × Nat)}{j:Nat}{d:D}(h:(bJ l)[j]?=some d):∃z,l[j]?=some z/\d=.tup [.int (z.1:Nat),.int (z.2:Nat)]:=by
 unfold bJ at h
 rw[cW]at h
 obtain⟨z,e,r⟩:=qK.mp h
 exact⟨z,e,r.symm⟩
theorem sQ(l:List (Nat × Nat)):(bJ l).map D.sh=bJ l:=by
 unfold bJ
 rw[gP]
 rfl
theorem LN:∀(L:List Nat) (z:Nat) (h:z<L.length),(L[z]::L.eraseIdx z).Perm L
 | a::L,0,h=>.refl _
 | a::L,z+1,h=>(Dm _ _ _).trans ((LN L z (by simpa using h)).cons a)
structure LO(q:Nat)(l:List (Nat × Nat)):Prop where
 nd:(l.map (·.1)).Nodup
 x:∀z∈l,z.1<q
 y:∀z∈l,z.2<q
noncomputable abbrev X9:a7:=λds Q=>∃(ns:List Int) (q k:Nat),ds=[.fz (aD ns),.int q,.int k]/\ns.length<=63/\2<=q/\q<=64/\k<=q/\∀l,l.length=k->LO q l->Q (.lst true (bJ l))
theorem Ya(T:Txt K mg t):aL P w K mg base aV 2 t.Kf t.Kg ["_law_script","_law_many_here","_law_count"] (bf (X9 )):=by
 refine bM T.Lf.F vA (λds Q h=>by obtain⟨ns,q,k,rfl,hn,h1,h2,h3,qq⟩:=h<;>rfl) λaE A outer s H E hr=>⟨_,(aH (aY (i:=3) vA.nd rfl (aB rfl) (Vp rfl (by rfl) T.yv (by rfl) T.qo (bv 1)))
   (aH (aY (i:=4) vA.nd rfl (aB rfl) (g9 eJ))
   (aH (jo fo rfl (FK rfl T.qo (aq (bv 2) aF)) (oq (i:=5) vA.nd rfl (aB rfl))
    (aH (Wu (j:=6) (i:=3) vA.nd rfl (aB rfl) rfl (by first | exact aB rfl | exact ck (aB rfl)) (aJ dn (af (bX T.jI (kL T) hr (aq (bv 0) (aq (af (aJ eR (af ax) (af (aJ js (af ax) (bv 5))))) aF)))) (af (dP (fV) (by rfl) T.f9 fK (aq (bv 3) aF)))))
    (aK (uP (i:=4) rfl (by first | exact aB rfl | exact ck (aB rfl)) (uB (dj (em 6) (dj (aJ dn (af (bX T.jI (kL T) hr (aq (bv 0) (aq (af (aJ eR (af ax) (af (aJ js (af ax) (bv 5))))) aF)))) (bv 1)) eJ)))))))
   (aK (aW (em 4)))))),λds Q h=>?_⟩
 obtain⟨ns,q,k,rfl,hn,h1,h2,h3,qq⟩:=h
 refine aG λU hU=>?_
 walk_at"l3"
 refine⟨q,rfl,by omega,hU _ ?_⟩
 clear hU U
 refine aG λU hU=>?_
 walk_at"l3"
 refine⟨by decide,hU _ ?_⟩
 clear hU U
 refine aG λU hU=>?_
 walk_at"l3"
 refine⟨⟨by omega,by omega⟩,Gw (λi δ=>∃(L:List Nat) (l:List (Nat × Nat)) (o5 o6:Option D),l.length=i/\((l.map (·.1))++L).Perm (bD q)/\(∀z∈l,z.2<q)/\δ=[some (.fz (aD ns)),some (.int q),some (.int k),some (.lst true (aN L)),some (.lst true (bJ l)),o5,o6]) ⟨bD q,[],_,_,rfl,.refl _,(λz hz=>nomatch hz),rfl⟩ ?_ ?_⟩
 ·rintro i δ hi ⟨L,l,o5,o6,hO,hp,hy,rfl⟩
  have lL:L.length=q-i:=by have:=hp.length_eq;rw[gO,cI,mS]at this;omega
  simp only[gN,m8,mZ]
  clear hU
  refine aG λU hU=>?_
  walk_at"l3"
  refine⟨⟨_,rfl⟩,k7.ok (.inr ⟨by omega,by omega⟩),ns,_,rfl,by omega,?_⟩
  generalize ns.getD (3+2*(i:Int)).toNat 0=c
  obtain⟨z,ez,hz⟩:∃z:Nat,c%(L.length:Int)=z/\z<L.length:=by
   have n0:=gi c (show(L.length:Int)≠0 by omega)
   have n1:=fm c (show 0<(L.length:Int) by omega)
   exact⟨(c%(L.length:Int)).toNat,by omega,by omega⟩
  refine⟨by omega,L.map λ(n:Nat)=>(n:Int),z,(L[z]:Nat),ez,by omega,rfl,by rw[cW,a9 hz];rfl,hU _ ?_⟩
  clear hU
  walk_at"l3"
  refine⟨⟨_,rfl⟩,k7.ok (.inr ⟨by omega,by omega⟩),ns,_,rfl,by omega,?_⟩
  generalize ns.getD (4+2*(i:Int)).toNat 0=c2
  obtain⟨y,ey,LP⟩:∃y:Nat,c2%(q:Int)=y/\y<q:=by
   have n0:=gi c2 (show(q:Int)≠0 by omega)
   have n1:=fm c2 (show 0<(q:Int) by omega)
   exact⟨(c2%(q:Int)).toNat,by omega,by omega⟩
  refine⟨by omega,by decide,by rw[mJ];omega,L.eraseIdx z,l++[(L[z],y)],_,_,by rw[gO,hO];rfl,?_,λw hw=>?_,by rw[BQ];rfl,by unfold bJ;rw[eZ,ey];rfl,rfl,rfl⟩
  ·rw[eZ,cT]
   exact(List.Perm.append_left _ (LN L z hz)).trans hp
  ·rcases cQ.mp hw with h | h
   ·exact hy w h
   ·rw[il.mp h];exact LP
 ·rintro δ ⟨L,l,o5,o6,hO,hp,hy,rfl⟩
  refine hU _ ?_
  walk_at"l3"
  have nd:=(hp.nodup_iff.mpr List.nodup_range)
  exact qq l hO ⟨(eI.mp nd).1,λz hz=>gM.mp (hp.mem_iff.mp (dz _ (c9.mpr ⟨z,hz,rfl⟩))),hy⟩
theorem Yb{n:Int}(h0:0<=n)(h:n<1000):(jT (toString n)).length<=3/\n.natAbs.log2<1920:=by
 have:∀k,k<1000->(jT (toString ((k:Nat):Int))).length<=3/\((k:Nat):Int).natAbs.log2<1920:=by decide +kernel
 obtain⟨k,rfl⟩:=Int.eq_ofNat_of_zero_le h0
 exact this k (by omega)
theorem Yc(T:Txt K mg t):aL P w K mg base aV 1 t.Cr t.Kh ["self","place"] (Cb t.fZ "place"):=by
 refine T.Lr.F.ok WH (λvs H Q E h=>?_) λaE A outer s H vs Q E hr h=>?_
 ·obtain⟨a,n,rfl,_⟩:=h;rfl
 obtain⟨a,n,rfl,n0,n1,hH,q⟩:=h
 obtain⟨l1,l2⟩:=Yb n0 n1
 refine⟨_,fx (tV (V5 T.Xj T.sO.ex (by rfl) T.K6 (cL (pv 0) (cL (VN (BZ zr (BZ (VO (pv 1)) (BZ zr VM)))) eM))) rfl) (jX (V7 T.sO.wX rfl (pv 0) (pv 1))),?_⟩
 try dsimp only[jx,jy]
 have la:∀x y:Str,(x++y).length=x.length+y.length:=λx y=>by
  show(x.cps++y.cps).size=_
  rw[Array.size_append];rfl
 have e0:qC.length=0:=by decide +kernel
 have e1:(jT "the x at place ").length<=20:=by decide +kernel
 have e2:(jT " stood ahead").length<=20:=by decide +kernel
 have b1:(qC++jT "the x at place ").length<=sizeLine:=by rw[la,sizeLine_eq];omega
 have b2:(qC++jT "the x at place "++jT (toString n)).length<=sizeLine:=by rw[la,la,sizeLine_eq];omega
 have b3:(qC++jT "the x at place "++jT (toString n)++jT " stood ahead").length<=sizeLine:=by rw[la,la,la,sizeLine_eq];omega
 exact⟨.ref a,rfl,_,rfl,b1,.int n,rfl,n,rfl,l2,_,rfl,b2,_,rfl,b3,b3,a,_,rfl,Nat.succ_le_of_lt (Nat.zero_lt_succ 8),hH,.int n,rfl,.ref a,rfl,a,n,rfl,rfl,hH,q⟩
theorem vG(l:List (Nat × Nat)):(bJ l).all D.pl=true:=by
 unfold bJ
 rw[sY,cX]
 intro z _
 rfl
theorem Yd{l:List (Nat × Nat)}{j:Nat}{d:D}(h:(dq (bJ l))[j]?=some d):∃z,l[j]?=some z/\d=.tup [.int (j:Nat),.tup [.int (z.1:Nat),.int (z.2:Nat)]]:=by
 unfold dq at h
 rw[zc]at h
 obtain⟨x,e,r⟩:=qK.mp h
 obtain⟨z,ez,rfl⟩:=LM e
 exact⟨z,ez,r.symm⟩
theorem Ye{l:List (Nat × Nat)}{j:Nat}(hj:j<=l.length)(a:Nat):((a:Int)∈(bD j).map λi=>(((l.getD i (0,0)).1:Nat):Int))↔a∈(l.take j).map (·.1):=by
 constructor
 ·intro h
  obtain⟨i,hi,e⟩:=c9.mp h
  have hi:=gM.mp hi
  refine c9.mpr ⟨l.getD i (0,0),?_,by omega⟩
  rw[bg,a9 (show i<l.length by omega),kU]
  exact DA.mpr ⟨i,by omega,rfl⟩
 ·intro h
  obtain⟨z,hz,rfl⟩:=c9.mp h
  obtain⟨i,hi,e⟩:=DA.mp hz
  refine c9.mpr ⟨i,gM.mpr (by omega),?_⟩
  rw[bg,a9 (show i<l.length by omega),kU,e]
noncomputable abbrev Yf(t:jg):iO:=λds Q Ex=>∃(l:List (Nat × Nat)),ds=[.lst false (bJ l)]/\l.length<=64/\((l.map (·.1)).Nodup->Q .ao)/\(∀j,j<l.length->(l.take j |>.map (·.1)).Nodup->(l.getD j (0,0)).1∈(l.take j).map (·.1)->Ex ⟨t.fZ,some ("place",j)⟩)
theorem Yg(T:Txt K mg t):aL P w K mg base (gz P w) 3 t.Ki t.Kj ["points"] (jv (Yf t )):=by
 refine xt T.yD.F Cj (λds Q Ex h=>by obtain⟨l,rfl,hl,q,qx⟩:=h<;>rfl) λaE A outer s H E hr=>⟨_,(Wd (i:=1) Cj.nd rfl (aB rfl) (by first | exact aB rfl | exact ck (aB rfl)) (xk hr) PassesOwn.leaving rfl (xB rfl T.yu (aq (bv 0) aF)) (sj (i1:=2) (i2:=3) rfl Cj.nd rfl (aB rfl) rfl (aB rfl)) (bH (bv 3) (af ax) (λ_ _=>rfl))
    (aK (V8 T.K7 T.sO.ex T.sO.fn ((Yc T).mono (by decide)) hr T.Lr.b gv rfl (by rfl) (aq (bv 2) aF)))
    (bH (bv 3) (af ax) (λ_ _=>rfl))),λds Q Ex h=>?_⟩
 obtain⟨l,rfl,hl,q,qx⟩:=h
 walk_at"l3"
 refine⟨by decide,vG l,λj δ=>((l.take j).map (·.1)).Nodup/\∃o2 o3,δ=[some (.lst false (bJ l)),none,o2,o3],λj=>(((l.getD j (0,0)).1:Nat):Int),⟨by simp,none,none,rfl⟩,?_,?_,?_⟩
 ·rintro j d aa hd ⟨nd,o2,o3,rfl⟩
  obtain⟨z,hz,rfl⟩:=Yd hd
  have hj:=(gb.mp hz).1
  have eg:l.getD j (0,0)=z:=by rw[bg,hz];rfl
  have mem:=Ye (vI hj) (l.getD j (0,0)).1
  have e0:∃d,cM [D.int (z.1:Nat),D.int (z.2:Nat)] 0=some d/\d=D.int (((l.getD j (0,0)).1:Nat):Int):=⟨_,rfl,by rw[eg]⟩
  walk_at"l3"
  refine⟨e0,?_⟩
  by_cases hm:(l.getD j (0,0)).1∈(l.take j).map (·.1)
  ·rw[if_pos (mem.mpr hm)]
   exact⟨by omega,by omega,qx j hj nd hm⟩
  ·rw[if_neg λy=>hm (mem.mp y)]
   refine⟨e0,?_,_,_,rfl,rfl⟩
   rw[qJ,hz,eZ]
   refine List.nodup_append.mpr ⟨nd,by simp,λa ha b hb e=>?_⟩
   have hb:b=z.1:=by simpa using hb
   exact hm (by rw[eg,<- hb,<- e];exact ha)
 ·unfold dq
  rw[MM,mJ];omega
 ·rintro aa ⟨nd,_⟩
  refine q ?_
  have e:(dq (bJ l)).length=l.length:=by unfold dq;rw[MM,mJ]
  rw[e,qH]at nd
  exact nd
noncomputable abbrev LQ:a7:=λds Q=>∃(d:D) (a b:Nat),ds=[d,.int a,.int b]/\Q (.int (a ^^^ b:Nat))
theorem Yh(T:Txt K mg t):aL P w K mg base aV 1 t.Cs t.Kk ["self","a","b"] (bf (LQ )):=by
 refine bM T.Ls.F WI (λds Q h=>by obtain⟨d,a,b,rfl,q⟩:=h<;>rfl) λaE A outer s H E hr=>⟨_,(aK (aW (aJ uJ (bv 1) (bv 2)))),λds Q h=>?_⟩
 obtain⟨d,a,b,rfl,q⟩:=h
 walk_at"l3"
 rw[lr];exact q
noncomputable abbrev LR(K:Frag):a7:=λds Q=>∃(C:Addr) (p:Nat) (a b:Int),ds=[sG C p,.int a,.int b]/\cY K C/\bL K C "prime"/\0<p/\Q (.int ((a-b)%p))
theorem Yi(T:Txt K mg t):aL P w K mg base aV 1 t.Ct t.Kl ["self","a","b"] (bf (LR K)):=by
 refine bM T.Lu.F WJ (λds Q h=>by obtain⟨C,p,a,b,rfl,hC,hn,hp,q⟩:=h<;>rfl) λaE A outer s H E hr=>⟨_,(aK (aW (aJ dn (af (aJ jr (bv 1) (bv 2))) (jC (K:=K) (bv 0))))),λds Q h=>?_⟩
 obtain⟨C,p,a,b,rfl,hC,hn,hp,q⟩:=h
 walk_at"l3"
 refine⟨C,_,_,.int p,rfl,hC,hn,rfl,?_⟩
 exact⟨by omega,q⟩
theorem LS(T:Txt K mg t){m:Bool × Nat}(h0:0<m.2):∃C ns xs sp,fD t.ba t.bB m=.obj C ns xs/\pX P w K mg base 1 "minus" C sp/\("minus":Str) ∉ ns/\∀(a b:Nat) (Q:D->Prop),Q (.int (gl m a b))->sp [.obj C ns xs,.int a,.int b] Q:=by
 obtain⟨k,n⟩:=m
 cases k with
 | true=>exact⟨_,_,_,LQ,rfl,⟨T.eX,_,_,_,T.W7,Yh T,T.Ls.b⟩,by decide,λa b Q q=>⟨_,a,b,rfl,q⟩⟩
 | false=>exact⟨_,_,_,LR K,rfl,⟨T.fj,_,_,_,T.Xc,Yi T,T.Lu.b⟩,by decide,λa b Q q=>⟨_,n,a,b,rfl,T.fj,T.vD,h0,q⟩⟩
noncomputable abbrev LU(t:jg):iO:=λds Q Ex=>∃(m:Bool × Nat) (a b:Nat),ds=[fD t.ba t.bB m,.int a,.int b]/\m∈aI/\a<ag m/\b<ag m/\(b=0->Ex t.gL)/\(b≠0->∀r:Nat,r<ag m->gm m r b=a->Q (.int (r:Nat)))
theorem LV(T:Txt K mg t):aL P w K mg base (gz P w) 2 t.yr t.Km ["self","a","b"] (jv (LU t )):=by
 refine xt T.CN.F WK (λds Q Ex h=>by obtain⟨m,a,b,rfl,hm,ha,hb,qx,q⟩:=h<;>rfl) λaE A outer s H E hr=>⟨_,(aH (dm (di (ff (dQ hr)) (bv 2) (af ax) (cx _)) (aK (GA T.LF rfl (by rfl) (aq (af FF) aF))) dk)
   (aH (dm (di (ff (dQ hr)) (bv 1) (af ax) (cx _)) (aK (aW ax)) dk)
   (aK (aW (kG (P:=P) (w:=w) (K:=K) (mg:=mg) (base:=base) (n:=1) (bv 0) (hr.mono (by decide)) (aq (af (aJ jr (bH (jC (K:=K) (bv 0)) (bv 1) (λ_ _=>rfl)) (bH (jC (K:=K) (bv 0)) (bv 2) (λ_ _=>rfl)))) aF)))))),λds Q Ex h=>?_⟩
 obtain⟨m,a,b,rfl,hm,ha,hb,qx,q⟩:=h
 refine aG λU hU=>?_
 walk_at"l3"
 split
 ·rename_i h0
  exact⟨by decide,qx (by omega)⟩
 ·rename_i h0
  have b0:b≠0:=by omega
  refine hU _ ?_
  clear hU U
  refine aG λU hU=>?_
  walk_at"l3"
  split
  ·rename_i h1
   have a0:a=0:=by omega
   subst a0
   exact q b0 0 ha (ib m b (bR m hm))
  ·rename_i h1
   have a0:a≠0:=by omega
   refine hU _ ?_
   clear hU U
   have hF:=cE hm
   obtain⟨r,e,Yj,Yk⟩:=UE hm (show 1<=a by omega) ha (show 1<=b by omega) hb
   have qr:=q b0 r Yj Yk
   obtain⟨k,n⟩:=m
   cases k with
   | true =>
    walk_at"l3"
    have ll:(cP (fl (true,n))).length=ag (true,n):=(u6 _ _).trans hF.len
    have n0:=gi (lg (true,n) a-lg (true,n) b) (show(ag (true,n):Int)-1≠0 by have:=hF.lo;omega)
    have n1:=fm (lg (true,n) a-lg (true,n) b) (show(0:Int)<(ag (true,n):Int)-1 by have:=hF.lo;omega)
    refine⟨_,_,_,CS K,rfl,⟨T.eX,_,_,_,T.K9,CT T,T.yE.b⟩,by decide,_,_,_,_,rfl,T.eX,T.yF,rfl,_,ju (by omega) (by rw[ll];omega),_,_,_,_,rfl,T.eX,T.yF,rfl,_,ju (by omega) (by rw[ll];omega),?_⟩
    refine⟨_,_,_,_,ag (true,n),fl (true,n),r,rfl,T.eX,T.CO,T.LB,rfl,rfl,hF.lo,?_,qr⟩
    have hk:((lg (true,n) a-lg (true,n) b)%((ag (true,n):Int)-1)).toNat<(fl (true,n)).length:=by have:=hF.len;omega
    show(fl (true,n))[((lg (true,n) a-lg (true,n) b)%((ag (true,n):Int)-1)).toNat]?=some (r:Int)
    rw[<-e]
    unfold pw
    rw[bg,a9 hk];rfl
   | false =>
    walk_at"l3"
    have ll:(cP (fl (false,n))).length=ag (false,n):=(u6 _ _).trans hF.len
    have n0:=gi (lg (false,n) a-lg (false,n) b) (show(ag (false,n):Int)-1≠0 by have:=hF.lo;omega)
    have n1:=fm (lg (false,n) a-lg (false,n) b) (show(0:Int)<(ag (false,n):Int)-1 by have:=hF.lo;omega)
    refine⟨_,_,_,CS K,rfl,⟨T.fj,_,_,_,T.La,CT T,T.yE.b⟩,by decide,_,_,_,_,rfl,T.fj,T.CQ,rfl,_,ju (by omega) (by rw[ll];omega),_,_,_,_,rfl,T.fj,T.CQ,rfl,_,ju (by omega) (by rw[ll];omega),?_⟩
    refine⟨_,_,_,_,ag (false,n),fl (false,n),r,rfl,T.fj,T.LD,T.LC,rfl,rfl,hF.lo,?_,qr⟩
    have hk:((lg (false,n) a-lg (false,n) b)%((ag (false,n):Int)-1)).toNat<(fl (false,n)).length:=by have:=hF.len;omega
    show(fl (false,n))[((lg (false,n) a-lg (false,n) b)%((ag (false,n):Int)-1)).toNat]?=some (r:Int)
    rw[<-e]
    unfold pw
    rw[bg,a9 hk];rfl
theorem Yl(T:Txt K mg t)(m:Bool × Nat):xX P w K mg base 2 "over" (if m.1 then t.ba else t.bB) (LU t):=by
 obtain⟨k,n⟩:=m
 cases k with
 | true=>exact⟨T.eX,_,_,_,T.W8,LV T,T.CN.b⟩
 | false=>exact⟨T.fj,_,_,_,T.Xd,LV T,T.CN.b⟩
noncomputable abbrev Ym:a7:=λds Q=>∃l:List Nat,ds=[.lst false (aN l)]/\l.length<=1000/\Q (.lst true (aN (bx l)))
theorem LW(T:Txt K mg t):aL P w K mg base aV 1 t.Kn t.Ko ["a"] (bf (Ym )):=by
 refine bM T.CH.F Ck (λds Q h=>by obtain⟨l,rfl,hl,q⟩:=h<;>rfl) λaE A outer s H E hr=>⟨_,(aH (aY (i:=1) Ck.nd rfl (aB rfl) (dP (fV) (by rfl) T.f9 fK (aq (bv 0) aF)))
   (aH (uE fo (PW.pt (FG (di xi (bv 1) (af ax) (cx _)) (DO (di (ff (dQ hr)) (bH (bv 0) (af (aJ jr (bv 1) (af ax))) (λ_ _=>rfl)) (af ax) (cx _)))))
    (aK (uD (i:=1) Ck.nd rfl (aB rfl) (af ax) Sg)))
   (aK (aW (Ti (bv 0) Ss (Su (bv 1))))))),λds Q h=>?_⟩
 obtain⟨l,rfl,hl,q⟩:=h
 refine aG λU hU=>?_
 walk_at"l3"
 refine hU _ ?_
 clear hU U
 refine aG λU hU=>?_
 walk_at"l3"
 refine⟨λn δ=>∃k:Nat,δ=[some (.lst false (aN l)),some (.int (k:Nat))]/\k<=l.length/\(∀x∈l.drop k,x=0)/\n=k,⟨l.length,l.length,rfl,aZ _,by simp,rfl⟩,?_⟩
 rintro n δ ⟨k,rfl,hk,hz,rfl⟩
 walk_at"l3"
 have fin:(n=0\/l.getD (n-1) 0≠0)->U [some (.lst false (aN l)),some (.int (n:Nat))]:=λh=>by
  refine hU _ ?_
  walk_at"l3"
  rw[HG hk hz h]at q
  rw[show eK l none (some (n:Int))=l.take n from To l n]
  exact q
 split
 ·rename_i h1
  refine⟨_,HP (by omega) (by omega),rfl,?_⟩
  rw[kn,show((n:Int)-1).toNat=n-1 by omega]
  by_cases h0:l.getD (n-1) 0=0
  ·rw[if_pos (by rw[h0];rfl)]
   refine⟨n-1,by omega,n-1,by omega,by omega,U6 (by omega) hk hz h0,rfl⟩
  ·rw[if_neg (by simp only[decide_eq_true_eq];omega)]
   exact fin (.inr h0)
 ·rename_i h1
  exact fin (.inl (by omega))
noncomputable abbrev LX:a7:=λds Q=>∃(d:D) (a b:Nat),ds=[d,.int a,.int b]/\Q (.int (a ^^^ b:Nat))
theorem Yn(T:Txt K mg t):aL P w K mg base aV 1 t.Cu t.Kp ["self","a","b"] (bf (LX )):=by
 refine bM T.Lv.F WL (λds Q h=>by obtain⟨d,a,b,rfl,q⟩:=h<;>rfl) λaE A outer s H E hr=>⟨_,(aK (aW (aJ uJ (bv 1) (bv 2)))),λds Q h=>?_⟩
 obtain⟨d,a,b,rfl,q⟩:=h
 walk_at"l3"
 rw[lr];exact q
noncomputable abbrev LY(K:Frag):a7:=λds Q=>∃(C:Addr) (p:Nat) (a b:Int),ds=[sG C p,.int a,.int b]/\cY K C/\bL K C "prime"/\0<p/\Q (.int ((a+b)%p))
theorem Yo(T:Txt K mg t):aL P w K mg base aV 1 t.Cv t.Kq ["self","a","b"] (bf (LY K)):=by
 refine bM T.Lw.F WM (λds Q h=>by obtain⟨C,p,a,b,rfl,hC,hn,hp,q⟩:=h<;>rfl) λaE A outer s H E hr=>⟨_,(aK (aW (aJ dn (af (aJ eR (bv 1) (bv 2))) (jC (K:=K) (bv 0))))),λds Q h=>?_⟩
 obtain⟨C,p,a,b,rfl,hC,hn,hp,q⟩:=h
 walk_at"l3"
 refine⟨C,_,_,.int p,rfl,hC,hn,rfl,?_⟩
 exact⟨by omega,q⟩
theorem CZ(T:Txt K mg t){m:Bool × Nat}(h0:0<m.2):∃C ns xs sp,fD t.ba t.bB m=.obj C ns xs/\pX P w K mg base 1 "plus" C sp/\("plus":Str) ∉ ns/\∀(a b:Nat) (Q:D->Prop),Q (.int (gp m a b:Nat))->sp [.obj C ns xs,.int a,.int b] Q:=by
 obtain⟨k,n⟩:=m
 cases k with
 | true=>exact⟨_,_,_,LX,rfl,⟨T.eX,_,_,_,T.W9,Yn T,T.Lv.b⟩,by decide,λa b Q q=>⟨_,a,b,rfl,q⟩⟩
 | false =>
  refine⟨_,_,_,LY K,rfl,⟨T.fj,_,_,_,T.Xe,Yo T,T.Lw.b⟩,by decide,λa b Q q=>⟨_,n,a,b,rfl,T.fj,T.vD,h0,?_⟩⟩
  have e:((gp (false,n) a b:Nat):Int)=((a:Int)+b)%n:=by
   show(((a+b)%n:Nat):Int)=_
   rw[mW,zf]
  rw[<-e];exact q
theorem Yp(T:Txt K mg t){m:Bool × Nat}(h0:0<m.2){a b:Nat}{Q:D->Prop}(q:Q (.int (gp m a b:Nat))):HB P w K mg base 1 t.ba t.bB m "plus" [.int a,.int b] Q :=
 let⟨C,ns,xs,sp,e1,e2,e3,e4⟩:=CZ T h0;⟨C,ns,xs,sp,e1,e2,e3,e4 a b Q q⟩
noncomputable def C2(a:List Int)(n:Int):List Int:=a++aT (n-a.length).toNat 0
theorem LZ(l:List Nat)(n:Nat):aD (C2 (l.map λ(k:Nat)=>(k:Int)) (n:Int))=aN (iV l n):=by
 unfold aN C2 iV
 rw[eZ,DB,cI]
 congr 3
 omega
noncomputable abbrev Yq:a7:=λds Q=>∃(a:List Int) (n:Int),ds=[.lst false (aD a),.int n]/\a.length<=100000/\0<=n/\n<=100000/\Q (.lst true (aD (C2 a n)))
theorem L4(T:Txt K mg t):aL P w K mg base aV 1 t.Kr t.Ks ["a","length"] (bf (Yq )):=by
 refine bM T.CI.F WN (λds Q h=>by obtain⟨a,n,rfl,h1,h2,h3,q⟩:=h<;>rfl) λaE A outer s H E hr=>⟨_,(aK (aW (aJ eR (bv 0) (af (aJ js (af (g9 (dj ax eJ))) (af (aJ jr (bv 1) (af (dP (fV) (by rfl) T.f9 fK (aq (bv 0) aF)))))))))),λds Q h=>?_⟩
 obtain⟨a,n,rfl,h1,h2,h3,q⟩:=h
 simp only[oa,og,oh,oi,dT,jn,j6,j7,dC,lJ,j8,lQ,lM,n8,n9,ke,o8,l6,o9,pe,nU,nV,nW,nX,nY,nZ,n6,lK,oY,lZ,l4,ii,lU,oF,lV,oG,oH,oJ,oK,oM,oN,iI,eu,oO,oQ,oR,oS,rm,oW,oX,gN,pf,oZ,oj,ot,ou,ow,oy,oA,ph,pj,oB,hJ,dH,fR,fe,kU,mM,jS,tD,hG,fP,l5,pz,pC,pB,pE,pF,pJ,ku,jx,pO,mf,pL,fh,jy,sg,si,cj,jO,mV,mP,cS,mX,aT,tE,tF,mZ,m8,tG,exists_eq_left',exists_eq_left,D.bl.injEq,D.int.injEq,D.lst.injEq,D.fz.injEq,D.str.injEq,D.tup.injEq,tH,and_true,true_and,cZ,mU,i7,kT,rq,rA,rB,rC,rD,rE,gE,iE,l7,rK,rL,rM,rN,rO,eG,ji,rF,rG,rH,rJ,fb,lC,tI,tJ,qB,mY,qN,qO,qE,rT,rV,rW,rX,rY,rZ,r6,iN,l8,l9,gG,pk,rQ,pq,rP,rR,rS,kn,if_true,i6,if_false,reduceIte,r9,decide_eq_true_eq,eT,pP,pQ,sq,sk,om,pV,mw,pM,mm,mq,pY,qa,qe,qh,qj,qi,qk,ql,sL,qD]
 exact⟨by omega,⟨by omega,by omega,by omega⟩,by omega,q⟩
noncomputable abbrev Yr(cb cp:Addr):a7:=λds Q=>∃(m:Bool × Nat) (a b:List Nat),ds=[fD cb cp m,.lst false (aN a),.lst false (aN b)]/\m∈aI/\AllLt (ag m) a/\AllLt (ag m) b/\a.length<=500/\b.length<=500/\Q (.lst true (aN (bx (jE (gp m) a b))))
theorem Ys(T:Txt K mg t):aL P w K mg base aV 2 t.Kt t.Ku ["field","a","b"] (bf (Yr t.ba t.bB)):=by
 refine bM T.Lg.F Jp (λds Q h=>by obtain⟨m,a,b,rfl,hm,ha,hb,hl,k9,q⟩:=h<;>rfl) λaE A outer s H E hr=>⟨_,(aH (aY (i:=3) Jp.nd rfl (aB rfl) (dP (Sn rfl) (by rfl) T.W4 Qk (aq (af (dP (fV) (by rfl) T.f9 fK (aq (bv 1) aF))) (aq (af (dP (fV) (by rfl) T.f9 fK (aq (bv 2) aF))) aF))))
   (aK (aW (bX T.CH (LW T) hr (aq (af (oC [("field",0)] ["x","y"] rfl (Te rfl T.W6 (aq (af (bX T.CI (L4 T) hr (aq (bv 1) (aq (bv 3) aF)))) (aq (af (bX T.CI (L4 T) hr (aq (bv 2) (aq (bv 3) aF)))) aF))) (λ_ _ _ _=>(VP (i1:=1) (i2:=2) (show(["field","x","y"]:List Str).Nodup by decide +kernel))) (λ_ _ _ _=>oE) (λ_ _ _ _=>(kG (P:=P) (w:=w) (K:=K) (mg:=mg) (base:=base) (n:=1) (bv 0) (hr.mono (by decide)) (aq (bv 1) (aq (bv 2) aF)))) rfl)) aF))))),λds Q h=>?_⟩
 obtain⟨m,a,b,rfl,hm,ha,hb,hl,k9,q⟩:=h
 have m0:=bR m hm
 refine aG λU hU=>?_
 walk_at"l3"
 rw[show(if(b.length:Int)>(a.length:Int)then(b.length:Int)else(a.length:Int))=((max a.length b.length:Nat):Int) by split<;>omega]
 refine hU _ ?_
 clear hU U
 walk_at"l3"
 refine⟨_,_,rfl,by rw[cI];omega,by omega,by omega,_,_,rfl,by rw[cI];omega,by omega,by omega,?_⟩
 rw[LZ,LZ]
 refine⟨_,_,rfl,rfl,?_⟩
 have lA:=vm (Dw a.length b.length)
 refine Va (gp m) (λx hx y hy=>?_) (by omega) ?_
 ·walk_at"l3"
  exact Yp T m0 rfl
 ·refine⟨jE (gp m) a b,by rw[BL];rfl,by rw[x8];omega,by rw[vk,mY],q⟩
noncomputable abbrev L5(K:Frag):a7:=λds Q=>∃(C:Addr) (p a b:Nat),ds=[xS C p,.int a,.int b]/\cY K C/\bL K C "products"/\p∈eU/\a<ag (true,p)/\b<ag (true,p)/\Q (.int (gm (true,p) a b:Nat))
theorem Yt(T:Txt K mg t):aL P w K mg base aV 1 t.Cw t.Kv ["self","a","b"] (bf (L5 K)):=by
 refine bM T.Lx.F WO (λds Q h=>by obtain⟨C,p,a,b,rfl,hC,hn,hp,ha,hb,q⟩:=h<;>rfl) λaE A outer s H E hr=>⟨_,(aK (aW (dZ (bH (bH (jC (K:=K) (bv 0)) (bv 1) (λ_ _=>rfl)) (bv 2) (λ_ _=>rfl))))),λds Q h=>?_⟩
 obtain⟨C,p,a,b,rfl,hC,hn,hp,ha,hb,q⟩:=h
 walk_at"l3"
 refine⟨C,_,_,_,rfl,hC,hn,rfl,?_⟩
 exact⟨_,HA hp ha,_,Hz hp ha hb,rfl,q⟩
noncomputable abbrev L6(K:Frag):a7:=λds Q=>∃(C:Addr) (p:Nat) (a b:Int),ds=[sG C p,.int a,.int b]/\cY K C/\bL K C "prime"/\0<p/\IntMulOk a b/\Q (.int (a*b%p))
theorem Yu(T:Txt K mg t):aL P w K mg base aV 1 t.Cy t.Kw ["self","a","b"] (bf (L6 K)):=by
 refine bM T.Ly.F WQ (λds Q h=>by obtain⟨C,p,a,b,rfl,hC,hn,hp,hm,q⟩:=h<;>rfl) λaE A outer s H E hr=>⟨_,(aK (aW (aJ dn (af (aJ js (bv 1) (bv 2))) (jC (K:=K) (bv 0))))),λds Q h=>?_⟩
 obtain⟨C,p,a,b,rfl,hC,hn,hp,hm,q⟩:=h
 walk_at"l3"
 exact⟨hm,C,_,_,.int p,rfl,hC,hn,rfl,by omega,q⟩
theorem L7(T:Txt K mg t){m:Bool × Nat}(hm:m∈aI){a b:Nat}(ha:a<ag m)(hb:b<ag m){Q:D->Prop}(q:Q (.int (gm m a b:Nat))):HB P w K mg base 1 t.ba t.bB m "times" [.int a,.int b] Q:=by
 have hF:=cE hm
 obtain⟨k,n⟩:=m
 cases k with
 | true=>exact⟨_,_,_,L5 K,rfl,⟨T.eX,_,_,_,T.Xb,Yt T,T.Lx.b⟩,by decide,_,n,a,b,rfl,T.eX,T.CP,xW hm,ha,hb,q⟩
 | false =>
  have yK:n<=64:=hF.hi
  have pI:a<n:=ha
  have iP:b<n:=hb
  refine⟨_,_,_,L6 K,rfl,⟨T.fj,_,_,_,T.Xg,Yu T,T.Ly.b⟩,by decide,_,n,a,b,rfl,T.fj,T.vD,by omega,k7.ok (.inr ⟨by omega,by omega⟩),?_⟩
  have e:((gm (false,n) a b:Nat):Int)=(a:Int)*b%n:=by
   show((a*b%n:Nat):Int)=_
   rw[mW,zj]
  rw[<-e];exact q
noncomputable abbrev Yv(cb cp:Addr):a7:=λds Q=>∃(m:Bool × Nat) (a b:List Nat),ds=[fD cb cp m,.lst false (aN a),.lst false (aN b)]/\m∈aI/\AllLt (ag m) a/\AllLt (ag m) b/\a.length+b.length<=1000/\Q (.lst true (aN (kI m a b)))
theorem Yw(T:Txt K mg t):aL P w K mg base aV 2 t.Kx t.Ky ["field","a","b"] (bf (Yv t.ba t.bB)):=by
 refine bM T.Lh.F yn (λds Q h=>by obtain⟨m,a,b,rfl,hm,ha,hb,hl,q⟩:=h<;>rfl) λaE A outer s H E hr=>⟨_,(aH (aY (i:=3) yn.nd rfl (aB rfl) (aJ js (af (g9 (dj ax eJ))) (af (aJ eR (af (dP (fV) (by rfl) T.f9 fK (aq (bv 1) aF))) (af (dP (fV) (by rfl) T.f9 fK (aq (bv 2) aF)))))))
   (aH (jo fo rfl (xB rfl T.yu (aq (bv 1) aF)) (sj (i1:=4) (i2:=5) rfl yn.nd rfl (aB rfl) rfl (aB rfl))
    (aK (jo fo rfl (xB rfl T.yu (aq (bv 2) aF)) (sj (i1:=6) (i2:=7) rfl yn.nd rfl (aB rfl) rfl (aB rfl))
     (aK (Gp (i:=3) rfl (by first | exact aB rfl | exact ck (aB rfl)) (kG (P:=P) (w:=w) (K:=K) (mg:=mg) (base:=base) (n:=1) (bv 0) (hr.mono (by decide)) (aq (bH (bv 3) (af (aJ eR (bv 4) (bv 6))) (λ_ _=>rfl)) (aq (af (kG (P:=P) (w:=w) (K:=K) (mg:=mg) (base:=base) (n:=1) (bv 0) (hr.mono (by decide)) (aq (bv 5) (aq (bv 7) aF)))) aF))) (af (aJ eR (bv 4) (bv 6))))))))
   (aK (aW (bX T.CH (LW T) hr (aq (bv 3) aF)))))),λds Q h=>?_⟩
 obtain⟨m,a,b,rfl,hm,ha,hb,hl,q⟩:=h
 have m0:=bR m hm
 refine aG λU hU=>?_
 walk_at"l3"
 refine⟨by decide,⟨by omega,by omega,by omega⟩,?_⟩
 rw[show aD (aT ((a.length:Int)+(b.length:Int)).toNat 0)=aN (aT (a.length+b.length) 0) by rw[iR,DB];unfold aD;rw[DB];rfl]
 refine hU _ ?_
 clear hU U
 refine aG λU hU=>?_
 walk_at"l3"
 refine gF.mk (λi δ=>∃o4 o5 o6 o7,δ=[some (fD t.ba t.bB m),some (D.lst false (aN a)),some (D.lst false (aN b)),some (D.lst true (aN (eW m b (aT (a.length+b.length) 0) 0 (a.take i)))),o4,o5,o6,o7]) ⟨_,_,_,_,rfl⟩ ?_ ?_
 ·rintro i d δ hd ⟨o4,o5,o6,o7,rfl⟩
  obtain⟨hi,rfl⟩:=HR hd
  clear hd
  generalize hT:eW m b (aT (a.length+b.length) 0) 0 (a.take i)=tt
  have lT:tt.length=a.length+b.length:=by rw[<-hT,BH,qD]
  have bT:AllLt (ag m) tt:=by rw[<-hT];exact BJ hm b _ _ _ (vj hm _)
  walk_at"l3"
  refine gF.mk (λj δ=>∃o6 o7,δ=[some (fD t.ba t.bB m),some (D.lst false (aN a)),some (D.lst false (aN b)),some (D.lst true (aN (dv m a[i] tt i (b.take j)))),some (D.int i),some (D.int (a[i]:Nat)),o6,o7]) ⟨_,_,rfl⟩ ?_ ?_
  ·rintro j d δ hd ⟨o6,o7,rfl⟩
   obtain⟨hj,rfl⟩:=HR hd
   clear hd
   have lP:(dv m a[i] tt i (b.take j)).length=a.length+b.length:=by rw[vh,lT]
   have bP:AllLt (ag m) (dv m a[i] tt i (b.take j)):=vi hm _ _ _ _ bT
   obtain⟨C,ns,xs,sp,e1,e2,e3,e4⟩:=CZ (P:=P) (w:=w) (base:=base) T m0
   walk_at"l3"
   refine⟨C,ns,xs,sp,e1,e2,e3,_,HP (by omega) (by omega),L7 T hm (ha _ (i5 _)) (hb _ (i5 _)) (e4 _ _ _ ⟨rfl,_,((i:Int)+(j:Int)).toNat,rfl,U5 (by omega) (by rw[eT];omega),_,_,?_,rfl,rfl⟩)⟩
   rw[UY m _ b tt i hj,U7,show((i:Int)+(j:Int)).toNat=i+j by omega];rfl
  ·rintro δ ⟨o6,o7,rfl⟩
   rw[pK,eT,qH,UZ m b a _ 0 hi,hT,Nat.zero_add]
   exact⟨_,_,_,_,rfl⟩
 ·rintro δ ⟨o4,o5,o6,o7,rfl⟩
  rw[pK,eT,qH]
  refine hU _ ?_
  walk_at"l3"
  have:=U1 m a b
  exact⟨kH m a b,rfl,by rw[this];exact hl,by rw[fb,HQ];rfl,q⟩
noncomputable abbrev Yx(cb cp:Addr):a7:=λds Q=>∃(m:Bool × Nat) (l:List Nat) (x:Nat),ds=[fD cb cp m,.lst false (aN l),.int x]/\m∈aI/\(∀a∈l,a<ag m)/\x<ag m/\Q (.int (aO m x l:Nat))
theorem L8(T:Txt K mg t):aL P w K mg base aV 2 t.Kz t.KA ["field","a","x"] (bf (Yx t.ba t.bB)):=by
 refine bM T.CJ.F yo (λds Q h=>by obtain⟨m,l,x,rfl,hm,ha,hx,q⟩:=h<;>rfl) λaE A outer s H E hr=>⟨_,(aH (aY (i:=3) yo.nd rfl (aB rfl) ax)
   (aH (jo fo rfl (HF rfl T.K8 (aq (bv 1) aF)) (oq (i:=4) yo.nd rfl (aB rfl))
    (aK (aY (i:=3) yo.nd rfl (aB rfl) (kG (P:=P) (w:=w) (K:=K) (mg:=mg) (base:=base) (n:=1) (bv 0) (hr.mono (by decide)) (aq (af (kG (P:=P) (w:=w) (K:=K) (mg:=mg) (base:=base) (n:=1) (bv 0) (hr.mono (by decide)) (aq (bv 3) (aq (bv 2) aF)))) (aq (bv 4) aF))))))
   (aK (aW (em 3))))),λds Q h=>?_⟩
 obtain⟨m,l,x,rfl,hm,ha,hx,q⟩:=h
 have m0:=bR m hm
 refine aG λU hU=>?_
 walk_at"l3"
 refine hU _ ?_
 clear hU U
 refine aG λU hU=>?_
 walk_at"l3"
 refine gF.mk (λi δ=>∃o,δ=[some (fD t.ba t.bB m),some (.lst false (aN l)),some (.int x),some (.int (aO m x (l.drop (l.length-i)):Nat)),o]) ⟨none,by rw[y0,List.drop_length];rfl⟩ ?_ ?_
 ·rintro i d δ hd ⟨o,rfl⟩
  have iQ:i<l.length:=by
   have:=(gb.mp hd).1
   rw[qM,eT]at this;exact this
  obtain⟨hi,rfl⟩:∃hi:l.length-1-i<l.length,d=.int (l[l.length-1-i]:Nat):=by
   refine⟨by omega,?_⟩
   rw[Dv (by rw[eT];exact iQ),iR,cW,cI,a9 (by omega)]at hd
   exact(bS hd).symm
  have hv:aO m x (l.drop (l.length-i))<ag m:=mz hm x λa h=>ha a (vW h)
  obtain⟨C,ns,xs,sp,e1,e2,e3,e4⟩:=CZ (P:=P) (w:=w) (base:=base) T m0
  walk_at"l3"
  refine⟨C,ns,xs,sp,e1,e2,e3,L7 T hm hv hx (e4 _ _ _ ⟨rfl,_,?_,rfl⟩)⟩
  have e:l.drop (l.length-(i+1))=l[l.length-1-i]::l.drop (l.length-i):=by
   rw[show l.length-(i+1)=l.length-1-i by omega,zi hi,show l.length-1-i+1=l.length-i by omega]
  rw[e];rfl
 ·rintro δ ⟨o,rfl⟩
  refine hU _ ?_
  walk_at"l3"
  rw[qM,eT,vZ,Dj]
  exact q
noncomputable abbrev L9(K:Frag):a7:=λds Q=>∃(C:Addr) (p a:Nat) (xs:List Nat),ds=[xS C p,.int a,.lst false (aN xs)]/\cY K C/\bL K C "products"/\p∈eU/\a<ag (true,p)/\(∀y∈xs,y<ag (true,p))/\xs.length<=1000/\Q (.lst true (aN (xs.map (gm (true,p) a))))
theorem Yy(T:Txt K mg t):aL P w K mg base aV 1 t.Cz t.KC ["self","a","row"] (bf (L9 K)):=by
 refine bM T.Lz.F Jv (λds Q h=>by obtain⟨C,p,a,xs,rfl,hC,hn,hp,ha,hy,hl,q⟩:=h<;>rfl) λaE A outer s H E hr=>⟨_,(aH (aY (i:=3) Jv.nd rfl (ck rfl) (dZ (bH (jC (K:=K) (bv 0)) (bv 1) (λ_ _=>rfl))))
   (aK (aW (oC [("by_a",3)] ["x"] rfl (w9 (bv 2)) (λ_ _ _ _=>(sJ (i:=1) (show(["by_a","x"]:List Str).Nodup by decide +kernel))) (λ_ _ _ _=>oE) (λ_ _ _ _=>(dZ (bH (bv 0) (bv 1) (λ_ _=>rfl)))) rfl)))),λds Q h=>?_⟩
 obtain⟨C,p,a,xs,rfl,hC,hn,hp,ha,hy,hl,q⟩:=h
 refine aG λU hU=>?_
 walk_at"l3"
 refine⟨C,_,_,_,rfl,hC,hn,rfl,_,HA hp ha,?_⟩
 refine⟨by rw[gE,l8];rfl,hU _ ?_⟩
 clear hU U
 walk_at"l3"
 refine B0 xs (λx=>D.int ((gm (true,p) a x:Nat):Int)) (λx hx=>?_) (.inr λ_ _=>rfl) ?_
 ·walk_at"l3"
  exact⟨_,Hz hp ha (hy x hx),rfl,rfl⟩
 ·rw[iR,gP]at q
  exact q
noncomputable abbrev Ma(K:Frag):a7:=λds Q=>∃(C:Addr) (p a:Nat) (xs:List Nat),ds=[sG C p,.int a,.lst false (aN xs)]/\cY K C/\bL K C "prime"/\0<p/\a<64/\(∀y∈xs,y<64)/\xs.length<=1000/\Q (.lst true (aN (xs.map (gm (false,p) a))))
theorem Yz(T:Txt K mg t):aL P w K mg base aV 1 t.CA t.KD ["self","a","row"] (bf (Ma K)):=by
 refine bM T.LA.F Jx (λds Q h=>by obtain⟨C,p,a,xs,rfl,hC,hn,hp,ha,hy,hl,q⟩:=h<;>rfl) λaE A outer s H E hr=>⟨_,(aH (aY (i:=3) Jx.nd rfl (ck rfl) (dZ (jC (K:=K) (bv 0))))
   (aK (aW (oC [("prime",3),("a",1)] ["x"] rfl (w9 (bv 2)) (λ_ _ _ _=>(sJ (i:=2) (show(["prime","a","x"]:List Str).Nodup by decide +kernel))) (λ_ _ _ _=>oE) (λ_ _ _ _=>(aJ dn (af (aJ js (bv 1) (bv 2))) (bv 0))) rfl)))),λds Q h=>?_⟩
 obtain⟨C,p,a,xs,rfl,hC,hn,hp,ha,hy,hl,q⟩:=h
 refine aG λU hU=>?_
 walk_at"l3"
 refine⟨C,_,_,.int p,rfl,hC,hn,rfl,rfl,hU _ ?_⟩
 clear hU U
 walk_at"l3"
 refine B0 xs (λx=>D.int ((gm (false,p) a x:Nat):Int)) (λx hx=>?_) (.inr λ_ _=>rfl) ?_
 ·have h2:=hy x hx
  walk_at"l3"
  refine⟨k7.ok (.inr ⟨by omega,by omega⟩),by omega,?_⟩
  show _=((a*x%p:Nat):Int)
  rw[mW,zj]
 ·rw[iR,gP]at q
  exact q
theorem YA(T:Txt K mg t){m:Bool × Nat}(hm:m∈aI):∃C ns zs sp,fD t.ba t.bB m=.obj C ns zs/\pX P w K mg base 1 "scaled" C sp/\("scaled":Str) ∉ ns/\∀(xs:List Nat) (a:Nat) (Q:D->Prop),a<ag m->(∀y∈xs,y<ag m)->xs.length<=1000->Q (.lst true (aN (xs.map (gm m a))))->sp [.obj C ns zs,.int a,.lst false (aN xs)] Q:=by
 have hF:=cE hm
 obtain⟨k,n⟩:=m
 cases k with
 | true=>exact⟨_,_,_,L9 K,rfl,⟨T.eX,_,_,_,T.Xa,Yy T,T.Lz.b⟩,by decide,λxs a Q ha hy hl q=>⟨_,n,a,xs,rfl,T.eX,T.CP,xW hm,ha,hy,hl,q⟩⟩
 | false =>
  have yK:n<=64:=hF.hi
  have l2:2<=n:=hF.lo
  exact⟨_,_,_,Ma K,rfl,⟨T.fj,_,_,_,T.Xf,Yz T,T.LA.b⟩,by decide,λxs a Q ha hy hl q=>⟨_,n,a,xs,rfl,T.fj,T.vD,by omega,bK (show a<n from ha) yK,λy h=>bK (show y<n from hy y h) yK,hl,q⟩⟩
noncomputable abbrev YB(cb cp:Addr):a7:=λds Q=>∃(m:Bool × Nat) (r:Nat),ds=[fD cb cp m,.int r]/\m∈aI/\r<ag m/\Q (.lst true (aN [fX m r,1]))
theorem YC(T:Txt K mg t):aL P w K mg base aV 2 t.KG t.KH ["field","r"] (bf (YB t.ba t.bB)):=by
 refine bM T.Li.F WR (λds Q h=>by obtain⟨m,r,rfl,hm,wF,q⟩:=h<;>rfl) λaE A outer s H E hr=>⟨_,(aK (aW (g9 (dj (kG (P:=P) (w:=w) (K:=K) (mg:=mg) (base:=base) (n:=1) (bv 0) (hr.mono (by decide)) (aq (af ax) (aq (bv 1) aF))) (dj ax eJ))))),λds Q h=>?_⟩
 obtain⟨m,r,rfl,hm,wF,q⟩:=h
 have fG:=(cE hm).lo
 have m0:=bR m hm
 obtain⟨C,ns,xs,sp,e1,e2,e3,e4⟩:=LS (P:=P) (w:=w) (base:=base) T m0
 have ga:=x6 hm (a:=0) (b:=r) (by omega) wF
 walk_at"l3"
 refine⟨C,ns,xs,sp,e1,e2,e3,e4 0 r _ ⟨by decide,?_⟩⟩
 rw[ga.1,<- Il wF]
 exact q
theorem YD{m:Bool × Nat}(hm:m∈aI){a b:List Nat}{f x:Nat}(ha:AllLt (ag m) a)(hb:AllLt (ag m) b)(hf:f<ag m):aO m x (bx (jE (gp m) a (b.map (gm m f))))=gp m (aO m x a) (gm m f (aO m x b)):=by
 have YE:AllLt (ag m) (b.map (gm m f)):=λy hy=>by
  obtain⟨z,hz,rfl⟩:=c9.mp hy
  exact fi hm _ _
 have r:=rg hm
 rw[x4 hm,yc hm x (HV hm ha YE) (a.length+b.length) (by rw[x8,cI];omega),yc hm x ha (a.length+b.length) (by omega),yc hm x hb (a.length+b.length) (by omega)]
 have e1:∀k,gm m (cf (jE (gp m) a (b.map (gm m f))) k) (px m x k)=gp m (gm m (cf a k) (px m x k)) (gm m f (gm m (cf b k) (px m x k))):=λk=>by
  rw[Vg hm,Vj hm,r.mc,r.dl,r.mc _ (cf a k),r.mc _ (gm m f (cf b k)),r.ma hf (vo hm hb k) (UX hm _ _)]
 rw[x9 λk _=>e1 k,Ie r,BM r]
noncomputable abbrev YF(t:jg):iO:=λds Q Ex=>∃(m:Bool × Nat) (l:List (Nat × Nat)),ds=[fD t.ba t.bB m,.lst false (bJ l)]/\m∈aI/\l.length<=32/\(∀z∈l,z.1<ag m)/\(∀z∈l,z.2<ag m) /\
 ((l.map (·.1)).Nodup->∀f:List Nat,AllLt (ag m) f->f.length<=l.length->bx f=f->(∀z∈l,aO m z.1 f=z.2)->Q (.lst true (aN f))) /\
 (∀j,j<l.length->((l.take j).map (·.1)).Nodup->(l.getD j (0,0)).1∈(l.take j).map (·.1)->Ex ⟨t.fZ,some ("place",j)⟩)
theorem Mb(T:Txt K mg t):aL P w K mg base (gz P w) 4 t.KI t.KJ ["field","points"] (jv (YF t )):=by
 refine xt T.qt.F mE (λds Q Ex h=>by obtain⟨m,l,rfl,hm,hl,hx,hy,q,qx⟩:=h<;>rfl) λaE A outer s H E hr=>⟨_,(aH (Gy (Gx ((Yg T).mono (by decide)) hr rfl T.yD.g T.yD.F.kp T.yD.b rfl (aq (bv 1) aF)))
   (aH (aY (i:=2) mE.nd rfl (aB rfl) (g9 eJ))
   (aH (aY (i:=3) mE.nd rfl (aB rfl) (g9 (dj ax eJ)))
   (aH (Gz (jo fo rfl (RZ (dZ (bv 1))) (sj (i1:=4) (i2:=5) rfl mE.nd rfl (aB rfl) rfl (aB rfl))
    (aH (aY (i:=6) mE.nd rfl (aB rfl) (kG (P:=P) (w:=w) (K:=K) (mg:=mg) (base:=base) (n:=1) (bv 0) (hr.mono (by decide)) (aq (bv 5) (aq (af (bX T.CJ (L8 T) hr (aq (bv 0) (aq (bv 2) (aq (bv 4) aF))))) aF))))
    (aH (aY (i:=7) mE.nd rfl (aB rfl) (UG (P:=P) (w:=w) (K:=K) (mg:=mg) (base:=base) (n:=2) (bv 0) (hr.mono (by decide)) (aq (bv 6) (aq (af (bX T.CJ (L8 T) hr (aq (bv 0) (aq (bv 3) (aq (bv 4) aF))))) aF))))
    (aH (aY (i:=2) mE.nd rfl (aB rfl) (bX T.Lg (Ys T) hr (aq (bv 0) (aq (bv 2) (aq (af (kG (P:=P) (w:=w) (K:=K) (mg:=mg) (base:=base) (n:=1) (bv 0) (hr.mono (by decide)) (aq (bv 7) (aq (bv 3) aF)))) aF)))))
    (aK (aY (i:=3) mE.nd rfl (aB rfl) (bX T.Lh (Yw T) hr (aq (bv 0) (aq (bv 3) (aq (af (bX T.Li (YC T) hr (aq (bv 0) (aq (bv 4) aF)))) aF)))))))))))
   (aK (aW (em 2))))))),λds Q Ex h=>?_⟩
 obtain⟨m,l,rfl,hm,hl,hx,hy,q,qx⟩:=h
 have fG:=(cE hm).lo
 refine aG λU hU=>?_
 walk_at"l3"
 rw[sQ]
 refine⟨l,rfl,by omega,λnd=>⟨by rw[vG];rfl,hU _ ?_⟩,qx⟩
 clear hU U
 replace q:=q nd
 refine aG λU hU=>?_
 walk_at"l3"
 refine⟨by decide,hU _ ?_⟩
 clear hU U
 refine aG λU hU=>?_
 walk_at"l3"
 refine⟨by decide,hU _ ?_⟩
 clear hU U
 refine aG λU hU=>?_
 walk_at"l3"
 rw[sQ]
 refine⟨vG l,?_⟩
 refine gF.mk (λi δ=>∃(F N:List Nat) (o4 o5 o6 o7:Option D),δ=[some (fD t.ba t.bB m),some (D.lst false (bJ l)),some (D.lst true (aN F)),some (D.lst true (aN N)),o4,o5,o6,o7]/\AllLt (ag m) F/\F.length<=i/\bx F=F/\(∀z∈l.take i,aO m z.1 F=z.2)/\AllLt (ag m) N/\N.length=i+1/\∀k,cf N k=PF m 1 ((l.take i).map (·.1)) k) ⟨[],[1],none,none,none,none,rfl,(λ_ h=>nomatch h),aZ _,rfl,(λ_ h=>nomatch h),?_,rfl,λk=>?_⟩ ?_ ?_
 ·intro a ha
  rw[il]at ha
  omega
 ·cases k<;>rfl
 ·rintro i d δ hd ⟨F,N,o4,o5,o6,o7,rfl,hF,lF,cF,vF,hN,lN,cN⟩
  obtain⟨z,hz,rfl⟩:=LM hd
  clear hd hU
  have hi:=(gb.mp hz).1
  have Mc:z∈l:=kQ hz
  have x1:=hx z Mc
  have y1:=hy z Mc
  simp only[fh,m8,mZ]
  obtain⟨C,ns,xs,sp,e1,e2,e3,e4⟩:=LS (P:=P) (w:=w) (base:=base) T (bR m hm)
  have hv:=mz hm z.1 hF
  obtain⟨g1,g2,g3⟩:=x6 hm y1 hv
  refine aG λU hU=>?_
  walk_at"l3"
  refine⟨C,ns,xs,sp,e1,e2,e3,m,F,z.1,rfl,hm,hF,x1,rfl,e4 z.2 (aO m z.1 F) _ ⟨rfl,hU _ ?_⟩⟩
  rw[g1]
  clear hU U e1 e2 e3 e4
  have hS:∀s∈(l.take i).map (·.1),s<ag m:=λs hs=>by
   obtain⟨w,hw,rfl⟩:=c9.mp hs
   exact hx w (mT hw)
  have zn:z.1 ∉ (l.take i).map (·.1):=λh=>by
   have Md:=nd
   rw[<-tu i l,eZ]at Md
   exact(eI.mp Md).2.2 _ h (c9.mpr ⟨z,kQ (i:=0) (by rw[Ds];exact hz),rfl⟩)
  have h1:(1:Nat)<ag m:=by omega
  have vp:aO m z.1 N≠0:=λh=>zn ((Ip hm h1 (by decide) x1 hS cN).mp h)
  have YG:=mz hm z.1 hN
  refine aG λU hU=>?_
  walk_at"l3"
  refine⟨_,_,_,_,ve _ _ m,Yl T m,UJ m _ (by decide),m,N,z.1,by rw[ve],hm,hN,x1,rfl,m,jD m z.2 (aO m z.1 F),aO m z.1 N,by rw[ve];rfl,hm,g2,YG,λz0=>absurd z0 vp,λ_ f hf ef=>⟨rfl,hU _ ?_⟩⟩
  clear hU U
  obtain⟨C,ns,xs,sp,e1,e2,e3,e4⟩:=YA (P:=P) (w:=w) (base:=base) T hm
  have Mg:AllLt (ag m) (N.map (gm m f)):=λy hy=>by
   obtain⟨w,hw,rfl⟩:=c9.mp hy
   exact fi hm _ _
  refine aG λU hU=>?_
  walk_at"l3"
  refine⟨C,ns,xs,sp,e1,e2,e3,e4 N f _ hf hN (by omega) ⟨vk _,?_⟩⟩
  rw[BL]
  refine⟨m,F,N.map (gm m f),rfl,hm,hF,Mg,by omega,by rw[cI];omega,vk _,hU _ ?_⟩
  clear hU U e1 e2 e3 e4
  have r:=rg hm
  have hn:=ya hm z.1
  have h2:AllLt (ag m) [fX m z.1,1]:=λa ha=>by
   simp only[bE,iq,or_false]at ha
   rcases ha with rfl | rfl
   ·exact hn
   ·omega
  have et:(l.take (i+1)).map (·.1)=(l.take i).map (·.1)++[z.1]:=by rw[qJ,hz,eZ];rfl
  have ec:∀k,cf (kI m N [fX m z.1,1]) k=PF m 1 ((l.take (i+1)).map (·.1)) k:=λk=>by
   rw[Ia hm,yb hm hn hN,show cf N=_ from funext cN,et]
   show ie _ _ _ 1 (z.1::(l.take i).map (·.1)) k=_
   exact congrFun (Vt (c:=1) r h1 (ya hm) (jR (l₁:=[z.1]) (l₂:=(l.take i).map (·.1)))) k
  have lt:((l.take (i+1)).map (·.1)).length=i+1:=by rw[cI,iZ];omega
  have lp:(kI m N [fX m z.1,1]).length=i+1+1:=by
   refine Vx (l:=kH m N [fX m z.1,1]) ?_ λk hk=>?_
   ·rw[<-kJ]
    have e:=ec (i+1)
    have tp:=Ik (c:=1) (ng:=fX m) r (by omega) ((l.take (i+1)).map (·.1))
    rw[lt]at tp
    rw[show cf (bx (kH m N [fX m z.1,1])) (i+1)=_ from e.trans tp]
    decide
   ·rw[<-kJ]
    exact(ec k).trans (vq r _ k (by omega))
  have vn:∀w∈l.take (i+1),aO m w.1 (bx (jE (gp m) F (N.map (gm m f))))=w.2:=λw hw=>by
   rw[YD hm hF hN hf]
   rw[qJ,hz]at hw
   rcases cQ.mp hw with h | h
   ·have w1:=hx w (mT h)
    have w2:=hy w (mT h)
    rw[(Ip hm h1 (by decide) w1 hS cN).mpr (c9.mpr ⟨w,h,rfl⟩),r.qz,r.pc,vF w h,r.z w2]
   ·have h:w=z:=by simpa using h
    rw[h,ef,r.pc]
    exact g3
  walk_at"l3"
  exact⟨m,z.1,rfl,hm,x1,m,N,[fX m z.1,1],by rw[BL],hm,hN,h2,by rw[lN];simp;omega,vk _,_,_,_,_,_,_,⟨rfl,rfl,rfl,rfl,rfl,rfl⟩,(λa ha=>HV hm hF Mg a (BD ha)),dy (HH _) (by rw[x8,cI];omega),Vr _,vn,U2 hm _ _,lp,ec⟩
 ·rintro δ ⟨F,N,o4,o5,o6,o7,rfl,hF,lF,cF,vF,hN,lN,cN⟩
  refine hU _ ?_
  walk_at"l3"
  rw[mJ]at lF vF
  rw[qH]at vF
  exact q F hF lF cF vF
noncomputable abbrev YH:a7:=λds Q=>∃i:Int,ds=[.int i]/\Q (.bl true)
theorem Mh(T:Txt K mg t):aL P w K mg base aV 1 t.KL t.KN ["_law_x"] (bf (YH )):=by
 refine bM T.CK.F WS (λds Q h=>by obtain⟨i,rfl,q⟩:=h<;>rfl) λaE A outer s H E hr=>⟨_,(aK (aW (n5 (af (AS (by rfl) T.qm (by rfl) T.W3 Qm (bv 0))) (k6 (RW (af (AS (by rfl) T.qm (by rfl) T.W2 Qn (bv 0)))))))),λds Q h=>?_⟩
 obtain⟨i,rfl,q⟩:=h
 walk_at"l3"
 exact q
theorem yL{l:List (Nat × Nat)}{a b:Nat}(nd:((l.take b).map (·.1)).Nodup)(Z7:a<b)(ha:a<l.length)(h:(l.getD a (0,0)).1∈(l.take a).map (·.1)):False:=by
 have e:l.take b=l.take a++(l.take b).drop a:=by
  have:=(tu a (l.take b)).symm
  rwa [DC,sZ (by omega)]at this
 rw[e,eZ]at nd
 refine(eI.mp nd).2.2 _ h (c9.mpr ⟨l.getD a (0,0),?_,rfl⟩)
 refine kQ (i:=0) ?_
 rw[Ds,Mr (by omega),Nat.add_zero,a9 ha,bg,a9 ha]
 rfl
noncomputable abbrev YI(t:jg):a7:=λds Q=>∃(m:Bool × Nat) (l:List (Nat × Nat)) (j:Nat),ds=[fD t.ba t.bB m,.lst false (bJ l),.int j]/\m∈aI/\l.length<=32/\(∀z∈l,z.1<ag m)/\(∀z∈l,z.2<ag m)/\j<l.length/\((l.take j).map (·.1)).Nodup/\(l.getD j (0,0)).1∈(l.take j).map (·.1)/\Q (.bl true)
theorem YJ(T:Txt K mg t):aL P w K mg base aV 5 t.KO t.KP ["_law_field_here","_law_points_here","_law_place"] (bf (YI t)):=by
 refine bM T.Lj.F yp (λds Q h=>by obtain⟨m,l,j,rfl,hm,hl,hx,hy,hj,nd,me,q⟩:=h<;>rfl) λaE A outer s H E hr=>⟨_,(aH (aY (i:=3) yp.nd rfl (aB rfl) RT)
   (aH (SQ (i:=4) (λ_ _=>(aK (Gy (Gx ((Mb T).mono (by decide)) hr rfl T.qt.g T.qt.F.kp T.qt.b rfl (aq (bv 0) (aq (bv 1) aF))))))
    (λ_ _=>(aK (aY (i:=3) yp.nd rfl (aB rfl) (em 4)))) (by rfl) T.K7 yp.nd rfl rfl rfl rfl rfl)
   (aH (dm (PW.pt (w4 (rf (g8 (af (Bd (by rfl) T.qm (by rfl) T.K6 (bv 3))))) (zu (rf (g8 (af (S6 (by rfl) T.qm (by rfl) T.W0 Qp (bv 3)))))))) (aK (aW jm)) dk)
   (aH (dm (PW.pt (w4 (g8 (af (Bd (by rfl) T.qm (by rfl) T.WX (bv 3)))) (zu (g8 (af (Bd (by rfl) T.qm (by rfl) T.WY (bv 3))))))) (aK (aW jm)) dk)
   (aK (aW (n5 (af (bX T.CK (Mh T) hr (aq (af (IG (bv 3))) aF))) (k6 (nS (ff (dQ hr)) (af (IG (bv 3))) (bv 2) (cx _)))))))))),λds Q h=>?_⟩
 obtain⟨m,l,j,rfl,hm,hl,hx,hy,hj,nd,me,q⟩:=h
 refine aG λU hU=>?_
 walk_at"l3"
 refine hU _ ?_
 clear hU U
 refine aG λU hU=>?_
 walk_at"l3"
 have key:U [some (fD t.ba t.bB m),some (D.lst false (bJ l)),some (D.int j),some (D.aS (.g6 t.fZ "place" j)),none]:=by
  refine hU _ ?_
  clear hU U
  refine aG λU hU=>?_
  walk_at"l3"
  refine⟨_,xx T.sP T.Xu,?_⟩
  walk_at"l3"
  refine⟨_,xx T.sP T.Xw,?_⟩
  walk_at"l3"
  refine hU _ ?_
  clear hU U
  refine aG λU hU=>?_
  walk_at"l3"
  refine⟨_,xx T.sP T.Xt,?_⟩
  walk_at"l3"
  refine⟨_,xx T.sP T.Xv,?_⟩
  walk_at"l3"
  refine hU _ ?_
  clear hU U
  walk_at"l3"
  refine⟨_,_,rfl,T.sO.get T.sP,_,rfl,true,rfl,?_⟩
  rw[if_pos rfl]
  refine⟨_,_,rfl,T.sO.get T.sP,?_⟩
  rw[decide_eq_true rfl]
  exact q
 rw[sQ]
 refine⟨m,l,rfl,hm,hl,hx,hy,λuz=>(yL (b:=l.length) (by rw[qH];exact uz) hj hj me).elim,λk hk YK mk=>?_⟩
 have e:k=j:=by
  rcases Nat.lt_trichotomy k j with h | h | h
  ·exact(yL nd h hk mk).elim
  ·exact h
  ·exact(yL YK h hj me).elim
 subst e
 exact⟨T.Xx,key⟩
noncomputable abbrev YL:a7:=λds Q=>∃(l:List Nat) (n:Nat),ds=[.lst false (aN l),.int n]/\(∀a∈l,a<n)/\l.length<=1000/\Q (.bl true)
theorem YM(T:Txt K mg t):aL P w K mg base aV 2 t.KQ t.KR ["_law_found","_law_many_here"] (bf (YL )):=by
 refine bM T.Lk.F WT (λds Q h=>by obtain⟨l,n,rfl,ha,hl,q⟩:=h<;>rfl) λaE A outer s H E hr=>⟨_,(aH (dm (rf (g8 (af (AS (by rfl) T.qm (by rfl) T.yv wG (bv 0))))) (aK (aW jm)) dk)
   (aK (aW (dP (AR rfl) (by rfl) T.CF Aa (aq (af (oC [("_law_many_here",1)] ["_law_x"] rfl (w9 (bv 0)) (λ_ _ _ _=>(sJ (i:=1) (show(["_law_many_here","_law_x"]:List Str).Nodup by decide +kernel))) (λ_ _ _ _=>oE) (λ_ _ _ _=>(n5 (af (bX T.CK (Mh T) hr (aq (bv 1) aF))) (k6 (AQ uL uK (af ax) (bv 1) (bv 0))))) rfl)) aF))))),λds Q h=>?_⟩
 obtain⟨l,n,rfl,ha,hl,q⟩:=h
 refine aG λU hU=>?_
 walk_at"l3"
 refine hU _ ?_
 clear hU U
 walk_at"l3"
 refine B0 l (λ_=>D.bl true) (λi hi=>?_) (.inr λ_ _=>rfl) ?_
 ·walk_at"l3"
  have:=ha i hi
  refine⟨i,rfl,true,rfl,?_⟩
  rw[if_pos rfl,if_pos (by omega)]
  omega
 ·refine⟨l.map λ_=>true,by unfold uO;rw[gP];rfl,?_⟩
  have e:(l.map λ_=>true).all id=true:=by simp
  rw[e];exact q
noncomputable abbrev YN:a7:=λds Q=>∃(l:List Nat) (n:Nat),ds=[.lst false (aN (bx l)),.int n]/\(∀a∈l,a<n)/\l.length<=1000/\Q (.bl true)
theorem YO(T:Txt K mg t):aL P w K mg base aV 3 t.KS t.KU ["_law_found","_law_many_here"] (bf (YN )):=by
 refine bM T.Ll.F WU (λds Q h=>by obtain⟨l,n,rfl,ha,hl,q⟩:=h<;>rfl) λaE A outer s H E hr=>⟨_,(aK (aW (n5 (af (bX T.Lk (YM T) hr (aq (bv 0) (aq (bv 1) aF)))) (k6 (RV (af (nS (ff (dQ hr)) (af (dP (fV) (by rfl) T.f9 fK (aq (bv 0) aF))) (af ax) (cx _))) (k6 (nS (xm (dQ hr)) (bH (bv 0) (af (Sl (af ax))) (λ_ _=>rfl)) (af ax) (cx _)))))))),λds Q h=>?_⟩
 obtain⟨l,n,rfl,ha,hl,q⟩:=h
 walk_at"l3"
 have h1:=HH l
 refine⟨bx l,n,rfl,λa h=>ha a (BD h),by omega,?_⟩
 refine⟨true,rfl,?_⟩
 rw[if_pos rfl]
 split
 ·exact q
 ·rename_i h0
  have k9:=BE l
  have h3:(bx l).getD ((bx l).length-1) 0≠0:=k9.resolve_left (by omega)
  have e:cM (aN (bx l)) (-1)=some (.int (((bx l).getD ((bx l).length-1) 0:Nat):Int)):=U4 (by omega)
  refine⟨_,e,rfl,?_⟩
  rw[kn,decide_eq_false (by omega)]
  exact q
noncomputable abbrev YQ:a7:=λds Q=>∃(m:Bool × Nat) (a b:Nat),ds=[du m,.int a,.int b]/\0<m.2/\Q (.int (gp m a b:Nat))
theorem YR(T:Txt K mg t):aL P w K mg base aV 1 t.KW t.KY ["_law_told_here","_law_a","_law_b"] (bf (YQ )):=by
 refine bM T.Lm.F WV (λds Q h=>by obtain⟨m,a,b,rfl,h0,q⟩:=h<;>rfl) λaE A outer s H E hr=>⟨_,(aH (dm (g8 (bH (bv 0) (af ax) (λ_ _=>rfl))) (aK (aW (aJ uJ (bv 1) (bv 2)))) dk)
   (aK (aW (aJ dn (af (aJ eR (bv 1) (bv 2))) (bH (bv 0) (af ax) (λ_ _=>rfl)))))),λds Q h=>?_⟩
 obtain⟨m,a,b,rfl,h0,q⟩:=h
 unfold du at *
 obtain⟨k,n⟩:=m
 refine aG λU hU=>?_
 walk_at"l3"
 cases k with
 | true =>
  refine⟨_,rfl,true,rfl,?_⟩
  rw[if_pos rfl,lr]
  exact q
 | false =>
  refine⟨_,rfl,false,rfl,?_⟩
  rw[if_neg (by decide)]
  refine hU _ ?_
  walk_at"l3"
  refine⟨_,rfl,?_⟩
  refine⟨by omega,?_⟩
  have e:((gp (false,n) a b:Nat):Int)=((a:Int)+b)%n:=by
   show(((a+b)%n:Nat):Int)=_
   rw[mW,zf]
  rw[<-e];exact q
noncomputable abbrev YS:a7:=λds Q=>∃(m:Bool × Nat) (a b:Nat),ds=[du m,.int a,.int b]/\m∈aI/\a<ag m/\b<ag m/\Q (.int (gm m a b:Nat))
theorem YT(T:Txt K mg t):aL P w K mg base aV 1 t.KZ t.K0 ["_law_told_here","_law_a","_law_b"] (bf (YS )):=by
 refine bM T.Ln.F sN (λds Q h=>by obtain⟨m,a,b,rfl,hm,ha,hb,q⟩:=h<;>rfl) λaE A outer s H E hr=>⟨_,(aH (dm (rf (g8 (bH (bv 0) (af ax) (λ_ _=>rfl)))) (aK (aW (aJ dn (af (aJ js (bv 1) (bv 2))) (bH (bv 0) (af ax) (λ_ _=>rfl))))) dk)
   (aH (aY (i:=3) sN.nd rfl (aB rfl) ax)
   (aH (uE fo (di xi (bv 2) (af ax) (cx _))
    (aH (dm (di (ff (dQ hr)) (af (aJ FX (bv 2) (af ax))) (af ax) (cx _)) (aK (aY (i:=3) sN.nd rfl (aB rfl) (aJ uJ (bv 3) (bv 1)))) dk)
    (aH (aY (i:=1) sN.nd rfl (aB rfl) (aJ rl (bv 1) (af ax)))
    (aH (dm (di (ff (dQ hr)) (af (km (bv 1))) (af (km (bH (bv 0) (af ax) (λ_ _=>rfl)))) (cx _)) (aK (aY (i:=1) sN.nd rfl (aB rfl) (aJ uJ (bv 1) (bH (bv 0) (af ax) (λ_ _=>rfl))))) dk)
    (aK (aY (i:=2) sN.nd rfl (aB rfl) (aJ FW (bv 2) (af ax))))))))
   (aK (aW (em 3)))))),λds Q h=>?_⟩
 obtain⟨m,a,b,rfl,hm,ha,hb,q⟩:=h
 unfold du at *
 obtain⟨k,n⟩:=m
 refine aG λU hU=>?_
 walk_at"l3"
 have hF:=cE hm
 cases k with
 | false =>
  refine⟨_,rfl,false,rfl,?_⟩
  have yK:n<=64:=hF.hi
  have l2:2<=n:=hF.lo
  have pI:a<n:=ha
  have iP:b<n:=hb
  rw[if_pos (by decide)]
  refine⟨k7.ok (.inr ⟨by omega,by omega⟩),_,rfl,by omega,?_⟩
  have e:((gm (false,n) a b:Nat):Int)=(a:Int)*b%n:=by
   show((a*b%n:Nat):Int)=_
   rw[mW,zj]
  rw[<-e];exact q
 | true =>
  refine⟨_,rfl,true,rfl,?_⟩
  rw[if_neg (by decide)]
  have hp:=xW hm
  have bp:=Hq n hp
  have yJ:=Hr n hp
  have p0:n≠0:=λz=>by rw[z,j3]at yJ;omega
  have AI:bl a<bl n:=by
   have:=cU.mpr (show a<2 ^ (bl n-1) from ha)
   omega
  have YU:bl b<bl n:=by
   have:=cU.mpr (show b<2 ^ (bl n-1) from hb)
   omega
  refine hU _ ?_
  clear hU U
  refine aG λU hU=>?_
  walk_at"l3"
  refine hU _ ?_
  clear hU U
  refine aG λU hU=>?_
  walk_at"l3"
  refine⟨λm δ=>∃(x y z:Nat),δ=[some (.tup [.bl true,.int n]),some (.int (x:Nat)),some (.int (y:Nat)),some (.int (z:Nat))]/\z ^^^ md (cl x y) n=gm (true,n) a b/\bl x<bl n/\bl y<bl n/\m=bl y,
   ⟨bl b,a,b,0,rfl,by rw[kR];rfl,AI,YU,rfl⟩,?_⟩
  rintro m δ ⟨x,y,z,rfl,inv,hx,hy,rfl⟩
  walk_at"l3"
  split
  ·rename_i YV
   have LJ:=eN (show y≠0 by omega)
   have LP:bl (y/2)=bl y-1:=Qe y
   have e1:((x:Int)*2 ^ (1:Int).toNat)=((2*x:Nat):Int):=by
    show(x:Int)*(2:Int) ^ 1=_
    omega
   have e2:((y:Int)/2 ^ (1:Int).toNat)=((y/2:Nat):Int):=by
    show(y:Int)/(2:Int) ^ 1=_
    omega
   have a1:kP (y:Int) 1=((y%2:Nat):Int):=by
    rw[show(1:Int)=((1:Nat):Int) from rfl,EV,Nat.and_one_is_mod]
   have tm:=UB (y:=y) p0 hx
   have tb:=UC p0 hx
   clear hU
   refine aG λU hU=>?_
   walk_at"l3"
   have fin:∀z':Nat,z'=z ^^^ (if y%2=1 then x else 0)->U [some (.tup [.bl true,.int n]),some (.int x),some (.int y),some (.int z')]:=by
    intro z' hz
    have YW:z' ^^^ md (cl (if bl (2*x)=bl n then 2*x ^^^ n else 2*x) (y/2)) n=gm (true,n) a b:=by
     rw[hz,mR,<- tm];exact inv
    refine hU _ ?_
    clear hU
    refine aG λU hU=>?_
    walk_at"l3"
    refine⟨⟨by decide,by simp only[fq];omega⟩,hU _ ?_⟩
    clear hU
    rw[e1]
    refine aG λU hU=>?_
    walk_at"l3"
    have last:∀x':Nat,x'=(if bl (2*x)=bl n then 2*x ^^^ n else 2*x)->U [some (.tup [.bl true,.int n]),some (.int (x':Nat)),some (.int y),some (.int z')]:=by
     intro x' dF
     refine hU _ ?_
     walk_at"l3"
     exact⟨by decide,bl (y/2),by omega,x',y/2,z',⟨rfl,e2,rfl⟩,by rw[dF];exact YW,by rw[dF];exact tb,by omega,rfl⟩
    refine⟨_,rfl,?_⟩
    show(if(((bl (((2*x:Nat):Int)).natAbs:Nat):Int)=((bl ((n:Int)).natAbs:Nat):Int))then _ else _)
    rw[fq,fq]
    split
    ·rename_i hc
     refine⟨_,rfl,?_⟩
     have g:=last (2*x ^^^ n) (by rw[if_pos (by omega)])
     rw[<-lr]at g
     exact g
    ·rename_i hc
     exact last (2*x) (by rw[if_neg (by omega)])
   rw[a1]
   split
   ·rename_i yI
    have odd:y%2=1:=by omega
    have g:=fin (z ^^^ x) (by rw[if_pos odd])
    rw[<-lr]at g
    exact g
   ·rename_i yI
    exact fin z (by rw[if_neg (by omega),i4])
  ·rename_i YV
   have hy:y=0:=by omega
   subst hy
   rw[PU,vb (by rw[j3];exact eN p0),i4]at inv
   subst inv
   refine hU _ ?_
   walk_at"l3"
   exact q
noncomputable abbrev YX:a7:=λds Q=>∃(m:Bool × Nat) (l:List Nat) (x:Nat),ds=[du m,.lst false (aN l),.int x]/\m∈aI/\AllLt (ag m) l/\x<ag m/\Q (.int (aO m x l:Nat))
theorem YY(T:Txt K mg t):aL P w K mg base aV 2 t.K1 t.K2 ["_law_told_here","_law_a","_law_x"] (bf (YX )):=by
 refine bM T.Lo.F yq (λds Q h=>by obtain⟨m,l,x,rfl,hm,ha,hx,q⟩:=h<;>rfl) λaE A outer s H E hr=>⟨_,(aH (aY (i:=3) yq.nd rfl (aB rfl) ax)
   (aH (jo fo rfl (HF rfl T.K8 (aq (bv 1) aF)) (oq (i:=4) yq.nd rfl (aB rfl))
    (aK (aY (i:=3) yq.nd rfl (aB rfl) (bX T.Lm (YR T) hr (aq (bv 0) (aq (af (bX T.Ln (YT T) hr (aq (bv 0) (aq (bv 3) (aq (bv 2) aF))))) (aq (bv 4) aF)))))))
   (aK (aW (em 3))))),λds Q h=>?_⟩
 obtain⟨m,l,x,rfl,hm,ha,hx,q⟩:=h
 have m0:=bR m hm
 refine aG λU hU=>?_
 walk_at"l3"
 refine hU _ ?_
 clear hU U
 refine aG λU hU=>?_
 walk_at"l3"
 refine gF.mk (λi δ=>∃o,δ=[some (du m),some (.lst false (aN l)),some (.int x),some (.int (aO m x (l.drop (l.length-i)):Nat)),o]) ⟨none,by rw[y0,List.drop_length];rfl⟩ ?_ ?_
 ·rintro i d δ hd ⟨o,rfl⟩
  have iQ:i<l.length:=by
   have:=(gb.mp hd).1
   rw[qM,eT]at this;exact this
  obtain⟨hi,rfl⟩:∃hi:l.length-1-i<l.length,d=.int (l[l.length-1-i]:Nat):=by
   refine⟨by omega,?_⟩
   rw[Dv (by rw[eT];exact iQ),iR,cW,cI,a9 (by omega)]at hd
   exact(bS hd).symm
  have hv:aO m x (l.drop (l.length-i))<ag m:=mz hm x λa h=>ha a (vW h)
  walk_at"l3"
  refine⟨m,_,_,rfl,hm,hv,hx,m,_,_,rfl,m0,rfl,_,?_,rfl⟩
  have e:l.drop (l.length-(i+1))=l[l.length-1-i]::l.drop (l.length-i):=by
   rw[show l.length-(i+1)=l.length-1-i by omega,zi hi,show l.length-1-i+1=l.length-i by omega]
  rw[e];rfl
 ·rintro δ ⟨o,rfl⟩
  refine hU _ ?_
  walk_at"l3"
  rw[qM,eT,vZ,Dj]
  exact q
theorem Mi{l:List (Nat × Nat)}{g:Nat}(h:g<l.length):cM (bJ l) (g:Int)=some (.tup [.int (l[g].1:Nat),.int (l[g].2:Nat)]):=by
 refine jY (by omega) ?_
 unfold bJ
 rw[sV,cW,a9 h]
 rfl
theorem YZ(l:List (Nat × Nat))(p x y:Nat):(bJ l).take p++D.tup [.int (x:Nat),.int (y:Nat)]::(bJ l).drop p=bJ (l.take p++(x,y)::l.drop p):=by
 unfold bJ
 rw[eZ,cj,Dr,Dq]
theorem Mj(o:Bool)(l:List (Nat × Nat)):b9 6 (.lst o (bJ l))=true:=by
 show(bJ l).all (b9 5)=true
 unfold bJ
 rw[sY,cX]
 intro z _
 rfl
structure C3(q:Nat)(l:List (Nat × Nat))(p:Nat):Prop where
 len:l.length<=31
 lt:p<l.length
 x:∀z∈l,z.1<q
 y:∀z∈l,z.2<q
 nd:((l.take p).map (·.1)).Nodup
 me:(l.getD p (0,0)).1∈(l.take p).map (·.1)
theorem Y0{q:Nat}{l:List (Nat × Nat)}{p g y:Nat}(ok:LO q l)(ll:l.length<=30)(hp:p<=l.length)(hg:g<p)(hy:y<q):C3 q (l.take p++((l[g]'(by omega)).1,y)::l.drop p) p:=by
 have lt:(l.take p).length=p:=by rw[iZ];omega
 have Ml:l[g]'(by omega)∈l.take p:=DA.mpr ⟨g,by omega,rfl⟩
 refine⟨by rw[gO,cS,lt,vQ];omega,by rw[gO,cS,lt];omega,λz hz=>?_,λz hz=>?_,?_,?_⟩
 ·rcases cQ.mp hz with h | h
  ·exact ok.x z (mT h)
  ·rcases bE.mp h with rfl | h
   ·exact ok.x (l[g]'(by omega)) (mT Ml)
   ·exact ok.x z (vW h)
 ·rcases cQ.mp hz with h | h
  ·exact ok.y z (mT h)
  ·rcases bE.mp h with rfl | h
   ·exact hy
   ·exact ok.y z (vW h)
 ·rw[DD (by omega),DC,y9]
  have:=ok.nd
  rw[<-tu p l,eZ]at this
  exact(eI.mp this).1
 ·rw[DD (by omega),DC,y9,bg,vN (by omega),lt,vZ]
  exact c9.mpr ⟨_,Ml,rfl⟩
theorem C3.more{q:Nat}{l:List (Nat × Nat)}{p:Nat}(d:C3 q l p){z:Nat × Nat}(hz:z∈l):(l++[z]).length<=32/\p<(l++[z]).length/\(∀w∈l++[z],w.1<q)/\(∀w∈l++[z],w.2<q)/\(((l++[z]).take p).map (·.1)).Nodup/\((l++[z]).getD p (0,0)).1∈((l++[z]).take p).map (·.1):=by
 have hl:=d.len
 have hp:=d.lt
 have e:(l++[z]).take p=l.take p:=DD (by omega)
 have me:∀w∈l++[z],w∈l:=λw hw=>by
  rcases cQ.mp hw with h | h
  ·exact h
  ·rw[il.mp h];exact hz
 rw[e]
 refine⟨by rw[gO,Mt];omega,by rw[gO];omega,λw hw=>d.x w (me w hw),λw hw=>d.y w (me w hw),d.nd,?_⟩
 rw[bg,vP hp,<- bg]
 exact d.me
theorem Y1(T:Txt K mg t)(hB:Bm mg base):aL P w K mg base aV 11 t.K3 t.CB ["_law_script"] (uV [t.mF,t.mG] (bf (Gq ))):=by
 refine Hc T.CL.F gK (λds Q h=>by obtain⟨ns,rfl,hl,q⟩:=h<;>rfl) λaE A outer s H E hT hr=>⟨_,(aH (aY (i:=1) gK.nd rfl (ck rfl) (bX T.Lc (Xz T) hr (aq (af (bX T.jI (kL T) hr (aq (bv 0) (aq (af ax) aF)))) aF)))
   (aH (aY (i:=2) gK.nd rfl (aB rfl) (Ue hT ((X5 T hB).mono (by decide)) hr rfl T.yC.g T.yC.F.kp T.yC.b gv (aq (bv 1) aF)))
   (aH (aY (i:=3) gK.nd rfl (aB rfl) (bX T.Le (X7 T) hr (aq (bv 1) aF)))
   (aH (aY (i:=4) gK.nd rfl (aB rfl) (dP (So rfl) (by rfl) T.W5 Ql (aq (bv 3) (aq (af (RX (g8 (bH (bv 1) (af ax) (λ_ _=>rfl))) ax ax)) aF))))
   (aH (aY (i:=5) gK.nd rfl (aB rfl) (aJ dn (af (bX T.jI (kL T) hr (aq (bv 0) (aq (af ax) aF)))) (af (aJ eR (bv 4) (af ax)))))
   (aH (aY (i:=6) gK.nd rfl (aB rfl) (bX T.Lf (Ya T) hr (aq (bv 0) (aq (bv 3) (aq (bv 5) aF)))))
   (aH (aY (i:=7) gK.nd rfl (aB rfl) (aJ dn (af (bX T.jI (kL T) hr (aq (bv 0) (aq (af ax) aF)))) (af ax)))
   (aH (dm (PW.pt (FG (di (ff (dQ hr)) (bv 7) (af ax) (cx _)) (DO (di xi (bv 5) (af ax) (cx _))))) (aH (aY (i:=8) gK.nd rfl (aB rfl) (aJ eR (af ax) (af (aJ dn (af (aJ rk (af (bX T.jI (kL T) hr (aq (bv 0) (aq (af ax) aF)))) (af ax))) (bv 5)))))
    (aH (aY (i:=9) gK.nd rfl (aB rfl) (aJ dn (af (aJ rk (af (bX T.jI (kL T) hr (aq (bv 0) (aq (af ax) aF)))) (af (aJ eR (bv 4) (af ax))))) (bv 8)))
    (aH (Ww (i:=6) rfl (by first | exact aB rfl | exact ck (aB rfl)) (dZ (bv 8)) (uB (dj (dZ (bH (bH (bv 6) (bv 9) (λ_ _=>rfl)) (af ax) (λ_ _=>rfl))) (dj (aJ dn (af (aJ rk (af (bX T.jI (kL T) hr (aq (bv 0) (aq (af ax) aF)))) (af ax))) (bv 3)) eJ))))
    (aH (dm (di uK (af (aJ dn (af (bX T.jI (kL T) hr (aq (bv 0) (aq (af ax) aF)))) (af ax))) (af ax) (cx _)) (aK (uP (i:=6) rfl (by first | exact aB rfl | exact ck (aB rfl)) (dZ (bH (bv 6) (af ax) (λ_ _=>rfl))))) dk)
    (aH (aY (i:=10) gK.nd rfl (aB rfl) (Gh (Gi) (by rfl) T.yv wG (aq (bv 6) aF)))
    (aK (aW (n5 (af (bX T.Lj (YJ T) hr (aq (bv 2) (aq (bv 10) (aq (bv 8) aF))))) (k6 (nS (ff (dQ hr)) (bv 10) (bv 6) (cx _))))))))))) dk)
   (aH (aY (i:=10) gK.nd rfl (aB rfl) (Gh (Gi) (by rfl) T.yv wG (aq (bv 6) aF)))
   (aH (aY (i:=11) gK.nd rfl (ck rfl) (uC (xw ((Mb T).mono (by decide))) hr rfl T.qt.g T.qt.F.kp T.qt.b xv (aq (bv 2) (aq (bv 10) aF))))
   (aH (dm (PW.pt (w4 (rf (g8 (af (bX T.Ll (YO T) hr (aq (bv 11) (aq (bv 3) aF)))))) (w4 (di xi (af (dP (fV) (by rfl) T.f9 fK (aq (bv 11) aF))) (af (dP (fV) (by rfl) T.f9 fK (aq (bv 6) aF))) (cx _)) (zu (di (xm (dQ hr)) (bv 10) (bv 6) (cx _)))))) (aK (aW jm)) dk)
   (aH (dm (rf (g8 (af (dP (AR rfl) (by rfl) T.CF Aa (aq (af (oC [("_law_told_here",1),("_law_found",11)] ["_law_point"] rfl (w9 (bv 6)) (λ_ _ _ _=>(sJ (i:=2) (show(["_law_told_here","_law_found","_law_point"]:List Str).Nodup by decide +kernel))) (λ_ _ _ _=>oE) (λ_ _ _ _=>(nS (ff (dQ hr)) (af (bX T.Lo (YY T) hr (aq (bv 0) (aq (bv 1) (aq (bH (bv 2) (af ax) (λ_ _=>rfl)) aF))))) (bH (bv 2) (af ax) (λ_ _=>rfl)) (cx _))) rfl)) aF))))) (aK (aW jm)) dk)
   (aH (uP (i:=11) rfl (by first | exact aB rfl | exact ck (aB rfl)) ax)
   (aK (aW (nS (ff (dQ hr)) (bv 10) (bv 6) (cx _))))))))))))))))),λds Q h=>?_⟩
 obtain⟨ns,rfl,hl,q⟩:=h
 refine aG λU hU=>?_
 walk_at"l3"
 refine⟨ns,0,rfl,by decide,_,rfl,rfl,hU _ ?_⟩
 clear hU U
 generalize Y2:mx (ns.getD (0:Int).toNat 0)=m
 have hm:m∈aI:=by rw[<-Y2];exact UI _
 have hF:=cE hm
 have fG:=hF.lo
 have Y3:=hF.hi
 have Z8:=UH m hm
 have m0:=bR m hm
 refine aG λU hU=>?_
 walk_at"l3"
 refine⟨m,rfl,hm,hU _ ?_⟩
 clear hU U
 refine aG λU hU=>?_
 walk_at"l3"
 refine⟨m,rfl,by omega,by omega,hU _ ?_⟩
 clear hU U
 refine aG λU hU=>?_
 walk_at"l3"
 have st:∀r:Nat,1<=r->r<=30->r<=ag m->U [some (D.fz (aD ns)),some (du m),some (fD t.ba t.bB m),some (D.int (ag m)),some (D.int r),none,none,none,none,none,none,none]:=by
  intro r r1 r2 r3
  refine hU _ ?_
  clear hU U
  refine aG λU hU=>?_
  walk_at"l3"
  refine⟨ns,1,rfl,by decide,?_⟩
  generalize ns.getD (1:Int).toNat 0=c1
  obtain⟨k,ek,hk⟩:∃k:Nat,c1%((r:Int)+1)=k/\k<=r:=by
   have n0:=gi c1 (show(r:Int)+1≠0 by omega)
   have n1:=fm c1 (show 0<(r:Int)+1 by omega)
   exact⟨(c1%((r:Int)+1)).toNat,by omega,by omega⟩
  refine⟨by omega,?_⟩
  rw[ek]
  refine hU _ ?_
  clear hU U
  refine aG λU hU=>?_
  walk_at"l3"
  refine⟨ns,ag m,k,rfl,hl,fG,Y3,by omega,λl ll ok=>hU _ ?_⟩
  clear hU U
  refine aG λU hU=>?_
  walk_at"l3"
  refine⟨ns,2,rfl,by decide,?_⟩
  generalize ns.getD (2:Int).toNat 0=c2
  refine⟨by decide,hU _ ?_⟩
  clear hU U
  refine aG λU hU=>?_
  walk_at"l3"
  have lx:∀z∈l,z.1<ag m:=ok.x
  have ly:∀z∈l,z.2<ag m:=ok.y
  have plain:∀w:Int,U [some (D.fz (aD ns)),some (du m),some (fD t.ba t.bB m),some (D.int (ag m)),some (D.int r),some (D.int k),some (D.lst true (bJ l)),some (D.int w),none,none,none,none]:=by
   intro w
   refine hU _ ?_
   clear hU U
   refine aG λU hU=>?_
   walk_at"l3"
   refine⟨vG l,hU _ ?_⟩
   clear hU U
   refine aG λU hU=>?_
   walk_at"l3"
   rw[sQ]
   refine⟨m,l,rfl,hm,by omega,lx,ly,λ_ f hf lf cf vf=>⟨vk _,hU _ ?_⟩,λj hj nd me=>(yL (b:=l.length) (by rw[qH];exact ok.nd) hj hj me).elim⟩
   clear hU U
   have qq:b9 6 (D.lst true (bJ l))=true:=Mj _ l
   refine aG λU hU=>?_
   walk_at"l3"
   refine⟨f,ag m,by rw[cf],hf,by omega,rfl,true,rfl,?_⟩
   rw[if_neg (by decide),if_neg (by rw[mJ];omega)]
   refine⟨⟨qq,qq⟩,?_⟩
   rw[sI 6 _ qq,if_neg (by decide)]
   refine hU _ ?_
   clear hU U
   refine aG λU hU=>?_
   walk_at"l3"
   refine xD l (λz=>D.tup [.int (z.1:Nat),.int (z.2:Nat)]) (λ_=>D.bl true) (sQ l) (λa b h=>by injection h with h;simp at h;exact Prod.ext (by omega) (by omega)) (λz hz=>?_) (.inr λ_ _=>rfl) (by rw[sL];omega) ?_
   ·walk_at"l3"
    refine⟨_,rfl,m,f,z.1,rfl,hm,hf,lx z hz,rfl,_,rfl,⟨rfl,rfl⟩,?_⟩
    rw[vf z hz,sI 6 _ rfl]
   ·refine⟨l.map λ_=>true,by unfold uO;rw[gP];rfl,?_⟩
    rw[if_neg (by simp)]
    refine hU _ ?_
    clear hU U
    refine aG λU hU=>?_
    walk_at"l3"
    refine⟨⟨_,rfl⟩,by omega,hU _ ?_⟩
    clear hU U
    walk_at"l3"
    rw[sI 6 _ qq]
    exact⟨⟨qq,qq⟩,q⟩
  split
  ·split
   ·clear plain hU
    rename_i Y4
    refine aG λU hU=>?_
    walk_at"l3"
    refine⟨ns,2,rfl,by decide,?_⟩
    generalize ns.getD (2:Int).toNat 0=c3
    obtain⟨p,ep,p1,p2⟩:∃p:Nat,1+c3/3%(k:Int)=p/\1<=p/\p<=k:=by
     have n0:=gi (c3/3) (show(k:Int)≠0 by omega)
     have n1:=fm (c3/3) (show 0<(k:Int) by omega)
     exact⟨(1+c3/3%(k:Int)).toNat,by omega,by omega,by omega⟩
    refine⟨rj (by omega) (by omega),Y4,?_⟩
    rw[ep]
    refine hU _ ?_
    clear hU U
    refine aG λU hU=>?_
    walk_at"l3"
    refine⟨ns,1,rfl,by decide,?_⟩
    generalize ns.getD (1:Int).toNat 0=c4
    obtain⟨g,eg,g2⟩:∃g:Nat,c4/((r:Int)+1)%(p:Int)=g/\g<p:=by
     have n0:=gi (c4/((r:Int)+1)) (show(p:Int)≠0 by omega)
     have n1:=fm (c4/((r:Int)+1)) (show 0<(p:Int) by omega)
     exact⟨(c4/((r:Int)+1)%(p:Int)).toNat,by omega,by omega⟩
    refine⟨rj (by omega) (by omega),by omega,?_⟩
    rw[eg]
    refine hU _ ?_
    clear hU U
    have Y5:g<l.length:=by omega
    refine aG λU hU=>?_
    walk_at"l3"
    refine⟨⟨_,rfl⟩,_,Mi Y5,_,rfl,rfl,ns,0,rfl,by decide,?_⟩
    generalize ns.getD (0:Int).toNat 0=c5
    obtain⟨y,ey,hy⟩:∃y:Nat,c5/42%(ag m:Int)=y/\y<ag m:=by
     have n0:=gi (c5/42) (show(ag m:Int)≠0 by omega)
     have n1:=fm (c5/42) (show 0<(ag m:Int) by omega)
     exact⟨(c5/42%(ag m:Int)).toNat,by omega,by omega⟩
    refine⟨rj (by decide) (by decide),by omega,by decide,p,_,rfl,rfl,by rw[mJ];omega,by rw[mJ];omega,?_⟩
    rw[ey,YZ]
    have db:=Y0 ok (by omega) (show p<=l.length by omega) g2 hy
    generalize l.take p++(l[g].1,y)::l.drop p=L at db
    refine hU _ ?_
    clear hU U
    refine aG λU hU=>?_
    walk_at"l3"
    refine⟨ns,0,rfl,by decide,by decide,?_⟩
    generalize ns.getD (0:Int).toNat 0=c6
    have fin:∀L2:List (Nat × Nat),L2.length<=32->p<L2.length->(∀w∈L2,w.1<ag m)->(∀w∈L2,w.2<ag m)->((L2.take p).map (·.1)).Nodup->(L2.getD p (0,0)).1∈(L2.take p).map (·.1)->U [some (D.fz (aD ns)),some (du m),some (fD t.ba t.bB m),some (D.int (ag m)),some (D.int r),some (D.int k),some (D.lst true (bJ L2)),some (D.int (c2%3)),some (D.int p),some (D.int g),none,none]:=by
     intro L2 h1 h2 h3 h4 h5 h6
     refine hU _ ?_
     clear hU U
     refine aG λU hU=>?_
     walk_at"l3"
     refine⟨vG L2,hU _ ?_⟩
     clear hU U
     have qq:=Mj true L2
     walk_at"l3"
     rw[sQ]
     refine⟨m,L2,p,rfl,hm,h1,h3,h4,h2,h5,h6,rfl,true,rfl,?_⟩
     rw[if_pos rfl,sI 6 _ qq]
     exact⟨⟨qq,qq⟩,q⟩
    split
    ·have l0:0<L.length:=by have:=db.lt;omega
     refine⟨⟨_,rfl⟩,_,Mi (g:=0) l0,rfl,by rw[mJ];have:=db.len;omega,?_⟩
     obtain⟨m1,m2,m3,m4,m5,m6⟩:=db.more (z:=L[0]) (i5 l0)
     have e:bJ L++[D.tup [.int (L[0].1:Nat),.int (L[0].2:Nat)]]=bJ (L++[L[0]]):=by unfold bJ;rw[eZ];rfl
     rw[e]
     exact fin _ m1 m2 m3 m4 m5 m6
    ·exact fin L (Nat.le_succ_of_le db.len) db.lt db.x db.y db.nd db.me
   ·exact plain _
  ·exact plain _
 change ∃d,cM [D.bl m.1,D.int ((m.2:Nat):Int)] 0=some d/\∃k,d=D.bl k/\if k=true then _ else _
 refine⟨_,rfl,_,rfl,?_⟩
 have mn:∀(c:Int) (k:Nat),c=k->(if c<(ag m:Int)then c else(ag m:Int))=((min k (ag m):Nat):Int):=λc k e=>by split<;>omega
 split
 ·rw[mn 20 20 rfl]
  exact st _ (by omega) (by omega) (by omega)
 ·rw[mn 30 30 rfl]
  exact st _ (by omega) (by omega) (by omega)
end
theorem all_mk{l:PySem.W.OpenLaw}{w:World}{K:Frag}{h:Heap}{mg:Str->Option Value}{fa:Addr}{ts:List Addr}{t:jg}{Y6:Option Addr}{Y7:Array (Option Value)}{Mm:Array Value}{Y8:Value}{Y9:Option Addr}{Za:Array (Option Value)}{Mn:Array Value}{Zb:Value}(X:K.In h)(G:h.Ns mainGlobals mg)(Zc:mg "law"=some (.ref fa))(T:Txt K mg t)(Z9:K.lookup t.CC=some ⟨Y8,Y6,.fields Mm,Y7⟩)(γ:Mm[11]?=some (.ref t.mF))(ε:K.lookup t.CD=some ⟨Zb,Y9,.fields Mn,Za⟩)(ζ:Mn[11]?=some (.ref t.mG))(nl:K.all (λp=>AW p.2)=true)(sub:∀P∈[t.mF,t.mG],P∈ts) :
  ∃fd:FuncData,(∀(s:Shared) (v:Value),BindsTo s fd ⟨[v],[]⟩ [("_law_script",v)])/\∀base:Heap,K.In base->base.Ns mainGlobals mg->Bm mg base->aL l.prog w K mg base aV 11 fa fd ["_law_script"] (xF ts K):=by
 have e:=Zc.symm.trans T.CL.g
 injection e with e
 injection e with e
 subst e
 obtain⟨_,_,_,_,_,_,_,_,_,e2,_,_⟩:=T.CL.F.ex
 exact⟨t.CB,λs v=>by rw[e2];exact .of_eq rfl,λbase _ _ hB=>(Y1 T hB).imp λvs H Q E h=>let z:=Tx nl h;⟨λP hP=>z.1 P (sub P hP),z.2⟩⟩
theorem Ze{K:Frag}{h:Heap}{c f k P:Addr}{od an:Option Addr}{sl:Array (Option Value)}{oc kV dc pm ct kt:Value}{ko:Option Addr}{ks:Array (Option Value)}{kf:Array Value}(X:K.In h)(a:PySem.W.nsIn K mainGlobals "PrimeField"=some (some (.ref c)))(b:PySem.W.findIn K (.ref c) "__init__"=some (some (.ref f)))
  (l:K.lookup f=some ⟨oc,od,.func (PySem.W.fnOf "__init__" "PrimeField.__init__" (nJ vy) (gZ vy) (aM vy) .none kV dc pm an (.ref k) ct),sl⟩) (lk:K.lookup k=some ⟨kt,ko,.fields kf,ks⟩) (lp:kf[11]?=some (.ref P)) (n:K.lookup P=none) (e:codeHdIn K k P=true):K.lookup P=none/\∃c,CodeHd h c P:=⟨n,k,PySem.W.codeHd_of_K X e⟩
theorem Zf{K:Frag}{h:Heap}{c f k P:Addr}{od an:Option Addr}{sl:Array (Option Value)}{oc kV dc pm ct kt:Value}{ko:Option Addr}{ks:Array (Option Value)}{kf:Array Value}(X:K.In h)(a:PySem.W.nsIn K mainGlobals "BitField"=some (some (.ref c)))(b:PySem.W.findIn K (.ref c) "__init__"=some (some (.ref f)))
  (l:K.lookup f=some ⟨oc,od,.func (PySem.W.fnOf "__init__" "BitField.__init__" (nJ vz) (gZ vz) (aM vz) .none kV dc pm an (.ref k) ct),sl⟩) (lk:K.lookup k=some ⟨kt,ko,.fields kf,ks⟩) (lp:kf[11]?=some (.ref P)) (n:K.lookup P=none) (e:codeHdIn K k P=true):K.lookup P=none/\∃c,CodeHd h c P:=⟨n,k,PySem.W.codeHd_of_K X e⟩
theorem walk{l:PySem.W.OpenLaw}{q:Program}{loose:List Str}{XP:(Str->Option Value)->Heap->Prop}{YP:World->Heap->Prop}{d:DefRec}{K:Params->Frag}{ts:List Addr}(hn:l.most=some 63)(ua:d.params.defaults=[])
  (hY:∀(w:World) (h:Heap),YP w h->(K w.params).In h/\∀P∈ts,h.get? P=some (PySem.W.tabObj #[]))
  (hC:∀(w:World) (h:Heap),(K w.params).In h->∀P∈ts,(K w.params).lookup P=none/\∃c,CodeHd h c P)
  (F:∀(w:World) (mg:Str->Option Value) (fa:Addr) (h:Heap),(K w.params).In h->h.Ns mainGlobals mg->mg d.name=some (.ref fa) ->
   ∃fd:FuncData,(∀(s:Shared) (u:Value),BindsTo s fd ⟨[u],[]⟩ [("_law_script",u)])/\∀base:Heap,(K w.params).In base->base.Ns mainGlobals mg->Bm mg base->aL l.prog w (K w.params) mg base aV 11 fa fd ["_law_script"] (xF ts (K w.params))) :
  PySem.W.WalkO q loose XP YP l.row.toRowW d [] (λf vs=>PySem.call f vs) :=
 L2.Tw (n:=63) (k:=11) (x:="_law_script") (CX:=λ_=>aV) (sp:=λw=>xF ts (K w.params)) hn (by decide) ua ⟨rfl,by decide,by decide⟩ hY hC F (λ_ _ a ns hl hO hS=>⟨a,ns,rfl,hO,hS,hl,λ_=>rfl⟩) λ_ _ _ _ _ z=>z
end HK13
set_option genInjectivity false in
set_option genSizeOf false in
structure PySem.W.Fast:Prop where
 (tw3356415411182883840 tw7608407071819060256 tw836041588937642048 tw6694352857671013504 tw12315636911165246720 tw13252444497171080448 tw8118652375368936864 tw14511131350126107264 tw18056249497617617536 tw17422125376224327360 tw4375897904373306048 tw15566729027345261344 tw8261575986757911392 tw7556895298785560448 tw1061774734217171936 tw15649003790034268161 tw691507764639064097 tw12271833471208965185 tw5758782582925015137 tw9845491461930059905 tw14221007760088323265 tw7556095243152880865 tw2530164871809862913 tw2141402365952432385 tw9281964092432556353 tw9900617114906242433 tw14333547575113399745 tw9767534215229826561 tw1435369412332687969 tw8533451866817970849 tw9269077750812673825 tw6158128112719173441 tw16773691894407407425 tw13711853383761185633 tw1081212559346185089 tw1107852789888908322 tw6838881061871822914 tw11289439717808381122 tw386941530037689538 tw600257004838421858:True)
 (tw11528654332916581730 tw4157622927288687970 tw761950792730720674 tw18230291838401243586 tw17880709281510664642 tw4609504246511387106 tw9231943173588271682 tw15619632117633249858 tw11351217419572974210 tw5605585361095987842 tw2624213790271765154 tw5418733821973714690 tw10174567468175608642 tw5153298331503459170 tw5368337882430517122 tw15595688122385258370 tw8438277577798603714 tw9168484603605545954 tw6397815961267015683 tw9065418422944653411 tw16046808124357602467 tw16687954942925488323 tw4364799280709585187 tw4331441700532479363 tw9178441098206506371 tw755202571659052451 tw12749560379891918275 tw15478853149129952771 tw18210319055975535139 tw17646641099543781955 tw7347417602044476003 tw150785385563287171 tw12084521721869160163 tw2190169142717296387 tw686693356284381091 tw3981953403250095043 tw9751292645343646724 tw1432953246127373380 tw4057818152470419588 tw6432332667239809156:True)
 (tw1297931411294280836 tw17587470805018257636 tw12255912810911218916 tw489289947549827332 tw2421851000615571844 tw11125562609424229828 tw15149014123724948964 tw12671111239502437892 tw552542821895360004 tw16652460769535645252 tw13733507442356384388 tw13166097109978696356 tw1403558911251079844 tw3808719559251860164 tw11567804639292536516 tw6597903394620936004 tw15692498675630039908 tw10564378264501970820 tw12357074268217485252 tw6154352474202305476 tw18223863144693540997 tw15183133660820266117 tw12874849372260593925 tw14795160494996500805 tw3374642041488291141 tw12859684357782992197 tw929960358965184997 tw8467349669021872645 tw13106466953475747365 tw9182137200121148997 tw12019022339904174789 tw2969905448612716261 tw11600210209997841317 tw7219102912631048165 tw18413287204042069989 tw3141963295745696741 tw9635495562222953510 tw9593421986965443654 tw4947708191017938022 tw12382447228550500518:True)
 (tw148697864574075270 tw3916243634647455238 tw16722100889676425766 tw4327305823105277510 tw798333287438015174 tw15401006394254261958 tw14542917345042172646 tw2592895153339744070 tw16023571607771152198 tw18425023657048496006 tw14430526022711925702 tw13610668486509821894 tw922192458343753767 tw17158787911656860743 tw15699870939864002631 tw8911164841517260903 tw6671479143254209639 tw17240893639372559559 tw15391393504525502695 tw10134548109356741959 tw1069569824398793127 tw16719524993578261991 tw10160688631807804967 tw13258511076037285447 tw4949684542205056615 tw11982315147523192519 tw16261697588606200679 tw14512911373951131527 tw10374590681154537447 tw9809494142494042087 tw14320290613740598312 tw13961964264225846472 tw14467820675934666952 tw3314993214847735112 tw3514592436596804968 tw16354890154875827624 tw9674490389420486120 tw4786643268563133000 tw2173955000960547592 tw4935328284262408008:True)
 (tw9851663495144488808 tw10359765783767477096 tw5065472347123822536 tw3301128709025660969 tw5263164844071060553 tw936284743832689737 tw13172130622190642313 tw3849014171750192297 tw4826123419395430665 tw15558674205346732361 tw2237611835833858441 tw18252563998020205961 tw6490797814474190281 tw3331850755087724073 tw14358346855902234185 tw10528443998142964393 tw8865536718169756393 tw1458533624510965513 tw16879420011456370473 tw13147994381999296297 tw195065319159579497 tw4752262671886692297 tw133585992509155273 tw2985822002884578281 tw11788923273278185449 tw15705146585693356106 tw7746744645735499850 tw12799133064108945610 tw3739571243716831466 tw6768913361935042858 tw4211153777084503370 tw6740712083146733962 tw13484395936569762218 tw3352449374321361322 tw862854300093129162 tw258362296116308490 tw8010202599432723978 tw6147235043459563146 tw2534158581399887530 tw12215390813434660522:True)
 (tw1142427980175599306 tw17859514622489494250 tw12829425567783738090 tw14822558628823735082 tw824555930501101386 tw7985643713829879626 tw5043604052424742858 tw4478729396051897290 tw5374699701023042506 tw6450624045364261866 tw17569985455283961963 tw17415767626451491947 tw7316514384782317707 tw806152635446022379 tw10976969666923625739 tw7444508130262664523 tw14575179028018325003 tw8669240004502563371 tw15438833495733656203 tw10044468204920086187 tw6849315407565143819 tw12218032134927941451 tw701651249095483275 tw9360757436379442091 tw18262620170178740139 tw5106921686478152683 tw16452809568970671116 tw9222564194885944396 tw6182776098547861676 tw10522270936835151020 tw13393182270262850796 tw2911981776567450860 tw14186628202452312364 tw260773361511382380 tw13451896806195825036 tw9285284689298840012 tw12966317250980900364 tw5245225584057975340 tw683348595322627660 tw4952902102070763180:True)
 (tw15822245160906711724 tw3135074918767866604 tw8092399899897449196 tw10034971974544158540 tw5550094759478086508 tw4218722921461537644 tw14647121754130023372 tw11736657172211982477 tw339951783302544589 tw9301811430161662157 tw2482179132687286509 tw2815000486462361837 tw11318093110640334061 tw18008671037331830029 tw780385834352033165 tw2126501255687431629 tw13008994916047675885 tw12656015998139666957 tw3043182641422705165 tw8491716766135487085 tw16205519987238299277 tw8442184673602012877 tw13291861076304362189 tw1660280952543174413 tw705276720184265485 tw4905756279435805485 tw12625774373553149773 tw11689395274666218349 tw15064115867458588621 tw6734984867469053006 tw11488566277001183406 tw8544333873829553390 tw4300952194128975182 tw8616595985544989038 tw7255585019592018350 tw9388275302709046766 tw7446669764216062478 tw17242371979060680238 tw17644931687095090030 tw4024253294778439534:True)
 (tw14937137751973482446 tw7027992533375264750 tw761309487229699087 tw12200873494007189519 tw17163277528829313039 tw5138866709516256303 tw14523285588536914031 tw3883836954899682415 tw13967294635727666319 tw9604975114287875279 tw12068250879439261903 tw8880894910268592335 tw16000717844310623471 tw6784178066245444879 tw17079516046457520655 tw11071930203658658351 tw15617274316295625295 tw7508367090692719279 tw7730483777286753071 tw7210012231303690063 tw14744537052078627695 tw9870823554364345231 tw7075971452707779471 tw224277268016043951 tw12013612757935963055 tw16084306198851667887 tw7014257305276216239 tw2052946944669409296 tw16774183393070905392 tw13654524935137621136 tw8710541891335575728 tw6495731498675347696 tw4596507223182930288 tw8425815677657955792 tw5241473482470588976 tw222990732733164304 tw10962136611880116048 tw13257751058339680080 tw18204079050726640496 tw3872943799313102736:True)
 (tw2226140814168478640 tw3502980118117146576 tw15924633059084649489 tw8014406090389499089 tw7567528212915355953 tw4517159352706363729 tw3475179565208623473 tw1062815058214857137 tw18047023897831189969 tw17699033185123559921 tw3195106967612538513 tw12717028706136652433 tw682110545263621809 tw3027429508031279857 tw15889441905432721297 tw15958671687128529841 tw1145119274551898130 tw276215914922135634 tw18442561712312736850 tw3982361384467993746 tw11130377690986955954 tw7716010099059049682 tw16571357616202182930 tw15767705711351457074 tw155540948384672050 tw3951694254849794386 tw17507020043703298418 tw5697702103964463506 tw6398590022741645746 tw16229147777187235346 tw18114600898334383634 tw9868004545046030962 tw17477138903060326034 tw16701379615891415698 tw1960325218224414386 tw6151029656060757714 tw530799197180477202 tw2343506891409445682 tw8981951548689672178 tw5396459617966639123:True)
 (tw14720120682866112563 tw13418129273654049843 tw13528311018762544211 tw15360700363328670803 tw5110942477316666515 tw11852921585376117939 tw4202080069191284979 tw14378856705264635219 tw11158098687810726451 tw17019112490557609555 tw17346821397719372371 tw10145413556581889619 tw15038681839292708435 tw16258981106278551155 tw15372856564321686195 tw9779291983773356787 tw8871680339527085843 tw17187748590542429011 tw17419751834506461107 tw6111980188987885523 tw7413353504218284052 tw12497553930113693780 tw4528711812558608596 tw10444099926476585300 tw12716696164903480692 tw14475854001189850548 tw17811249278705638868 tw10002365252239442388 tw16349542102652169716 tw15662833732104345076 tw5939305628553279988 tw9565157421436466708 tw5093739060809994804 tw13194223027201058356 tw14724811253885959796 tw13044253819293686516 tw208361161178755860 tw2984333365947731860 tw11886695802052554676 tw2397564071504453620:True)
 (tw5692679235451208692 tw1562212330525058165 tw3176042843308898517 tw9347251247329224917 tw9042797311063986581 tw16285737137096764309 tw5721194268932994965 tw8327135568881136629 tw477829056218248214 tw14774279491085974550 tw9321130542912984086 tw11323032083502024822 tw10732942269809251542 tw399335897718316278 tw15699712715693704470 tw7179649731090574646 tw4937296574350508374 tw3826315666516044118 tw15003376124143414678 tw9384292501747966422 tw9088537999132912086 tw6891319849106678390 tw16396562149721180822 tw11184677306371128982 tw6582568138796265110 tw5652915931815402198 tw5980997599475444662 tw13324268697059136567 tw12966005096514349143 tw1272477455681889399 tw171807541327631511 tw3771489183674096919 tw5378411835061303671 tw15996224161185803671 tw12861231046747989431 tw16716283772672847287 tw13934971210109868631 tw15973919574477229687 tw15528281222260139671 tw9641767550602035863:True)
 (tw15684856169635821239 tw13881811102275072695 tw8304934286628066135 tw17876851968563642263 tw1036821902788134936 tw7527799395190560824 tw15234849300766217304 tw9448199883596117112 tw14407340587067680920 tw12635231893690188056 tw3696162027505314104 tw5351449143108841912 tw11106830572123993560 tw6717828388126931480 tw16668702432766961208 tw14843554737613079160 tw17659716633595247320 tw16081672633661247224 tw7165990280290142040 tw13090699595747882840 tw9689031052905784248 tw15939700524047157208 tw15849958244513485816 tw1176035096200603640 tw3527597864087497753 tw1055179659774994489 tw13524713680053866617 tw7413579626321349785 tw10930382091659574425 tw14576131273445405913 tw11317133165213353305 tw16544413580080962937 tw15964989026151787929 tw4729013971837862425 tw11175874257554142777 tw8429837775423141433 tw15413007870150509177 tw7885196688782571161 tw15105479644622792441 tw13174118485017942777:True)
 (tw16176267105078970233 tw18286999404422871929 tw10607781536421271417 tw5430909101558485913 tw16369010105042611129 tw3994933694178314201 tw7878349088603666522 tw16799914105968048314 tw17772279273955179866 tw496298462465399162 tw17928353987967105434 tw2003695678748864090 tw3563565930153041562 tw14341255000820535034 tw16076169687095455578 tw14735652802579761050 tw3181022904326557594 tw6100883806723340218 tw13885850703238798330 tw14795046930329968634 tw4973443047842488314 tw8464788685500413979 tw5261138584622537819 tw17590948588925247643 tw7755728906165870779 tw14812442847587957019 tw11958861222204522907 tw1573234693495039419 tw13474037607823451611 tw17265830567158264411 tw16881041690404262491 tw1899438605955294843 tw5765668812116672155 tw18169536426898292411 tw8970386399108309755 tw15620210041194563387 tw8088210074696574811 tw17189295323279274907 tw15806786249065962491 tw8254457301116185628:True)
 (tw12697322029254441020 tw8770658331856127196 tw13651903664011014460 tw1977407845817492828 tw13201851572734409052 tw5170051080881330620 tw5124293067822335484 tw10595239976970386972 tw13418000392019050012 tw12604998346534960700 tw5176592196401327708 tw2872996225477345020 tw430770244337189788 tw9311089847162100732 tw12941469249867820157 tw8436757929002419325 tw414138388445836541 tw11399273051029685501 tw9167242281598136605 tw15091195848803072349 tw8072956945473991005 tw13326722354516799901 tw5390258685761056157 tw15555722394340936125 tw13045718019852514877 tw3835638471526190717 tw11706901136050071165 tw16854855753662126717 tw15543737753961568061 tw8140696367324177309 tw5625015879860664221 tw12417652168229479325 tw11947296116282381309 tw4600957328969881597 tw973856774886361118 tw1772946614606237918 tw9144033182536604894 tw14707623071134312670 tw7673404933502761182 tw4000777296732564734:True)
 (tw7107430002659325278 tw15128376121623874974 tw13707674544540894622 tw1354923781324937662 tw16762888311235488222 tw17217579187341853214 tw11252646251446564382 tw2402488321652599390 tw3788178516259945054 tw3671407303962295902 tw12866600101091061406 tw10325435804893510334 tw7615478236559862526 tw12265198072277488574 tw16870352522247168031 tw6907583338972579903 tw13595897607200364639 tw6278015122529148031 tw17608083194719767679 tw5803134669916297471 tw17571876997918519551 tw6086146932367364415 tw16447398923474548063 tw15064871579916847455 tw11300582689540330847 tw15355147299717558751 tw2796260660342375903 tw4288753996321123935 tw15346427143135429247 tw9432754291192985215 tw15143887858977129119 tw5778210193750852287 tw13135065631159071423 tw11150333094948557503 tw6956942039364650751 tw7492580222853190431 tw17289895767410496319 tw11180530937689931583 tw14253960655572169631 tw15511865579005781983:True)
 (tw3416127376082503647 tw3029308201232667647 tw6273025613475747796:True)
open PySem PySem.W PyProof.Rows
set_option maxRecDepth 100000 in
set_option maxHeartbeats 0 in
theorem PySem.Challenge.cw_mendfield_k13_points_met_holds : PySem.Challenge.rw_mendfield_k13_points_met.Holds := by
 w_on;o_law;k_head;(case hw=>w_witness2)
 k_fill
 refine HK13.walk (l:=PySem.Challenge.rw_mendfield_k13_points_met) rfl rfl (λw h Y=>⟨PySem.W.km_in_of Y,PySem.W.km_tabs_of Y⟩) ?C ?F
 case C =>
  intro w h hX
  repeat' (first | exact List.forall_mem_nil _ | refine List.forall_mem_cons.mpr ⟨?_,?_⟩)
  all_goals first | (refine' HK13.Ze hX ?a ?b ?l ?lk ?lp ?n ?e;(case a=>k_is);(case b=>k_is);(case l=>k_is);(case lk=>k_is);(case lp=>first | rfl | with_unfolding_all rfl);(case n=>kernel_rfl);(case e=>kernel_rfl)) | (refine' HK13.Zf hX ?a ?b ?l ?lk ?lp ?n ?e;(case a=>k_is);(case b=>k_is);(case l=>k_is);(case lk=>k_is);(case lp=>first | rfl | with_unfolding_all rfl);(case n=>kernel_rfl);(case e=>kernel_rfl))
 case F =>
  intro w mg fa h KX G ub
  refine' HK13.all_mk (t:=HK13.jg.mk ..) KX G ub (HK13.Txt.mk ..) ?Zg ?Zh ?Zi ?Zj ?nl ?sub
  rotate_left 107
  iterate 7 ((try dsimp only);exact PySem.W.mg_of KX G (by k_is))
  iterate 13 ((try dsimp only);exact PySem.W.mg_none_of KX G (by k_is))
  iterate 12 ((try dsimp only);focus (apply L2.Meth.mk<;>k_is))
  iterate 2 ((try dsimp only);focus (apply L2.Mk.mk<;>k_is))
  iterate 1 ((try dsimp only);focus (apply L2.u0.mk<;>k_is))
  iterate 1 ((try dsimp only);focus (apply L2.B9.mk<;>k_is))
  iterate 1 ((try dsimp only);focus (apply L2.mD.mk<;>first | k_is | kernel_rfl))
  iterate 30 ((try dsimp only);focus (apply L2.Fk.of KX G;(case a=>k_is);(case F=>apply L2.EB<;>k_is);(case b=>first | exact λ_ _ _ _ _ _=>L2.BO λ_=>rfl | exact λ_ _ _ _ _ _=>L2.BP λ_ _=>rfl | exact λ_ _ _ _ _ _=>L2.Ih λ_ _ _=>rfl)))
  iterate 14 ((try dsimp only);focus (apply L2.Fm.of;(case F=>apply L2.EB<;>k_is);(case b=>first | exact λ_ _ _ _ _ _=>L2.BO λ_=>rfl | exact λ_ _ _ _ _ _=>L2.BP λ_ _=>rfl | exact λ_ _ _ _ _ _=>L2.Ih λ_ _ _=>rfl)))
  iterate 2 (exact rfl)
  (case Zg=>k_is)
  (case Zh=>first | rfl | with_unfolding_all rfl)
  (case Zi=>k_is)
  (case Zj=>first | rfl | with_unfolding_all rfl)
  iterate 2 ((try dsimp only);kernel_rfl)
  iterate 2 ((try dsimp only);focus (apply L2.cY.mk<;>k_is))
  iterate 13 ((try dsimp only);focus (unfold L2.bL;k_is))
  iterate 1 ((try dsimp only);exact L3.S7 (PySem.W.mg_of KX G (by k_is)) (by k_exc))
  iterate 2 ((try dsimp only);focus (apply L2.gB.mk<;>first | k_is | rfl | decide))
  iterate 11 ((try dsimp only);first | exact L3.S8 | exact L3.kit_cls (by first | rfl | decide | k_is) (by first | k_is | rfl | decide) (by k_is) (by k_is) | exact L3.S9 rfl (by decide +kernel) (by k_is))
  iterate 2 ((try dsimp only);exact L3.exm_cls (by first | k_is | rfl | decide) (by k_is) (by k_is) (by k_is))
  (case nl=>first | k_is | rfl | decide)
  (case sub=>decide)
