import PyProof.Rows.All
import Wide.All
import OpenK.AllK
import Wide.FinOn
import Lean
import PyProof.EqAt
import PyProof.EqKinds
import PyProof.TupleCall
import PyProof.NeKinds
import PyProof.Rows.Range3
import PyProof.FitsBits
import PyProof.StationsW
import PyProof.NsDelKeeps
import PyProof.Rows.CatchOwn
import KE.KTryMore
import PyProof.ExcArgsOwn
import PyProof.ExcAttrAll.ValueError
import OpenK.KOwn
import PyProof.ZipIter
import PyProof.WalksEnum
import PyProof.EnumMake
import KE.KIntText
import PyProof.Conv_int
import PyProof.StrWalks
import PyProof.StrLawsFirst
import KE.KLam
import KE.KNestM
import KE.KRevIter
import PyProof.ListRange
import PyProof.Rows.SortWalk
import PyProof.Rows.SetFrom
import PyProof.FactsAll.set
import PyProof.Rows.SeqMore
import PyProof.FString
import PySem.Challenge.RW_mendfield_k31_whole_moved
open Array renaming length_toList→yB,append_assoc→Bu,getElem?_eq_some_iff→Rh,toList_append→c05
open Bool renaming and_eq_true→eQ,or_true→ft,false_ne_true→fW,true_and→ka,and_true→kM,false_and→sA,or_false→sF,eq_iff_iff→sM,not_false→vj,not_true→vk,true_or→vm,false_or→vn,false_eq_true→vo
open Classical renaming byContradiction→Fq
open Decidable renaming byContradiction→yN
open Eq renaming trans→sS
open False renaming elim→fV
open ForInStep renaming yield→Fs
open Int renaming toNat_natCast→fX,emod_nonneg→jn,emod_lt_of_pos→jo,natAbs_natCast→jq,natCast_emod→qe,natCast_mul→qf,toNat_of_nonneg→vf,natCast_add→BI,natCast_nonneg→Q7,zero_add→Rt,fdiv_eq_ediv_of_nonneg→cZ1
open List renaming getElem?_eq_getElem→aP,getD_eq_getElem?_getD→aQ,range→bg,length_map→bB,mem_map→bE,replicate→bH,getElem?_map→bQ,mem_append→cg,map_map→cm,mem_cons→cA,mem_range→cL,getElem_mem→cM,zipWith→dh,all_eq_true→dw,map_cons→dz,length_append→dO,mem_singleton→dP,length_range→dQ,size_toArray→dX,all_cons→dY,mem_cons_of_mem→dZ,append_assoc→eV,mem_append_right→fc,map_append→fM,mem_cons_self→fU,getElem?_eq_none→fY,getElem_of_mem→gj,lookup_cons→gx,length_cons→gK,length_take→gL,length_zipWith→gM,set_cons_zero→gO,set_cons_succ→gP,mem_append_left→ig,not_mem_nil→ij,length_drop→iH,nodup_cons→jm,map_nil→jN,getElem?_eq_some_iff→j9,getElem?_range→kL,getElem?_zipWith→kN,append_nil→lZ,take_add_one→mf,all_map→mh,mem_filter→nt,lookup→nu,length_set→nB,nil_append→nC,cons.inj→nH,mem_of_mem_drop→nI,mem_of_mem_take→nJ,cons_append→nK,getElem?_cons_zero→nL,getElem?_cons_succ→nM,length_replicate→pY,perm_append_comm→p8,all_nil→p9,map_congr_left→qa,of_mem_zip→sC,getElem?_append_right→sD,getElem?_append_left→sE,replicate_succ→sH,foldl_cons→sI,take_length→sN,take_of_length_le→sO,cons.injEq→sU,getElem?_set_ne→u5,mem_of_getElem?→u9,flatten_cons→va,map_zipWith→vd,length_zip→vg,length_nil→vi,zipWith_map→yE,mem_or_eq_of_mem_set→yG,zip→yK,foldl_append→yL,filterMap_cons→Bt,getElem?_replicate→BA,getElem?_mapIdx→BH,contains_iff_mem→BK,pairwise_cons→BM,pairwise_append→BN,getElem?_set_self→Ff,length→Fg,length_singleton→Fl,any_eq_true→Ft,append_eq_nil_iff→Fx,append_inj→Fy,mem_replicate→Fz,ext_getElem?→FC,getElem?_drop→FD,map→FE,mem_map_of_mem→FF,findIdx_lt_length_of_exists→FG,range_succ→FH,getElem_map→FK,nodup_range→FN,length_filter_le→FP,map_replicate→FR,Pairwise.nil→Q9,Sublist.refl→Rj,set_set→Rk,mem_of_find?_eq_some→Rm,map_drop→Rn,map_take→Ro,drop_eq_nil_of_le→Rp,any_map→Ru,ext_getElem→Rw,sum_cons→Rx,zipWith_cons_cons→Ry,filter_congr→RA,find?_eq_none→RB,pairwise_singleton→RE,pairwise_map→RF,take_append_drop→RG,mem_filterMap→cZ0,getElem?_take_of_lt→cZ3,set_eq_of_length_le→cZ9,eq_nil_iff_forall_not_mem→c00,filter_eq_self→c01,range_succ_eq_map→c02,getElem?_take→c03,getElem_zipWith→c04,zip_cons_cons→c06,sublist_cons_self→c07,findIdx_getElem→c08,findIdx?_eq_some_iff_getElem→c09,findIdx?_eq_none_iff→c66,pairwise_iff_getElem→c67,pairwise_lt_range→c68,find?_eq_some_iff_append→c69,length_eq_zero_iff→c70,mem_erase_of_ne→c71,length_erase_of_mem→c72,findSome?_eq_none_iff→c73,flatMap_append→c75
open Nat renaming le_refl→bN,lt_of_lt_of_le→dv,le_trans→eP,ne_of_lt→fo,lt_irrefl→fK,zero_le→jM,shiftLeft_eq→kK,xor_zero→me,mul_comm→nD,pow_succ→nE,testBit_xor→nF,lt_of_le_of_lt→nG,zero_xor→p5,xor_assoc→sJ,min_self→sP,mul_assoc→vb,mod_lt→ve,two_pow_pos→yC,pow_le_pow_right→yD,not_lt→yF,mul_mod→yH,mod_eq_of_lt→yI,mod_add_mod→yJ,succ.inj→yM,le_of_lt→Br,le_of_eq→Bw,lt_succ_self→Bz,add_comm→BC,eq_of_testBit_eq→BD,testBit_zero→BE,strongRecOn→BF,xor_self→BG,le_of_succ_le→BL,testBit_lt_two_pow→Fm,testBit_succ→Fo,lt_trans→Fp,add_assoc→FA,sub_self→FJ,not_lt_zero→FL,one_shiftLeft→FQ,ne_of_gt→Q6,xor_comm→Ra,testBit_and→Rb,lt_succ_of_lt→Rq,mod_mod→Rv,zero_add→Rz,lt_or_ge→RD,zero_lt_one→RH,succ_pos→RI,mul_le_mul_right→RJ,testBit_eq_decide_div_mod_eq→cZ4,shiftLeft_xor_distrib→cZ5,mul_lt_mul_right→cZ6,testBit_shiftLeft→cZ7,shiftRight_eq_div_pow→cZ8
open Ne renaming symm→fq
open Option renaming some.inj→cX,getD_none→pZ,getD_some→p7,map_eq_some_iff→sQ,map_some→sR,some.injEq→sT,map_none→vh,toList_some→Rl,isSome_iff_exists→cZ2,map_eq_none_iff→c74
open Or renaming inl→ao,inr→bh
open Prod renaming ext→BJ
open PyProof renaming Rows.callWith_type1→Bv
open PySem renaming Heap.lt_size→bW,PassesOwn.never→eR,Value.ref→fJ,Heap.get?_push_of_some→fL,Heap.get?_push_size→gJ,Value.int→pV,Builtin.bitAnd→pW,Builtin.bitXor→pX,Value.none→su,Heap.get?_update_other→sG,Heap.size_push→u7,Obj.mapSeq→BB,Value.bool→Fe,Heap.get?_update_self→Fh,SeqAt.EqAt→Fj,Obj.data_mapFields→Fu,Value.type.inj→Fv,Builtin.Str.strSliceIndices→Fw,NameKind.cell→FI,Builtin.List.listTooLong→Q8,Obj.isFreed_of_fields→Rc,Heap.MadeExcOf→Ri,Calls.Name_function_global→cY9
open Sum renaming inl→u3,inr→u4
open True renaming intro→u6
set_option Elab.async false
set_option linter.all false
set_option maxRecDepth 100000
local macro_rules | `(tactic| omega)=>`(tactic| lia)
namespace L2
open PySem PySem.Spec PyProof.Rows
noncomputable abbrev Key:=Sum Int Str
noncomputable def RK:Key->Value->Bool
 | .inl k,v=>Value.isInt k v
 | .inr x,v=>Value.isStrOf x v
noncomputable def cW5(w:World):Key->Int
 | .inl k=>hashInt k
 | .inr x=>hashStr w x
theorem nN:∀{k:Key} {v:Value},RK k v=true->(∃i t,k=u3 i/\v=pV i t)\/(∃x t,k=u4 x/\v=Value.str x t)
 | .inl i,v,h=>by
  obtain⟨t,e⟩:=Value.isInt_shape (k:=i) (v:=v) h
  exact .inl ⟨i,t,rfl,e⟩
 | .inr x,v,h=>by
  obtain⟨t,e⟩:=Value.isStrOf_shape (x:=x) (v:=v) h
  exact .inr ⟨x,t,rfl,e⟩
theorem cN0(a b:Int):decide ((u3 a:Key)=u3 b)=(a==b):=by
 by_cases e:a=b
 ·subst e;simp
 ·have h:¬ (u3 a:Key)=u3 b:=λq=>e (Sum.inl.inj q)
  rw[decide_eq_false h]
  exact(beq_eq_false_iff_ne.mpr e).symm
theorem cI1(a b:Str):decide ((u4 a:Key)=u4 b)=decide (a=b):=by
 by_cases e:a=b
 ·subst e;simp
 ·have h:¬ (u4 a:Key)=u4 b:=λq=>e (Sum.inr.inj q)
  rw[decide_eq_false h,decide_eq_false e]
theorem cL4(a:Int)(b:Str):decide ((u3 a:Key)=u4 b)=false:=decide_eq_false (λq=>nomatch q)
theorem cH8(a:Str)(b:Int):decide ((u4 a:Key)=u3 b)=false:=decide_eq_false (λq=>nomatch q)
noncomputable def RL(prog:Program)(w:World):PySem.KeyKind prog w Key where
 is:=RK
 hash:=cW5 w
 inj:=λv a b ha hb=>by
  rcases nN ha with⟨i,t,rfl,rfl⟩ | ⟨x,t,rfl,rfl⟩
  ·rcases nN hb with⟨j,u,rfl,e⟩ | ⟨y,u,rfl,e⟩
   ·injection e with e1 _;rw[e1]
   ·exact nomatch e
  ·rcases nN hb with⟨j,u,rfl,e⟩ | ⟨y,u,rfl,e⟩
   ·exact nomatch e
   ·injection e with e1 _;rw[e1]
 byValue:=λk v h=>by
  rcases nN h with⟨i,t,rfl,rfl⟩ | ⟨x,t,rfl,rfl⟩<;>rfl
 pyHash:=λhv h=>by
  rcases nN hv with⟨i,t,rfl,rfl⟩ | ⟨x,t,rfl,rfl⟩
  ·exact wpAny_pyHash_int h
  ·exact wpAny_pyHash_str h
 eqBool:=λhu hv h=>by
  rcases nN hu with⟨i,t,rfl,rfl⟩ | ⟨x,t,rfl,rfl⟩
  ·rcases nN hv with⟨j,u,rfl,rfl⟩ | ⟨y,u,rfl,rfl⟩
   ·rw[cN0]at h;exact wpAny_eqBool_int h
   ·rw[cL4]at h;exact SeqAt.EqAt.int_str i t y u _ _ _ _ h
  ·rcases nN hv with⟨j,u,rfl,rfl⟩ | ⟨y,u,rfl,rfl⟩
   ·rw[cH8]at h;exact SeqAt.EqAt.str_int x t j u _ _ _ _ h
   ·rw[cI1]at h;exact wpAny_eqBool_str h
 «strs»:=λk x t v h=>by
  rcases nN h with⟨i,u,rfl,e⟩ | ⟨y,u,rfl,e⟩
  ·exact nomatch e
  ·injection e with e1 _
   subst e1
   cases v<;>rfl
end L2
namespace L2
open PySem PySem.Spec PyProof.Rows
inductive V where
 | az | bl (b:Bool) | int (i:Int) | str (x:Str) | BO (b:Array UInt8) | sV (b:UInt64) | ref (a:Addr) | ty (n:String)
 deriving DecidableEq
noncomputable def RelV:V->Value->Prop
 | .az,u=>u=su
 | .bl b,u=>u=Fe b
 | .int i,u=>∃t,u=pV i t
 | .str x,u=>∃t,u=Value.str x t
 | .BO b,u=>∃t,u=Value.bytes b t
 | .sV b,u=>∃t,u=Value.float b t
 | .ref a,u=>u=fJ a
 | .ty n,u=>u=Value.type n
noncomputable abbrev Vals:List V->List Value->Prop:=Paired RelV
theorem Vals.length{xs:List V}{us:List Value}(r:Vals xs us):xs.length=us.length:=Paired.length r
theorem Vals.get:∀{xs:List V} {us:List Value} {i:Nat} {x:V},Vals xs us->xs[i]?=some x->∃u,us[i]?=some u/\RelV x u
 | _,_,_,_,.nil,e=>by simp at e
 | _,_,0,_,.cons r _,e=>by simp at e;subst e;exact⟨_,rfl,r⟩
 | _,_,i+1,x,.cons _ t,e=>by
  obtain⟨u,h1,h2⟩:=Vals.get (i:=i) (x:=x) t (by simpa using e)
  exact⟨u,by simpa using h1,h2⟩
theorem Vals.set{x:V}{u:Value}(r:RelV x u):∀{xs:List V} {us:List Value} (i:Nat),Vals xs us->Vals (xs.set i x) (us.set i u)
 | _,_,_,.nil=>.nil
 | _,_,0,.cons _ t=>.cons r t
 | _,_,i+1,.cons q t=>.cons q (Vals.set r i t)
theorem Vals.append:∀{xs ys:List V} {us ws:List Value},Vals xs us->Vals ys ws->Vals (xs++ys) (us++ws)
 | _,_,_,_,.nil,s=>s
 | _,_,_,_,.cons r t,s=>.cons r (Vals.append t s)
theorem Vals.take:∀{xs:List V} {us:List Value} (n:Nat),Vals xs us->Vals (xs.take n) (us.take n)
 | _,_,0,_=>.nil
 | _,_,_+1,.nil=>.nil
 | _,_,n+1,.cons r t=>.cons r (Vals.take n t)
theorem Vals.drop:∀{xs:List V} {us:List Value} (n:Nat),Vals xs us->Vals (xs.drop n) (us.drop n)
 | _,_,0,r=>r
 | _,_,_+1,.nil=>.nil
 | _,_,n+1,.cons _ t=>Vals.drop n t
noncomputable def mm:Option V->Option Value->Prop
 | some v,some u=>RelV v u
 | none,none=>True
 | _,_=>False
noncomputable def KV{κ:Type}:List (κ × V)->List (κ × Value)->Prop:=Paired λ(p:κ × V) (q:κ × Value)=>p.1=q.1/\RelV p.2 q.2
noncomputable def kV:Key->V
 | .inl i=>.int i
 | .inr x=>.str x
inductive HO where
 | lst (xs:List V)
 | tup (xs:List V)
 | dK (dR:List (Key × V)) | dT (dR:List (List Key × V))
 | set (S:Int->Bool) (n:Nat)
 | ins (C dx:Addr) (fs:List (Str × V))
 | own (x:Addr)
 | xd (fs:List (Str × V))
 | met (f x:Addr)
 | yO (lo hi:Int)
 | cq (o:Obj) (u:HO)
 | dH (ps:Array Value)
 | ext (φ:Heap->Prop)
noncomputable abbrev Hp:=Addr->Option HO
noncomputable def upd(H:Hp)(a:Addr)(o:HO):Hp:=λb=>if b=a then some o else H b
theorem cF{H:Hp}{a:Addr}{o:HO}:upd H a o a=some o:=by unfold upd;rw[if_pos rfl]
theorem bu{H:Hp}{a b:Addr}{o:HO}(h:b≠a):upd H a o b=H b:=by unfold upd;rw[if_neg h]
theorem fA{H:Hp}{a b:Addr}{o:HO}(h:H a=some o)(h':H b=none):a≠b:=by
 intro e;subst e;rw[h]at h';cases h'
section
variable(P:Program)(w:World)
noncomputable def eH(H:Hp)(h:Heap)(a:Addr):HO->Prop
 | .lst xs=>xs.length<=sizeLine/\∃(its:List Value) (n:Nat),Vals xs its/\h.get? a=some { cls:=.type "list",data:=.seq its.toArray n }
 | .tup xs=>xs.length<=sizeLine/\∃its:List Value,Vals xs its/\IsTup h a its.toArray
 | .dK dR=>dR.length<=sizeLine/\(a==sysModules)=false/\∃vs,KV dR vs/\h.DictOf (RL P w) a vs
 | .dT dR=>dR.length<=sizeLine/\(a==sysModules)=false/\∃xs:List (List Key × Addr × Value),
   Paired (λ(p:List Key × V) (q:List Key × Addr × Value)=>p.1=q.1/\H q.2.1=some (.tup (p.1.map kV))/\RelV p.2 q.2.2) dR xs /\
   ∃o es ep,h.get? a=some o/\o.ExactDict/\o.data=.dict es ep/\es.toList=xs.map (entryOfKey (tupleKind (RL P w)))/\(xs.map (·.1)).Nodup
 | .set S n=>h.SetOf (intKind P w) a S n
 | .ins C dx fs=>H dx=some (.own a)/\fs.length<=1000/\dx≠a/\h.get? a=some (PySem.W.instObj C dx) /\
   ∃mA,h.Ns1 dx mA/\(∀f,mm (fs.lookup f) (mA f))/\PySem.Within mA (fs.map (·.1))
 | .own _=>∃o,h.get? a=some o
 | .xd fs=>∃mA,h.Ns1 a mA/\∀f,mm (fs.lookup f) (mA f)
 | .yO lo hi=>∃t u v,h.get? a=some { cls:=.type "range",data:=.fields #[.int lo t,.int hi u,.int 1 v] }
 | .cq o u=>h.get? a=some o/\eH H h a u
 | .dH ps=>h.get? a=some { cls:=.none,data:=.fields ps }/\TriplesOk ps.toList/\∀pos cv,codeAmong pos ps.toList=some cv->∃c φ,cv=.ref c/\H c=some (.ext φ)/\∀h',φ h'->∃q,h'.CodeRec (.ref c) q
 | .met f x=>h.get? a=some (PySem.W.methodObj (.ref f) (.ref x))
 | .ext φ=>φ h/\(∃o,h.get? a=some o)/\∀h1 h2:Heap,φ h1->(∀b o,(b=a\/H b=some (.own a))->h1.get? b=some o->h2.get? b=some o)->φ h2
noncomputable def cS(H:Hp)(h:Heap):Prop:=∀a o,H a=some o->eH P w H h a o
end
section
variable{P:Program}{w:World}{H H':Hp}{h h':Heap}{a:Addr}{o:HO}
theorem eH.lt(x:eH P w H h a o):a<h.objs.size:=by
 cases o with
 | lst xs=>obtain⟨_,_,_,_,e⟩:=x;exact bW e
 | tup xs=>obtain⟨_,_,_,p⟩:=x;exact p.lt
 | dK dR=>obtain⟨_,_,_,_,o,_,_,e,_⟩:=x;exact bW e
 | dT dR=>obtain⟨_,_,_,_,o,_,_,e,_⟩:=x;exact bW e
 | set S n=>obtain⟨o,_,_,_,e,_⟩:=x;exact bW e
 | ins C dx fs=>obtain⟨_,_,_,e,_⟩:=x;exact bW e
 | own y=>obtain⟨_,e⟩:=x;exact bW e
 | xd fs=>obtain⟨_,⟨_,_,_,e,_⟩,_⟩:=x;exact bW e
 | yO lo hi=>obtain⟨_,_,_,e⟩:=x;exact bW e
 | cq ob u=>obtain⟨e,_⟩:=x;exact bW e
 | dH ps=>exact bW (show h.get? a=some _ from x.1)
 | met f y=>exact bW (show h.get? a=some _ from x)
 | ext φ=>obtain⟨_,⟨_,e⟩,_⟩:=x;exact bW e
theorem Paired.FT{α β:Type}{F G:α->β->Prop}:∀{l₁:List α} {l₂:List β},Paired F l₁ l₂->(∀a b,F a b->G a b)->Paired G l₁ l₂
 | _,_,.nil,_=>.nil
 | _,_,.cons r t,f=>.cons (f _ _ r) (Paired.FT t f)
theorem eH.kO(x:eH P w H h a o)(k:∀b u,(b=a\/H b=some (.own a))->h.get? b=some u->h'.get? b=some u)
  (ho:∀b,H b=some (.own a)->H' b=some (.own a)) (ht:∀b xs,H b=some (.tup xs)->H' b=some (.tup xs)) (hx:∀b φ,H b=some (.ext φ)->H' b=some (.ext φ)):eH P w H' h' a o:=by
 induction o with
 | lst xs=>obtain⟨z,its,n,r,e⟩:=x;exact⟨z,its,n,r,k _ _ (.inl rfl) e⟩
 | tup xs=>obtain⟨z,its,r,ob,e,c⟩:=x;exact⟨z,its,r,ob,k _ _ (.inl rfl) e,c⟩
 | dK dR=>obtain⟨z,y,vs,r,ob,es,ep,e,c⟩:=x;exact⟨z,y,vs,r,ob,es,ep,k _ _ (.inl rfl) e,c⟩
 | dT dR =>
  obtain⟨z,y,xs,r,ob,es,ep,e,c⟩:=x
  exact⟨z,y,xs,Paired.FT r λp q z=>⟨z.1,ht _ _ z.2.1,z.2.2⟩,ob,es,ep,k _ _ (.inl rfl) e,c⟩
 | set S n=>obtain⟨ob,es,ep,t,e,c⟩:=x;exact⟨ob,es,ep,t,k _ _ (.inl rfl) e,c⟩
 | ins C dx fs =>
  obtain⟨d,z,ne,e,mA,⟨od,es,ep,e2,c⟩,r⟩:=x
  exact⟨ho _ d,z,ne,k _ _ (.inl rfl) e,mA,⟨od,es,ep,k _ _ (.inr d) e2,c⟩,r⟩
 | own y=>obtain⟨ob,e⟩:=x;exact⟨ob,k _ _ (.inl rfl) e⟩
 | xd fs=>obtain⟨mA,⟨od,es,ep,e,c⟩,r⟩:=x;exact⟨mA,⟨od,es,ep,k _ _ (.inl rfl) e,c⟩,r⟩
 | yO lo hi=>obtain⟨t,u,v,e⟩:=x;exact⟨t,u,v,k _ _ (.inl rfl) e⟩
 | cq ob u ih=>obtain⟨e,q⟩:=x;exact⟨k _ _ (.inl rfl) e,ih q⟩
 | dH ps =>
  obtain⟨e,t,c⟩:=x
  refine⟨k a _ (.inl rfl) e,t,λpos cv q=>?_⟩
  obtain⟨d,φ,e1,e2,e3⟩:=c pos cv q
  exact⟨d,φ,e1,hx _ _ e2,e3⟩
 | met f y =>
  have e:h.get? a=some (PySem.W.methodObj (.ref f) (.ref y)):=x
  show h'.get? a=some (PySem.W.methodObj (.ref f) (.ref y))
  exact k a _ (.inl rfl) e
 | ext φ=>obtain⟨p,⟨o,e⟩,st⟩:=x;exact⟨st _ _ p λb o hb q=>k _ _ hb q,⟨o,k _ _ (.inl rfl) e⟩,λh1 h2 p1 kk=>st h1 h2 p1 λb o hb q=>kk b o (hb.imp id (ho b)) q⟩
theorem cS.lt(x:cS P w H h)(e:H a=some o):a<h.objs.size:=(x a o e).lt
theorem cS.fresh(x:cS P w H h)(e:h.objs.size<=a):H a=none:=by
 cases q:H a with
 | none=>rfl
 | some u=>exact absurd (dv (x.lt q) e) (fK _)
theorem cS.kept(x:cS P w H h)(k:∀b u,h.get? b=some u->h'.get? b=some u):cS P w H h':=λa o e =>
 (x a o e).kO (λb u _ q=>k b u q) (λ_ q=>q) (λ_ _ q=>q) λ_ _ q=>q
theorem cS.laid(x:cS P w H h)(k:∀b u,h.get? b=some u->h'.get? b=some u)(hp:h.objs.size<=a)(new:eH P w (upd H a o) h' a o):cS P w (upd H a o) h':=λb u e=>by
 have hn:=x.fresh hp
 by_cases hb:b=a
 ·subst hb;rw[cF]at e;cases e;exact new
 ·rw[bu hb]at e
  exact(x b u e).kO (λc v _ q=>k c v q) (λc q=>by rw[bu (fA q hn)];exact q) (λc xs q=>by rw[bu (fA q hn)];exact q) λc xs q=>by rw[bu (fA q hn)];exact q
end
noncomputable def Rd(H:Hp)(a:Addr)(u:HO):Prop:=H a=some u\/∃o,H a=some (.cq o u)
theorem Rd.ok{P:Program}{w:World}{H:Hp}{h:Heap}{a:Addr}{u:HO}(r:Rd H a u)(x:cS P w H h):eH P w H h a u:=by
 rcases r with r | ⟨o,r⟩
 ·exact x a u r
 ·obtain⟨_,q⟩:=x a _ r
  exact q
noncomputable def BP:Option HO->Prop
 | some (.lst _)=>True
 | some (.dK _)=>True
 | some (.dT _)=>True
 | some (.set _ _)=>True
 | some (.ins _ _ _)=>True
 | _=>False
section
variable{P:Program}{w:World}{H:Hp}{h h':Heap}{x e:Addr}{o':HO}
theorem cS.write(ok:cS P w H h)(mu:BP (H x))(he:e=x\/H e=some (.own x))(k:∀b u,b≠e->h.get? b=some u->h'.get? b=some u)(vp:∃u,h'.get? e=some u)
  (new:eH P w (upd H x o') h' x o'):cS P w (upd H x o') h':=λb u q=>by
 have RM:∀c y,H c=some (.own y)->c≠x:=λc y r z=>by subst z;rw[r]at mu;exact mu
 have c81:∀c xs,H c=some (.tup xs)->c≠x:=λc xs r z=>by subst z;rw[r]at mu;exact mu
 by_cases hb:b=x
 ·subst hb;rw[cF]at q;cases q;exact new
 ·rw[bu hb]at q
  by_cases sW:b=e
  ·have q':H b=some (.own x):=by
    rcases he with z | z
    ·exact absurd (sW.trans z) hb
    ·rw[sW];exact z
   rw[q]at q';cases q'
   obtain⟨v,hv⟩:=vp
   exact⟨v,by rw[sW];exact hv⟩
  ·refine(ok b u q).kO (λc v hc r=>k c v ?_ r) (λc r=>by rw[bu (RM c b r)];exact r) (λc xs r=>by rw[bu (c81 c xs r)];exact r) λc φ r=>by rw[bu (λz=>by rw[z]at r;rw[r]at mu;exact mu)];exact r
   rcases hc with rfl | hc
   ·exact sW
   ·rintro rfl
    rcases he with z | z
    ·exact RM c b hc z
    ·rw[hc]at z;cases z;exact hb rfl
end
structure Un(fs ex:List Addr)(H H':Hp)(h h':Heap):Prop where
 keep:∀b o,h.get? b=some o->H b=none->b ∉ fs->b ∉ ex->h'.get? b=some o
 slot:∀b o,h.get? b=some o->H b=none->b∈fs->b ∉ ex->∃sl,h'.get? b=some { o with slots:=sl }
 free:∀b o,h.get? b=some o->H b=none->b ∉ ex->H' b=none
 there:∀b o,h.get? b=some o->b ∉ ex->∃o',h'.get? b=some o'
 kb:∀b xs,H b=some (.tup xs)->H' b=some (.tup xs)
 jO:∀b o u,H b=some (.cq o u)->H' b=some (.cq o u)
 iJ:∀b ps,H b=some (.dH ps)->∃more,H' b=some (.dH (ps++more))
section
variable{fs fs' ex ex':List Addr}{H H1 H2:Hp}{h h1 h2 h':Heap}{a x e:Addr}{o:HO}
theorem Un.any(u:Un fs ex H H1 h h1){b:Addr}{ob:Obj}(q:h.get? b=some ob)(n:H b=none)(hx:b ∉ ex):∃sl,h1.get? b=some { ob with slots:=sl }:=by
 by_cases hb:b∈fs
 ·exact u.slot b ob q n hb hx
 ·exact⟨ob.slots,u.keep b ob q n hb hx⟩
theorem Un.kept(k:∀b u,h.get? b=some u->h'.get? b=some u):Un fs ex H H h h' :=
 ⟨λb ob q _ _ _=>k b ob q,λb ob q _ _ _=>⟨ob.slots,k b ob q⟩,λ_ _ _ n _=>n,λb ob q _=>⟨ob,k b ob q⟩,λ_ _ q=>q,λ_ _ _ q=>q,λ_ ps q=>⟨#[],by rw[q];simp⟩⟩
theorem Un.refl:Un fs ex H H h h:=Un.kept λ_ _ q=>q
theorem Un.laid(k:∀b u,h.get? b=some u->h'.get? b=some u)(hp:h.objs.size<=a)(hn:H a=none):Un fs ex H (upd H a o) h h' where
 keep:=λb u q _ _ _=>k b u q
 slot:=λb u q _ _ _=>⟨u.slots,k b u q⟩
 free:=λb u q n _=>by rw[bu (fo (dv (bW q) hp))];exact n
 there:=λb u q _=>⟨u,k b u q⟩
 kb:=λb xs q=>by rw[bu (fA q hn)];exact q
 jO:=λb u xs q=>by rw[bu (fA q hn)];exact q
 iJ:=λb ps q=>⟨#[],by rw[bu (fA q hn),q];simp⟩
theorem Un.write(mu:BP (H x))(he:e=x\/H e=some (.own x))(k:∀b u,b≠e->h.get? b=some u->h'.get? b=some u)(vp:∃u,h'.get? e=some u):Un fs ex H (upd H x o) h h':=by
 have hx:∀b,H b=none->b≠x:=λb n z=>by subst z;rw[n]at mu;exact mu
 have hb:∀b,H b=none->b≠e:=λb n z=>by
  subst z
  rcases he with r | r
  ·exact hx b n r
  ·rw[n]at r;cases r
 have hm:∀b u,H b=some u->¬ BP (some u)->b≠x:=λb u q nm z=>by subst z;rw[q]at mu;exact nm mu
 refine⟨λb u q n _ _=>k b u (hb b n) q,λb u q n _ _=>⟨u.slots,k b u (hb b n) q⟩,λb u q n _=>by rw[bu (hx b n)];exact n,λb u q _=>?_,
  λb xs q=>by rw[bu (hm b _ q λz=>z)];exact q,λb u xs q=>by rw[bu (hm b _ q λz=>z)];exact q,λb ps q=>⟨#[],by rw[bu (hm b _ q λz=>z),q];simp⟩⟩
 by_cases sW:b=e
 ·subst sW;exact vp
 ·exact⟨u,k b u sW q⟩
end
noncomputable def BQ(h:Heap)(H:Hp):List Addr:=(bg h.objs.size).filter λa=>(H a).isSome
noncomputable def mn(h:Heap)(H:Hp):Heap:=PySem.W.hideAll h (BQ h H)
theorem b80(h:Heap)(H:Hp):(mn h H).objs.size=h.objs.size:=PySem.W.hideAll_size _ _
theorem cm2{h:Heap}{H:Hp}{b:Addr}{o:Obj}(e:h.get? b=some o)(n:H b=none):(mn h H).get? b=some o :=
 PySem.W.hideAll_get _ e λhm=>by
  have q:(H b).isSome=true:=(nt.mp hm).2
  rw[n]at q;simp at q
theorem cA8{h:Heap}{H:Hp}{b:Addr}{o:Obj}(e:(mn h H).get? b=some o):h.get? b=some o/\H b=none:=by
 have e':h.get? b=some o:=PySem.W.of_hideAll (BQ h H) e
 refine⟨e',?_⟩
 cases q:H b with
 | none=>rfl
 | some x =>
  have hm:b∈BQ h H:=nt.mpr ⟨cL.mpr (bW e'),by simp[q]⟩
  have z:(mn h H).get? b=none:=PySem.W.hideAll_none (BQ h H) hm
  rw[z]at e;cases e
end L2
namespace L2
open PySem PySem.Spec PyProof.Rows
structure Mod(K:PySem.W.Frag)(mg:Str->Option Value)(base:Heap):Prop where
 nO:K.In base
 glob:base.Ns mainGlobals mg
 blt:∃mb,base.Ns builtinsNs mb/\∀x:Str,x≠"__name__"->mb x=bootBuiltins x
 nolimit:base.NoLimit
structure Cx where
 prog:Program
 w:World
 K:PySem.W.Frag
 mg:Str->Option Value
 base:Heap
 A:Around
 N:List Str
 cT:Shared
 kP:Hp
 env:Env
 outer:List Env
 stack:List Env
 ex:List Addr
 fn:Str->Bool
 calm:Bool
 pn:List (Addr × Obj)
 xe:Value->Shared->Prop
noncomputable def eI(l:List Env):List Addr:=l.filterMap (·.frame)
noncomputable abbrev Cx.fs(X:Cx):List Addr:=eI X.outer
noncomputable def nQ(sc:Scope)(x:Str):Prop:=sc.names.lookup x=some .local\/sc.names.lookup x=some .cell\/sc.names.lookup x=some .free
noncomputable def Loc(sc:Scope)(x:Str):Prop:=sc.names.lookup x=some .local\/sc.names.lookup x=some .cell
noncomputable def cV3(env:Env)(h:Heap)(m:Str->Option Value)(x:Str)(u:Value):Prop :=
 (env.kindOf x=some .local/\m x=some u)\/((env.kindOf x=some .cell\/env.kindOf x=some .free)/\∃c,env.cells.lookup x=some c/\h.IsCell c (some u))
structure Cx.Ok(X:Cx):Prop where
 mod:Mod X.K X.mg X.base
 kind:X.env.scope.kind=.function
 glob:X.env.globals=mainGlobals
 blt:X.env.builtins=builtinsNs
 above:X.cT.heap.objs.size<=X.env.locals
 inj:∀x y c,X.env.cells.lookup x=some c->X.env.cells.lookup y=some c->x=y
 has:∀x,(X.env.kindOf x=some .cell\/X.env.kindOf x=some .free)->∃c,X.env.cells.lookup x=some c
 sX:∀x c,X.fn x=true->X.env.cells.lookup x=some c->X.cT.heap.objs.size<=c
 hd:X.calm=true->X.A.handled=none
 frames:X.A.frames=some X.stack
 yP:X.stack=X.outer\/(X.stack=X.env::X.outer/\X.env.frame=some X.env.locals)
 yQ:∀b∈X.ex,b≠X.env.locals/\∀x c,X.env.cells.lookup x=some c->c≠b
 bs:∀b o,X.base.get? b=some o->X.cT.heap.get? b=some o/\X.kP b=none
 ke:X.base.objs.size<=X.cT.heap.objs.size
 vq:∀b o,X.base.get? b=some o->b ∉ X.ex
 vt:∀b∈X.ex,b ∉ X.fs
 gQ:X.cT.heap.FunFrames X.base X.outer
 kg:∀b∈X.fs,X.kP b=none
structure Inv(X:Cx)(pins:List (Addr × Obj))(σ:List (Option V))(H:Hp)(s:Shared):Prop where
 ok:X.Ok
 os:s.os=X.cT.os
 bare:AllBare s.gens
 base:Un X.fs X.ex X.kP H X.cT.heap s.heap
 loc:∃m,s.heap.Ns X.env.locals m/\∀(i:Nat) (x:Str) (v:V),X.N[i]?=some x->σ[i]?=some (some v)->nQ X.env.scope x->∃u,RelV v u/\cV3 X.env s.heap m x u
 cell:∀x c,X.env.cells.lookup x=some c->∃v,s.heap.IsCell c v
 free:H X.env.locals=none
 jP:∀x c,X.env.cells.lookup x=some c->H c=none
 pin:∀p∈X.pn++pins,s.heap.get? p.1=some p.2/\H p.1=none/\p.1≠X.env.locals/\p.1 ∉ X.fs/\∀v,p.2.data≠.cell v
 aR:cS X.prog X.w H s.heap
 len:σ.length=X.N.length
section
variable{X:Cx}{pins:List (Addr × Obj)}{σ:List (Option V)}{H H':Hp}{s:Shared}{h':Heap}
theorem Cx.Ok.c87(ok:X.Ok){b:Addr}{o:Obj}(e:X.base.get? b=some o):b ∉ X.fs:=λhb=>by
 have:=(ok.gQ.mem hb).1
 rw[e]at this;cases this
theorem Inv.bs(I:Inv X pins σ H s):∀b o,X.base.get? b=some o->s.heap.get? b=some o/\H b=none:=λb o e =>
 ⟨I.base.keep b o (I.ok.bs b o e).1 (I.ok.bs b o e).2 (I.ok.c87 e) (I.ok.vq b o e),I.base.free b o (I.ok.bs b o e).1 (I.ok.bs b o e).2 (I.ok.vq b o e)⟩
theorem Inv.bk(I:Inv X pins σ H s):∀b o,X.base.get? b=some o->s.heap.get? b=some o:=λb o e=>(I.bs b o e).1
theorem Inv.mod(I:Inv X pins σ H s):Mod X.K X.mg X.base:=I.ok.mod
theorem Inv.dA(I:Inv X pins σ H s):X.K.In s.heap:=I.ok.mod.nO.keeps I.bk
theorem Inv.lt(I:Inv X pins σ H s):X.env.locals<s.heap.objs.size:=let⟨_,hn,_⟩:=I.loc;hn.lt
theorem Inv.sz(I:Inv X pins σ H s):X.cT.heap.objs.size<=s.heap.objs.size:=eP I.ok.above (Br I.lt)
theorem Inv.RN(I:Inv X pins σ H s){a:Addr}(h:s.heap.objs.size<=a):a ∉ X.fs:=λhb=>by
 obtain⟨_,o,ho,_⟩:=I.ok.gQ.mem hb
 exact absurd (dv (bW ho) (eP I.sz h)) (fK _)
theorem Inv.qg(I:Inv X pins σ H s):∀x c,X.env.cells.lookup x=some c->c≠X.env.locals:=λx c e z=>by
 obtain⟨v,o,ho,hd⟩:=I.cell x c e
 obtain⟨m,⟨o',es,ep,kQ,yR,_⟩,_⟩:=I.loc
 rw[z,kQ]at ho;cases ho;rw[yR]at hd;cases hd
theorem Inv.gQ(I:Inv X pins σ H s):s.heap.FunFrames X.base X.outer:=by
 have all:∀(l:List Env),(∀b∈eI l,b∈X.fs)->X.cT.heap.FunFrames X.base l->s.heap.FunFrames X.base l:=by
  intro l
  induction l with
  | nil=>intro _ _;trivial
  | cons env r ih =>
   intro hs hl
   obtain⟨hk,⟨L,o,hf,hn,ho,hd⟩,hr⟩:=hl
   have hL:L∈X.fs:=hs L (by unfold eI;rw[Bt,hf];exact fU)
   obtain⟨sl,e⟩:=I.base.slot L o ho (I.ok.kg L hL) hL λz=>I.ok.vt L z hL
   exact⟨hk,⟨L,_,hf,hn,e,hd⟩,ih (λb hb=>hs b (by unfold eI;rw[Bt,hf];exact dZ _ hb)) hr⟩
 exact all X.outer (λ_ hb=>hb) I.ok.gQ
theorem Inv.stack(I:Inv X pins σ H s):s.heap.FunFrames X.base X.stack:=by
 rcases I.ok.yP with e | ⟨e,hf⟩
 ·rw[e];exact I.gQ
 ·rw[e]
  obtain⟨m,hn,_⟩:=I.loc
  refine .cons (by rw[I.ok.kind];decide) hf hn ?_ I.gQ
  exact Heap.get?_none_of_le (eP I.ok.ke I.ok.above)
theorem Inv.BR(I:Inv X pins σ H s):∀b∈eI X.stack,b∈X.env.locals::X.fs:=λb hb=>by
 rcases I.ok.yP with e | ⟨e,hf⟩
 ·rw[e]at hb;exact dZ _ hb
 ·rw[e]at hb
  unfold eI at hb
  rw[Bt,hf]at hb
  exact hb
theorem Inv.FU(I:Inv X pins σ H s):∀b∈eI X.stack,H b=none:=λb hb=>by
 rcases cA.mp (I.BR b hb)with e | hb
 ·rw[e];exact I.free
 ·obtain⟨_,o,ho,_⟩:=I.ok.gQ.mem hb
  exact I.base.free b o ho (I.ok.kg b hb) λz=>I.ok.vt b z hb
theorem Inv.step{g':Array GenState}{t':Nat}{d':Drawn}{ch:List Addr}(I:Inv X pins σ H s)
  (mq:∀b∈ch,(b∈X.ex\/X.cT.heap.objs.size<=b)/\b≠X.env.locals/\(∀x c,X.env.cells.lookup x=some c->c≠b)/\∀p∈X.pn++pins,p.1≠b)
  (keep:∀b o,b≠X.env.locals->b ∉ X.fs->b ∉ ch->s.heap.get? b=some o->H b=none->h'.get? b=some o)
  (slot:∀b o,b≠X.env.locals->b∈X.fs->b ∉ ch->s.heap.get? b=some o->H b=none->∃sl,h'.get? b=some { o with slots:=sl }) (free:∀b o,b ∉ ch->s.heap.get? b=some o->H b=none->H' b=none)
  (there:∀b o,b ∉ ch->s.heap.get? b=some o->∃o',h'.get? b=some o')
  (kb:∀b xs,H b=some (.tup xs)->H' b=some (.tup xs)) (jO:∀b o u,H b=some (.cq o u)->H' b=some (.cq o u)) (iJ:∀b ps,H b=some (.dH ps)->∃more,H' b=some (.dH (ps++more)))
  (ns:∀m,s.heap.Ns X.env.locals m->h'.Ns X.env.locals m) (aR:cS X.prog X.w H' h') (hg:AllBare g') :
  Inv X pins σ H' { s with heap:=h',gens:=g',drawn:=d',toks:=t' }:=by
 have BS:∀b o,X.cT.heap.get? b=some o->b≠X.env.locals:=λb o e=>fo (dv (bW e) I.ok.above)
 have vv:∀b o,X.cT.heap.get? b=some o->b ∉ X.ex->b ∉ ch:=λb o e hx hb=>by
  rcases(mq b hb).1 with z | z
  ·exact hx z
  ·exact absurd (dv (bW e) z) (fK _)
 have cellK:∀x c,X.env.cells.lookup x=some c->∀v,s.heap.IsCell c v->h'.IsCell c v:=λx c e v ⟨o,ho,hd⟩=>by
  have yS:c ∉ ch:=λz=>(mq c z).2.2.1 x c e rfl
  by_cases hc:c∈X.fs
  ·obtain⟨sl,q⟩:=slot c o (I.qg x c e) hc yS ho (I.jP x c e)
   exact⟨_,q,hd⟩
  ·exact⟨o,keep c o (I.qg x c e) hc yS ho (I.jP x c e),hd⟩
 refine⟨I.ok,I.os,hg,⟨λb o e n hb hx=>?_,λb o e n hb hx=>?_,λb o e n hx=>?_,λb o e hx=>?_,λb xs e=>kb b xs (I.base.kb b xs e),λb o xs e=>jO b o xs (I.base.jO b o xs e),λb ps e=>?_⟩,?_,λx c e=>?_,?_,λx c e=>?_,λp hp=>?_,aR,I.len⟩
 ·exact keep b o (BS b o e) hb (vv b o e hx) (I.base.keep b o e n hb hx) (I.base.free b o e n hx)
 ·obtain⟨sl,e1⟩:=I.base.slot b o e n hb hx
  obtain⟨sl',e2⟩:=slot b _ (BS b o e) hb (vv b o e hx) e1 (I.base.free b o e n hx)
  exact⟨sl',e2⟩
 ·obtain⟨o',e1⟩:=I.base.there b o e hx
  exact free b o' (vv b o e hx) e1 (I.base.free b o e n hx)
 ·obtain⟨o',e1⟩:=I.base.there b o e hx
  exact there b o' (vv b o e hx) e1
 ·obtain⟨m1,e1⟩:=I.base.iJ b ps e
  obtain⟨m2,e2⟩:=iJ b _ e1
  exact⟨m1++m2,by rw[e2,Bu]⟩
 ·obtain⟨m,hn,hl⟩:=I.loc
  refine⟨m,ns m hn,λi x v e1 e2 e3=>?_⟩
  obtain⟨u,r,l⟩:=hl i x v e1 e2 e3
  refine⟨u,r,?_⟩
  rcases l with l | ⟨k,c,e,z⟩
  ·exact .inl l
  ·exact .inr ⟨k,c,e,cellK x c e _ z⟩
 ·obtain⟨v,z⟩:=I.cell x c e
  exact⟨v,cellK x c e v z⟩
 ·obtain⟨m,⟨o,_,_,ho,_⟩,_⟩:=I.loc
  exact free _ o (λz=>(mq _ z).2.1 rfl) ho I.free
 ·obtain⟨v,o,ho,hd⟩:=I.cell x c e
  exact free c o (λz=>(mq c z).2.2.1 x c e rfl) ho (I.jP x c e)
 ·obtain⟨e,n,ne,nf,d⟩:=I.pin p hp
  have yS:p.1 ∉ ch:=λz=>(mq p.1 z).2.2.2 p hp rfl
  exact⟨keep p.1 p.2 ne nf yS e n,free p.1 p.2 yS e n,ne,nf,d⟩
theorem Inv.un{t':Nat}(I:Inv X pins σ H s)(u:Un X.fs [] H H' s.heap h')(aR:cS X.prog X.w H' h'):Inv X pins σ H' { s with heap:=h',toks:=t' }:=by
 obtain⟨m,⟨o,es,ep,ho,r⟩,_⟩:=id I.loc
 obtain⟨sl,hL⟩:=u.any ho I.free (by simp)
 exact I.step (g':=s.gens) (d':=s.drawn) (ch:=[]) (λ_ z=>nomatch z) (λb o _ hb _ e n=>u.keep b o e n hb (by simp)) (λb o _ hb _ e n=>u.slot b o e n hb (by simp)) (λb o _ e n=>u.free b o e n (by simp)) (λb o _ e=>u.there b o e (by simp)) u.kb u.jO u.iJ (λm' hm=>by
  obtain⟨o',FV,FW,kQ,r'⟩:=hm
  rw[ho]at kQ;cases kQ
  exact⟨_,FV,FW,hL,r'⟩) aR I.bare
theorem Inv.call{g':Array GenState}{t':Nat}{d':Drawn}{ch:List Addr}(I:Inv X pins σ H s)(u:Un (eI X.stack) ch H H' s.heap h')(aR:cS X.prog X.w H' h')(hg:AllBare g')
  (mq:∀b∈ch,(b∈X.ex\/X.cT.heap.objs.size<=b)/\b≠X.env.locals/\(∀x c,X.env.cells.lookup x=some c->c≠b)/\∀p∈X.pn++pins,p.1≠b) :
  Inv X pins σ H' { s with heap:=h',gens:=g',drawn:=d',toks:=t' }:=by
 obtain⟨m,⟨o,es,ep,ho,r⟩,_⟩:=id I.loc
 obtain⟨sl,hL⟩:=u.any ho I.free λz=>(mq _ z).2.1 rfl
 exact I.step (ch:=ch) mq (λb o hL hb hc e n=>u.keep b o e n (λz=>(cA.mp (I.BR b z)).elim hL hb) hc) (λb o _ _ hc e n=>u.any e n hc) (λb o hc e n=>u.free b o e n hc) (λb o hc e=>u.there b o e hc) u.kb u.jO u.iJ (λm' hm=>by
  obtain⟨o',FV,FW,kQ,r'⟩:=hm
  rw[ho]at kQ;cases kQ
  exact⟨_,FV,FW,hL,r'⟩) aR hg
theorem Inv.turned{t':Nat}{it:Addr}(I:Inv X pins σ H s)(k:∀b o,b≠it->s.heap.get? b=some o->h'.get? b=some o)(hn:H it=none)(hL:it≠X.env.locals)
  (h1:it∈X.ex\/X.cT.heap.objs.size<=it) (h2:∀x c,X.env.cells.lookup x=some c->c≠it) (h3:∀p∈X.pn++pins,p.1≠it):Inv X pins σ H { s with heap:=h',toks:=t' }:=by
 have qh:∀b u,H b=some u->b≠it:=λb u e z=>by rw[z,hn]at e;cases e
 refine I.step (g':=s.gens) (d':=s.drawn) (ch:=[it]) (λb hb=>?_) (λb o _ _ hc e _=>k b o (λz=>hc (by simp[z])) e) (λb o _ _ hc e _=>⟨o.slots,k b o (λz=>hc (by simp[z])) e⟩) (λ_ _ _ _ n=>n)
  (λb o hc e=>⟨o,k b o (λz=>hc (by simp[z])) e⟩) (λ_ _ e=>e) (λ_ _ _ e=>e) (λb ps e=>⟨#[],by rw[e];simp⟩) (λm hm=>?_) (λb u e=>?_) I.bare
 ·have e:b=it:=by simpa using hb
  subst e
  exact⟨h1,hL,h2,h3⟩
 ·obtain⟨o,es,ep,ho,r⟩:=hm
  exact⟨o,es,ep,k _ o (fq hL) ho,r⟩
 ·refine(I.aR b u e).kO (λc v hc q=>k c v ?_ q) (λ_ q=>q) (λ_ _ q=>q) λ_ _ q=>q
  rcases hc with z | z
  ·rw[z];exact qh b u e
  ·exact qh c _ z
theorem Inv.tok(I:Inv X pins σ H s)(t:Nat):Inv X pins σ H { s with toks:=t }:=I.un (h':=s.heap) (t':=t) Un.refl I.aR
theorem Inv.kept{t':Nat}(I:Inv X pins σ H s)(k:∀b u,s.heap.get? b=some u->h'.get? b=some u):Inv X pins σ H { s with heap:=h',toks:=t' }:=I.un (Un.kept k) (I.aR.kept k)
theorem Inv.laid{a:Addr}{o:HO}{t':Nat}(I:Inv X pins σ H s)(k:∀b u,s.heap.get? b=some u->h'.get? b=some u)(hp:s.heap.objs.size<=a)(new:eH X.prog X.w (upd H a o) h' a o) :
  Inv X pins σ (upd H a o) { s with heap:=h',toks:=t' }:=I.un (Un.laid k hp (I.aR.fresh hp)) (I.aR.laid k hp new)
theorem Inv.write{x e:Addr}{o:HO}{t':Nat}(I:Inv X pins σ H s)(mu:BP (H x))(he:e=x\/H e=some (.own x))(k:∀b u,b≠e->s.heap.get? b=some u->h'.get? b=some u)(vp:∃u,h'.get? e=some u)
  (new:eH X.prog X.w (upd H x o) h' x o):Inv X pins σ (upd H x o) { s with heap:=h',toks:=t' }:=I.un (Un.write mu he k vp) (I.aR.write mu he k vp new)
theorem Inv.weak{aO:List (Option V)}(I:Inv X pins σ H s)(hl:aO.length=σ.length)(w:∀(i:Nat) v,aO[i]?=some (some v)->σ[i]?=some (some v)):Inv X pins aO H s :=
 ⟨I.ok,I.os,I.bare,I.base,let⟨m,hn,qi⟩:=I.loc;⟨m,hn,λi x v e1 e2 e3=>qi i x v e1 (w i v e2) e3⟩,I.cell,I.free,I.jP,I.pin,I.aR,hl.trans I.len⟩
theorem Inv.RP{FX:List (Addr × Obj)}(I:Inv X pins σ H s)(h:∀p∈FX,s.heap.get? p.1=some p.2/\H p.1=none/\p.1≠X.env.locals/\p.1 ∉ X.fs/\∀v,p.2.data≠.cell v):Inv X FX σ H s :=
 ⟨I.ok,I.os,I.bare,I.base,I.loc,I.cell,I.free,I.jP,λp hp=>(cg.mp hp).elim (λz=>I.pin p (ig _ z)) (h p),I.aR,I.len⟩
theorem RQ{N:List Str}(hN:N.Nodup){i j:Nat}{x:Str}(a:N[i]?=some x)(b:N[j]?=some x):i=j:=by
 obtain⟨h1,e1⟩:=j9.mp a
 obtain⟨h2,e2⟩:=j9.mp b
 exact(List.getElem_inj hN).mp (e1.trans e2.symm)
theorem bZ6{M:Model}{A:Around}{E:Value->Shared->Prop}{i:Nat}{x:Str}{v:V}{u:Value}{Q:Unit->Shared->Prop}(I:Inv X pins σ H s)(hN:X.N.Nodup)(hi:X.N[i]?=some x)(hx:Loc X.env.scope x)(r:RelV v u)
  (h:∀s',Inv X pins (σ.set i (some v)) H s'->(∃a,Heap.SameBut a s.heap s'.heap/\(a=X.env.locals\/X.env.cells.lookup x=some a))->Q () s') (hf:X.fn x=true\/X.env.scope.names.lookup x=some .local:=by first | exact .inl rfl | exact .inr rfl | assumption):wpAny M A (storeName X.env x u) Q E s:=by
 obtain⟨m,hn,hl⟩:=id I.loc
 have c90:(X.env.scope.kind==.class||(X.env.scope.kind==.module&&X.env.locals != X.env.globals))=false:=by rw[I.ok.kind];rfl
 have RU:i<σ.length:=by rw[I.len];exact(j9.mp hi).1
 have qg:=I.qg
 have tracked:∀{a:Addr} {h':Heap},(∃o,s.heap.get? a=some o/\H a=none)->Heap.SameBut a s.heap h'->cS X.prog X.w H h':=λ{a h'} ha hs b ob e=>by
  obtain⟨_,_,RV⟩:=ha
  refine(I.aR b ob e).kO (λc w' hc q=>(hs.2 c ?_).trans q) (λ_ q=>q) (λ_ _ q=>q) λ_ _ q=>q
  rintro rfl
  rcases hc with rfl | hc
  ·rw[RV]at e;cases e
  ·rw[RV]at hc;cases hc
 rcases hx with hk | hk
 ·refine wpAny_storeName_local hk hn (λh' hn' hs=>?_) c90
  obtain⟨oL,_,_,hoL,_⟩:=id hn
  refine h _ ⟨I.ok,I.os,I.bare,⟨λb o e n hb hx=>?_,λb o e n hb hx=>?_,I.base.free,λb o e hx=>?_,I.base.kb,I.base.jO,I.base.iJ⟩,⟨_,hn',λj y v' e1 e2 e3=>?_⟩,λy c e=>?_,I.free,I.jP,λp hp=>?_,tracked ⟨oL,hoL,I.free⟩ hs,by simpa using I.len⟩ ⟨_,hs,.inl rfl⟩
  ·exact(hs.2 b (fo (dv (bW e) I.ok.above))).trans (I.base.keep b o e n hb hx)
  ·obtain⟨sl,e1⟩:=I.base.slot b o e n hb hx
   exact⟨sl,(hs.2 b (fo (dv (bW e) I.ok.above))).trans e1⟩
  ·obtain⟨o',e1⟩:=I.base.there b o e hx
   exact⟨o',(hs.2 b (fo (dv (bW e) I.ok.above))).trans e1⟩
  ·by_cases hj:j=i
   ·subst hj
    rw[hi]at e1;cases e1
    rw[Ff RU]at e2
    cases e2
    exact⟨u,r,.inl ⟨hk,by simp⟩⟩
   ·rw[u5 (fq hj)]at e2
    obtain⟨u',r',q⟩:=hl j y v' e1 e2 e3
    refine⟨u',r',?_⟩
    rcases q with⟨k,e⟩ | ⟨k,c,e,z⟩
    ·refine .inl ⟨k,?_⟩
     have:y≠x:=λe=>hj (RQ hN e1 (e ▸ hi))
     simp[this,e]
    ·exact .inr ⟨k,c,e,z.sameBut hs (qg y c e)⟩
  ·obtain⟨w',z⟩:=I.cell y c e
   exact⟨w',z.sameBut hs (qg y c e)⟩
  ·obtain⟨e,n,ne,nf,d⟩:=I.pin p hp
   exact⟨(hs.2 p.1 ne).trans e,n,ne,nf,d⟩
 ·have yT:X.fn x=true:=by
   rcases hf with z | z
   ·exact z
   ·rw[z]at hk;cases hk
  obtain⟨c,hc⟩:=I.ok.has x (.inl hk)
  obtain⟨w',z⟩:=I.cell x c hc
  refine wpAny_storeName_cell I.ok.kind hk hc z (λh' yU hs=>?_)
  obtain⟨oc,jr,c93⟩:=id z
  refine h { s with heap:=h' } ⟨I.ok,I.os,I.bare,⟨λb o e n hb hx=>?_,λb o e n hb hx=>?_,I.base.free,λb o e hx=>?_,I.base.kb,I.base.jO,I.base.iJ⟩,⟨m,hn.sameBut hs (fq (qg x c hc)),λj y v' e1 e2 e3=>?_⟩,λy c' e=>?_,I.free,I.jP,λp hp=>?_,tracked ⟨oc,jr,I.jP x c hc⟩ hs,by simpa using I.len⟩ ⟨c,hs,.inr hc⟩
  ·exact(hs.2 b (fo (dv (bW e) (I.ok.sX x c yT hc)))).trans (I.base.keep b o e n hb hx)
  ·obtain⟨sl,e1⟩:=I.base.slot b o e n hb hx
   exact⟨sl,(hs.2 b (fo (dv (bW e) (I.ok.sX x c yT hc)))).trans e1⟩
  ·obtain⟨o',e1⟩:=I.base.there b o e hx
   exact⟨o',(hs.2 b (fo (dv (bW e) (I.ok.sX x c yT hc)))).trans e1⟩
  ·by_cases hj:j=i
   ·subst hj
    rw[hi]at e1;cases e1
    rw[Ff RU]at e2
    cases e2
    exact⟨u,r,.inr ⟨.inl hk,c,hc,yU⟩⟩
   ·rw[u5 (fq hj)]at e2
    obtain⟨u',r',q⟩:=hl j y v' e1 e2 e3
    refine⟨u',r',?_⟩
    rcases q with q | ⟨k,c',e,z'⟩
    ·exact .inl q
    ·refine .inr ⟨k,c',e,z'.sameBut hs ?_⟩
     rintro rfl
     exact hj (RQ hN e1 (I.ok.inj _ _ _ e hc ▸ hi))
  ·by_cases RW:c'=c
   ·subst RW;exact⟨_,yU⟩
   ·obtain⟨w2,z2⟩:=I.cell y c' e
    exact⟨w2,z2.sameBut hs RW⟩
  ·obtain⟨e,n,ne,nf,d⟩:=I.pin p hp
   refine⟨(hs.2 p.1 ?_).trans e,n,ne,nf,d⟩
   intro q
   rw[q,jr]at e
   have q':oc=p.2:=cX e
   exact d w' (by rw[<-q'];exact c93)
theorem FY{M:Model}{A:Around}{E:Value->Shared->Prop}{i:Nat}{x:Str}{v:V}{u:Value}{Q:Unit->Shared->Prop}(I:Inv X pins σ H s)(hN:X.N.Nodup)(hi:X.N[i]?=some x)(hx:Loc X.env.scope x)(r:RelV v u)
  (h:∀s',Inv X pins (σ.set i (some v)) H s'->Q () s') (hf:X.fn x=true\/X.env.scope.names.lookup x=some .local:=by first | exact .inl rfl | exact .inr rfl | assumption):wpAny M A (storeName X.env x u) Q E s :=
 bZ6 I hN hi hx r (λs' I' _=>h s' I') hf
theorem Inv.c94{s':Shared}{ch:List Addr}(I:Inv X pins σ H s)(ho:s'.os=s.os)(u:Un (eI X.stack) ch H H' s.heap s'.heap)(aR:cS X.prog X.w H' s'.heap)(hg:AllBare s'.gens)
  (mq:∀b∈ch,(b∈X.ex\/X.cT.heap.objs.size<=b)/\b≠X.env.locals/\(∀x c,X.env.cells.lookup x=some c->c≠b)/\∀p∈X.pn++pins,p.1≠b):Inv X pins σ H' s':=by
 obtain⟨h',g',d',t',o'⟩:=s'
 have e:o'=s.os:=ho
 subst e
 exact I.call (g':=g') (t':=t') (d':=d') u aR hg mq
end
noncomputable abbrev XK:=Value->Option Addr->Hp->Prop
noncomputable abbrev St:=List (Option V)
noncomputable abbrev VK:=V->Hp->Prop
noncomputable abbrev TE:=St->Hp->VK->Prop
noncomputable abbrev TT:=St->Hp->(Bool->Hp->Prop)->Prop
noncomputable abbrev TA:=St->Hp->(List V->Hp->Prop)->Prop
structure Ends where
 nx:St->Hp->Prop
 rt:VK
 bk:St->Hp->Prop:=λ_ _=>False
 ct:St->Hp->Prop:=λ_ _=>False
noncomputable abbrev TS:=Ends->St->Hp->Prop
noncomputable def EP(X:Cx)(pins:List (Addr × Obj))(σ:St)(Q:VK)(u:Value)(s':Shared):Prop:=∃v H',Inv X pins σ H' s'/\RelV v u/\Q v H'
noncomputable def TP(X:Cx)(pins:List (Addr × Obj))(σ:St)(Q:Bool->Hp->Prop)(b:Bool)(s':Shared):Prop:=∃H',Inv X pins σ H' s'/\Q b H'
noncomputable def AP(X:Cx)(pins:List (Addr × Obj))(σ:St)(Q:List V->Hp->Prop)(us:List Value)(s':Shared):Prop:=∃vs H',Inv X pins σ H' s'/\Vals vs us/\Q vs H'
noncomputable def SP(X:Cx)(pins:List (Addr × Obj))(D:Ends)(f:Flow)(s':Shared):Prop :=
 match f with
 | .next=>∃aO H',Inv X pins aO H' s'/\D.nx aO H'
 | .brk=>∃aO H',Inv X pins aO H' s'/\D.bk aO H'
 | .cont=>∃aO H',Inv X pins aO H' s'/\D.ct aO H'
 | .ret u=>∃v aO H',Inv X pins aO H' s'/\RelV v u/\D.rt v H'
noncomputable def PE(X:Cx)(e:Expr)(t:TE):Prop :=
 ∀(pins:List (Addr × Obj)) (s:Shared) (σ:St) (H:Hp) (Q:VK),Inv X pins σ H s->t σ H Q->wpAny (model X.prog X.w) X.A (eval e X.env) (EP X pins σ Q) X.xe s
noncomputable def PT(X:Cx)(e:Expr)(t:TT):Prop :=
 ∀(pins:List (Addr × Obj)) (s:Shared) (σ:St) (H:Hp) (Q:Bool->Hp->Prop),Inv X pins σ H s->t σ H Q->wpAny (model X.prog X.w) X.A (isTrue e X.env (eval e X.env)) (TP X pins σ Q) X.xe s
noncomputable def PW(X:Cx)(e:Expr)(t:TT):Prop :=
 ∀(whole:Sem Value) (pins:List (Addr × Obj)) (s:Shared) (σ:St) (H:Hp) (Q:Bool->Hp->Prop),Inv X pins σ H s->t σ H Q->wpAny (model X.prog X.w) X.A (isTrue e X.env whole) (TP X pins σ Q) X.xe s
theorem PW.pt{X:Cx}{e:Expr}{t:TT}(h:PW X e t):PT X e t:=h _
noncomputable def PA(X:Cx)(es:List Expr)(t:TA):Prop :=
 ∀(pos:Pos) (pins:List (Addr × Obj)) (s:Shared) (σ:St) (H:Hp) (Q:List V->Hp->Prop),Inv X pins σ H s->t σ H Q->wpAny (model X.prog X.w) X.A (spliced (backTo pos (starEach es X.env))) (AP X pins σ Q) X.xe s
noncomputable def PS(X:Cx)(st:Stmt)(t:TS):Prop :=
 ∀(pins:List (Addr × Obj)) (s:Shared) (σ:St) (H:Hp) (D:Ends),Inv X pins σ H s->t D σ H->wpAny (model X.prog X.w) X.A (exec st X.env) (SP X pins D) X.xe s
noncomputable def PSs(X:Cx)(st:List Stmt)(t:TS):Prop :=
 ∀(pins:List (Addr × Obj)) (s:Shared) (σ:St) (H:Hp) (D:Ends),Inv X pins σ H s->t D σ H->wpAny (model X.prog X.w) X.A (execs st X.env) (SP X pins D) X.xe s
theorem bc{α:Type}{t:Sem α}{Q Q':α->Shared->Prop}{M:Model}{A:Around}{E:Value->Shared->Prop}{s:Shared}(h:wpAny M A t Q E s)(hQ:∀a s,Q a s->Q' a s):wpAny M A t Q' E s:=wpAny_mono h hQ λ_ _ x=>x
end L2
namespace L2
open PySem PySem.Spec PyProof.Rows
section
variable{X:Cx}
noncomputable def RX(i:Nat):TE:=λσ H Q=>∃v,σ[i]?=some (some v)/\Q v H
noncomputable def tC(v:V):TE:=λ_ H Q=>Q v H
theorem vw{i:Nat}{x:Str}{pos:Pos}(hN:X.N[i]?=some x)(hv:nQ X.env.scope x)(hd:(x==("__debug__":Str))=false:=by decide)(dq:(x==("__classdict__":Str))=false:=by decide):PE X (.Name x pos) (RX i):=by
 intro pins s σ H Q I h
 obtain⟨v,e,h⟩:=h
 obtain⟨m,hn,hl⟩:=I.loc
 obtain⟨u,r,l⟩:=hl i x v hN e hv
 have fin:EP X pins σ Q u s:=⟨v,H,I,r,h⟩
 rcases l with⟨hk,hm⟩ | ⟨hk,c,hc,BU⟩
 ·exact wpAny_Name (wpAny_loadName_local I.ok.kind hk hn hm fin) hd
 ·rcases hk with hk | hk
  ·exact wpAny_Name (wpAny_loadName_cell I.ok.kind hk hc BU fin) hd
  ·exact wpAny_Name (wpAny_loadName_free I.ok.kind hk hc BU fin dq) hd
theorem yV{i j pos}:PE X (.Constant (.int i) j pos) (tC (.int i)):=λ_ _ _ H _ I h=>wpAny_Constant_int ⟨.int i,H,I.tok _,⟨_,rfl⟩,h⟩
theorem cP6{b j pos}:PE X (.Constant (.bool b) j pos) (tC (.bl b)):=λ_ _ _ H _ I h=>Constant_bool ⟨.bl b,H,I,rfl,h⟩
theorem cG7{j pos}:PE X (.Constant .none j pos) (tC .az):=λ_ _ _ H _ I h=>Constant_none ⟨.az,H,I,rfl,h⟩
theorem cI9{x j pos}:PE X (.Constant (.str x) j pos) (tC (.str x)):=λ_ _ _ H _ I h=>Calls.Constant_str ⟨.str x,H,I.tok _,⟨_,rfl⟩,h⟩
noncomputable def Gl(X:Cx)(x:Str):Prop:=X.env.kindOf x=some .globalImplicit
theorem BV{E:Value->Shared->Prop}{pins:List (Addr × Obj)}{s:Shared}{σ:St}{H:Hp}{x:Str}{u:Value}{pos:Pos}{Q:Value->Shared->Prop}(I:Inv X pins σ H s)(hg:Gl X x)(hm:X.mg x=some u)(h:Q u s)
  (hd:(x==("__debug__":Str))=false:=by decide):wpAny (model X.prog X.w) X.A (eval (.Name x pos) X.env) Q E s :=
 cY9 I.ok.kind hg (Calls.loadGlobal_global (by rw[I.ok.glob];exact I.mod.glob.keeps I.bk) hm h) hd
theorem sY{E:Value->Shared->Prop}{pins:List (Addr × Obj)}{s:Shared}{σ:St}{H:Hp}{x:Str}{u:Value}{pos:Pos}{Q:Value->Shared->Prop}(I:Inv X pins σ H s)(hg:Gl X x)(hm:X.mg x=none)(hv:bootBuiltins x=some u)(h:Q u s)
  (hn:x≠"__name__":=by decide) (hd:(x==("__debug__":Str))=false:=by decide):wpAny (model X.prog X.w) X.A (eval (.Name x pos) X.env) Q E s:=by
 obtain⟨mb,h1,h2⟩:=I.mod.blt
 exact cY9 I.ok.kind hg (Calls.loadGlobal_builtin (by rw[I.ok.glob];exact I.mod.glob.keeps I.bk) hm (by rw[I.ok.blt];exact h1.keeps I.bk) ((h2 x hn).trans hv) h) hd
theorem cy2{x:Str}{v:V}{u:Value}{pos:Pos}(hg:Gl X x)(hm:X.mg x=none)(hv:bootBuiltins x=some u)(r:RelV v u)(hn:x≠"__name__":=by decide)(hd:(x==("__debug__":Str))=false:=by decide):PE X (.Name x pos) (tC v) :=
 λ_ _ _ H _ I h=>sY I hg hm hv ⟨v,H,I,r,h⟩ hn hd
variable{a b:Expr}{ta tb:TE}{pos:Pos}
noncomputable def tB(t:TE):TT:=λσ H Q=>t σ H λx H1=>∃c,x=.bl c/\Q c H1
theorem FZ{e:Expr}{t:TE}(h:PE X e t)(he:∀whole,isTrue e X.env whole=(do let v<-whole;standAt e.pos;holding [v] (truthy v)):=by intro _;rfl):PT X e (tB t):=by
 intro pins s σ H Q I hw
 refine isTrue_plain (bc (h pins s σ H _ I hw) λv s1 ⟨x,H1,I1,r1,q1⟩=>?_) (he _)
 obtain⟨d,rfl,q⟩:=q1
 cases r1
 exact wpAny_truthy_bool ⟨H1,I1,q⟩
variable{tA BW:TT}{rest:List Expr}
noncomputable def cV7(t u:TT):TT:=λσ H Q=>t σ H λc H1=>if c=true then u σ H1 Q else Q false H1
noncomputable def tOr(t u:TT):TT:=λσ H Q=>t σ H λc H1=>if c=true then Q true H1 else u σ H1 Q
noncomputable def cU9(t:TT):TT:=λσ H Q=>t σ H λc H1=>Q (!c) H1
theorem cw5(ha:PT X a tA):PW X (.BoolOp .And [a] pos) tA:=by
 intro wh pins s σ H Q I h
 refine isTrue_and (bc (ha pins s σ H Q I h) λc s1 e=>?_)
 cases c with
 | true=>exact isTrue_and_nil e
 | false=>exact e
theorem BX(ha:PT X a tA):PW X (.BoolOp .Or [a] pos) tA:=by
 intro wh pins s σ H Q I h
 refine isTrue_or (bc (ha pins s σ H Q I h) λc s1 e=>?_)
 cases c with
 | false=>exact isTrue_or_nil e
 | true=>exact e
theorem cM4(ha:PT X a tA)(hb:PW X (.BoolOp .And (b::rest) pos) BW):PW X (.BoolOp .And (a::b::rest) pos) (cV7 tA BW):=by
 intro wh pins s σ H Q I h
 refine isTrue_and (bc (ha pins s σ H _ I h) λc s1 ⟨H1,I1,q1⟩=>?_)
 cases c with
 | true=>exact hb wh pins s1 σ H1 Q I1 q1
 | false=>exact⟨H1,I1,q1⟩
theorem cS6(ha:PT X a tA)(hb:PW X (.BoolOp .Or (b::rest) pos) BW):PW X (.BoolOp .Or (a::b::rest) pos) (tOr tA BW):=by
 intro wh pins s σ H Q I h
 refine isTrue_or (bc (ha pins s σ H _ I h) λc s1 ⟨H1,I1,q1⟩=>?_)
 cases c with
 | true=>exact⟨H1,I1,q1⟩
 | false=>exact hb wh pins s1 σ H1 Q I1 q1
theorem Ga(ha:PT X a tA):PT X (.UnaryOp .Not a pos) (cU9 tA):=by
 intro pins s σ H Q I h
 exact isTrue_not (ha pins s σ H (λc H1=>Q (!c) H1) I h)
noncomputable def cS5(ta tb:TE):TE:=λσ H Q=>ta σ H λx H1=>∃c,x=.bl c/\if c=true then tb σ H1 Q else Q (.bl false) H1
noncomputable def cQ2(ta:TE):TE:=λσ H Q=>ta σ H λx H1=>∃c,x=.bl c/\Q (.bl (!c)) H1
theorem BY{op}{t:TE}(h:PE X a t):PE X (.BoolOp op [a] pos) t:=λpins s σ H Q I hw=>BoolOp_one (h pins s σ H Q I hw)
theorem cL3(ha:PE X a ta)(hb:PE X (.BoolOp .And (b::rest) pos) tb):PE X (.BoolOp .And (a::b::rest) pos) (cS5 ta tb):=by
 intro pins s σ H Q I h
 refine BoolOp_and (bc (ha pins s σ H _ I h) λv s1 ⟨x,H1,I1,r1,q1⟩=>?_)
 obtain⟨c,rfl,q1⟩:=q1
 cases r1
 refine wpAny_truthy_bool ?_
 cases c with
 | true=>exact hb pins s1 σ H1 Q I1 q1
 | false=>exact⟨.bl false,H1,I1,rfl,q1⟩
theorem cG1(ha:PE X a ta):PE X (.UnaryOp .Not a pos) (cQ2 ta):=by
 intro pins s σ H Q I h
 refine UnaryOp_ (bc (ha pins s σ H _ I h) λv s1 ⟨x,H1,I1,r1,q1⟩=>?_)
 obtain⟨c,rfl,q1⟩:=q1
 cases r1
 exact not_of (wpAny_truthy_bool ⟨.bl (!c),H1,I1,rfl,q1⟩)
noncomputable def tIf(t:TT)(ta tb:TE):TE:=λσ H Q=>t σ H λc H1=>if c=true then ta σ H1 Q else tb σ H1 Q
theorem cl1{c:Expr}(hc:PT X c tA)(ha:PE X a ta)(hb:PE X b tb):PE X (.IfExp c a b pos) (tIf tA ta tb):=by
 intro pins s σ H Q I h
 refine wpAny_IfExp (bc (hc pins s σ H _ I h) λd s1 ⟨H1,I1,q1⟩=>?_)
 cases d with
 | true=>exact ha pins s1 σ H1 Q I1 q1
 | false=>exact hb pins s1 σ H1 Q I1 q1
end
end L2
namespace L2
open PySem PySem.Spec PyProof.Rows
noncomputable def bS(K:PySem.W.Frag)(H:Hp)(a:Addr)(xs:List V):Prop :=
 Rd H a (.lst xs) \/
  ∃(o:Obj) (its:Array Value) (n:Nat),K.lookup a=some o/\o.cls=.type "list"/\o.dict=none/\o.data=.seq its n/\its.size<=sizeLine/\Vals xs its.toList
noncomputable def ik(K:PySem.W.Frag)(H:Hp)(a:Addr)(xs:List V):Prop :=
 Rd H a (.tup xs) \/
  ∃(o:Obj) (its:Array Value) (n:Nat),K.lookup a=some o/\o.cls=.type "tuple"/\o.data=.seq its n/\its.size<=sizeLine/\Vals xs its.toList
noncomputable def cW7:Value->Option V
 | .none=>some .az
 | .bool b=>some (.bl b)
 | .int i _=>some (.int i)
 | .str x _=>some (.str x)
 | .bytes b _=>some (.BO b)
 | .float b _=>some (.sV b)
 | .ref a=>some (.ref a)
 | .type n=>some (.ty n)
 | _=>none
theorem RelV.abs{x:V}{u:Value}(r:RelV x u):cW7 u=some x:=by
 cases x with
 | az=>cases r;rfl
 | bl _=>cases r;rfl
 | int _=>obtain⟨t,rfl⟩:=r;rfl
 | str _=>obtain⟨t,rfl⟩:=r;rfl
 | BO _=>obtain⟨t,rfl⟩:=r;rfl
 | sV _=>obtain⟨t,rfl⟩:=r;rfl
 | ref _=>cases r;rfl
 | ty _=>cases r;rfl
theorem RelV.inj{x y:V}{u:Value}(r:RelV x u)(q:RelV y u):x=y:=cX (r.abs.symm.trans q.abs)
theorem Vals.inj:∀{xs ys:List V} {us:List Value},Vals xs us->Vals ys us->xs=ys
 | _,_,_,.nil,.nil=>rfl
 | _,_,_,.cons r t,.cons r' t'=>by rw[r.inj r',Vals.inj t t']
section
variable{X:Cx}{pins:List (Addr × Obj)}{σ:St}{H:Hp}{s:Shared}{a:Addr}{xs ys:List V}
theorem bS.of{K:PySem.W.Frag}(h:H a=some (.lst xs)):bS K H a xs:=.inl (.inl h)
theorem ik.of{K:PySem.W.Frag}(h:H a=some (.tup xs)):ik K H a xs:=.inl (.inl h)
theorem Inv.list(I:Inv X pins σ H s)(h:bS X.K H a xs):∃its:List Value,Vals xs its/\PlainL s.heap a its.toArray/\xs.length<=sizeLine:=by
 rcases h with h | ⟨o,its,n,hk,hc,hd,hs,hz,r⟩
 ·obtain⟨z,its,n,r,e⟩:=h.ok I.aR
  exact⟨its,r,⟨_,n,e,rfl,rfl,rfl⟩,z⟩
 ·refine⟨its.toList,r,⟨o,n,I.dA a o hk,hc,hd,by simpa using hs⟩,?_⟩
  have e:=r.length
  simp only[yB]at e
  omega
theorem Inv.tuple(I:Inv X pins σ H s)(h:ik X.K H a xs):∃its:List Value,Vals xs its/\IsTup s.heap a its.toArray/\xs.length<=sizeLine:=by
 rcases h with h | ⟨o,its,n,hk,hc,hs,hz,r⟩
 ·obtain⟨z,its,r,p⟩:=h.ok I.aR
  exact⟨its,r,p,z⟩
 ·refine⟨its.toList,r,⟨o,I.dA a o hk,hc,n,by simpa using hs⟩,?_⟩
  have e:=r.length
  simp only[yB]at e
  omega
theorem Inv.BZ(I:Inv X pins σ H s)(h:bS X.K H a xs)(h':bS X.K H a ys):xs=ys:=by
 obtain⟨its,r,⟨o,n,e,_,_,d⟩,_⟩:=I.list h
 obtain⟨its',r',⟨o',n',e',_,_,d'⟩,_⟩:=I.list h'
 rw[e]at e';cases e'
 rw[d]at d'
 injection d' with d1 _
 have:its=its':=by simpa using congrArg Array.toList d1
 subst this
 exact r.inj r'
end
noncomputable abbrev Cx.kh(X:Cx)(E:Value->Shared->Prop):Cx:={ X with xe:=E }
noncomputable abbrev Cx.gR(X:Cx):Cx:=X.kh λ_ _=>False
theorem Cx.Ok.kh{X:Cx}(ok:X.Ok)(E:Value->Shared->Prop):(X.kh E).Ok :=
 ⟨ok.mod,ok.kind,ok.glob,ok.blt,ok.above,ok.inj,ok.has,ok.sX,ok.hd,ok.frames,ok.yP,ok.yQ,ok.bs,ok.ke,ok.vq,ok.vt,ok.gQ,ok.kg⟩
theorem Cx.Ok.mr{X:Cx}{E:Value->Shared->Prop}(ok:(X.kh E).Ok):X.Ok :=
 ⟨ok.mod,ok.kind,ok.glob,ok.blt,ok.above,ok.inj,ok.has,ok.sX,ok.hd,ok.frames,ok.yP,ok.yQ,ok.bs,ok.ke,ok.vq,ok.vt,ok.gQ,ok.kg⟩
section
variable{X:Cx}{pins:List (Addr × Obj)}{σ:St}{H:Hp}{s:Shared}{E:Value->Shared->Prop}
theorem Inv.kh(I:Inv X pins σ H s)(E:Value->Shared->Prop):Inv (X.kh E) pins σ H s:=⟨I.ok.kh E,I.os,I.bare,I.base,I.loc,I.cell,I.free,I.jP,I.pin,I.aR,I.len⟩
theorem Inv.mr(I:Inv (X.kh E) pins σ H s):Inv X pins σ H s:=⟨I.ok.mr,I.os,I.bare,I.base,I.loc,I.cell,I.free,I.jP,I.pin,I.aR,I.len⟩
theorem SP.mr{D:Ends}{f:Flow}{s':Shared}(h:SP (X.kh E) pins D f s'):SP X pins D f s':=by
 cases f with
 | next=>obtain⟨aO,H',I,q⟩:=h;exact⟨aO,H',I.mr,q⟩
 | brk=>obtain⟨aO,H',I,q⟩:=h;exact⟨aO,H',I.mr,q⟩
 | cont=>obtain⟨aO,H',I,q⟩:=h;exact⟨aO,H',I.mr,q⟩
 | ret u=>obtain⟨v,aO,H',I,r,q⟩:=h;exact⟨v,aO,H',I.mr,r,q⟩
theorem PE.gR{e:Expr}{t:TE}(h:PE X.gR e t):PE X e t:=λpins s σ H Q I hw =>
 wpAny_mono (h pins s σ H Q (I.kh _) hw) (λ_ _ ⟨v,H',I',r,q⟩=>⟨v,H',I'.mr,r,q⟩) λ_ _ z=>fV z
theorem PSs.gR{st:List Stmt}{t:TS}(h:PSs X.gR st t):PSs X st t:=λpins s σ H D I hw =>
 wpAny_mono (h pins s σ H D (I.kh _) hw) (λ_ _ q=>q.mr) λ_ _ z=>fV z
end
section
variable{X:Cx}{st:Stmt}{rest:List Stmt}{t u:TS}{e:Expr}{te:TE}{pos:Pos}
noncomputable def cT2:TS:=λD σ H=>D.nx σ H
noncomputable def cV5(t u:TS):TS:=λD σ H=>t { D with nx:=u D } σ H
theorem Gb:PSs X [] cT2:=λ_ _ σ H _ I h=>wpAny_execs_nil ⟨σ,H,I,h⟩
theorem kR(h1:PS X st t)(h2:PSs X rest u):PSs X (st::rest) (cV5 t u):=by
 intro pins s σ H D I h
 refine wpAny_execs_cons (bc (h1 pins s σ H { D with nx:=u D } I h) λf s1 q=>?_)
 cases f with
 | next =>
  obtain⟨aO,H',I',q⟩:=q
  exact h2 pins s1 aO H' D I' q
 | ret v=>exact q
 | brk=>exact q
 | cont=>exact q
theorem vx(h1:PS X st t):PSs X [st] t:=by
 intro pins s σ H D I h
 refine wpAny_execs_cons (bc (h1 pins s σ H D I h) λf s1 q=>?_)
 cases f with
 | next=>exact wpAny_execs_nil q
 | ret v=>exact q
 | brk=>exact q
 | cont=>exact q
theorem Inv.quiet{pins:List (Addr × Obj)}{σ:St}{H:Hp}{s:Shared}(I:Inv X pins σ H s):interactive X.env=false:=by simp[interactive,I.ok.kind]
noncomputable def cR5(te:TE):TS:=λD σ H=>te σ H λ_ H1=>D.nx σ H1
theorem Gd(he:PE X e te)(hs:swapsWith e none pos.line X.env=pure false:=by rfl):PS X (.Expr e pos) (cR5 te):=by
 intro pins s σ H D I h
 exact wpAny_Expr_any (bc (he pins s σ H _ I h) λv s1 ⟨x,H1,I1,r1,q1⟩=>⟨σ,H1,I1,q1⟩) I.quiet hs
noncomputable def cV9(te:TE):TS:=λD σ H=>te σ H D.rt
theorem cN1(he:PE X e te):PS X (.Return (some e) pos) (cV9 te):=by
 intro pins s σ H D I h
 exact wpAny_Return_some (bc (he pins s σ H _ I h) λv s1 ⟨x,H1,I1,r1,q1⟩=>⟨x,σ,H1,I1,r1,q1⟩)
noncomputable def cW0(c:TT)(t u:TS):TS:=λD σ H=>c σ H λb H1=>if b=true then t D σ H1 else u D σ H1
theorem Ge{c:Expr}{a b:List Stmt}{tc:TT}(hc:PT X c tc)(ha:PSs X a t)(hb:PSs X b u):PS X (.If c a b pos) (cW0 tc t u):=by
 intro pins s σ H D I h
 refine wpAny_If (bc (hc pins s σ H _ I h) λd s1 ⟨H1,I1,q1⟩=>?_)
 cases d with
 | true=>exact ha pins s1 σ H1 D I1 q1
 | false=>exact hb pins s1 σ H1 D I1 q1
noncomputable def cF7:TS:=λ_ _ _=>False
theorem RY:PS X st cF7:=λ_ _ _ _ _ _ h=>h.elim
end
noncomputable abbrev TG:=V->St->Hp->(St->Hp->Prop)->Prop
noncomputable abbrev sZ:=List V->St->Hp->(St->Hp->Prop)->Prop
noncomputable def PG(X:Cx)(target:Expr)(t:TG):Prop :=
 ∀(pins:List (Addr × Obj)) (s:Shared) (σ:St) (H:Hp) (v:V) (u:Value) (Q:St->Hp->Prop),Inv X pins σ H s->RelV v u->t v σ H Q ->
  wpAny (model X.prog X.w) X.A (assign target X.env u) (λ_ s'=>∃aO H',Inv X pins aO H' s'/\Q aO H') X.xe s
noncomputable def B0(X:Cx)(ts:List Expr)(t:sZ):Prop :=
 ∀(pins:List (Addr × Obj)) (s:Shared) (σ:St) (H:Hp) (vs:List V) (us:List Value) (Q:St->Hp->Prop),Inv X pins σ H s->Vals vs us->t vs σ H Q ->
  wpAny (model X.prog X.w) X.A (assignInOrder ((assignEach ts X.env).map (·.2)) us) (λ_ s'=>∃aO H',Inv X pins aO H' s'/\Q aO H') X.xe s
noncomputable abbrev Gf:=V->V->V->Hp->(Hp->Prop)->Prop
noncomputable def RZ(X:Cx)(t:Gf):Prop :=
 ∀(pins:List (Addr × Obj)) (s:Shared) (σ:St) (H:Hp) (o i v:V) (ov iv u:Value) (Q:Hp->Prop),Inv X pins σ H s->RelV o ov->RelV i iv->RelV v u->t o i v H Q ->
  wpAny (model X.prog X.w) X.A (setItem ov iv u) (λ_ s'=>∃H',Inv X pins σ H' s'/\Q H') X.xe s
noncomputable abbrev Gg:=V->V->Hp->VK->Prop
noncomputable def PIp(X:Cx)(op:Operator)(t:Gg):Prop :=
 ∀(pins:List (Addr × Obj)) (s:Shared) (σ:St) (H:Hp) (x y:V) (v u:Value) (Q:VK),Inv X pins σ H s->RelV x v->RelV y u->t x y H Q ->
  wpAny (model X.prog X.w) X.A (inplaceOp op v u) (EP X pins σ Q) X.xe s
section
variable{X:Cx}{pos:Pos}
noncomputable def B3(i:Nat):TG:=λv σ H Q=>Q (σ.set i (some v)) H
theorem B4{i:Nat}{x:Str}(hN:X.N.Nodup)(hi:X.N[i]?=some x)(hx:Loc X.env.scope x)(hf:X.fn x=true\/X.env.scope.names.lookup x=some .local:=by first | exact .inl rfl | exact .inr rfl | assumption):PG X (.Name x pos) (B3 i):=by
 intro pins s σ H v u Q I r h
 exact wpAny_assign_Name (FY I hN hi hx r (λs' I'=>⟨_,H,I',h⟩) hf)
noncomputable def cX2:sZ:=λvs σ H Q=>vs=[]/\Q σ H
noncomputable def cQ7(t:TG)(u:sZ):sZ:=λvs σ H Q=>∃v r,vs=v::r/\t v σ H λaO H'=>u r aO H' Q
theorem cx4:B0 X [] cX2:=by
 intro pins s σ H vs us Q I r h
 obtain⟨e,h⟩:=h
 subst e
 cases r
 exact assignInOrder_nil ⟨σ,H,I,h⟩
theorem R0{e:Expr}{es:List Expr}{t:TG}{u:sZ}(h1:PG X e t)(h2:B0 X es u)
  (hs:(assignEach (e::es) X.env).map (·.2)=assign e X.env::(assignEach es X.env).map (·.2):=by rfl):B0 X (e::es) (cQ7 t u):=by
 intro pins s σ H vs us Q I r h
 obtain⟨v,vr,e1,h⟩:=h
 subst e1
 cases r with
 | cons r rr =>
  rw[hs]
  refine assignInOrder_cons (bc (h1 pins s σ H _ _ _ I r h) λ_ s1 ⟨gS,H1,I1,q1⟩=>?_)
  exact h2 pins s1 gS H1 _ _ Q I1 rr q1
noncomputable def cW1(K:PySem.W.Frag)(n:Nat)(t:sZ):TG:=λv σ H Q=>∃a xs,v=.ref a/\ik K H a xs/\xs.length=n/\t xs σ H Q
theorem cI3{es:List Expr}{k:Nat}{t:sZ}{n:Nat}(hc:X.calm=true)(h:B0 X es t)
  (hn:(assignEach es X.env).length=n:=by rfl) (dB:(assignEach es X.env).findIdx? (·.1)=none:=by rfl):PG X (.Tuple es k pos) (cW1 X.K n t):=by
 intro pins s σ H v u Q I r hw
 obtain⟨a,xs,e1,hq,hl,hw⟩:=hw
 subst e1
 cases r
 obtain⟨its,rv,ht,hz⟩:=I.tuple hq
 refine assign_Tuple_tuple (I.ok.hd hc) ht (by simp[hn,<- hl,rv.length]) dB λh' hx=>?_
 have I1:Inv X pins σ H { s with heap:=h' }:=I.kept (t':=s.toks) λb o e=>hx b o (fo (bW e)) e
 exact h pins _ σ H xs _ Q I1 (by simpa using rv) hw
noncomputable def cX3(to ti:TE)(t:Gf):TG:=λv σ H Q=>to σ H λo H1=>ti σ H1 λi H2=>t o i v H2 λH3=>Q σ H3
theorem cG6{o i:Expr}{to ti:TE}{t:Gf}(ho:PE X o to)(hi:PE X i ti)(hs:RZ X t)
  (ha:∀v,assign (.Subscript o i pos) X.env v=(do
   let ov<-holding [v] (eval o X.env)
   let iv<-holding [v,ov] (eval i X.env)
   standAt pos
   holding [v,ov,iv] (setItem ov iv v)
   release [v,ov,iv] []):=by intro _;rfl):PG X (.Subscript o i pos) (cX3 to ti t):=by
 intro pins s σ H v u Q I r h
 rw[ha]
 refine wpAny_bind (wpAny_holding (bc (ho pins s σ H _ I h) λov s1 ⟨x,H1,I1,r1,q1⟩=>?_))
 refine wpAny_bind (wpAny_holding (bc (hi pins s1 σ H1 _ I1 q1) λiv s2 ⟨y,H2,I2,r2,q2⟩=>?_))
 refine wpAny_bind (wpAny_standAt (wpAny_bind (wpAny_holding (bc (hs pins s2 σ H2 x y v ov iv u _ I2 r1 r2 r q2) λ_ s3 ⟨H3,I3,q3⟩=>?_))))
 exact wpAny_release ⟨σ,H3,I3,q3⟩
noncomputable def Gh(te:TE)(g:TG):TS:=λD σ H=>te σ H λx H1=>g x σ H1 D.nx
theorem cK0{tg e:Expr}{te:TE}{g:TG}(he:PE X e te)(hg:PG X tg g)(hs:swapsWithSole [tg] e pos.line X.env=pure false:=by rfl)(hw:swappedStores [tg] e X.env=pure none:=by rfl)
  (h1:(assignEach [tg] X.env).map (·.2)=[assign tg X.env]:=by rfl):PS X (.Assign [tg] e pos) (Gh te g):=by
 intro pins s σ H D I h
 refine wpAny_Assign_stores (bc (he pins s σ H _ I h) λv s1 ⟨x,H1,I1,r1,q1⟩=>?_) hs hw
 rw[h1]
 exact bc (hg pins s1 σ H1 x v _ I1 r1 q1) λ_ s2 q=>q
theorem R1{i:Nat}{x:Str}{e:Expr}{te:TE}{pos':Pos}(hN:X.N.Nodup)(hi:X.N[i]?=some x)(hx:Loc X.env.scope x)(he:PE X e te)(hs:swapsWith e (some (.Name x pos')) pos.line X.env=pure false:=by rfl)(hf:X.fn x=true\/X.env.scope.names.lookup x=some .local:=by first | exact .inl rfl | exact .inr rfl | assumption) :
  PS X (.Assign [.Name x pos'] e pos) (Gh te (B3 i)):=by
 intro pins s σ H D I h
 refine wpAny_Assign_Name (bc (he pins s σ H _ I h) λv s1 ⟨y,H1,I1,r1,q1⟩=>?_) hs
 exact FY I1 hN hi hx r1 (λs2 I2=>⟨_,H1,I2,q1⟩) hf
noncomputable def cX1(i:Nat)(te:TE)(ti:Gg):TS:=λD σ H=>∃x,σ[i]?=some (some x)/\te σ H λy H1=>ti x y H1 λz H2=>D.nx (σ.set i (some z)) H2
theorem cF1{i:Nat}{x:Str}{e:Expr}{te:TE}{op:Operator}{ti:Gg}{pos':Pos}(hN:X.N.Nodup)(hi:X.N[i]?=some x)(hx:Loc X.env.scope x)(he:PE X e te)(ho:PIp X op ti)(hf:X.fn x=true\/X.env.scope.names.lookup x=some .local:=by first | exact .inl rfl | exact .inr rfl | assumption) :
  PS X (.AugAssign (.Name x pos') op e pos) (cX1 i te ti):=by
 intro pins s σ H D I h
 obtain⟨v,e1,h⟩:=h
 obtain⟨m,hn,hl⟩:=I.loc
 have vis:nQ X.env.scope x:=by rcases hx with k | k;exact .inl k;exact .inr (.inl k)
 obtain⟨u,r,l⟩:=hl i x v hi e1 vis
 refine wpAny_AugAssign_Name ?_
 have go:wpAny (model X.prog X.w) X.A (eval e X.env) (λw kS=>wpAny (model X.prog X.w) X.A (inplaceOp op u w) (λr de1=>wpAny (model X.prog X.w) X.A (storeName X.env x r) (λ_=>SP X pins D .next) X.xe de1) X.xe kS) X.xe s:=by
  refine bc (he pins s σ H _ I h) λw s1 ⟨y,H1,I1,r1,q1⟩=>?_
  refine bc (ho pins s1 σ H1 v y u w _ I1 r r1 q1) λz s2 ⟨zv,H2,I2,r2,q2⟩=>?_
  exact FY I2 hN hi hx r2 (λs3 I3=>⟨_,H2,I3,q2⟩) hf
 rcases l with⟨hk,hm⟩ | ⟨hk,c,hc,BU⟩
 ·exact wpAny_loadName_local I.ok.kind hk hn hm go
 ·rcases hk with hk | hk
  ·exact wpAny_loadName_cell I.ok.kind hk hc BU go
  ·rcases hx with k | k
   ·have:X.env.scope.names.lookup x=some .free:=hk
    rw[k]at this;cases this
   ·have:X.env.scope.names.lookup x=some .free:=hk
    rw[k]at this;cases this
end
section
variable{X:Cx}{pos:Pos}
noncomputable def cM9(c:TT)(tb:TS):TS:=λD σ H=>∃W:Nat->St->Hp->Prop,(∃m,W m σ H)/\∀m σ H,W m σ H ->
 c σ H λb H1=>if b=true then ∃N:St->Hp->Prop,(∀aO H',N aO H'->∃m',m'<m/\W m' aO H')/\tb { D with nx:=N,ct:=N,bk:=D.nx } σ H1 else D.nx σ H1
theorem ce2{c:Expr}{body:List Stmt}{tc:TT}{tb:TS}(hp:PassesOwn (model X.prog X.w) X.A X.env X.xe)(hc:PT X c tc)(hb:PSs X body tb):PS X (.While c body [] pos) (cM9 tc tb):=by
 intro pins s σ H D I h
 obtain⟨W,⟨m0,w0⟩,turn⟩:=h
 refine wpAny_While (codeAny_whileLoop (λn s'=>∃aO H',Inv X pins aO H' s'/\W n aO H') ?_ m0 ⟨σ,H,I,w0⟩)
 rintro n s1 ⟨gS,H1,I1,w1⟩
 refine wpAny_passesOwn hp (bc (hc pins s1 gS H1 _ I1 (turn n gS H1 w1)) λb s2 ⟨H2,I2,q2⟩=>?_)
 cases b with
 | true =>
  obtain⟨N,hN,q2⟩:=q2
  rw[if_pos rfl]
  refine wpAny_passesOwn hp (bc (hb pins s2 gS H2 _ I2 q2) λf s3 q3=>?_)
  cases f with
  | next =>
   obtain⟨kT,H3,I3,n3⟩:=q3
   obtain⟨m',hm,w3⟩:=hN kT H3 n3
   exact⟨m',hm,kT,H3,I3,w3⟩
  | cont =>
   obtain⟨kT,H3,I3,n3⟩:=q3
   obtain⟨m',hm,w3⟩:=hN kT H3 n3
   exact⟨m',hm,kT,H3,I3,w3⟩
  | brk=>exact q3
  | ret v=>exact q3
 | false =>
  rw[if_neg fW]
  exact wpAny_execs_nil ⟨gS,H2,I2,q2⟩
end
structure It where
 go:Nat->Hp->Prop
 ki:Nat->Hp->V->Hp->Prop
 stop:Nat->Hp->Prop
noncomputable def js(X:Cx)(pins:List (Addr × Obj))(H:Hp)(b:Addr):Prop :=
 H b=none/\b≠X.env.locals/\b ∉ X.fs/\(b∈X.ex\/X.cT.heap.objs.size<=b)/\(∀x c,X.env.cells.lookup x=some c->c≠b)/\∀p∈X.pn++pins,p.1≠b
theorem Inv.B5{X:Cx}{pins:List (Addr × Obj)}{σ:St}{H H':Hp}{s:Shared}{b:Addr}(I:Inv X pins σ H s)(hb:s.heap.objs.size<=b)(hn:H' b=none):js X pins H' b:=by
 refine⟨hn,Q6 (dv I.lt hb),I.RN hb,.inr (eP I.sz hb),λx c e z=>?_,λp hp z=>?_⟩
 ·obtain⟨v,q⟩:=I.cell x c e
  exact absurd (dv q.lt (by rw[z];exact hb)) (fK _)
 ·exact absurd (dv (bW (I.pin p hp).1) (by rw[z];exact hb)) (fK _)
structure Turn(P:Program)(w:World)(K:PySem.W.Frag)(tg:Expr)(J:It)(fp:List Addr)(it:Addr)(tn:Nat->Heap->Prop):Prop where
 mem:it∈fp
 obj:∀i h,tn i h->∀b∈fp,∃o,h.get? b=some o/\∀v,o.data≠.cell v
 keep:∀i h h',tn i h->(∀b∈fp,∀o,h.get? b=some o->h'.get? b=some o)->tn i h'
 item:∀(X:Cx),X.prog=P->X.w=w->X.K=K->X.calm=true->∀(i:Nat) (pins:List (Addr × Obj)) (s:Shared) (σ:St) (H:Hp) (E:Value->Shared->Prop),Inv X pins σ H s->(∀b∈fp,js X pins H b)->tn i s.heap->J.go i H ->
  wpAny (model P w) X.A (pyNext (.ref it)) (λr s1=>∃u,r=some u /\
   wpAny (model P w) X.A (letOwnedTupleGo tg (.ref it) u) (λ_ s2=>∃x H',Inv X pins σ H' s2/\RelV x u/\J.ki i H x H'/\tn (i+1) s2.heap/\∀b∈fp,H' b=none) E s1) E s
 done:∀(X:Cx),X.prog=P->X.w=w->X.K=K->X.calm=true->∀(i:Nat) (pins:List (Addr × Obj)) (s:Shared) (σ:St) (H:Hp) (E:Value->Shared->Prop),Inv X pins σ H s->(∀b∈fp,js X pins H b)->tn i s.heap->J.stop i H ->
  wpAny (model P w) X.A (pyNext (.ref it)) (λr s1=>r=none/\Inv X pins σ H s1) E s
 self:∀(A:Around) (i:Nat) (s:Shared) (Q:Value->Shared->Prop) (E:Value->Shared->Prop),tn i s.heap->Q (.ref it) s->wpAny (model P w) A (pyIter (.ref it)) Q E s
noncomputable abbrev TI:=St->Hp->(It->Hp->Prop)->Prop
noncomputable def R3(X:Cx)(pins:List (Addr × Obj))(σ:St)(tg:Expr)(R:It->Hp->Prop)(Gi:Value)(s2:Shared):Prop :=
 ∃(it:Addr) (fp:List Addr) (tn:Nat->Heap->Prop) (J:It) (H':Hp),Gi=.ref it/\Inv X pins σ H' s2/\Turn X.prog X.w X.K tg J fp it tn/\tn 0 s2.heap/\(∀b∈fp,js X pins H' b)/\R J H'
noncomputable def PI(X:Cx)(tg iter:Expr)(wi:TI):Prop :=
 ∀(pins:List (Addr × Obj)) (s:Shared) (σ:St) (H:Hp) (R:It->Hp->Prop),Inv X pins σ H s->wi σ H R ->
  wpAny (model X.prog X.w) X.A (eval iter X.env) (λv s1=>wpAny (model X.prog X.w) X.A (pyIter v) (R3 X pins σ tg R) X.xe s1) X.xe s
theorem R4{M:Model}{A:Around}{E:Value->Shared->Prop}{s:Shared}{tg:Expr}{it:Addr}{u:Value}{o:Obj}{n:String}{vs:Array Value}{Q:Unit->Shared->Prop}(ho:s.heap.get? it=some o)(hc:o.cls=.type n)(hd:o.data=.fields vs)
  (hn:["enumerate","zip","dict_itemiterator","dict_reverseitemiterator","odict_iterator","itertools.zip_longest","itertools.pairwise"].contains n=false) (hQ:Q () s):wpAny M A (letOwnedTupleGo tg (.ref it) u) Q E s:=by
 unfold letOwnedTupleGo
 cases tg<;>first
  | exact wpAny_pure hQ
  | (cases u<;>first
    | exact wpAny_pure hQ
    | (refine wpAny_bind (wpAny_load ho ?_)
       rw[hc,hd]
       show wpAny M A (if(["enumerate","zip","dict_itemiterator","dict_reverseitemiterator","odict_iterator","itertools.zip_longest","itertools.pairwise"].contains n&&vs[0]?==some (rawInt _))=true then _ else _) Q E s
       rw[if_neg (by intro h;rw[hn,sA]at h;cases h)]
       exact wpAny_pure hQ))
noncomputable def Gj(K:PySem.W.Frag)(a:Addr):It :=
 ⟨λi H=>∃xs x,bS K H a xs/\xs[i]?=some x,λi H x H'=>H'=H/\∀xs,bS K H a xs->xs[i]?=some x,λi H=>∃xs,bS K H a xs/\xs.length<=i⟩
noncomputable def yW(lo:Int)(n:Nat):It:=⟨λi _=>i<n,λi H x H'=>H'=H/\x=.int (lo+i),λi _=>n<=i⟩
theorem b06{P:Program}{w:World}{K:PySem.W.Frag}{tg:Expr}(a it:Addr):Turn P w K tg (Gj K a) [it] it (λi h=>h.IsListIter it a i) where
 mem:=by simp
 obj:=λi h st b hb=>by
  have e:b=it:=by simpa using hb
  subst e
  obtain⟨o,e,c,d⟩:=st
  exact⟨o,e,λv z=>by rw[d]at z;cases z⟩
 keep:=λi h h' st k=>st.at λo e=>k it (by simp) o e
 item:=by
  intro X hP hw hK hc i pins s σ H E I hf st hg
  subst hP hw hK
  obtain⟨xs,x,hq,hx⟩:=hg
  obtain⟨its,rv,p,hz⟩:=I.list hq
  obtain⟨u,hu,ru⟩:=rv.get hx
  obtain⟨f0,f1,f2,f3,f4,f5⟩:=hf it (by simp)
  refine wpAny_pyNext_list_item st p.isList (x:=u) (by simpa using hu) λh' qj sb=>?_
  have I1:Inv X pins σ H { s with heap:=h' }:=I.turned (t':=s.toks) (λb o hb e=>(sb.2 b hb).trans e) f0 f1 f3 f4 f5
  obtain⟨o,e,c,d⟩:=id qj
  exact⟨u,rfl,R4 (s:={ s with heap:=h' }) e c d (by decide) ⟨x,H,I1,ru,⟨rfl,λys hy=>by rw[I.BZ hy hq];exact hx⟩,qj,λb hb=>(hf b hb).1⟩⟩
 done:=by
  intro X hP hw hK hc i pins s σ H E I hf st hg
  subst hP hw hK
  obtain⟨xs,hq,hx⟩:=hg
  obtain⟨its,rv,p,hz⟩:=I.list hq
  obtain⟨f0,f1,f2,f3,f4,f5⟩:=hf it (by simp)
  have hl:=rv.length
  exact wpAny_pyNext_list_end (I.ok.hd hc) st p.isList (by simp;omega) λh' eb=>⟨rfl,I.turned (t':=s.toks) (λb o hb e=>eb b o hb e) f0 f1 f3 f4 f5⟩
 self:=λ_ _ _ _ _ st h=>wpAny_pyIter_listiter st h
theorem bT9{P:Program}{w:World}{K:PySem.W.Frag}{tg:Expr}(it:Addr)(lo:Int)(n:Nat):Turn P w K tg (yW lo n) [it] it (λi h=>IsRangeIter h it (lo+(i:Nat)*1) ((n:Int)-(i:Nat)) 1) where
 mem:=by simp
 obj:=λi h st b hb=>by
  have e:b=it:=by simpa using hb
  subst e
  exact⟨_,st,λv z=>by
   have z':Data.fields _=Data.cell v:=z
   cases z'⟩
 keep:=λi h h' st k=>k it (by simp) _ st
 item:=by
  intro X hP hw hK hc i pins s σ H E I hf st hg
  subst hP hw hK
  obtain⟨f0,f1,f2,f3,f4,f5⟩:=hf it (by simp)
  have W:=Walks.range (prog:=X.prog) (w:=X.w) (I.ok.hd hc) it lo 1 n
  refine W.item i s _ _ hg st λv h' tk hv qj kk=>?_
  obtain⟨t,rfl⟩:=hv
  have I1:Inv X pins σ H { s with heap:=h',toks:=tk }:=I.turned (λb o hb e=>kk b o (by simpa using hb) e) f0 f1 f3 f4 f5
  refine⟨_,rfl,R4 (s:={ s with heap:=h',toks:=tk }) (n:="range_iterator") qj rfl rfl (by decide) ⟨.int (lo+i),H,I1,⟨t,?_⟩,⟨rfl,rfl⟩,qj,λb hb=>(hf b hb).1⟩⟩
  rw[Int.mul_one]
 done:=by
  intro X hP hw hK hc i pins s σ H E I hf st hg
  subst hP hw hK
  obtain⟨f0,f1,f2,f3,f4,f5⟩:=hf it (by simp)
  exact wpAny_pyNext_range_end (I.ok.hd hc) st (by have:n<=i:=hg;omega) λh' eb=>⟨rfl,I.turned (t':=s.toks) (λb o hb e=>eb b o hb e) f0 f1 f3 f4 f5⟩
 self:=λ_ _ _ _ _ st h=>wpAny_pyIter_rangeiter st h
end L2
namespace L2
open PySem PySem.Spec PyProof.Rows
section
variable{X:Cx}{tg:Expr}
noncomputable def cN9(K:PySem.W.Frag)(tl:TE):TI:=λσ H R=>tl σ H λx H1=>∃a,x=.ref a/\(∃xs,bS K H1 a xs)/\R (Gj K a) H1
theorem R5{l:Expr}{tl:TE}(hl:PE X l tl):PI X tg l (cN9 X.K tl):=by
 intro pins s σ H R I h
 refine bc (hl pins s σ H _ I h) λv s1 ⟨x,H1,I1,r1,q1⟩=>?_
 obtain⟨a,e,⟨xs,hq⟩,q⟩:=q1
 subst e
 cases r1
 obtain⟨its,rv,p,hz⟩:=I1.list hq
 refine wpAny_pyIter_list p.isList ?_
 refine⟨s1.heap.objs.size,[s1.heap.objs.size],_,_,H1,rfl,I1.kept (t':=s1.toks) λb o e=>fL _ e,b06 a _,⟨_,gJ _ rfl,rfl,rfl⟩,λb hb=>?_,q⟩
 have e:b=s1.heap.objs.size:=by simpa using hb
 subst e
 exact I1.B5 (bN _) (I1.aR.fresh (bN _))
theorem R6{pins:List (Addr × Obj)}{σ:St}{H:Hp}{s:Shared}{R:It->Hp->Prop}{E:Value->Shared->Prop}{lo hi:Int}{t u v:Tok}{tk:Nat}(I:Inv X pins σ H s)(h1:-(2 ^ 62)<=lo)(h2:lo<2 ^ 62)(h3:-(2 ^ 62)<=hi)(h4:hi<2 ^ 62)
  (q:R (yW lo (hi-lo).toNat) H):wpAny (model X.prog X.w) X.A (pyIter (.ref s.heap.objs.size)) (R3 X pins σ tg R) E { s with heap:=s.heap.push { cls:=.type "range",data:=.fields #[.int lo t,.int hi u,.int 1 v] },toks:=tk }:=by
 refine wpAny_pyIter_range (IsRange.new ..) (small_one h1 h2 h3 h4) ?_
 have I1:Inv X pins σ H { s with heap:=s.heap.push { cls:=.type "range",data:=.fields #[.int lo t,.int hi u,.int 1 v] },toks:=tk }:=I.kept λb o e=>fL _ e
 refine⟨(s.heap.push { cls:=.type "range",data:=.fields #[.int lo t,.int hi u,.int 1 v] }).objs.size,[(s.heap.push { cls:=.type "range",data:=.fields #[.int lo t,.int hi u,.int 1 v] }).objs.size],_,_,H,rfl,
  I1.kept (t':=tk) λb o e=>fL _ e,bT9 _ lo (hi-lo).toNat,?_,λb hb=>?_,q⟩
 ·have e1:lo+((0:Nat):Int)*1=lo:=by simp
  have e2:(((hi-lo).toNat:Nat):Int)-((0:Nat):Int)=Builtin.Range.rangeSize lo hi 1:=by rw[rangeSize_one];split<;>omega
  show IsRangeIter _ _ (lo+((0:Nat):Int)*1) ((((hi-lo).toNat:Nat):Int)-((0:Nat):Int)) 1
  rw[e1,e2]
  exact gJ _ rfl
 ·have e:b=(s.heap.push { cls:=.type "range",data:=.fields #[.int lo t,.int hi u,.int 1 v] }).objs.size:=by simpa using hb
  subst e
  exact I1.B5 (bN _) (I1.aR.fresh (bN _))
noncomputable def cR7(ta:TA):TI:=λσ H R=>ta σ H λvs H1=>∃j:Int,vs=[.int j]/\-(2 ^ 62)<=j/\j<2 ^ 62/\R (yW 0 j.toNat) H1
noncomputable def cR8(ta:TA):TI:=λσ H R=>ta σ H λvs H1=>∃i j:Int,vs=[.int i,.int j]/\(-(2 ^ 62)<=i/\i<2 ^ 62/\-(2 ^ 62)<=j/\j<2 ^ 62)/\R (yW i (j-i).toNat) H1
theorem b07{a:Expr}{ta:TA}{p pos:Pos}(hg:Gl X "range")(hm:X.mg "range"=none)(ha:PA X [a] ta)(hs:starEach [a] X.env=[(false,eval a X.env)]:=by rfl):PI X tg (.Call (.Name "range" p) [a] [] pos) (cR7 ta):=by
 intro pins s σ H R I h
 refine Call_ (sY I hg hm boot_range (Bv (bc (ha pos pins s σ H _ I h) λus s1 ⟨vs,H1,I1,r1,q1⟩=>?_) hs rfl))
 obtain⟨j,e,q1,q2,q⟩:=q1
 subst e
 cases r1 with
 | cons r rr =>
  cases rr
  obtain⟨t,rfl⟩:=r
  exact call_range_1 (R6 I1 (by omega) (by omega) q1 q2 (by simpa using q))
theorem bX0{a b:Expr}{ta:TA}{p pos:Pos}(hg:Gl X "range")(hm:X.mg "range"=none)(ha:PA X [a,b] ta)(hs:starEach [a,b] X.env=[(false,eval a X.env),(false,eval b X.env)]:=by rfl)(jt:starEach [b] X.env=[(false,eval b X.env)]:=by rfl) :
  PI X tg (.Call (.Name "range" p) [a,b] [] pos) (cR8 ta):=by
 intro pins s σ H R I h
 refine Call_ (sY I hg hm boot_range (Bv (bc (ha pos pins s σ H _ I h) λus s1 ⟨vs,H1,I1,r1,q1⟩=>?_) (by rw[hs,jt]) (by rw[jt];rfl)))
 obtain⟨i,j,e,⟨q1,q2,q3,q4⟩,q⟩:=q1
 subst e
 cases r1 with
 | cons r rr =>
  cases rr with
  | cons r' rr =>
   cases rr
   obtain⟨t,rfl⟩:=r
   obtain⟨t',rfl⟩:=r'
   exact call_range_2 (R6 I1 q1 q2 q3 q4 q)
noncomputable def cV8(wi:TI)(g:TG)(tb:TS):TS:=λD σ H=>wi σ H λJ H1=>∃W:Nat->Nat->St->Hp->Prop,(∃m,W 0 m σ H1)/\∀i m σ H,W i m σ H ->
 (J.stop i H/\D.nx σ H)\/(J.go i H/\∃N:St->Hp->Prop,(∀aO H',N aO H'->∃m',m'<m/\W (i+1) m' aO H')/\∀x H',J.ki i H x H'->g x σ H' λmv H2=>tb { D with nx:=N,ct:=N,bk:=D.nx } mv H2)
noncomputable def yX(fp:List Addr)(h:Heap):List (Addr × Obj):=fp.filterMap λb=>(h.get? b).map λo=>(b,o)
theorem B6{fp:List Addr}{h:Heap}{b:Addr}{o:Obj}(hb:b∈fp)(e:h.get? b=some o):(b,o)∈yX fp h:=cZ0.mpr ⟨b,hb,by rw[e];rfl⟩
theorem bW4{fp:List Addr}{h:Heap}{p:Addr × Obj}(hp:p∈yX fp h):p.1∈fp/\h.get? p.1=some p.2:=by
 obtain⟨b,hb,e⟩:=cZ0.mp hp
 cases q:h.get? b with
 | none=>rw[q]at e;cases e
 | some o =>
  rw[q]at e
  have e':(b,o)=p:=cX e
  subst e'
  exact⟨hb,q⟩
theorem Inv.pinned{pins:List (Addr × Obj)}{σ:St}{H:Hp}{s:Shared}{fp:List Addr}(I:Inv X pins σ H s)(hf:∀b∈fp,js X pins H b)(ho:∀b∈fp,∃o,s.heap.get? b=some o/\∀v,o.data≠.cell v):Inv X (pins++yX fp s.heap) σ H s :=
 I.RP λp hp=>(cg.mp hp).elim (λz=>I.pin p (fc _ z)) λz=>by
  obtain⟨hb,e⟩:=bW4 z
  obtain⟨f0,f1,f2,_⟩:=hf p.1 hb
  obtain⟨o,e',d⟩:=ho p.1 hb
  rw[e]at e';cases e'
  exact⟨e,f0,f1,f2,d⟩
theorem Inv.yY{pins pl:List (Addr × Obj)}{σ:St}{H:Hp}{s:Shared}(I:Inv X (pins++pl) σ H s):Inv X pins σ H s:=I.RP λp hp=>I.pin p (fc _ (ig _ hp))
theorem cJ9{iter:Expr}{body:List Stmt}{wi:TI}{g:TG}{tb:TS}{pos:Pos}(hp:PassesOwn (model X.prog X.w) X.A X.env X.xe)(hc:X.calm=true)(hi:PI X tg iter wi)(hg:PG X tg g)(hb:PSs X body tb)
  (hs:∀x,foldedSetIterable iter X.env x=pure x:=by intro _;rfl):PS X (.For tg iter body [] pos) (cV8 wi g tb):=by
 intro pins s σ H D I h
 refine wpAny_For (bc (hi pins s σ H _ I h) λv s1 h1=>bc h1 λGi s2 h2=>?_) hs
 obtain⟨it,fp,tn,J,H2,e,I2,T,yZ,f2,W,⟨m0,w0⟩,turn⟩:=h2
 subst e
 have Gk:∀{H':Hp},(∀b∈fp,H' b=none)->∀b∈fp,js X pins H' b:=λhn b hb=>⟨hn b hb,(f2 b hb).2⟩
 refine codeAny_forLoop_any (λn s'=>∃i aO H',Inv X pins aO H' s'/\tn i s'.heap/\(∀b∈fp,H' b=none)/\W i n aO H') ?_ m0 ⟨0,σ,H2,I2,yZ,λb hb=>(f2 b hb).1,w0⟩
 rintro n s3 ⟨i,kT,H3,I3,R7,R8,w3⟩
 rcases turn i n kT H3 w3 with⟨stop,qn⟩ | ⟨go,N,hN,step⟩
 ·refine wpAny_passesOwn hp (bc (T.done X rfl rfl rfl hc i pins s3 kT H3 X.xe I3 (Gk R8) R7 stop) λr s4 ⟨hr,I4⟩=>?_)
  subst hr
  exact wpAny_execs_nil ⟨kT,H3,I4,qn⟩
 ·refine wpAny_passesOwn hp (bc (T.item X rfl rfl rfl hc i pins s3 kT H3 X.xe I3 (Gk R8) R7 go) λr s4 ⟨u,hr,h4⟩=>?_)
  subst hr
  refine wpAny_passesOwn hp (bc h4 λ_ s5 ⟨x,H5,I5,r5,y5,s8,Gm⟩=>?_)
  have Gp:=I5.pinned (Gk Gm) (T.obj _ _ s8)
  refine wpAny_passesOwn hp (bc (hg _ s5 kT H5 x u _ Gp r5 (step x H5 y5)) λ_ s6 ⟨Gq,H6,I6,q6⟩=>?_)
  refine wpAny_passesOwn hp (bc (hb _ s6 Gq H6 _ I6 q6) λf s7 q7=>?_)
  have again:∀{kU:St} {H7:Hp},Inv X (pins++yX fp s5.heap) kU H7 s7->N kU H7->∃m,m<n/\∃i aO H',Inv X pins aO H' s7/\tn i s7.heap/\(∀b∈fp,H' b=none)/\W i m aO H':=λ{kU H7} I7 n7=>by
   obtain⟨m',hm,w7⟩:=hN kU H7 n7
   refine⟨m',hm,i+1,kU,H7,I7.yY,T.keep _ _ _ s8 λb hb o e=>(I7.pin (b,o) (fc _ (fc _ (B6 hb e)))).1,λb hb=>?_,w7⟩
   obtain⟨o,e,d⟩:=T.obj _ _ s8 b hb
   exact(I7.pin (b,o) (fc _ (fc _ (B6 hb e)))).2.1
  cases f with
  | next=>obtain⟨kU,H7,I7,n7⟩:=q7;exact again I7 n7
  | cont=>obtain⟨kU,H7,I7,n7⟩:=q7;exact again I7 n7
  | brk=>obtain⟨kU,H7,I7,q7⟩:=q7;exact⟨kU,H7,I7.yY,q7⟩
  | ret v=>obtain⟨x7,kU,H7,I7,r7,q7⟩:=q7;exact⟨x7,kU,H7,I7.yY,r7,q7⟩
end
end L2
namespace L2
open PySem PySem.Spec PyProof.Rows
noncomputable abbrev R2:=V->V->Hp->VK->Prop
noncomputable def cN(X:Cx)(f:Value->Value->Sem Value)(r:R2):Prop :=
 ∀(pins:List (Addr × Obj)) (s:Shared) (σ:St) (H:Hp) (x y:V) (v u:Value) (Q:VK),Inv X pins σ H s->RelV x v->RelV y u->r x y H Q ->
  wpAny (model X.prog X.w) X.A (f v u) (EP X pins σ Q) X.xe s
noncomputable def Gr(X:Cx)(f:Value->Sem Value)(r:V->Hp->VK->Prop):Prop :=
 ∀(pins:List (Addr × Obj)) (s:Shared) (σ:St) (H:Hp) (x:V) (v:Value) (Q:VK),Inv X pins σ H s->RelV x v->r x H Q ->
  wpAny (model X.prog X.w) X.A (f v) (EP X pins σ Q) X.xe s
noncomputable def iK(X:Cx)(f:Value)(r:List V->Hp->VK->Prop):Prop :=
 ∀(pins:List (Addr × Obj)) (s:Shared) (σ:St) (H:Hp) (xs:List V) (us:List Value) (Q:VK),Inv X pins σ H s->Vals xs us->r xs H Q ->
  wpAny (model X.prog X.w) X.A (call f us) (EP X pins σ Q) X.xe s
noncomputable def y0(r:R2)(ta tb:TE):TE:=λσ H Q=>ta σ H λx H1=>tb σ H1 λy H2=>r x y H2 Q
noncomputable def tUn(r:V->Hp->VK->Prop)(ta:TE):TE:=λσ H Q=>ta σ H λx H1=>r x H1 Q
noncomputable def rI(C:Int->Int->Prop)(g:Int->Int->V):R2:=λx y H Q=>∃i j,x=.int i/\y=.int j/\C i j/\Q (g i j) H
noncomputable def jQ(g:Int->Int->V):R2:=λx y H Q=>∃i j,x=.int i/\y=.int j/\Q (g i j) H
noncomputable def rU(g:Int->V):V->Hp->VK->Prop:=λx H Q=>∃i,x=.int i/\Q (g i) H
section
variable{X:Cx}{a b c:Expr}{ta tb tc:TE}{pos:Pos}
theorem Gu(ha:PE X a ta)(hb:PE X b tb){pins:List (Addr × Obj)}{s:Shared}{σ:St}{H:Hp}{R:V->V->Hp->Prop}(I:Inv X pins σ H s)
  (h:ta σ H λx H1=>tb σ H1 λy H2=>R x y H2) {Q:Value->Shared->Prop} {f:Value->Value->Sem Value}
  (hf:∀v u s2 x y H2,Inv X pins σ H2 s2->RelV x v->RelV y u->R x y H2->wpAny (model X.prog X.w) X.A (f v u) Q X.xe s2) :
  wpAny (model X.prog X.w) X.A (eval a X.env) (λv bL=>wpAny (model X.prog X.w) X.A (eval b X.env) (λu kS=>wpAny (model X.prog X.w) X.A (f v u) Q X.xe kS) X.xe bL) X.xe s:=by
 refine bc (ha pins s σ H _ I h) λv s1 ⟨x,H1,I1,r1,q1⟩=>?_
 refine bc (hb pins s1 σ H1 _ I1 q1) λu s2 ⟨y,H2,I2,r2,q2⟩=>?_
 exact hf v u s2 x y H2 I2 r1 r2 q2
theorem y6{op:Operator}{r:R2}(ho:cN X (binaryOp op) r)(ha:PE X a ta)(hb:PE X b tb):PE X (.BinOp a op b pos) (y0 r ta tb):=by
 intro pins s σ H Q I h
 exact wpAny_BinOp (Gu ha hb I h λv u s2 x y H2 I2 rx ry q=>ho pins s2 σ H2 x y v u Q I2 rx ry q)
theorem cS7{op:UnaryOp}{r:V->Hp->VK->Prop}(ho:Gr X (unaryOp op) r)(ha:PE X a ta):PE X (.UnaryOp op a pos) (tUn r ta):=by
 intro pins s σ H Q I h
 exact UnaryOp_ (bc (ha pins s σ H _ I h) λv s1 ⟨x,H1,I1,r1,q1⟩=>ho pins s1 σ H1 x v Q I1 r1 q1)
theorem y7{f:Value->Value->Sem Value}{C:Int->Int->Prop}{g:Int->Int->Int}
  (rule:∀(i j:Int) (t u:Tok) (s:Shared) (Q:Value->Shared->Prop) (E:Value->Shared->Prop),C i j->Q (.int (g i j) s.toks) { s with toks:=s.toks+1 }->wpAny (model X.prog X.w) X.A (f (.int i t) (.int j u)) Q E s) :
  cN X f (rI C λi j=>.int (g i j)):=by
 intro pins s σ H x y v u Q I rx ry h
 obtain⟨i,j,rfl,rfl,hc,q⟩:=h
 obtain⟨t,rfl⟩:=rx
 obtain⟨t',rfl⟩:=ry
 exact rule i j t t' s _ _ hc ⟨.int (g i j),H,I.tok _,⟨_,rfl⟩,q⟩
theorem vy{f:Value->Value->Sem Value}{g:Int->Int->Int}
  (rule:∀(i j:Int) (t u:Tok) (s:Shared) (Q:Value->Shared->Prop) (E:Value->Shared->Prop),Q (.int (g i j) s.toks) { s with toks:=s.toks+1 }->wpAny (model X.prog X.w) X.A (f (.int i t) (.int j u)) Q E s) :
  cN X f (jQ λi j=>.int (g i j)):=by
 intro pins s σ H x y v u Q I rx ry h
 obtain⟨i,j,rfl,rfl,q⟩:=h
 obtain⟨t,rfl⟩:=rx
 obtain⟨t',rfl⟩:=ry
 exact rule i j t t' s _ _ ⟨.int (g i j),H,I.tok _,⟨_,rfl⟩,q⟩
theorem B7{f:Value->Value->Sem Value}{g:Int->Int->Bool}
  (rule:∀(i j:Int) (t u:Tok) (s:Shared) (Q:Value->Shared->Prop) (E:Value->Shared->Prop),Q (.bool (g i j)) s->wpAny (model X.prog X.w) X.A (f (.int i t) (.int j u)) Q E s) :
  cN X f (jQ λi j=>.bl (g i j)):=by
 intro pins s σ H x y v u Q I rx ry h
 obtain⟨i,j,rfl,rfl,q⟩:=h
 obtain⟨t,rfl⟩:=rx
 obtain⟨t',rfl⟩:=ry
 exact rule i j t t' s _ _ ⟨.bl (g i j),H,I,rfl,q⟩
noncomputable def iq(i j:Int):Prop:=(-(2 ^ 64)<i/\i<2 ^ 64)\/(-(2 ^ 64)<j/\j<2 ^ 64)
theorem iq.ok{i j:Int}(h:iq i j):IntMulOk i j:=by
 rcases h with⟨h1,h2⟩ | ⟨h1,h2⟩
 ·exact .of_left (intBits_le_64 h1 h2)
 ·exact .of_right (intBits_le_64 h1 h2)
theorem bU1(k:Nat):(0:Int)<=2 ^ k:=by
 rw[two_pow_cast]
 exact Q7 _
theorem cG2:cN X (binaryOp .Add) (jQ λi j=>.int (i+j)):=vy λ_ _ _ _ _ _ _ q=>add_int q
theorem Gv:cN X (binaryOp .Sub) (jQ λi j=>.int (i-j)):=vy λ_ _ _ _ _ _ _ q=>sub_int q
theorem cH0:cN X (binaryOp .Mod) (rI (λ_ j=>0<j) λi j=>.int (i%j)):=y7 λi j _ _ _ _ _ hc q=>by
 have h1:(0:Int)<j:=hc
 exact mod_int' (by omega) (by rw[Int.fmod_eq_emod_of_nonneg i (by omega)];exact q)
theorem cK7:cN X (binaryOp .RShift) (rI (λ_ j=>0<=j) λi j=>.int (i/2 ^ j.toNat)):=y7 λi j _ _ _ _ _ hc q =>
 rshift_int hc (by rw[cZ1 i (bU1 _)];exact q)
theorem cK5:cN X (binaryOp .BitAnd) (jQ λi j=>.int (pW i j)):=vy λ_ _ _ _ _ _ _ q=>and_int q
theorem cH7:cN X (binaryOp .BitXor) (jQ λi j=>.int (pX i j)):=vy λ_ _ _ _ _ _ _ q=>xor_int q
theorem cz4:cN X (inplaceOp .Add) (jQ λi j=>.int (i+j)):=vy λ_ _ _ _ _ _ _ q=>iadd_int q
theorem cx6:cN X (inplaceOp .BitXor) (jQ λi j=>.int (pX i j)):=vy λ_ _ _ _ _ _ _ q=>ixor_int q
theorem unI{f:Value->Sem Value}{g:Int->Int}
  (rule:∀(i:Int) (t:Tok) (s:Shared) (Q:Value->Shared->Prop) (E:Value->Shared->Prop),Q (.int (g i) s.toks) { s with toks:=s.toks+1 }->wpAny (model X.prog X.w) X.A (f (.int i t)) Q E s) :
  Gr X f (rU λi=>.int (g i)):=by
 intro pins s σ H x v Q I rx h
 obtain⟨i,rfl,q⟩:=h
 obtain⟨t,rfl⟩:=rx
 exact rule i t s _ _ ⟨.int (g i),H,I.tok _,⟨_,rfl⟩,q⟩
theorem cL8:Gr X (unaryOp .USub) (rU λi=>.int (-i)):=unI λ_ _ _ _ _ q=>neg_int q
end
section
variable{X:Cx}{a b c:Expr}{ta tb tc:TE}{pos:Pos}
theorem R9{pins:List (Addr × Obj)}{σ:St}{H:Hp}{s:Shared}{Q:VK}{k k':Bool}(I:Inv X pins σ H s)(q:Q (.bl k) H)(e:k=k'):EP X pins σ Q (.bool k') s:=by
 subst e
 exact⟨.bl k,H,I,rfl,q⟩
theorem cQ0:cN X (compareOp .Lt) (jQ λi j=>.bl (decide (i<j))):=B7 λ_ _ _ _ _ _ _ q=>lt_int q
theorem cP3:cN X (compareOp .LtE) (jQ λi j=>.bl (decide (i<=j))):=B7 λ_ _ _ _ _ _ _ q=>le_int q
theorem cP8:cN X (compareOp .Gt) (jQ λi j=>.bl (decide (j<i))):=B7 λ_ _ _ _ _ _ _ q=>gt_int q
theorem cO1:cN X (compareOp .GtE) (jQ λi j=>.bl (decide (j<=i))):=B7 λ_ _ _ _ _ _ _ q=>ge_int q
theorem cJ1:cN X (compareOp .Is) (λx y H Q=>y=.az/\Q (.bl (decide (x=.az))) H):=by
 intro pins s σ H x y v u Q I rx ry h
 obtain⟨rfl,q⟩:=h
 cases ry
 refine is_none_gen (R9 I q ?_)
 cases x<;>first
  | (cases rx;rfl)
  | (obtain⟨t,rfl⟩:=rx;rfl)
theorem cz1:cN X (compareOp .IsNot) (λx y H Q=>y=.az/\Q (.bl (!decide (x=.az))) H):=by
 intro pins s σ H x y v u Q I rx ry h
 obtain⟨rfl,q⟩:=h
 cases ry
 refine isnot_none_gen (R9 I q ?_)
 cases x<;>first
  | (cases rx;rfl)
  | (obtain⟨t,rfl⟩:=rx;rfl)
theorem cN.or{f:Value->Value->Sem Value}{r r':R2}(h:cN X f r)(h':cN X f r'):cN X f (λx y H Q=>r x y H Q\/r' x y H Q):=by
 intro pins s σ H x y v u Q I rx ry q
 rcases q with q | q
 ·exact h pins s σ H x y v u Q I rx ry q
 ·exact h' pins s σ H x y v u Q I rx ry q
theorem bO(b:Expr){op:CmpOp}(h:op≠.In:=by decide)(h2:op≠.NotIn:=by decide):behindInMarks op b=false:=by
 have e1:(op==CmpOp.In)=false:=by cases op<;>first | rfl | exact absurd rfl h
 have e2:(op==CmpOp.NotIn)=false:=by cases op<;>first | rfl | exact absurd rfl h2
 cases b<;>simp[behindInMarks,e1,e2]
theorem cz0{op:CmpOp}{r:R2}(ho:cN X (compareOp op) r)(ha:PE X a ta)(hb:PE X b tb)(hm:behindInMarks op b=false):PE X (.Compare a [op] [b] pos) (y0 r ta tb):=by
 intro pins s σ H Q I h
 exact wpAny_Compare1 (Gu ha hb I h λv u s2 x y H2 I2 rx ry q=>ho pins s2 σ H2 x y v u Q I2 rx ry q) hm
noncomputable def Sa(t:TE):TT:=λσ H Q=>t σ H λx H'=>∃k,x=.bl k/\Q k H'
theorem cC4{op:CmpOp}{r:R2}(ho:cN X (compareOp op) r)(ha:PE X a ta)(hb:PE X b tb)(hm:behindInMarks op b=false):PT X (.Compare a [op] [b] pos) (Sa (y0 r ta tb)):=by
 intro pins s σ H Q I h
 refine wpAny_isTrue_Compare1 (bc (ha pins s σ H _ I h) λv s1 ⟨x,H1,I1,r1,q1⟩=>bc (hb pins s1 σ H1 _ I1 q1) λu s2 ⟨y,H2,I2,r2,q2⟩ =>
  bc (ho pins s2 σ H2 x y v u _ I2 r1 r2 q2) λc s3 ⟨z,H3,I3,r3,k,e,q3⟩=>?_) hm
 subst e
 cases r3
 exact wpAny_truthy_bool ⟨H3,I3,q3⟩
noncomputable def Sb(r r':R2)(ta tb tc:TE):TE:=λσ H Q=>ta σ H λx H1=>tb σ H1 λy H2=>r x y H2 λz H3=>∃k,z=.bl k /\
 (if k=true then tc σ H3 λw' H4=>r' y w' H4 Q else Q (.bl false) H3)
theorem cj0{op s9:CmpOp}{r r':R2}(ho:cN X (compareOp op) r)(kQ:cN X (compareOp s9) r')(ha:PE X a ta)(hb:PE X b tb)(hc:PE X c tc)
  (hm:lastMarks [op,s9] [b,c]=false:=by with_unfolding_all rfl):PE X (.Compare a [op,s9] [b,c] pos) (Sb r r' ta tb tc):=by
 intro pins s σ H Q I h
 refine Compare_chain (bc (ha pins s σ H _ I h) λv s1 ⟨x,H1,I1,r1,q1⟩=>chain_link (bc (hb pins s1 σ H1 _ I1 q1) λu s2 ⟨y,H2,I2,r2,q2⟩ =>
  bc (ho pins s2 σ H2 x y v u _ I2 r1 r2 q2) λd s3 ⟨z,H3,I3,r3,k,e,q3⟩=>?_)) hm
 subst e
 cases r3
 refine wpAny_truthy_bool ?_
 cases k with
 | false=>exact ite_ff ⟨.bl false,H3,I3,rfl,q3⟩
 | true=>exact ite_tt (chain_last (bc (hc pins s3 σ H3 _ I3 q3) λw' s4 ⟨z',H4,I4,r4,q4⟩=>kQ pins s4 σ H4 y z' u w' Q I4 r2 r4 q4))
theorem vz:(sizeLine:Nat)<2 ^ 63:=by rw[sizeLine_eq];decide
theorem bU2:cN X (binaryOp .Add) (λx y H Q=>∃i j,x=.str i/\y=.str j/\i.length+j.length<=sizeLine/\Q (.str (i++j)) H):=by
 intro pins s σ H x y v u Q I rx ry h
 obtain⟨i,j,rfl,rfl,hz,q⟩:=h
 obtain⟨t,rfl⟩:=rx
 obtain⟨t',rfl⟩:=ry
 exact add_str (λt' tk=>⟨.str (i++j),H,I.tok _,⟨_,rfl⟩,q⟩) hz
theorem Gw{x:V}{us:List Value}(r:Vals [x] us):∃u,us=[u]/\RelV x u:=by
 cases r with
 | cons r1 r2=>cases r2;exact⟨_,rfl,r1⟩
end
end L2
namespace L2
open PySem PySem.Spec PyProof.Rows
structure tf(h:Heap)(x dx C:Addr)(mA:Str->Option Value):Prop where
 obj:h.get? x=some (PySem.W.instObj C dx)
 ns:h.Ns1 dx mA
 ne:dx≠x
theorem bW2{h:Heap}{dx:Addr}{mA:Str->Option Value}(n:h.Ns1 dx mA):∃od,h.get? dx=some od/\∀name,PySem.W.lookIn name od=some (mA name):=by
 obtain⟨o,es,ep,ho,hd,hk,_,hm⟩:=n
 refine⟨o,ho,λname=>?_⟩
 have e:=hm name
 unfold nsFind findBy at e
 rw[<-Array.find?_toList]at e
 unfold PySem.W.lookIn
 rw[hd]
 dsimp only
 split
 ·rename_i y q
  rw[q]at e
  exact congrArg some e
 ·rename_i q
  rw[q]at e
  have a:es.toList.any (·.refKey)=false:=by
   rw[List.any_eq_false]
   intro y hy
   obtain⟨z,t,dh7⟩:=hk y (Array.mem_toList_iff.mp hy)
   simp[DictEntry.refKey,dh7]
  have a':¬ es.toList.any (·.refKey)=true:=by rw[a];exact fW
  rw[if_neg a']
  exact congrArg some e
theorem tf.look{h:Heap}{x dx C:Addr}{mA:Str->Option Value}(I:tf h x dx C mA):∃od,PySem.W.InstAt h x (PySem.W.instObj C dx) C (some od)/\∀name,PySem.W.lookIn name od=some (mA name) :=
 let⟨od,ho,hl⟩:=bW2 I.ns
 ⟨od,⟨I.obj,rfl,rfl,ho⟩,hl⟩
section
variable{prog:Program}{w:World}{A:Around}{E:Value->Shared->Prop}{s:Shared}{K:PySem.W.Frag}{x dx C f:Addr}{mA:Str->Option Value}{name:Str}{v:Value}
theorem cB8{expr:Bool}{Q:Value->Shared->Prop}(X:K.In s.heap)(I:tf s.heap x dx C mA)(hg:PySem.W.plainGet K C name=true)(hh:PySem.W.hasDictIn K C=true)
  (ha:PySem.W.findIn K (.ref C) name=some none) (hv:mA name=some v) (hv':PySem.W.handedIn v=true) (h:Q v { s with toks:=s.toks+1 }) :
  wpAny (model prog w) A (getAttr (.ref x) name expr) Q E s:=by
 obtain⟨od,J,hl⟩:=I.look
 exact PySem.W.get_value X J (PySem.W.plainGet_of hg).1 (PySem.W.findObj_own hh ha rfl (by rw[hl,hv])) hv' h
theorem ch5{pl:Sem Bool}{Q:Value × List Value->Shared->Prop}(X:K.In s.heap)(I:tf s.heap x dx C mA)(hg:PySem.W.plainGet K C name=true)
  (hf:PySem.W.findIn K (.ref C) name=some (some (.ref f))) (ht:PySem.W.isFn K (.ref f)=true) (hv:mA name=none) (h:Q (.ref f,[.ref x]) s) :
  wpAny (model prog w) A (getMethod (.ref x) name pl) Q E s:=by
 obtain⟨od,J,hl⟩:=I.look
 exact PySem.W.method_fn X J (PySem.W.plainGet_of hg).1 (PySem.W.plainGet_of hg).2 hf (beq_iff_eq.mp ht) (by show(PySem.W.lookIn name od).map (·.isSome)=some false;rw[hl,hv];rfl) h
theorem cw7{ns:List Str}{Q:Unit->Shared->Prop}(X:K.In s.heap)(I:tf s.heap x dx C mA)
  (hs:PySem.W.findIn K (.ref C) "__setattr__"=some (some (.builtin "object.__setattr__"))) (hp:PySem.W.plainOver K C=true) (ht:PySem.W.takerIn K C name=some none) (hh:PySem.W.hasDictIn K C=true)
  (hw:PySem.Within mA ns) (mw:ns.length<=sizeLine)
  (h:∀h',tf h' x dx C (λy=>if y=name then some v else mA y)->Heap.SameBut dx s.heap h'->Q () { s with heap:=h',toks:=s.toks+2 }) :
  wpAny (model prog w) A (setAttr (.ref x) name v) Q E s:=by
 obtain⟨od,J,hl⟩:=I.look
 refine PySem.W.set_plain X J hs (PySem.W.osa_open (s:={ s with toks:=s.toks+1 }) (r:=none) X J hp ht λb=>?_)
 obtain⟨cd,hc,yR⟩:=PySem.W.any_some hh
 have hx:s.heap.get? x=some ⟨.ref C,some dx,.plain,#[]⟩:=I.obj
 refine wpAny_bind (wpAny_pure (wpAny_bind (wpAny_bind (wpAny_loadPart hx (wpAny_bind (PySem.W.Looks.here (s:={ s with toks:=s.toks+1 }) (PySem.W.looks_clsIn X hc) ?_))))))
 rw[yR]
 refine wpAny_pure (a:=some dx) (wpAny_bind (wpAny_pure (wpAny_bind ?_)))
 refine wpAny_nsSet1 (s:={ s with toks:=s.toks+1 }) I.ns λh' B8 jt=>?_
 obtain⟨oD,esD,epD,hoD,hdD,hcD⟩:=B8.count (PySem.Within.cons name v hw)
 refine wpAny_bind (wpAny_lookBehind hoD (by rw[hdD];exact pastItsLine_dict (eP hcD (by rw[gK];omega))) ?_)
 exact wpAny_pure (h _ ⟨(jt.2 _ (fq I.ne)).trans I.obj,B8,I.ne⟩ jt)
theorem cj5{R:Result->Shared->Prop}{vs:List Value}{kw:List (Str × Value)}(X:K.In s.heap)(hm:PySem.W.makesIn K C=true)
  (hi:PySem.W.findIn K (.ref C) "__init__"=some (some (.ref f))) (hf:PySem.W.typeIn K (.ref f)=some (.type "function"))
  (h:codeAny (model prog w) (A.under (.builtin "type.__call__" ⟨.ref C::vs,kw⟩)) (.call (.ref f) ⟨.ref (s.heap.objs.size+1)::vs,kw⟩) (PySem.W.InitBack (s.heap.objs.size+1) R)
   { s with heap:=(s.heap.push PySem.W.emptyDict).push (PySem.W.instObj C s.heap.objs.size) }) :
  codeAny (model prog w) A (.call (.ref C) ⟨vs,kw⟩) R s:=by
 obtain⟨hh,g,d,t,os⟩:=s
 exact PySem.W.make_core (PySem.W.makes_of X hm) (PySem.W.looks_findIn X hi) (λself=>PySem.W.bind_fn X self hf) (.inl rfl) h
end
noncomputable def fZ(f:Str)(v:V):List (Str × V)->List (Str × V)
 | []=>[(f,v)]
 | (g,x)::r=>if g=f then(g,v)::r else(g,x)::fZ f v r
theorem Sd(f g:Str)(v:V):∀fs:List (Str × V),(fZ f v fs).lookup g=if g=f then some v else fs.lookup g
 | []=>by
  show nu g [(f,v)]=_
  by_cases h:g=f
  ·have hb:(g==f)=true:=beq_iff_eq.mpr h
   simp only[nu,hb,if_pos h]
  ·have hb:(g==f)=false:=beq_eq_false_iff_ne.mpr h
   simp only[nu,hb,if_neg h]
 | (k,x)::r=>by
  have ih:=Sd f g v r
  rw[show fZ f v ((k,x)::r)=(if k=f then(k,v)::r else(k,x)::fZ f v r) from rfl]
  by_cases hk:k=f
  ·rw[if_pos hk]
   by_cases h:g=k
   ·have hb:(g==k)=true:=beq_iff_eq.mpr h
    simp only[nu,hb,if_pos (h.trans hk)]
   ·have hb:(g==k)=false:=beq_eq_false_iff_ne.mpr h
    simp only[nu,hb,if_neg (λe:g=f=>h (e.trans hk.symm))]
  ·rw[if_neg hk]
   by_cases h:g=k
   ·have hb:(g==k)=true:=beq_iff_eq.mpr h
    simp only[nu,hb,if_neg (λe:g=f=>hk (h.symm.trans e))]
   ·have hb:(g==k)=false:=beq_eq_false_iff_ne.mpr h
    simp only[nu,hb]
    exact ih
theorem Gx(f:Str)(v:V):∀fs:List (Str × V),f∈(fZ f v fs).map (·.1)/\∀g,g∈fs.map (·.1)->g∈(fZ f v fs).map (·.1)
 | []=>⟨by simp[fZ],λg h=>by simp at h⟩
 | (k,x)::r=>by
  obtain⟨i1,i2⟩:=Gx f v r
  rw[show fZ f v ((k,x)::r)=(if k=f then(k,v)::r else(k,x)::fZ f v r) from rfl]
  by_cases hk:k=f
  ·rw[if_pos hk]
   subst hk
   exact⟨by simp,λg h=>by simpa using h⟩
  ·rw[if_neg hk]
   refine⟨?_,λg h=>?_⟩
   ·rw[dz]
    exact dZ _ i1
   ·rw[dz]at h ⊢
    rcases cA.mp h with e | e
    ·exact cA.mpr (.inl e)
    ·exact dZ _ (i2 g e)
theorem Se(f:Str)(v:V):∀fs:List (Str × V),(fZ f v fs).length<=fs.length+1
 | []=>by simp[fZ]
 | (k,x)::r=>by
  have ih:=Se f v r
  rw[show fZ f v ((k,x)::r)=(if k=f then(k,v)::r else(k,x)::fZ f v r) from rfl]
  by_cases hk:k=f
  ·rw[if_pos hk,gK,gK];omega
  ·rw[if_neg hk,gK,gK];omega
theorem mm.some_of{v:V}{o:Option Value}(r:mm (some v) o):∃u,o=some u/\RelV v u:=by
 cases o with
 | none=>exact(show False from r).elim
 | some u=>exact⟨u,rfl,r⟩
theorem mm.none_of{o:Option Value}(r:mm none o):o=none:=by
 cases o with
 | none=>rfl
 | some u=>exact(show False from r).elim
theorem bY5{v:V}{u:Value}(r:RelV v u):PySem.W.handedIn u=true:=by
 cases v with
 | az=>cases(show u=su from r);rfl
 | bl b=>cases(show u=Fe b from r);rfl
 | int i=>obtain⟨t,e⟩:=(show ∃t,u=pV i t from r);cases e;rfl
 | str x=>obtain⟨t,e⟩:=(show ∃t,u=Value.str x t from r);cases e;rfl
 | BO b=>obtain⟨t,e⟩:=(show ∃t,u=Value.bytes b t from r);cases e;rfl
 | sV b=>obtain⟨t,e⟩:=(show ∃t,u=Value.float b t from r);cases e;rfl
 | ref a=>cases(show u=fJ a from r);rfl
 | ty n=>cases(show u=Value.type n from r);rfl
section
variable{P:Program}{w:World}{H H':Hp}{h h':Heap}{a C dx:Addr}{fs fs':List (Str × V)}
theorem B9(aR:cS P w H h)(e:H a=some (.ins C dx fs)):∃mA,tf h a dx C mA/\(∀f,mm (fs.lookup f) (mA f))/\PySem.Within mA (fs.map (·.1))/\fs.length<=1000/\H dx=some (.own a):=by
 obtain⟨d,z,ne,ob,mA,n,r,q⟩:=(show eH P w H h a (.ins C dx fs) from aR a _ e)
 exact⟨mA,⟨ob,n,ne⟩,r,q,z,d⟩
end
structure eJ(K:PySem.W.Frag)(C:Addr):Prop where
 pg:PySem.W.plainGet K C Str.empty=true
 hd:PySem.W.hasDictIn K C=true
 po:PySem.W.plainOver K C=true
 sa:PySem.W.findIn K (.ref C) "__setattr__"=some (some (.builtin "object.__setattr__"))
theorem eJ.get{K:PySem.W.Frag}{C:Addr}(c:eJ K C)(f:Str):PySem.W.plainGet K C f=true:=c.pg
noncomputable def cG(K:PySem.W.Frag)(C:Addr)(f:Str):Prop:=PySem.W.findIn K (.ref C) f=some none
theorem cG.di7{K:PySem.W.Frag}{C:Addr}{f:Str}(n:cG K C f):PySem.W.takerIn K C f=some none:=by
 unfold PySem.W.takerIn
 rw[show PySem.W.findIn K (.ref C) f=some none from n]
 rfl
structure Meth(K:PySem.W.Frag)(C:Addr)(m:Str)(f:Addr):Prop where
 at_:PySem.W.findIn K (.ref C) m=some (some (.ref f))
 fn:PySem.W.isFn K (.ref f)=true
 kp:PySem.W.keepIn K (.ref f)=true
section
variable{X:Cx}{pins:List (Addr × Obj)}{σ:St}{H:Hp}{s:Shared}{a C dx:Addr}{fs:List (Str × V)}{f:Str}{v:V}{A:Around}{E:Value->Shared->Prop}
theorem bU4{b:Bool}{Q:Value->Shared->Prop}(I:Inv X pins σ H s)(e:H a=some (.ins C dx fs))(c:eJ X.K C)(n:cG X.K C f)(l:fs.lookup f=some v)
  (h:∀u s',Inv X pins σ H s'->RelV v u->Q u s'):wpAny (model X.prog X.w) A (getAttr (.ref a) f b) Q E s:=by
 obtain⟨mA,O,r,_,_,_⟩:=B9 I.aR e
 obtain⟨u,hu,ru⟩:=mm.some_of (v:=v) (o:=mA f) (by rw[<-l];exact r f)
 exact cB8 I.dA O (c.get f) c.hd n hu (bY5 ru) (h u _ (I.tok _) ru)
theorem Gz{m:Str}{g:Addr}{pl:Sem Bool}{Q:Value × List Value->Shared->Prop}(I:Inv X pins σ H s)(e:H a=some (.ins C dx fs))(c:eJ X.K C)(k:Meth X.K C m g)(l:fs.lookup m=none)
  (h:Q (.ref g,[.ref a]) s):wpAny (model X.prog X.w) A (getMethod (.ref a) m pl) Q E s:=by
 obtain⟨mA,O,r,_,_,_⟩:=B9 I.aR e
 have hn:mA m=none:=mm.none_of (by rw[<-l];exact r m)
 exact ch5 I.dA O (c.get m) k.at_ k.fn hn h
theorem bV1{y:V}{u:Value}{Q:Unit->Shared->Prop}(I:Inv X pins σ H s)(e:H a=some (.ins C dx fs))(c:eJ X.K C)(n:cG X.K C f)(hl:fs.length<1000)(ry:RelV y u)
  (h:∀s',Inv X pins σ (upd H a (.ins C dx (fZ f y fs))) s'->Q () s'):wpAny (model X.prog X.w) A (setAttr (.ref a) f u) Q E s:=by
 obtain⟨mA,O,r,wi,_,ho⟩:=B9 I.aR e
 have hz:(fs.map (·.1)).length<=sizeLine:=by rw[bB,sizeLine_eq];omega
 refine cw7 I.dA O c.sa c.po n.di7 c.hd wi hz λh' O' sb=>h _ ?_
 have hd:∃o,h'.get? dx=some o:=let⟨o,_,_,e',_⟩:=O'.ns;⟨o,e'⟩
 refine I.write (x:=a) (e:=dx) (by rw[e];exact u6) (.inr ho) (λb q hb z=>(sb.2 b hb).trans z) hd ?_
 refine⟨by rw[bu O.ne];exact ho,?_,O.ne,O'.obj,_,O'.ns,λg=>?_,λg hg=>?_⟩
 ·have:=Se f y fs;omega
 ·show mm ((fZ f y fs).lookup g) (if g=f then some u else mA g)
  rw[Sd]
  by_cases q:g=f
  ·rw[if_pos q,if_pos q];exact ry
  ·rw[if_neg q,if_neg q];exact r g
 ·by_cases q:g=f
  ·rw[q];exact(Gx f y fs).1
  ·refine(Gx f y fs).2 g (wi g λz=>hg ?_)
   show(if g=f then some u else mA g)=none
   rw[if_neg q];exact z
theorem Inv.made(I:Inv X pins σ H s):Inv X pins σ (upd (upd H s.heap.objs.size (.own (s.heap.objs.size+1))) (s.heap.objs.size+1) (.ins C s.heap.objs.size []))
  { s with heap:=(s.heap.push PySem.W.emptyDict).push (PySem.W.instObj C s.heap.objs.size) }:=by
 have e1:(s.heap.push PySem.W.emptyDict).get? s.heap.objs.size=some PySem.W.emptyDict:=gJ s.heap rfl
 have e2:((s.heap.push PySem.W.emptyDict).push (PySem.W.instObj C s.heap.objs.size)).get? (s.heap.objs.size+1)=some (PySem.W.instObj C s.heap.objs.size):=by
  have:=gJ (s.heap.push PySem.W.emptyDict) (o:=PySem.W.instObj C s.heap.objs.size) rfl
  rwa [u7]at this
 have e3:(s.heap.push PySem.W.emptyDict).Ns s.heap.objs.size (λ_=>none):=⟨PySem.W.emptyDict,#[],_,e1,rfl,(λe he=>absurd he (by simp)),λ_=>rfl⟩
 have I1:=I.laid (a:=s.heap.objs.size) (o:=.own (s.heap.objs.size+1)) (h':=s.heap.push PySem.W.emptyDict) (t':=s.toks) (λb u q=>fL _ q) (bN _) ⟨_,e1⟩
 refine I1.laid (a:=s.heap.objs.size+1) (o:=.ins C s.heap.objs.size []) (t':=s.toks) (λb u q=>fL _ q) (Bw (u7 _ _)) ?_
 have ne:s.heap.objs.size≠s.heap.objs.size+1:=fo (Bz _)
 refine⟨by rw[bu ne,cF],jM _,ne,e2,λ_=>none,(Heap.Ns1.of_empty e3).at λo q=>fL _ q,λ_=>u6,λy hy=>absurd rfl hy⟩
theorem cw0{prog:Program}{w:World}{env:Env}{e:Expr}{f:Str}{pos:Pos}{s:Shared}{Q:Value->Shared->Prop}(hb:attributeBase e f env (eval e env)=eval e env)
  (h:wpAny (model prog w) A (eval e env) (λo bL=>wpAny (model prog w) A (getAttr o f true) Q E bL) E s):wpAny (model prog w) A (eval (.Attribute e f pos) env) Q E s :=
 Attribute_any_ h (by rw[arm_eval_Attribute,hb])
end
noncomputable def cW2(K:PySem.W.Frag)(ta:TE)(f:Str):TE:=λσ H Q=>ta σ H λx H1=>∃a C dx fs v,x=.ref a/\H1 a=some (.ins C dx fs)/\eJ K C/\cG K C f/\fs.lookup f=some v/\Q v H1
noncomputable def cV2(K:PySem.W.Frag)(ta tv:TE)(f:Str):TS:=λD σ H=>tv σ H λy H1=>ta σ H1 λx H2=>∃a C dx fs,x=.ref a/\H2 a=some (.ins C dx fs)/\eJ K C/\cG K C f/\fs.length<1000 /\
 D.nx σ (upd H2 a (.ins C dx (fZ f y fs)))
section
variable{X:Cx}{o e value:Expr}{f:Str}{pos pos' tu:Pos}{ta tv:TE}
theorem Ca(he:PE X e ta)(hb:attributeBase e f X.env (eval e X.env)=eval e X.env):PE X (.Attribute e f pos) (cW2 X.K ta f):=by
 intro pins s σ H Q I h
 refine cw0 hb (bc (he pins s σ H _ I h) λu s1 ⟨x,H1,I1,rx,a,C,dx,fs,v,ex,ea,c,n,l,q⟩=>?_)
 subst ex
 obtain rfl:u=fJ a:=rx
 exact bU4 I1 ea c n l λu' s2 I2 ru=>⟨v,H1,I2,ru,q⟩
theorem qk(ha:PE X o ta)(hv:PE X value tv)(hs:swapsWith value (some (.Attribute o f pos')) pos.line X.env=pure false):PS X (.Assign [.Attribute o f pos'] value pos) (cV2 X.K ta tv f):=by
 intro pins s σ H D I h
 refine plainObj_wpAny_Assign_Attribute (bc (hv pins s σ H _ I h) λu s1 ⟨y,H1,I1,ry,q⟩=>bc (ha pins s1 σ H1 _ I1 q) λov s2 ⟨x,H2,I2,rx,a,C,dx,fs,ex,ea,c,n,l,q2⟩=>?_) hs
 subst ex
 obtain rfl:ov=fJ a:=rx
 exact bV1 I2 ea c n l ry λs3 I3=>⟨σ,_,I3,q2⟩
end
section
variable{X:Cx}{pins:List (Addr × Obj)}{σ:St}{H:Hp}{s:Shared}{A:Around}{E:Value->Shared->Prop}{Q:Value->Shared->Prop}{c:Value}{b:Bool}
inductive iL(K:PySem.W.Frag)(H:Hp):V->Value->Prop where
 | az:iL K H .az (.type "NoneType")
 | bl (x:Bool):iL K H (.bl x) (.type "bool")
 | int (i:Int):iL K H (.int i) (.type "int")
 | str (x:Str):iL K H (.str x) (.type "str")
 | sV (x:UInt64):iL K H (.sV x) (.type "float")
 | lst {a:Addr} {xs:List V} (e:H a=some (.lst xs)):iL K H (.ref a) (.type "list")
 | cq {a:Addr} {o:Obj} {xs:List V} (e:H a=some (.cq o (.lst xs))):iL K H (.ref a) (.type "list")
 | tup {a:Addr} {xs:List V} (e:H a=some (.tup xs)):iL K H (.ref a) (.type "tuple")
 | dK {a:Addr} {dR:List (Key × V)} (e:H a=some (.dK dR)):iL K H (.ref a) (.type "dict")
 | dT {a:Addr} {dR:List (List Key × V)} (e:H a=some (.dT dR)):iL K H (.ref a) (.type "dict")
 | ins {a C dx:Addr} {fs:List (Str × V)} (e:H a=some (.ins C dx fs)) (cl:eJ K C) (ha:PySem.W.findIn K (.ref C) "__class__"=some (some (.builtin "object.__class__")))
   (hn:PySem.W.specialIn K (.builtin "object.__class__") "__get__"=some (some (.builtin "getset_descriptor.__get__"))) (GA:PySem.W.takesIn K (.builtin "object.__class__")=some true)
   (hm:PySem.W.mroIn K C (.type "object")=some true):iL K H (.ref a) (.ref C)
theorem cb6{x:V}{u t:Value}(I:Inv X pins σ H s)(rx:RelV x u)(ty:iL X.K H x t)(e:PySem.W.kitOne X.K t c=some b)(h:∀tk,Q (.bool b) { s with toks:=tk }) :
  wpAny (model X.prog X.w) A (call (.builtin "isinstance") [u,c]) Q E s:=by
 cases ty with
 | az=>cases(show u=su from rx);exact PySem.W.kia_one PySem.W.kitx_none I.dA u6 e (λz=>nomatch z) h
 | bl y=>cases(show u=Fe y from rx);exact PySem.W.kia_one PySem.W.kitx_bool I.dA u6 e (λz=>nomatch z) h
 | int i=>obtain⟨t,q⟩:=(show ∃t,u=pV i t from rx);cases q;exact PySem.W.kia_one PySem.W.kitx_int I.dA u6 e (λz=>nomatch z) h
 | str y=>obtain⟨t,q⟩:=(show ∃t,u=Value.str y t from rx);cases q;exact PySem.W.kia_one PySem.W.kitx_str I.dA u6 e (λz=>nomatch z) h
 | sV y=>obtain⟨t,q⟩:=(show ∃t,u=Value.float y t from rx);cases q;exact PySem.W.kia_one PySem.W.kitx_float I.dA u6 e (λz=>nomatch z) h
 | @lst a xs ea =>
  cases(show u=fJ a from rx)
  obtain⟨_,_,n,_,h1⟩:=(show eH X.prog X.w H s.heap a (.lst xs) from I.aR a _ ea)
  exact PySem.W.kia_one PySem.W.kitx_list I.dA ⟨_,h1,rfl⟩ e (λz=>nomatch z) h
 | @cq a ob xs ea =>
  cases(show u=fJ a from rx)
  obtain⟨_,_,_,n,_,h1⟩:=(show eH X.prog X.w H s.heap a (.cq ob (.lst xs)) from I.aR a _ ea)
  exact PySem.W.kia_one PySem.W.kitx_list I.dA ⟨_,h1,rfl⟩ e (λz=>nomatch z) h
 | @tup a xs ea =>
  cases(show u=fJ a from rx)
  obtain⟨_,_,_,p⟩:=(show eH X.prog X.w H s.heap a (.tup xs) from I.aR a _ ea)
  obtain⟨o,h1,h2,_⟩:=p
  exact PySem.W.kia_one PySem.W.kitx_tuple I.dA ⟨o,h1,h2⟩ e (λz=>nomatch z) h
 | @dK a dR ea =>
  cases(show u=fJ a from rx)
  obtain⟨_,_,vs,_,p⟩:=(show eH X.prog X.w H s.heap a (.dK dR) from I.aR a _ ea)
  obtain⟨o,es,ep,h1,h2,_⟩:=p
  exact PySem.W.kia_one PySem.W.kitx_dict I.dA ⟨o,h1,h2.1⟩ e (λz=>nomatch z) h
 | @dT a dR ea =>
  cases(show u=fJ a from rx)
  obtain⟨_,_,xs,_,o,es,ep,h1,h2,_⟩:=(show eH X.prog X.w H s.heap a (.dT dR) from I.aR a _ ea)
  exact PySem.W.kia_one PySem.W.kitx_dict I.dA ⟨o,h1,h2.1⟩ e (λz=>nomatch z) h
 | @ins a C dx fs ea cl ha hn GA hm =>
  cases(show u=fJ a from rx)
  obtain⟨mA,O,_⟩:=B9 I.aR ea
  obtain⟨od,J,_⟩:=O.look
  exact PySem.W.kia_one (PySem.W.kitx_own (cl.get _) cl.hd ha hn GA hm) I.dA J e (λz=>nomatch z) h
end
end L2
namespace L2
open PySem PySem.Spec PyProof.Rows
structure cO(k:Nat)(A:Around):Prop where
 hd:A.handled=none
 dp:A.depth+3*k+5<recursionLimit
 un:A.units+16*k+200<cLine
theorem cO.mono{j k:Nat}{A:Around}(r:cO k A)(h:j<=k):cO j A:=⟨r.hd,by have:=r.dp;omega,by have:=r.un;omega⟩
theorem cO.deeper{k:Nat}{A:Around}(r:cO (k+1) A)(env:Env):cO k (A.deeper env) :=
 ⟨r.hd,by have:=r.dp;show A.depth+1+3*k+5<_;omega,by have:=r.un;show A.units+3+16*k+200<_;omega⟩
theorem bT6{A:Around}{C:Addr}{us:List Value}{kw:List (Str × Value)}:(A.under (.builtin "type.__call__" ⟨.ref C::us,kw⟩)).depth=A.depth+1:=by
 first | rfl | simp[Around.under,Code.weight,Code.isCreation,Code.isGuard,Code.isCaller,Code.frames,Code.isFrame,guardIds]
theorem bU5{A:Around}{C:Addr}{us:List Value}{kw:List (Str × Value)}:(A.under (.builtin "type.__call__" ⟨.ref C::us,kw⟩)).units=A.units+1:=by
 first | rfl | simp[Around.under,Code.cUnits,Code.frames,Code.isFrame]
theorem cO.make{k:Nat}{A:Around}(r:cO (k+1) A)(C:Addr)(us:List Value)(kw:List (Str × Value)):cO k (A.under (.builtin "type.__call__" ⟨.ref C::us,kw⟩)) :=
 ⟨r.hd,by have:=r.dp;rw[bT6];omega,by have:=r.un;rw[bU5];omega⟩
theorem cO.depth{k:Nat}{A:Around}(r:cO k A):A.depth<recursionLimit:=by have:=r.dp;omega
noncomputable def cW6:TA:=λ_ H Q=>Q [] H
noncomputable def cT1(ta:TE)(tr:TA):TA:=λσ H Q=>ta σ H λx H1=>tr σ H1 λxs H2=>Q (x::xs) H2
section
variable{X:Cx}{e:Expr}{es:List Expr}{te:TE}{t:TA}{pos:Pos}
theorem kj:PA X [] cW6:=λ_ _ _ _ H Q I h=>Calls.spliced_nil ⟨[],H,I,.nil,h⟩
theorem gn(ha:PE X e te)(hr:PA X es t)(hs:starEach (e::es) X.env=(false,eval e X.env)::starEach es X.env:=by rfl):PA X (e::es) (cT1 te t):=by
 intro pos pins s σ H Q I h
 rw[hs]
 show wpAny _ _ (spliced ((false,eval e X.env)::backTo pos (starEach es X.env))) _ _ s
 refine Calls.spliced_cons (bc (ha pins s σ H _ I h) λu s1 ⟨x,H1,I1,r1,q1⟩=>?_)
 exact bc (hr pos pins s1 σ H1 _ I1 q1) λus s2 ⟨xs,H2,I2,r2,q2⟩=>⟨x::xs,H2,I2,.cons r1 r2,q2⟩
noncomputable def cV6(t:TA):TE:=λσ H Q=>t σ H λxs H1=>xs.length<=sizeLine/\∀p,H1 p=none->Q (.ref p) (upd H1 p (.tup xs))
noncomputable def cX4(t:TA):TE:=λσ H Q=>t σ H λxs H1=>xs.length<=sizeLine/\∀p,H1 p=none->Q (.ref p) (upd H1 p (.lst xs))
theorem cG0{x1}(h:PA X es t):PE X (.Tuple es x1 pos) (cV6 t):=by
 intro pins s σ H Q I hq
 refine wpAny_Tuple_spliced (bc (h pos pins s σ H _ I hq) λus s1 ⟨xs,H1,I1,r,z,q⟩=>⟨by rw[<-r.length];exact z,?_⟩)
 have hf:H1 s1.heap.objs.size=none:=I1.aR.fresh (bN _)
 refine⟨.ref s1.heap.objs.size,upd H1 s1.heap.objs.size (.tup xs),I1.laid (t':=s1.toks) (λb u e=>fL _ e) (bN _) ?_,rfl,q _ hf⟩
 exact⟨z,us,r,⟨_,gJ _ rfl,rfl,_,rfl⟩⟩
theorem Sf(h:PA X es t):PE X (.List es pos) (cX4 t):=by
 intro pins s σ H Q I hq
 refine wpAny_List_spliced (bc (h pos pins s σ H _ I hq) λus s1 ⟨xs,H1,I1,r,z,q⟩=>⟨by rw[<-r.length];exact z,?_⟩)
 have hf:H1 s1.heap.objs.size=none:=I1.aR.fresh (bN _)
 refine⟨.ref s1.heap.objs.size,upd H1 s1.heap.objs.size (.lst xs),I1.laid (t':=s1.toks) (λb u e=>fL _ e) (bN _) ?_,rfl,q _ hf⟩
 exact⟨z,us,0,r,gJ _ rfl⟩
end
noncomputable abbrev Sp:=List V->Hp->VK->XK->Prop
noncomputable abbrev fg:=List Env->Hp->Shared->XK->Value->Shared->Prop
structure ju(P:Program)(w:World)(K:PySem.W.Frag)(mg:Str->Option Value)(base:Heap)(A:Around)(outer:List Env)(s:Shared)(H:Hp):Prop where
 frames:A.frames=some outer
 mod:Mod K mg base
 bs:∀b o,base.get? b=some o->s.heap.get? b=some o/\H b=none
 ke:base.objs.size<=s.heap.objs.size
 gQ:s.heap.FunFrames base outer
 kg:∀b∈eI outer,H b=none
 aR:cS P w H s.heap
 bare:AllBare s.gens
noncomputable def CE(outer:List Env)(P:Program)(w:World)(H:Hp)(s:Shared)(Q:VK)(u:Value)(s':Shared):Prop :=
 ∃v H',s'.os=s.os/\AllBare s'.gens/\Un (eI outer) [] H H' s.heap s'.heap/\cS P w H' s'.heap/\RelV v u/\Q v H'
noncomputable def CR(CX:fg)(outer:List Env)(P:Program)(w:World)(H:Hp)(s:Shared)(Q:VK)(E:XK)(r:Result)(s':Shared):Prop :=
 match r with
 | .ok (.ret u)=>CE outer P w H s Q u s'
 | .ok _=>False
 | .error e=>CX outer H s E e s'
structure aU(P:Program)(w:World)(K:PySem.W.Frag)(mg:Str->Option Value)(base:Heap)(CX:fg)(k:Nat)(f:Addr)(fd:FuncData)(ps:List Str)(sp:Sp):Prop where
 len:∀vs H Q E,sp vs H Q E->vs.length=ps.length
 run:∀(A:Around) (outer:List Env) (s:Shared) (H:Hp) (args:Args) (us:List Value) (vs:List V) (Q:VK) (E:XK),cO k A->ju P w K mg base A outer s H->BindsTo s fd args (ps.zip us)->Vals vs us->sp vs H Q E ->
  codeAny (model P w) A (.call (.ref f) args) (CR CX outer P w H s Q E) s
theorem aU.mono{P:Program}{w:World}{K:PySem.W.Frag}{mg:Str->Option Value}{base:Heap}{CX:fg}{j k:Nat}{f:Addr}{fd:FuncData}{ps:List Str}{sp:Sp}(F:aU P w K mg base CX j f fd ps sp)(h:j<=k) :
  aU P w K mg base CX k f fd ps sp:=⟨F.len,λA outer s H args us vs Q E hr=>F.run A outer s H args us vs Q E (hr.mono h)⟩
theorem aU.imp{P:Program}{w:World}{K:PySem.W.Frag}{mg:Str->Option Value}{base:Heap}{CX:fg}{k:Nat}{f:Addr}{fd:FuncData}{ps:List Str}{sp Sg:Sp}(F:aU P w K mg base CX k f fd ps sp)
  (h:∀vs H Q E,Sg vs H Q E->sp vs H Q E):aU P w K mg base CX k f fd ps Sg :=
 ⟨λvs H Q E q=>F.len vs H Q E (h _ _ _ _ q),λA outer s H args us vs Q E hr he hb hv hs=>F.run A outer s H args us vs Q E hr he hb hv (h _ _ _ _ hs)⟩
theorem ju.make{P:Program}{w:World}{K:PySem.W.Frag}{mg:Str->Option Value}{base:Heap}{A:Around}{outer:List Env}{s:Shared}{H:Hp}(e:ju P w K mg base A outer s H)(C:Addr)(us:List Value)(kw:List (Str × Value)) :
  ju P w K mg base (A.under (.builtin "type.__call__" ⟨.ref C::us,kw⟩)) outer s H:=⟨by first | exact e.frames | (simpa[Around.under,Code.envs,Code.isFrame,pushEnvs]using e.frames),e.mod,e.bs,e.ke,e.gQ,e.kg,e.aR,e.bare⟩
section
variable{X:Cx}{pins:List (Addr × Obj)}{σ:St}{H:Hp}{s s':Shared}
theorem Inv.y8(I:Inv X pins σ H s):ju X.prog X.w X.K X.mg X.base X.A X.stack s H :=
 ⟨I.ok.frames,I.ok.mod,I.bs,eP I.ok.ke I.sz,I.stack,I.FU,I.aR,I.bare⟩
theorem Inv.after{Q:VK}{u:Value}(I:Inv X pins σ H s)(h:CE X.stack X.prog X.w H s Q u s'):EP X pins σ Q u s':=by
 obtain⟨v,H',os,bare,un,aR,r,q⟩:=h
 obtain⟨hh,g,d,t,os'⟩:=s'
 obtain rfl:os'=s.os:=os
 exact⟨v,H',I.call (h':=hh) (g':=g) (d':=d) (t':=t) (ch:=[]) un aR bare (λb z=>absurd z (by simp)),r,q⟩
end
noncomputable def cR4(sp:Sp)(fN:List V)(E:XK)(t:TA):TE:=λσ H Q=>t σ H λvs H1=>sp (vs++fN) H1 Q E
noncomputable def cR6(C:Addr)(m:Str)(sp:Sp)(fN:List V)(E:XK)(ta:TE)(t:TA):TE:=λσ H Q=>ta σ H λx H1=>∃a dx fs,x=.ref a/\H1 a=some (.ins C dx fs)/\fs.lookup m=none /\
 t σ H1 λvs H2=>sp (x::(vs++fN)) H2 Q E
noncomputable def cQ5(C:Addr)(sp:Sp)(fN:List V)(E:XK)(t:TA):TE:=λσ H Q=>t σ H λvs H1=>∀x dx,H1 x=none->H1 dx=none->dx≠x ->
 sp (.ref x::(vs++fN)) (upd (upd H1 dx (.own x)) x (.ins C dx [])) (λv H2=>v=.az/\Q (.ref x) H2) E
noncomputable def Binds(K:PySem.W.Frag)(fd:FuncData)(ps:List Str)(ds:List Value):Prop :=
 ∀(s:Shared) (us:List Value),K.In s.heap->(us++ds).length=ps.length->BindsTo s fd ⟨us,[]⟩ (ps.zip (us++ds))
theorem Binds.all{K:PySem.W.Frag}{fd:FuncData}{ps:List Str}(h:∀us:List Value,us.length=ps.length->bindArgs fd ⟨us,[]⟩=pure (ps.zip us)):Binds K fd ps []:=λs us _ hl=>by
 rw[lZ]at hl ⊢
 exact .of_eq (h us hl)
noncomputable def mx(CX:fg)(X:Cx)(E:XK):Prop:=∀(pins:List (Addr × Obj)) (σ:St) (H:Hp) (s:Shared) (e:Value) (s':Shared),Inv X pins σ H s->CX X.stack H s E e s'->X.xe e s'
section
variable{X:Cx}{CX:fg}{k:Nat}{f C:Addr}{fd:FuncData}{ps:List Str}{sp:Sp}{fN:List V}{ds:List Value}{E:XK}{x m:Str}{p pos apos:Pos}{e o:Expr}{es:List Expr}{ta:TE}{t:TA}
theorem Cb{pins:List (Addr × Obj)}{σ:St}{H:Hp}{s:Shared}{Q:VK}{us:List Value}{vs:List V}(F:aU X.prog X.w X.K X.mg X.base CX k f fd ps sp)(hr:cO k X.A)(hb:Binds X.K fd ps ds)(hd:Vals fN ds)(hx:mx CX X E)
  (I:Inv X pins σ H s) (r:Vals vs us) (h:sp (vs++fN) H Q E):wpAny (model X.prog X.w) X.A (call (.ref f) us) (EP X pins σ Q) X.xe s:=by
 have r2:Vals (vs++fN) (us++ds):=r.append hd
 have hl:(us++ds).length=ps.length:=by rw[<-r2.length];exact F.len _ _ _ _ h
 refine wpAny_call (codeAny_mono (F.run X.A X.stack s H ⟨us,[]⟩ (us++ds) (vs++fN) Q E hr I.y8 (hb s us I.dA hl) r2 h) λr s' hq=>?_)
 cases r with
 | error e=>exact hx pins σ H s e s' I hq
 | ok fl =>
  cases fl with
  | ret u=>exact I.after hq
  | next=>exact fV hq
  | brk=>exact fV hq
  | cont=>exact fV hq
theorem tw(F:aU X.prog X.w X.K X.mg X.base CX k f fd ps sp)(hr:cO k X.A)(hg:Gl X x)(hm:X.mg x=some (.ref f))(hk:PySem.W.keepIn X.K (.ref f)=true)(hb:Binds X.K fd ps ds)(hd:Vals fN ds)(hx:mx CX X E)
  (ha:PA X (e::es) t) (fh:(x==("__debug__":Str))=false:=by decide) (he:starEach (e::es) X.env=(false,eval e X.env)::starEach es X.env:=by rfl) (bU:(backTo pos (starEach es X.env)).any (·.1)=false:=by rfl) :
  PE X (.Call (.Name x p) (e::es) [] pos) (cR4 sp fN E t):=by
 intro pins s σ H Q I h
 refine wpAny_Call_Name_kw (BV I hg hm ?_ fh)
 refine PySem.W.callWith_K (h₀:=X.base) I.ok.mod.nO hk (bc (ha pos pins s σ H _ I h) λus s1 ⟨vs,H1,I1,r,q⟩=>⟨I1.dA,?_⟩) he bU
 exact Cb F hr hb hd hx I1 r q
theorem cA7{pl:Sem Bool}(he:PE X o ta)(c:eJ X.K C)(hm:Meth X.K C m f)(F:aU X.prog X.w X.K X.mg X.base CX k f fd ps sp)(hr:cO k X.A)(hb:Binds X.K fd ps ds)(hd:Vals fN ds)(hx:mx CX X E)(ha:PA X (e::es) t)
  (dB:starEach (e::es) X.env=(false,eval e X.env)::starEach es X.env:=by rfl) (bU:(backTo pos (starEach es X.env)).any (·.1)=false:=by rfl)
  (ht:eval (.Call (.Attribute o m apos) (e::es) [] pos) X.env=(do
   let ov<-eval o X.env
   standAt apos.atName
   let (f,first)<-holding [ov] (getMethod ov m pl)
   callWith pos f first (backTo pos (starEach (e::es) X.env)) (backToKw pos (keywordEach [] X.env))):=by rfl) :
  PE X (.Call (.Attribute o m apos) (e::es) [] pos) (cR6 C m sp fN E ta t):=by
 intro pins s σ H Q I h
 refine PySem.W.methodCall_KW (pl:=pl) (bc (he pins s σ H _ I h) λu s1 ⟨x,H1,I1,rx,a,dx,fs,ex,ea,l,q⟩=>?_) ht
 subst ex
 obtain rfl:u=fJ a:=rx
 refine Gz I1 ea c hm l ?_
 refine PySem.W.callWith_K (first:=[.ref a]) (h₀:=X.base) I.ok.mod.nO hm.kp (bc (ha pos pins s1 σ H1 _ I1 q) λus s2 ⟨vs,H2,I2,r,q2⟩=>⟨I2.dA,?_⟩) dB bU
 exact Cb (us:=.ref a::us) (vs:=.ref a::vs) F hr hb hd hx I2 (.cons rfl r) q2
structure Mk(K:PySem.W.Frag)(C f:Addr):Prop where
 makes:PySem.W.makesIn K C=true
 init:PySem.W.findIn K (.ref C) "__init__"=some (some (.ref f))
 fn:PySem.W.isFn K (.ref f)=true
 kp:PySem.W.keepIn K (.ref C)=true
theorem cd7{pins:List (Addr × Obj)}{σ:St}{H:Hp}{s:Shared}{Q:VK}{us:List Value}{vs:List V}(M:Mk X.K C f)(F:aU X.prog X.w X.K X.mg X.base CX k f fd ps sp)(hr:cO (k+1) X.A)(hb:Binds X.K fd ps ds)(hd:Vals fN ds)
  (hx:mx CX X E) (I:Inv X pins σ H s) (r:Vals vs us)
  (h:∀x dx,H x=none->H dx=none->dx≠x->sp (.ref x::(vs++fN)) (upd (upd H dx (.own x)) x (.ins C dx [])) (λv H2=>v=.az/\Q (.ref x) H2) E) :
  wpAny (model X.prog X.w) X.A (call (.ref C) us) (EP X pins σ Q) X.xe s:=by
 have hq:=h (s.heap.objs.size+1) s.heap.objs.size (I.aR.fresh (Nat.le_succ _)) (I.aR.fresh (bN _)) (fo (Bz _))
 have I2:=Inv.made (C:=C) I
 have r2:Vals (V.ref (s.heap.objs.size+1)::(vs++fN)) (fJ (s.heap.objs.size+1)::(us++ds)):=.cons rfl (r.append hd)
 have hl:(fJ (s.heap.objs.size+1)::us++ds).length=ps.length:=by
  have e:=r2.length
  rw[F.len _ _ _ _ hq]at e
  exact e.symm
 refine wpAny_call (cj5 (f:=f) I.dA M.makes M.init (beq_iff_eq.mp M.fn) (codeAny_mono (F.run _ X.stack _ _ ⟨fJ (s.heap.objs.size+1)::us,[]⟩ (fJ (s.heap.objs.size+1)::(us++ds)) _ _ E (hr.make C us [])
  (I2.y8.make C us []) (hb _ (fJ (s.heap.objs.size+1)::us) I2.dA hl) r2 hq) λr s' nR=>?_))
 cases r with
 | error e=>exact hx pins σ _ _ e s' I2 nR
 | ok fl =>
  cases fl with
  | ret u =>
   obtain⟨v,H',I3,rv,ev,q3⟩:=I2.after nR
   subst ev
   exact⟨rv,⟨V.ref (s.heap.objs.size+1),H',I3,rfl,q3⟩⟩
  | next=>exact fV nR
  | brk=>exact fV nR
  | cont=>exact fV nR
theorem cv8(M:Mk X.K C f)(F:aU X.prog X.w X.K X.mg X.base CX k f fd ps sp)(hr:cO (k+1) X.A)(hg:Gl X x)(hm:X.mg x=some (.ref C))(hb:Binds X.K fd ps ds)(hd:Vals fN ds)(hx:mx CX X E)
  (ha:PA X (e::es) t) (fh:(x==("__debug__":Str))=false:=by decide) (he:starEach (e::es) X.env=(false,eval e X.env)::starEach es X.env:=by rfl) (bU:(backTo pos (starEach es X.env)).any (·.1)=false:=by rfl) :
  PE X (.Call (.Name x p) (e::es) [] pos) (cQ5 C sp fN E t):=by
 intro pins s σ H Q I h
 refine wpAny_Call_Name_kw (BV I hg hm ?_ fh)
 refine PySem.W.callWith_K (h₀:=X.base) I.ok.mod.nO M.kp (bc (ha pos pins s σ H _ I h) λus s1 ⟨vs,H1,I1,r,q⟩=>⟨I1.dA,?_⟩) he bU
 exact cd7 M F hr hb hd hx I1 r q
end
section
variable{X:Cx}{CX:fg}{k:Nat}{f C:Addr}{fd:FuncData}{ps ks:List Str}{sp:Sp}{E:XK}{x m:Str}{p pos apos fg9:Pos}{e o:Expr}{es:List Expr}{kws:List Keyword}{te ta:TE}{t tk:TA}{nm:Option Str}
variable{g:List Value->List Value->List Value}{gV:List V->List V->List V}
end
structure bw(N P:List Str)(sc:Scope):Prop where
 kind:sc.kind=.function
 co:sc.isCoroutine=false
 gen:sc.isGenerator=false
 nd:N.Nodup
 pre:N.take P.length=P
 par:∀x∈P,sc.names.lookup x=some .local\/sc.names.lookup x=some .cell
 dk8:∀y∈sc.names,y.2≠.free
theorem Sh{kindOf:Str->Option NameKind}{x:Str}:∀{binds:List (Str × Value)} {m:Str->Option Value},(∀v,(x,v) ∉ binds)->bindL kindOf binds m x=m x
 | [],_,_=>rfl
 | (n,v)::r,m,h=>by
  unfold bindL
  rw[Sh λw hw=>h w (dZ _ hw)]
  split
  ·have:x≠n:=by rintro rfl;exact h v fU
   simp[this]
  ·rfl
theorem Si{kindOf:Str->Option NameKind}{x:Str}:∀{binds:List (Str × Value)} {m:Str->Option Value},(∀v,(x,v) ∉ binds)->bindC kindOf binds m x=m x
 | [],_,_=>rfl
 | (n,v)::r,m,h=>by
  unfold bindC
  rw[Si λw hw=>h w (dZ _ hw)]
  split
  ·rfl
  ·have:x≠n:=by rintro rfl;exact h v fU
   simp[this]
theorem Sj{kindOf:Str->Option NameKind}{x:Str}{v:Value}:∀{P:List Str} {vs:List Value} {i:Nat} {m:Str->Option Value},P.Nodup->P[i]?=some x->vs[i]?=some v->kindOf x=some .local ->
  bindL kindOf (P.zip vs) m x=some v
 | [],_,_,_,_,h,_,_=>by simp at h
 | _::_,[],_,_,_,_,h,_=>by simp at h
 | p::P,w::vs,0,m,nd,h1,h2,hk=>by
  simp at h1 h2;subst h1;subst h2
  show bindL kindOf ((p,w)::P.zip vs) m p=_
  unfold bindL
  rw[Sh λv hv=>(jm.mp nd).1 (sC hv).1,if_pos hk]
  simp
 | p::P,w::vs,i+1,m,nd,h1,h2,hk=>by
  show bindL kindOf ((p,w)::P.zip vs) m x=_
  unfold bindL
  exact Sj (i:=i) (jm.mp nd).2 (by simpa using h1) (by simpa using h2) hk
theorem Sk{kindOf:Str->Option NameKind}{x:Str}{v:Value}:∀{P:List Str} {vs:List Value} {i:Nat} {m:Str->Option Value},P.Nodup->P[i]?=some x->vs[i]?=some v->kindOf x≠some .local ->
  bindC kindOf (P.zip vs) m x=some v
 | [],_,_,_,_,h,_,_=>by simp at h
 | _::_,[],_,_,_,_,h,_=>by simp at h
 | p::P,w::vs,0,m,nd,h1,h2,hk=>by
  simp at h1 h2;subst h1;subst h2
  show bindC kindOf ((p,w)::P.zip vs) m p=_
  unfold bindC
  rw[Si λv hv=>(jm.mp nd).1 (sC hv).1,if_neg hk]
  simp
 | p::P,w::vs,i+1,m,nd,h1,h2,hk=>by
  show bindC kindOf ((p,w)::P.zip vs) m x=_
  unfold bindC
  exact Sk (i:=i) (jm.mp nd).2 (by simpa using h1) (by simpa using h2) hk
noncomputable def start(N:List Str)(vs:List V):St:=vs.map some++bH (N.length-vs.length) none
noncomputable def jv(CX:fg)(P:Program)(w:World)(K:PySem.W.Frag)(mg:Str->Option Value)(base:Heap)(N:List Str)(qual:Str)(scope:Scope)(f:Addr)(cd:Value)(A:Around)(outer:List Env)(s:Shared)(H:Hp)(E:XK):Cx where
 prog:=P
 w:=w
 K:=K
 mg:=mg
 base:=base
 A:=A.deeper (envOfC qual scope s.heap.objs.size f cd)
 N:=N
 cT:=s
 kP:=H
 env:=envOfC qual scope s.heap.objs.size f cd
 outer:=outer
 stack:=envOfC qual scope s.heap.objs.size f cd::outer
 ex:=[]
 calm:=true
 fn:=λ_=>true
 pn:=[]
 xe:=λe s'=>wpAny (model P w) (A.deeper (envOfC qual scope s.heap.objs.size f cd)) (leaving (envOfC qual scope s.heap.objs.size f cd) e) (λ_ tD=>CX outer H s E e tD) (λe' tD=>CX outer H s E e' tD) s'
theorem Sl{sc:Scope}{n:Nat}{x:Str}(h:sc.names.lookup x=some .cell):∃c,(cellsFrom n sc.names []).lookup x=some c:=by
 have q:=PySem.W.cellsFrom_some sc.names n [] (.inl h)
 exact cZ2.mp q
theorem bZ2{CX:fg}{P:Program}{w:World}{K:PySem.W.Frag}{mg:Str->Option Value}{base:Heap}{N ps:List Str}{qual:Str}{scope:Scope}{f:Addr}{cd:Value}{A:Around}{outer:List Env}{s s1:Shared}{H:Hp}{E:XK}{us:List Value}{vs:List V}
  (S:bw N ps scope) (hd:A.handled=none) (e0:ju P w K mg base A outer s H) (hl:vs.length=ps.length) (r:Vals vs us)
  (x:InCallC s s.heap.objs.size (bindL (envOfC qual scope s.heap.objs.size f cd).kindOf (ps.zip us) λ_=>none) (cellsFrom (s.heap.objs.size+1) scope.names []) (bindC (envOfC qual scope s.heap.objs.size f cd).kindOf (ps.zip us) λ_=>none) s1) :
  Inv (jv CX P w K mg base N qual scope f cd A outer s H E) [] (start N vs) H s1:=by
 have bU:ps.length<=N.length:=by have:=congrArg Fg S.pre;rw[gL]at this;omega
 obtain⟨h1,tk,rfl,hk⟩:=x.done
 have y9:∀b:Addr,b ∉ (jv CX P w K mg base N qual scope f cd A outer s H E).ex:=λb z=>absurd (show b∈([]:List Addr) from z) (by simp)
 refine⟨⟨e0.mod,S.kind,rfl,rfl,bN _,λy z c h1 h2=>?_,λy hy=>?_,λy c _ h=>?_,λ_=>hd,Around.frames_deeper e0.frames,.inr ⟨rfl,rfl⟩,λb z=>absurd z (y9 b),e0.bs,e0.ke,λb _ _=>y9 b,λb z=>absurd z (y9 b),e0.gQ,e0.kg⟩,
  rfl,e0.bare,Un.kept hk,⟨_,x.toInCall.ns,λi y v h1 h2 h3=>?_⟩,λy c h=>⟨_,x.cell y c h⟩,e0.aR.fresh (bN _),λy c h=>?_,λp hp=>absurd (show p∈([]:List (Addr × Obj)) from hp) (by simp),e0.aR.kept hk,?_⟩
 ·exact name_of_addr x.apart (PySem.mem_of_lookup h1) (PySem.mem_of_lookup h2)
 ·have hy:scope.names.lookup y=some .cell\/scope.names.lookup y=some .free:=hy
  rcases hy with hy | hy
  ·exact Sl hy
  ·exact absurd rfl (S.dk8 _ (PySem.mem_of_lookup hy))
 ·exact Br (x.above y c (PySem.mem_of_lookup h))
 ·have hi:i<vs.length:=by
   unfold start at h2
   by_cases hi:i<vs.length
   ·exact hi
   ·rw[sD (by simpa using hi)]at h2
    rw[BA]at h2
    split at h2<;>cases h2
  have ha:vs[i]?=some v:=by
   unfold start at h2
   rw[sE (by simpa using hi),bQ]at h2
   cases e:vs[i]? with
   | none=>rw[e]at h2;cases h2
   | some a=>rw[e]at h2;cases h2;rfl
  obtain⟨u,hu,rv⟩:=r.get ha
  have hp:ps[i]?=some y:=by
   rw[<-S.pre,cZ3 (by omega)];exact h1
  have Sm:ps.Nodup:=by rw[<-S.pre];exact S.nd.sublist (List.take_sublist _ _)
  refine⟨u,rv,?_⟩
  rcases S.par y (u9 hp)with k | k
  ·exact .inl ⟨k,Sj Sm hp hu k⟩
  ·obtain⟨c,e⟩:=Sl (n:=s.heap.objs.size+1) k
   refine .inr ⟨.inl k,c,e,?_⟩
   have q:=x.cell y c e
   rw[Sk Sm hp hu (by show scope.names.lookup y≠_;rw[k];decide)]at q
   exact q
 ·exact e0.aR.fresh (Br (x.above y c (PySem.mem_of_lookup h)))
 ·unfold start
  show _=N.length
  rw[dO,bB,pY]
  omega
theorem GB{CX:fg}{P:Program}{w:World}{K:PySem.W.Frag}{mg:Str->Option Value}{base:Heap}{k:Nat}{f:Addr}{name qual:Str}{params:Arguments}{body:List Stmt}{scope:Scope}{dV kV doc pm aK ct oc:Value}{an od:Option Addr}
  {my:Array (Option Value)} {N ps:List Str} {sp:Sp} (lk:K.lookup f=some ⟨oc,od,.func (PySem.W.fnOf name qual params body scope dV kV doc pm an aK ct),my⟩) (dq:PySem.W.codeIn K aK qual=true) (S:bw N ps scope)
  (len:∀vs H Q E,sp vs H Q E->vs.length=ps.length)
  (iM:∀(A:Around) (outer:List Env) (s:Shared) (H:Hp) (vs:List V) (Q:VK) (E:XK),cO k (A.deeper (envOfC qual scope s.heap.objs.size f aK))->sp vs H Q E ->
   ∃t,PSs (jv CX P w K mg base N qual scope f aK A outer s H E) body t/\t { nx:=λ_ H'=>Q .az H',rt:=Q } (start N vs) H) :
  aU P w K mg base CX (k+1) f (PySem.W.fnOf name qual params body scope dV kV doc pm an aK ct) ps sp:=by
 refine⟨len,λA outer s H args us vs Q E hr e0 hb r jw=>?_⟩
 have hl:=len _ _ _ _ jw
 have KX:K.In s.heap:=e0.mod.nO.keeps λb o e=>(e0.bs b o e).1
 have lim:s.heap.NoLimit:=e0.mod.nolimit.keeps λb o e=>(e0.bs b o e).1
 have jx:∀y∈ps.zip us,scope.names.lookup y.1=some .local\/(scope.names.lookup y.1=some .cell/\((cellsFrom (s.heap.objs.size+1) scope.names []).lookup y.1).isSome=true):=λ⟨n,v⟩ hy=>by
  rcases S.par n (sC hy).1 with q | q
  ·exact .inl q
  ·exact .inr ⟨q,PySem.W.cellsFrom_some _ _ _ (.inl q)⟩
 refine codeAny_call_function hr.depth (KX _ _ lk) rfl S.co S.gen rfl (PySem.W.codeRec_of KX dq) (hb _ _ _ _ ?_)
 refine wpAny_newFunctionEnv_cells S.kind jx λenv he s1 x=>?_
 subst he
 refine⟨lim.keeps x.toInCall.keep,codeAny_func ?_⟩
 obtain⟨t,ht,hq⟩:=iM A outer s H vs Q E (hr.deeper _) jw
 have I:Inv (jv CX P w K mg base N qual scope f aK A outer s H E) [] (start N vs) H s1:=bZ2 S hr.hd e0 hl r x
 refine wpAny_mono (ht [] s1 (start N vs) H _ I hq) (λfl s' hs=>?_) λe s' hs=>hs
 have fin:∀{aO:St} {H':Hp} {v:V} {u:Value},Inv (jv CX P w K mg base N qual scope f aK A outer s H E) [] aO H' s'->RelV v u->Q v H'->CE outer P w H s Q u s' :=
  λ{aO H' v u} J rv q=>⟨v,H',J.os,J.bare,J.base,J.aR,rv,q⟩
 cases fl with
 | ret u =>
  obtain⟨v,aO,H',J,rv,q⟩:=hs
  exact fin J rv q
 | next =>
  obtain⟨aO,H',J,q⟩:=hs
  exact fin (v:=V.az) (u:=su) J rfl q
 | brk =>
  obtain⟨_,_,_,q⟩:=hs
  exact fV q
 | cont =>
  obtain⟨_,_,_,q⟩:=hs
  exact fV q
end L2
namespace L2
open PySem PySem.Spec PyProof.Rows
section
variable{X:Cx}{x:Str}{p pos:Pos}{e:Expr}{es:List Expr}{t:TA}{id T:String}{r:List V->Hp->VK->Prop}
noncomputable def GC(r:List V->Hp->VK->Prop)(t:TA):TE:=λσ H Q=>t σ H λvs H1=>r vs H1 Q
theorem Sn(hc:iK X (.builtin id) r)(hg:Gl X x)(hm:X.mg x=none)(hv:bootBuiltins x=some (.builtin id))(ha:PA X (e::es) t)(hn:x≠"__name__":=by decide)(fh:(x==("__debug__":Str))=false:=by decide)
  (he:starEach (e::es) X.env=(false,eval e X.env)::starEach es X.env:=by rfl) (bU:(backTo pos (starEach es X.env)).any (·.1)=false:=by rfl):PE X (.Call (.Name x p) (e::es) [] pos) (GC r t):=by
 intro pins s σ H Q I h
 refine wpAny_Call_Name_kw (sY I hg hm hv ?_ hn fh)
 exact PyProof.Rows.callWith_builtin1 (bc (ha pos pins s σ H _ I h) λus s1 ⟨vs,H1,I1,r1,q1⟩=>hc pins s1 σ H1 vs us Q I1 r1 q1) he bU
theorem b83(hc:iK X (.type T) r)(hg:Gl X x)(hm:X.mg x=none)(hv:bootBuiltins x=some (.type T))(ha:PA X (e::es) t)(hn:x≠"__name__":=by decide)(fh:(x==("__debug__":Str))=false:=by decide)
  (he:starEach (e::es) X.env=(false,eval e X.env)::starEach es X.env:=by rfl) (bU:(backTo pos (starEach es X.env)).any (·.1)=false:=by rfl):PE X (.Call (.Name x p) (e::es) [] pos) (GC r t):=by
 intro pins s σ H Q I h
 refine wpAny_Call_Name_kw (sY I hg hm hv ?_ hn fh)
 exact Bv (bc (ha pos pins s σ H _ I h) λus s1 ⟨vs,H1,I1,r1,q1⟩=>hc pins s1 σ H1 vs us Q I1 r1 q1) he bU
end
end L2
namespace HT
open PySem PyProof.Rows
section
open PySem.SeqAt
open PySem.AutoSeq1 (wpAny_loadPart')
open PySem.MeetsSeq PySem.MeetsSeq2 PySem.MeetsSeq3
end
section
variable{prog:Program}{w:World}{A:Around}{E:Value->Shared->Prop}{s:Shared}
noncomputable def di(n d:Nat):Option Int->Nat
 | none=>d
 | some v=>if v<0 then(v+(n:Int)).toNat else min v.toNat n
theorem GD(n d k:Nat):di n d (some (k:Int))=min k n:=by
 show(if(k:Int)<0 then((k:Int)+(n:Int)).toNat else min (k:Int).toNat n)=min k n
 rw[if_neg (by omega),fX]
end
end HT
namespace L2
open PySem PySem.Spec PyProof.Rows
noncomputable abbrev TO:=St->Hp->(Option Int->Hp->Prop)->Prop
noncomputable def PO(X:Cx)(e:Option Expr)(t:TO):Prop :=
 ∀(pins:List (Addr × Obj)) (s:Shared) (σ:St) (H:Hp) (Q:Option Int->Hp->Prop),Inv X pins σ H s->t σ H Q ->
  wpAny (model X.prog X.w) X.A (evalPart e X.env) (λu s'=>∃o H',Inv X pins σ H' s'/\IsPart u o/\Q o H') X.xe s
noncomputable def cw2:TO:=λ_ H Q=>Q none H
noncomputable def cO3(t:TE):TO:=λσ H Q=>t σ H λx H1=>∃i,x=.int i/\Q (some i) H1
theorem bV7{ns:List Int}:∀{us:List Value},Vals (ns.map V.int) us->IntsAre us ns:=by
 induction ns with
 | nil=>intro us r;rw[jN]at r;cases r;exact .nil
 | cons n ns ih =>
  intro us r
  rw[dz]at r
  cases r with
  | cons r1 r2 =>
   obtain⟨t,e⟩:=r1
   subst e
   exact .cons n t (ih r2)
section
variable{X:Cx}{e:Expr}{te:TE}{lo hi:Option Expr}{tl th:TO}{pos p2:Pos}
theorem cD7:PO X none cw2:=by
 intro pins s σ H Q I h
 rw[evalPart_none]
 exact wpAny_pure ⟨none,H,I,.none,h⟩
theorem cC0(h:PE X e te):PO X (some e) (cO3 te):=by
 intro pins s σ H Q I hw
 rw[evalPart_some]
 refine bc (h pins s σ H _ I hw) λu s1 ⟨x,H1,I1,r1,q1⟩=>?_
 obtain⟨i,rfl,q⟩:=q1
 obtain⟨t,rfl⟩:=r1
 exact⟨some i,H1,I1,.int i t,q⟩
noncomputable def tE(X:Cx)(r:V->Option Int->Option Int->Hp->VK->Prop):Prop :=
 ∀(pins:List (Addr × Obj)) (s:Shared) (σ:St) (H:Hp) (x:V) (v vl vu:Value) (lo hi:Option Int) (sl:Addr) (Q:VK),Inv X pins σ H s->RelV x v->s.heap.IsSliceOf sl vl vu .none->IsPart vl lo->IsPart vu hi->r x lo hi H Q ->
  ∃T id,typeLookup (.type T) "__getitem__"=pure (some (.builtin id))/\s.TypeIs v T/\wpAny (model X.prog X.w) X.A (getItem v (.ref sl)) (EP X pins σ Q) X.xe s
theorem tE.or{r r':V->Option Int->Option Int->Hp->VK->Prop}(h:tE X r)(h':tE X r'):tE X (λx lo hi H Q=>r x lo hi H Q\/r' x lo hi H Q):=by
 intro pins s σ H x v vl vu lo hi sl Q I rx hs pl pu q
 rcases q with q | q
 ·exact h pins s σ H x v vl vu lo hi sl Q I rx hs pl pu q
 ·exact h' pins s σ H x v vl vu lo hi sl Q I rx hs pl pu q
noncomputable def tSl(r:V->Option Int->Option Int->Hp->VK->Prop)(te:TE)(tl th:TO):TE:=λσ H Q=>te σ H λx H1=>tl σ H1 λl H2=>th σ H2 λu H3=>r x l u H3 Q
theorem ck3{r:V->Option Int->Option Int->Hp->VK->Prop}(hr:tE X r)(he:PE X e te)(hl:PO X lo tl)(hu:PO X hi th):PE X (.Subscript e (.Slice lo hi none p2) pos) (tSl r te tl th):=by
 intro pins s σ H Q I h
 refine Subscript_ (bc (he pins s σ H _ I h) λv s1 ⟨x,H1,I1,r1,q1⟩=>?_)
 refine wpAny_Slice (bc (hl pins s1 σ H1 _ I1 q1) λvl s2 ⟨l,H2,I2,pl,q2⟩=>bc (hu pins s2 σ H2 _ I2 q2) λvu s3 ⟨u,H3,I3,pu,q3⟩=>?_)
 rw[evalPart_none]
 refine wpAny_pure ?_
 have I4:Inv X pins σ H3 { s3 with heap:=s3.heap.push { cls:=.type "slice",data:=.fields #[vl,vu,.none] } }:=I3.kept (t':=s3.toks) λb ob q=>fL _ q
 obtain⟨T,id,hT,ht,hg⟩:=hr pins { s3 with heap:=s3.heap.push { cls:=.type "slice",data:=.fields #[vl,vu,.none] } } σ H3 x v vl vu l u s3.heap.objs.size Q I4 r1 (Heap.IsSliceOf.new ..) pl pu q3
 show wpAny (model X.prog X.w) X.A (subscriptTail e (.Slice lo hi none p2) v (.ref s3.heap.objs.size)) (EP X pins σ Q) X.xe { s3 with heap:=s3.heap.push { cls:=.type "slice",data:=.fields #[vl,vu,.none] } }
 exact tail_any (ops:=[.ref s3.heap.objs.size,v]) ht hT hg (by with_unfolding_all rfl)
noncomputable def vA(xs:List V)(lo hi:Option Int):List V:=(xs.drop (HT.di xs.length 0 lo)).take (HT.di xs.length xs.length hi-HT.di xs.length 0 lo)
theorem bN4(xs:List V)(lo hi:Option Int):(vA xs lo hi).length<=xs.length:=by
 unfold vA
 rw[gL,iH]
 omega
end
end L2
namespace L2
open PySem PySem.Spec PyProof.Rows
noncomputable def iN(n:Nat)(i:Int):Option Nat:=if 0<=i then(if i<n then some i.toNat else none)else if -(n:Int)<=i then some (i+n).toNat else none
noncomputable def eK{α:Type}(xs:List α)(i:Int):Option α:=(iN xs.length i).bind λj=>xs[j]?
theorem So{n:Nat}{i:Int}{j:Nat}(h:iN n i=some j):seqIndex? i n=some j/\j<n/\-(n:Int)<=i/\i<n:=by
 unfold iN at h
 by_cases h0:0<=i
 ·rw[if_pos h0]at h
  by_cases h1:i<n
  ·rw[if_pos h1]at h
   have e:i.toNat=j:=cX h
   exact⟨by rw[seqIndex_of h0 h1,e],by omega,by omega,h1⟩
  ·rw[if_neg h1]at h;cases h
 ·rw[if_neg h0]at h
  by_cases h1:-(n:Int)<=i
  ·rw[if_pos h1]at h
   have e:(i+n).toNat=j:=cX h
   exact⟨by rw[seqIndex_neg (by omega) h1,e],by omega,h1,by omega⟩
  ·rw[if_neg h1]at h;cases h
theorem ql{α:Type}{xs:List α}{i:Int}{v:α}(h:eK xs i=some v):∃j,seqIndex? i xs.length=some j/\xs[j]?=some v/\j<xs.length/\-(xs.length:Int)<=i/\i<xs.length:=by
 unfold eK at h
 cases e:iN xs.length i with
 | none=>rw[e]at h;cases h
 | some j =>
  rw[e]at h
  obtain⟨h1,h2,h3,h4⟩:=So e
  exact⟨j,h1,h,h2,h3,h4⟩
noncomputable def Sq(b:Expr):Prop:=∀o i,subscripted b false o i=operate [o,i] (getItem o i)
noncomputable def nS(X:Cx)(r:R2):Prop :=
 ∀(value slice:Expr) (pins:List (Addr × Obj)) (s:Shared) (σ:St) (H:Hp) (x y:V) (v u:Value) (Q:VK),Inv X pins σ H s->RelV x v->RelV y u->r x y H Q ->
  subscripted slice false v u=operate [v,u] (getItem v u)->wpAny (model X.prog X.w) X.A (subscriptTail value slice v u) (EP X pins σ Q) X.xe s
noncomputable def Cc(X:Cx)(id:String)(r:V->List V->Hp->VK->Prop):Prop :=
 ∀(pins:List (Addr × Obj)) (s:Shared) (σ:St) (H:Hp) (x:V) (xs:List V) (v:Value) (us:List Value) (Q:VK),Inv X pins σ H s->RelV x v->Vals xs us->r x xs H Q ->
  wpAny (model X.prog X.w) X.A (call (.builtin id) (v::us)) (EP X pins σ Q) X.xe s
section
variable{X:Cx}{a b:Expr}{ta tb:TE}{pos:Pos}
theorem nS.or{r r':R2}(h:nS X r)(h':nS X r'):nS X (λx y H Q=>r x y H Q\/r' x y H Q):=by
 intro value slice pins s σ H x y v u Q I rx ry q hs
 rcases q with q | q
 ·exact h value slice pins s σ H x y v u Q I rx ry q hs
 ·exact h' value slice pins s σ H x y v u Q I rx ry q hs
theorem cS3{r:R2}(hr:nS X r)(ha:PE X a ta)(hb:PE X b tb)(hs:Sq b):PE X (.Subscript a b pos) (y0 r ta tb):=by
 intro pins s σ H Q I h
 exact Subscript_ (Gu ha hb I h λv u s2 x y H2 I2 rx ry q=>hr a b pins s2 σ H2 x y v u Q I2 rx ry q (hs _ _))
noncomputable def Sr(K:PySem.W.Frag):R2:=λx y H Q=>∃p xs i v,x=.ref p/\y=.int i/\bS K H p xs/\eK xs i=some v/\Q v H
noncomputable def Ss(K:PySem.W.Frag):R2:=λx y H Q=>∃p xs i v,x=.ref p/\y=.int i/\ik K H p xs/\eK xs i=some v/\Q v H
noncomputable def Su:R2:=λx y H Q=>∃z i c,x=.str z/\y=.int i/\z.length<=sizeLine/\eK z.cps.toList i=some c/\Q (.str ⟨#[c]⟩) H
theorem dm0:nS X (Sr X.K):=by
 intro value slice pins s σ H x y v u Q I rx ry h hs
 obtain⟨p,xs,i,z,rfl,rfl,hq,he,q⟩:=h
 cases rx
 obtain⟨t,rfl⟩:=ry
 obtain⟨its,r,pl,hz⟩:=I.list hq
 obtain⟨j,h1,h2,h3,h4,h5⟩:=ql he
 obtain⟨w,ew,gq⟩:=r.get h2
 have hl:=r.length
 have hn:=vz
 have fin:EP X pins σ Q w s:=⟨z,H,I,gq,q⟩
 by_cases h0:0<=i
 ·have hj:i.toNat=j:=by
   rw[seqIndex_of h0 h5]at h1
   exact cX h1
  exact item_listR pl.isList h0 (by omega) (by rw[hj];simpa using ew) fin hs
 ·have hj:(i+(its.toArray.size:Int)).toNat=j:=by
   rw[seqIndex_neg (by omega) h4]at h1
   rw[dX,<- hl]
   exact cX h1
  exact subscriptTail_builtinR (x:=w) pl.isList.typeIs slot_list_getitem.lookup
   (wpAny_getItem_list_neg (Q:=λr s'=>r=w/\EP X pins σ Q r s') pl.isList (by omega) (by rw[dX]<;>omega) (by omega) (by rw[hj];simpa using ew) ⟨rfl,fin⟩) hs
theorem dm1:nS X (Ss X.K):=by
 intro value slice pins s σ H x y v u Q I rx ry h hs
 obtain⟨p,xs,i,z,rfl,rfl,hq,he,q⟩:=h
 cases rx
 obtain⟨t,rfl⟩:=ry
 obtain⟨its,r,pl,hz⟩:=I.tuple hq
 obtain⟨j,h1,h2,h3,h4,h5⟩:=ql he
 obtain⟨w,ew,gq⟩:=r.get h2
 have hl:=r.length
 have hn:=vz
 have fin:EP X pins σ Q w s:=⟨z,H,I,gq,q⟩
 exact subscriptTail_builtinR (x:=w) pl.typeIs slot_tuple_getitem.lookup
  (getItem_tuple (j:=j) (Q:=λr s'=>r=w/\EP X pins σ Q r s') pl (by omega) (by omega) (by rw[dX,<- hl];exact h1) (by simpa using ew) ⟨rfl,fin⟩) hs
theorem cH3:nS X Su:=by
 intro value slice pins s σ H x y v u Q I rx ry h hs
 obtain⟨z,i,c,rfl,rfl,hz,he,q⟩:=h
 obtain⟨t,rfl⟩:=rx
 obtain⟨t',rfl⟩:=ry
 obtain⟨j,h1,h2,h3,h4,h5⟩:=ql he
 have hl:z.cps.toList.length=z.length:=by simp[Str.length]
 rw[hl]at h1 h4 h5
 have hn:=vz
 exact tail_any (typeIs_str s z t) slot_str_getitem.lookup (getItem_str (c:=c) (by
  have e1:decide (i < -(2 ^ 63:Int))=false:=decide_eq_false (by omega)
  have e2:decide (i ≥ 2 ^ 63)=false:=decide_eq_false (by omega)
  rw[e1,e2,sF]) (by rw[h1];simpa using h2) ⟨.str ⟨#[c]⟩,H,I.tok _,⟨_,rfl⟩,q⟩) hs
noncomputable def rIx(K:PySem.W.Frag):R2:=λx y H Q=>Sr K x y H Q\/Ss K x y H Q\/Su x y H Q
theorem cF0:nS X (rIx X.K):=dm0.or (dm1.or cH3)
theorem bU8(its:List Value)(n j:Nat)(u:Value):BB (·.setIfInBounds j u) { cls:=.type "list",data:=.seq its.toArray n }={ cls:=.type "list",data:=.seq (its.set j u).toArray n }:=by
 simp[BB]
theorem Inv.lst{pins:List (Addr × Obj)}{σ:St}{H:Hp}{s:Shared}{p:Addr}{xs:List V}(I:Inv X pins σ H s)(h:H p=some (.lst xs)) :
  ∃(its:List Value) (n:Nat),Vals xs its/\s.heap.get? p=some { cls:=.type "list",data:=.seq its.toArray n }/\xs.length<=sizeLine:=by
 obtain⟨z,its,n,r,e⟩:=I.aR p _ h
 exact⟨its,n,r,e,z⟩
theorem Inv.dm6{pins:List (Addr × Obj)}{σ:St}{H:Hp}{s:Shared}{p:Addr}{xs ys:List V}{its its':List Value}{n n':Nat}{f:Obj->Obj}(I:Inv X pins σ H s)(h:H p=some (.lst xs))
  (ho:s.heap.get? p=some { cls:=.type "list",data:=.seq its.toArray n }) (hf:f { cls:=.type "list",data:=.seq its.toArray n }={ cls:=.type "list",data:=.seq its'.toArray n' }) (r:Vals ys its') (hz:ys.length<=sizeLine) (t:Nat) :
  Inv X pins σ (upd H p (.lst ys)) { s with heap:=s.heap.update p f,toks:=t }:=by
 have e:(s.heap.update p f).get? p=some { cls:=.type "list",data:=.seq its'.toArray n' }:=by
  rw[Fh f ho (by rw[hf]<;>rfl),hf]
 refine I.write (x:=p) (e:=p) (by rw[h];trivial) (.inl rfl) (λb u hb q=>(sG _ _ (fq hb)).trans q) ⟨_,e⟩ ?_
 exact⟨hz,its',n',r,e⟩
noncomputable def cO8:V->V->V->Hp->(Hp->Prop)->Prop:=λo i v H Q=>∃p xs k j,o=.ref p/\i=.int k/\H p=some (.lst xs)/\iN xs.length k=some j/\Q (upd H p (.lst (xs.set j v)))
theorem cm5:RZ X cO8:=by
 intro pins s σ H o i v ov iv u Q I ro ri rv h
 obtain⟨p,xs,k,j,rfl,rfl,hp,hj,q⟩:=h
 cases ro
 obtain⟨t,rfl⟩:=ri
 obtain⟨its,n,r,ho,hz⟩:=I.lst hp
 obtain⟨h1,h2,h3,h4⟩:=So hj
 have hl:=r.length
 have hn:=vz
 have I':Inv X pins σ (upd H p (.lst (xs.set j v))) { s with heap:=s.heap.update p (BB (·.setIfInBounds j u)) } :=
  I.dm6 hp ho (bU8 its n j u) (r.set rv j) (by rw[nB];exact hz) s.toks
 by_cases h0:0<=k
 ·have hk:k.toNat=j:=by
   rw[seqIndex_of h0 h4]at h1
   exact cX h1
  exact PySem.W.ki_setAt ho h0 (by omega) (by rw[dX,<- hl];exact h4) (by rw[hk];exact⟨_,I',q⟩)
 ·have hk:(k+(its.toArray.size:Int)).toNat=j:=by
   rw[seqIndex_neg (by omega) h3]at h1
   rw[dX,<- hl]
   exact cX h1
  exact PySem.W.ki_setBack ho (by omega) (by rw[dX,<- hl];exact h3) (by omega) (by rw[hk];exact⟨_,I',q⟩)
theorem GF(lo hi:Option Int)(n:Nat):(sliceBounds lo hi none n).1=((HT.di n 0 lo:Nat):Int)/\(sliceBounds lo hi none n).2.1=((HT.di n n hi:Nat):Int)/\(sliceBounds lo hi none n).2.2=1:=by
 refine⟨?_,?_,rfl⟩
 ·cases lo with
  | none=>simp[sliceBounds,HT.di]
  | some i =>
   simp only[sliceBounds,HT.di,pZ,show(1:Int)>0 by decide,if_true]
   by_cases h:i<0
   ·simp only[h,if_true]<;>omega
   ·simp only[h,if_false]<;>omega
 ·cases hi with
  | none=>simp[sliceBounds,HT.di]
  | some i =>
   simp only[sliceBounds,HT.di,pZ,show(1:Int)>0 by decide,if_true]
   by_cases h:i<0
   ·simp only[h,if_true]<;>omega
   ·simp only[h,if_false]<;>omega
theorem bD9(its:List Value)(lo hi:Option Int):slicePick its.toArray lo hi none=((its.drop (HT.di its.length 0 lo)).take (HT.di its.length its.length hi-HT.di its.length 0 lo)).toArray:=by
 obtain⟨h1,h2,h3⟩:=GF lo hi its.toArray.size
 unfold slicePick
 rw[h1,h2,h3]
 simp only[sliceRange_one,pick_run,dX]<;>rfl
noncomputable def cV0(K:PySem.W.Frag):V->Option Int->Option Int->Hp->VK->Prop:=λx lo hi H Q=>∃a xs,x=.ref a/\bS K H a xs/\∀p,H p=none->Q (.ref p) (upd H p (.lst (vA xs lo hi)))
theorem dn1:tE X (cV0 X.K):=by
 intro pins s σ H x v vl vu lo hi sl Q I rx hs pl pu h
 obtain⟨a,xs,rfl,hx,q⟩:=h
 cases rx
 obtain⟨its,r,ht,hz⟩:=I.list hx
 have hlen:=r.length
 refine⟨"list",_,slot_list_getitem.lookup,ht.isList.typeIs,?_⟩
 refine wpAny_getItem_list_slice ht.isList hs pl pu .none (by simp) ?_ (by rw[dX]<;>omega)
 rw[bD9,<- hlen]
 refine⟨.ref s.heap.objs.size,_,I.laid (t':=s.toks) (o:=.lst (vA xs lo hi)) (λb ob q=>fL _ q) (bN _) ?_,rfl,q _ (I.aR.fresh (bN _))⟩
 exact⟨eP (bN4 xs lo hi) hz,_,0,(r.drop (HT.di xs.length 0 lo)).take (HT.di xs.length xs.length hi-HT.di xs.length 0 lo),gJ _ rfl⟩
noncomputable def mB:V->Bool
 | .az=>true
 | .bl _=>true
 | .int _=>true
 | .str _=>true
 | _=>false
noncomputable def km:V->V->Bool
 | .az,.az=>true
 | .bl a,.bl b=>a==b
 | .bl a,.int b=>(if a then 1 else 0)==b
 | .int a,.bl b=>a==(if b then 1 else 0)
 | .int a,.int b=>a==b
 | .str a,.str b=>a==b
 | _,_=>false
theorem cG9{A:Around}{s:Shared}{y x:V}{u v:Value}(ry:RelV y u)(rx:RelV x v)(fy:mB y=true)(fx:mB x=true):Fj A s u v (km y x):=by
 cases y with
 | az =>
  cases ry
  cases x with
  | az=>cases rx;exact SeqAt.EqAt.same _
  | bl b=>cases rx;exact SeqAt.EqAt.none_bool b
  | int b=>obtain⟨t,rfl⟩:=rx;exact SeqAt.EqAt.none_int b t
  | str b=>obtain⟨t,rfl⟩:=rx;exact SeqAt.EqAt.none_str b t
  | _=>exact absurd (show false=true from fx) fW
 | bl a =>
  cases ry
  cases x with
  | az=>cases rx;exact SeqAt.EqAt.bool_none a
  | bl b=>cases rx;exact SeqAt.EqAt.bool_bool a b
  | int b=>obtain⟨t,rfl⟩:=rx;exact SeqAt.EqAt.bool_int a b t
  | str b=>obtain⟨t,rfl⟩:=rx;exact SeqAt.EqAt.bool_str a b t
  | _=>exact absurd (show false=true from fx) fW
 | int a =>
  obtain⟨t',rfl⟩:=ry
  cases x with
  | az=>cases rx;exact SeqAt.EqAt.int_none a t'
  | bl b=>cases rx;exact SeqAt.EqAt.int_bool a t' b
  | int b=>obtain⟨t,rfl⟩:=rx;exact SeqAt.EqAt.int_int a t' b t
  | str b=>obtain⟨t,rfl⟩:=rx;exact SeqAt.EqAt.int_str a t' b t
  | _=>exact absurd (show false=true from fx) fW
 | str a =>
  obtain⟨t',rfl⟩:=ry
  cases x with
  | az=>cases rx;exact SeqAt.EqAt.str_none a t'
  | bl b=>cases rx;exact SeqAt.EqAt.str_bool a t' b
  | int b=>obtain⟨t,rfl⟩:=rx;exact SeqAt.EqAt.str_int a t' b t
  | str b=>obtain⟨t,rfl⟩:=rx;exact SeqAt.EqAt.str_str a t' b t
  | _=>exact absurd (show false=true from fx) fW
 | _=>exact absurd (show false=true from fy) fW
noncomputable def iO(x:V)(u:Value):Bool:=match u with
 | .none=>km .az x
 | .bool b=>km (.bl b) x
 | .int i _=>km (.int i) x
 | .str z _=>km (.str z) x
 | _=>false
theorem Sv{x y:V}{u:Value}(r:RelV y u)(f:mB y=true):iO x u=km y x:=by
 cases y with
 | az=>cases r;rfl
 | bl b=>cases r;rfl
 | int i=>obtain⟨t,rfl⟩:=r;rfl
 | str z=>obtain⟨t,rfl⟩:=r;rfl
 | _=>exact absurd (show false=true from f) fW
theorem za{x:V}:∀{xs:List V} {us:List Value},Vals xs us->xs.all mB=true->us.any (iO x)=xs.any λy=>km y x
 | _,_,.nil,_=>rfl
 | y::xs,u::us,.cons r t,f=>by
  rw[dY,eQ]at f
  rw[List.any_cons,List.any_cons,Sv r f.1,za t f.2]
theorem zb{A:Around}{s:Shared}{x:V}{v:Value}(rx:RelV x v)(fx:mB x=true):∀{xs:List V} {us:List Value},Vals xs us->xs.all mB=true->∀u∈us,Fj A s u v (iO x u)
 | _,_,.nil,_=>λu hu=>by cases hu
 | y::xs,u::us,.cons r t,f=>λu' hu=>by
  rw[dY,eQ]at f
  rcases cA.mp hu with rfl | hu
  ·rw[Sv r f.1];exact cG9 r rx f.1 fx
  ·exact zb rx fx t f.2 u' hu
noncomputable def tF(x:V)(xs:List V):Bool:=xs.any λy=>km y x
noncomputable def Sw(K:PySem.W.Frag)(neg:Bool):R2:=λx y H Q=>∃p xs,y=.ref p/\(bS K H p xs\/ik K H p xs)/\mB x=true/\xs.all mB=true/\Q (.bl (if neg then !tF x xs else tF x xs)) H
theorem bW9:cN X (compareOp .In) (Sw X.K false):=by
 intro pins s σ H x y v u Q I rx ry h
 obtain⟨p,xs,rfl,hq,fx,fs,q⟩:=h
 cases ry
 rcases hq with hq | hq
 ·obtain⟨its,r,pl,hz⟩:=I.list hq
  refine SeqAt.in_listAt (iO x) pl.isList (λw hw=>zb rx fx r fs w (by simpa using hw)) ⟨.bl _,H,I,rfl,?_⟩
  rw[show its.toArray.any (iO x)=its.any (iO x) by simp,za r fs]
  exact q
 ·obtain⟨its,r,pl,hz⟩:=I.tuple hq
  refine SeqAt.in_tupleAt (iO x) pl (λw hw=>zb rx fx r fs w (by simpa using hw)) ⟨.bl _,H,I,rfl,?_⟩
  rw[show its.toArray.any (iO x)=its.any (iO x) by simp,za r fs]
  exact q
theorem bJ0:cN X (compareOp .NotIn) (Sw X.K true):=by
 intro pins s σ H x y v u Q I rx ry h
 obtain⟨p,xs,rfl,hq,fx,fs,q⟩:=h
 cases ry
 rcases hq with hq | hq
 ·obtain⟨its,r,pl,hz⟩:=I.list hq
  refine SeqAt.notIn_listAt (iO x) pl.isList (λw hw=>zb rx fx r fs w (by simpa using hw)) ⟨.bl _,H,I,rfl,?_⟩
  rw[show its.toArray.any (iO x)=its.any (iO x) by simp,za r fs]
  exact q
 ·obtain⟨its,r,pl,hz⟩:=I.tuple hq
  refine SeqAt.notIn_tupleAt (iO x) pl (λw hw=>zb rx fx r fs w (by simpa using hw)) ⟨.bl _,H,I,rfl,?_⟩
  rw[show its.toArray.any (iO x)=its.any (iO x) by simp,za r fs]
  exact q
theorem dn5:iK X (.builtin "len") (λxs H Q=>∃p ys,xs=[.ref p]/\(bS X.K H p ys\/ik X.K H p ys)/\Q (.int ys.length) H):=by
 intro pins s σ H xs us Q I r h
 obtain⟨p,ys,rfl,hq,q⟩:=h
 obtain⟨u,rfl,rx⟩:=Gw r
 cases rx
 have hn:=vz
 rcases hq with hq | hq
 ·obtain⟨its,r',pl,hz⟩:=I.list hq
  have hlen:=r'.length
  exact Calls.call_len_list pl.isList (by simp only[dX]<;>omega) ⟨.int ys.length,H,I.tok _,⟨s.toks+1,by rw[dX,hlen]⟩,q⟩
 ·obtain⟨its,r',pl,hz⟩:=I.tuple hq
  have hlen:=r'.length
  exact len_tuple pl (by simp only[dX]<;>omega) ⟨.int ys.length,H,I.tok _,⟨s.toks+1,by rw[dX,hlen]⟩,q⟩
theorem bG2:iK X (.builtin "len") (λxs H Q=>∃z,xs=[.str z]/\z.length<=sizeLine/\Q (.int z.length) H):=by
 intro pins s σ H xs us Q I r h
 obtain⟨z,rfl,hz,q⟩:=h
 obtain⟨u,rfl,t,rfl⟩:=Gw r
 have hn:=vz
 exact len_str (by omega) ⟨.int z.length,H,I.tok _,⟨_,rfl⟩,q⟩
theorem iK.or{f:Value}{r r':List V->Hp->VK->Prop}(h:iK X f r)(h':iK X f r'):iK X f (λxs H Q=>r xs H Q\/r' xs H Q):=by
 intro pins s σ H xs us Q I rs q
 rcases q with q | q
 ·exact h pins s σ H xs us Q I rs q
 ·exact h' pins s σ H xs us Q I rs q
theorem bH5:iK X (.type "list") (λxs H Q=>∃p ys,xs=[.ref p]/\(bS X.K H p ys\/ik X.K H p ys)/\∀l,H l=none->Q (.ref l) (upd H l (.lst ys))):=by
 intro pins s σ H xs us Q I r h
 obtain⟨p,ys,rfl,hq,q⟩:=h
 obtain⟨u,rfl,rx⟩:=Gw r
 cases rx
 have fin:∀(its:List Value),Vals ys its->ys.length<=sizeLine->∀(h':Heap) (c':Nat),(∀b o',s.heap.get? b=some o'->h'.get? b=some o') ->
   h'.get? s.heap.objs.size=some { cls:=.type "list",dict:=none,data:=.seq its.toArray c',slots:=#[] }->EP X pins σ Q (.ref s.heap.objs.size) { s with heap:=h' }:=λits r' hz h' c' kp e =>
  ⟨.ref s.heap.objs.size,_,I.laid (t':=s.toks) kp (bN _) (show eH X.prog X.w _ h' _ (.lst ys) from⟨hz,its,c',r',e⟩),rfl,q _ (I.aR.fresh (bN _))⟩
 rcases hq with hq | hq
 ·obtain⟨its,r',pl,hz⟩:=I.list hq
  have hlen:=r'.length
  obtain⟨o,ho,hc,n,hd⟩:=pl.isList
  exact call_list_seq p (.inl rfl) ho hc hd (λh' c' kp e=>fin its r' hz h' c' kp e) (by simp only[dX]<;>omega)
 ·obtain⟨its,r',pl,hz⟩:=I.tuple hq
  have hlen:=r'.length
  obtain⟨o,ho,hc,n,hd⟩:=pl
  exact call_list_seq p (.inr rfl) ho hc hd (λh' c' kp e=>fin its r' hz h' c' kp e) (by simp only[dX]<;>omega)
noncomputable def GG(K:PySem.W.Frag)(T:String)(x:V)(H:Hp):Prop:=match x with
 | .str _=>T="str"
 | .int _=>T="int"
 | .ref p=>(T="list"/\∃xs,bS K H p xs)\/(T="tuple"/\∃o,K.lookup p=some o/\o.cls=.type "tuple"/\o.dict=none) \/
   (T="dict"/\((∃dR,H p=some (.dK dR))\/∃dR,H p=some (.dT dR)))\/(T="set"/\∃S n,H p=some (.set S n))
 | _=>False
theorem Sx{pins:List (Addr × Obj)}{σ:St}{H:Hp}{s:Shared}{T:String}{x:V}{v:Value}(I:Inv X pins σ H s)(r:RelV x v)(ty:GG X.K T x H) :
  s.TypeIs v T/\∀a,v=.ref a->∃ob,s.heap.get? a=some ob/\ob.dict=none:=by
 cases x with
 | str z =>
  obtain⟨t,rfl⟩:=r
  cases(show T="str" from ty)
  exact⟨typeIs_str s z t,λ_ e=>nomatch e⟩
 | int i =>
  obtain⟨t,rfl⟩:=r
  cases(show T="int" from ty)
  exact⟨typeIs_int s i t,λ_ e=>nomatch e⟩
 | ref p =>
  cases r
  rcases ty with⟨rfl,xs,hq⟩ | ⟨rfl,o,hk,hc,hd⟩ | ⟨rfl,hk⟩ | ⟨rfl,S,n,hk⟩
  ·obtain⟨its,_,pl,_⟩:=I.list hq
   refine⟨pl.isList.typeIs,λa e=>?_⟩
   cases e
   obtain⟨o,n,e,c,hd,_⟩:=pl
   exact⟨o,e,hd⟩
  ·refine⟨⟨o,I.dA p o hk,hc⟩,λa e=>?_⟩
   cases e
   exact⟨o,I.dA _ o hk,hd⟩
  ·have z:∃o,s.heap.get? p=some o/\o.ExactDict:=by
    rcases hk with⟨dR,hk⟩ | ⟨dR,hk⟩
    ·obtain⟨_,_,_,_,o,_,_,e,ex,_⟩:=I.aR p _ hk
     exact⟨o,e,ex⟩
    ·obtain⟨_,_,_,_,o,_,_,e,ex,_⟩:=I.aR p _ hk
     exact⟨o,e,ex⟩
   obtain⟨o,e,ex⟩:=z
   refine⟨⟨o,e,ex.1⟩,λa e2=>?_⟩
   cases e2
   exact⟨o,e,ex.2.1⟩
  ·obtain⟨o,_,_,_,e,ex,_⟩:=I.aR p _ hk
   refine⟨⟨o,e,ex.1⟩,λa e2=>?_⟩
   cases e2
   exact⟨o,e,ex.2.1⟩
 | _=>exact fV ty
noncomputable def Sy(K:PySem.W.Frag)(T:String)(r:V->List V->Hp->VK->Prop)(to:TE):TE:=λσ H Q=>to σ H λx H1=>GG K T x H1/\r x [] H1 Q
noncomputable def tBM(K:PySem.W.Frag)(T:String)(r:V->List V->Hp->VK->Prop)(to:TE)(t:TA):TE:=λσ H Q=>to σ H λx H1=>GG K T x H1/\t σ H1 λxs H2=>r x xs H2 Q
variable{o e:Expr}{es:List Expr}{to:TE}{t:TA}{name:Str}{apos cB:Pos}{T id:String}{r:V->List V->Hp->VK->Prop}
theorem cI4(pa:PlainAttrs T)(slot:Slot T name id)(GH:typeOf (.builtin id)=pure (.type "method_descriptor"))(hm:Cc X id r)(ho:PE X o to)
  (nU:attributeBase o name X.env (eval o X.env)=eval o X.env:=by rfl) (nV:(apos.endLine==cB.line)=true:=by rfl):PE X (.Call (.Attribute o name apos) [] [] cB) (Sy X.K T r to):=by
 intro pins s σ H Q I h
 refine wpAny_Call_method0_late nU nV (bc (ho pins s σ H _ I h) λv s1 ⟨x,H1,I1,r1,ty,q1⟩=>?_)
 obtain⟨h1,h2⟩:=Sx I1 r1 ty
 exact⟨T,id,pa,slot,GH,h1,h2,Calls.callWith_builtin rfl (PySem.evalArgs_none (hm pins s1 σ H1 x [] v [] Q I1 r1 .nil q1))⟩
theorem cP1(pa:PlainAttrs T)(slot:Slot T name id)(GH:typeOf (.builtin id)=pure (.type "method_descriptor"))(hm:Cc X id r)(ho:PE X o to)(ha:PA X (e::es) t)
  (nU:attributeBase o name X.env (eval o X.env)=eval o X.env:=by rfl)
  (GI:((backTo cB (starEach (e::es) X.env)).all (λx=>!x.1)&&(backToKw cB (keywordEach [] X.env)).all (λx=>x.1.isSome)
   && decide ((e::es).length+([]:List Keyword).length+(if([]:List Keyword).isEmpty then 0 else 1)<30))=true:=by rfl)
  (nV:(apos.endLine==cB.line)=true:=by rfl) (hs:starEach (e::es) X.env=(false,eval e X.env)::starEach es X.env:=by rfl) (GJ:(backTo cB (starEach es X.env)).any (·.1)=false:=by rfl) :
  PE X (.Call (.Attribute o name apos) (e::es) [] cB) (tBM X.K T r to t):=by
 intro pins s σ H Q I h
 refine wpAny_Call_method_late nU GI nV rfl (bc (ho pins s σ H _ I h) λv s1 ⟨x,H1,I1,r1,ty,q1⟩=>?_)
 obtain⟨h1,h2⟩:=Sx I1 r1 ty
 refine⟨T,id,pa,slot,GH,h1,h2,?_⟩
 have hA:=ha cB pins s1 σ H1 _ I1 q1
 rw[hs]at hA ⊢
 refine Calls.callWith_builtin (by show(false||(backTo cB (starEach es X.env)).any (·.1))=false;rw[GJ]<;>rfl) (Calls.evalArgs_plain ?_)
 exact bc hA λus s2 ⟨vs,H2,I2,r2,q2⟩=>hm pins s2 σ H2 x vs v us Q I2 r1 r2 q2
/- xs.append(e),list.index on a fh1 tuple .. are Cc facts of 06m -/
end
end L2
namespace L2
open PySem PySem.Spec PyProof.Rows
noncomputable def MtM(X:Cx)(id:String)(r:V->List V->Hp->VK->Prop):Prop :=
 ∀(pins:List (Addr × Obj)) (s:Shared) (σ:St) (H:Hp) (x:V) (xs:List V) (v:Value) (us:List Value) (Q:VK),Inv X pins σ H s->RelV x v->Vals xs us->r x xs H Q ->
  wpAny (model X.prog X.w) X.A (call (.builtin id) (v::us)) (EP X pins σ Q) X.xe s
theorem Vals.one:∀{x:V} {us:List Value},Vals [x] us->∃u,us=[u]/\RelV x u
 | _,_,.cons r .nil=>⟨_,rfl,r⟩
theorem Vals.two:∀{x y:V} {us:List Value},Vals [x,y] us->∃u v,us=[u,v]/\RelV x u/\RelV y v
 | _,_,_,.cons r (.cons q .nil)=>⟨_,_,rfl,r,q⟩
theorem Vals.rep{xs:List V}{us:List Value}(h:Vals xs us):∀k:Nat,Vals (bH k xs).flatten (bH k us).flatten
 | 0=>.nil
 | k+1=>by
  rw[sH,sH,va,va]
  exact Vals.append h (Vals.rep h k)
theorem Sz(its:List Value):∀(k:Nat) (acc:List Value),
  List.foldl (λx1 x2=>x1++x2) acc.toArray (bH k its.toArray)=(acc++(bH k its).flatten).toArray
 | 0,acc=>by simp
 | k+1,acc=>by
  have e:acc.toArray++its.toArray=(acc++its).toArray:=by simp
  have e2:(acc++its)++(bH k its).flatten=acc++(bH (k+1) its).flatten:=by
   rw[sH,va,eV]
  rw[<-e2,<- Sz its k (acc++its),<- e,sH,sI]
section
variable{X:Cx}{pins:List (Addr × Obj)}{σ:St}{H:Hp}{s:Shared}{l b:Addr}{xs ys zs:List V}
theorem Inv.do2{its its':List Value}{n:Nat}{f:Array Value->Array Value}{t':Nat}(I:Inv X pins σ H s)(hH:H l=some (.lst xs))
  (e:s.heap.get? l=some { cls:=.type "list",data:=.seq its.toArray n }) (hf:f its.toArray=its'.toArray) (hv:Vals ys its') (hz:ys.length<=sizeLine) :
  Inv X pins σ (upd H l (.lst ys)) { s with heap:=s.heap.update l (BB f),toks:=t' }:=by
 have q:=PySem.IsL.update e f
 rw[hf]at q
 refine I.write (x:=l) (e:=l) (by rw[hH];exact trivial) (.inl rfl) (λb' u hb hu=>(sG s.heap (BB f) (fq hb)).trans hu) ⟨_,q⟩ ?_
 exact⟨hz,its',_,hv,q⟩
theorem Inv.SA{its:List Value}{t':Nat}(I:Inv X pins σ H s)(hv:Vals ys its)(hz:ys.length<=sizeLine) :
  Inv X pins σ (upd H s.heap.objs.size (.lst ys)) { s with heap:=s.heap.push { cls:=.type "list",data:=.seq its.toArray },toks:=t' } :=
 I.laid (λ_ _ q=>fL _ q) (bN _) ⟨hz,its,0,hv,gJ _ rfl⟩
theorem Inv.fresh(I:Inv X pins σ H s):H s.heap.objs.size=none:=I.aR.fresh (bN _)
theorem Inv.Cd(I:Inv X pins σ H s)(hH:H l=some (.lst xs)):xs.length<=sizeLine/\∃(its:List Value) (n:Nat),Vals xs its/\xs.length=its.length/\s.heap.get? l=some { cls:=.type "list",data:=.seq its.toArray n }:=by
 obtain⟨z,its,n,r,e⟩:=I.aR l _ hH
 exact⟨z,its,n,r,r.length,e⟩
theorem cj3{n:Nat}(h:n<=sizeLine):Q8 n=false:=by
 unfold Q8
 exact decide_eq_false (by omega)
end
section
variable{X:Cx}
noncomputable def cv6:V->List V->Hp->VK->Prop:=λx vs H Q=>∃l xs y,x=.ref l/\vs=[y]/\H l=some (.lst xs)/\xs.length<sizeLine/\Q .az (upd H l (.lst (xs++[y])))
theorem SD:MtM X "list.append" cv6:=by
 intro pins s σ H x vs v us Q I rx rv h
 obtain⟨l,xs,y,rfl,rfl,hH,hz,q⟩:=h
 cases rx
 obtain⟨u,rfl,ru⟩:=rv.one
 obtain⟨z,its,n,r,hl,e⟩:=I.Cd hH
 refine call_meets F.slot_list_append ⟨_,e,rfl⟩ F.entry_list_append (F.args_list_append_2 _ _) (PySem.list_append l its.toArray n u (by rw[dX];omega)) ⟨e,?_⟩
 refine⟨.az,_,I.do2 (its':=its++[u]) hH e (by simp) (r.append (.cons ru .nil)) ?_,rfl,q⟩
 rw[dO,Fl]
 omega
noncomputable def cV4:R2:=λx y H Q=>∃l b xs zs,x=.ref l/\y=.ref b/\H l=some (.lst xs)/\H b=some (.lst zs)/\xs.length+zs.length<=sizeLine/\∀p,H p=none->Q (.ref p) (upd H p (.lst (xs++zs)))
theorem SE:cN X (binaryOp .Add) cV4:=by
 intro pins s σ H x y v u Q I rx ry h
 obtain⟨l,b,xs,zs,rfl,rfl,hH,hB,hz,q⟩:=h
 cases rx
 cases ry
 obtain⟨z,its,n,r,hl,e⟩:=I.Cd hH
 obtain⟨z2,SF,n2,r2,zc,e2⟩:=I.Cd hB
 refine PySem.P.add_list e e2 ?_ (by rw[dX,dX];omega)
 have ea:its.toArray++SF.toArray=(its++SF).toArray:=by simp
 rw[ea]
 exact⟨.ref _,_,I.SA (t':=s.toks) (r.append r2) (by rw[dO];omega),rfl,q _ I.fresh⟩
noncomputable def cW4:R2:=λx y H Q=>∃l k xs,x=.ref l/\y=.int k/\H l=some (.lst xs)/\-(2 ^ 63)<=k/\k<2 ^ 63/\xs.length*k.toNat<=sizeLine /\
 ∀p,H p=none->Q (.ref p) (upd H p (.lst (bH k.toNat xs).flatten))
theorem cA0{α:Type}(xs:List α)(k:Nat):(bH k xs).flatten.length=k*xs.length:=by
 induction k with
 | zero=>simp
 | succ k ih=>rw[sH,va,dO,ih,Nat.succ_mul,BC]
theorem cL2:cN X (binaryOp .Mult) cW4:=by
 intro pins s σ H x y v u Q I rx ry h
 obtain⟨l,k,xs,rfl,rfl,hH,h1,h2,hz,q⟩:=h
 cases rx
 obtain⟨t,rfl⟩:=ry
 obtain⟨z,its,n,r,hl,e⟩:=I.Cd hH
 have hlen:its.toArray.size*k.toNat<=sizeLine:=by rw[dX,<- hl];exact hz
 have do9:¬ its.toArray.size*k.toNat>(2 ^ 63-1)/8:=by
  have:(sizeLine:Nat)<=(2 ^ 63-1)/8:=by decide
  omega
 have dp0:¬ (!Builtin.List.listFitsIndex k)=true:=by
  rw[fitsIndex_both h1 h2]
  exact fW
 have dp1:¬ Q8 (its.toArray.size*k.toNat)=true:=by
  rw[cj3 hlen]
  exact fW
 have dp2:List.foldl (λx1 x2=>x1++x2) #[] (bH (if its.toArray.isEmpty=true then 0 else k.toNat) its.toArray)=(bH k.toNat its).flatten.toArray:=by
  have f0:∀m:Nat,List.foldl (λx1 x2=>x1++x2) #[] (bH m its.toArray)=(bH m its).flatten.toArray:=λm=>by
   have:=Sz its m []
   rw[nC]at this
   exact this
  rw[f0]
  cases its with
  | nil=>simp
  | cons a r'=>rw[if_neg (by simp)]
 refine wpAny_binaryOp_repeat_ref (T:="list") (U:="int") (by decide) ⟨_,e,rfl⟩ (λs'=>typeIs_int s' k t) noFill_list_mul F.fills_int_mul F.slot_int_rmul repeat_list F.slot_int_index.lookup
  (call_meets F.slot_int_rmul (typeIs_int s k t) F.entry_int_rmul (F.args_int_rmul_2 _ _) (int___rmul___int_list k t l its.toArray n)
   ⟨e,rfl,⟨_,e,rfl⟩,call_meets F.slot_list_mul ⟨_,e,rfl⟩ F.entry_list_mul (F.args_list_mul_2 _ _) (AutoListH.list___mul___list_int_3 l its.toArray n k t dp0 do9 dp1) ⟨e,?_⟩⟩)
 rw[dp2]
 exact⟨.ref _,_,I.SA (t':=s.toks) (r.rep k.toNat) (by rw[cA0,nD];exact hz),rfl,q _ I.fresh⟩
end
section
variable{prog:Program}{w:World}{A:Around}{E:Value->Shared->Prop}{s:Shared}
end
section
variable{X:Cx}
end
end L2
namespace Att
open PySem PySem.W PySem.Calls PyProof.Rows
theorem bx5{P:Params}{h:Heap}:∀(ns:List Int) (vs:List Value),WellAll P h vs (ns.map WData.int)->IntsAre vs ns:=by
 intro ns
 induction ns with
 | nil =>
  intro vs w
  rw[jN]at w
  cases w
  exact .nil
 | cons n ns ih =>
  intro vs w
  rw[dz]at w
  cases w with
  | cons a b =>
   cases a
   exact .cons _ _ (ih _ b)
theorem b84{l:OpenLaw}{n:Nat}(hn:l.most=some n){P:Params}{h:Heap}{args:List WData}{vals:List Value}
  (Ce:l.row.toRowW.claim.pre args=true) (GK:WellAll P h vals args) :
  ∃a vs ns,vals=[fJ a]/\args=[WData.list (ns.map WData.int)]/\h.get? a=some { cls:=.type "list",data:=.seq vs.toArray }/\IntsAre vs ns/\ns.length<=n:=by
 have zd:WShape.hasAll [] args [.list .int]=true:=(pre_splitW Ce).1
 have hc:l.pre.holds [] { args:=args }=true:=(pre_splitW Ce).2
 obtain⟨d,r,rfl,h1,h2⟩:=hasAllW_cons zd
 obtain rfl:=hasAllW_nil h2
 obtain⟨xs,rfl,h3⟩:=hasW_list h1
 obtain⟨ns,rfl⟩:=items_int h3
 have hlen:ns.length<=n:=by
  unfold OpenLaw.pre at hc
  have h4:(WTm.not (.lt (.lit (.int (n:Int))) (.len (.arg 0)))).holds [] { args:=[.list (ns.map .int)] }=true:=by
   have h4:=(holds_andW hc).1
   rw[hn]at h4
   exact h4
  have h5:=condW_of h4 (w_not (w_lt w_lit (w_len_list (w_arg rfl))))
  rw[bB]at h5
  refine Nat.le_of_not_lt λq=>?_
  have q':(n:Int)<((ns.length:Nat):Int):=by omega
  first
   | (rw[decide_eq_true q']at h5;exact absurd h5 (by decide))
   | (simp at h5;omega)
 cases GK with
 | cons w1 w2 =>
  cases w2
  cases w1 with
  | list ho dp5=>exact⟨_,_,ns,rfl,rfl,ho,bx5 ns _ dp5,hlen⟩
theorem bW1(l:OpenLaw)(args:List WData):l.row.toRowW.claim.post args (.bool true) args=true :=
 postW_of (r:=l.row.toRowW) (X:=(true==true))
  (show WShape.has [] (.bool true) .bool=true by first | rfl | decide | simp[WShape.has,WShape.arms,WShape.armsAll])
  (show(WTm.eq .res (.lit (.bool true))).value [] { args:=args,res:=some (.bool true),after:=args }=some (.bool (true==true)) from w_eq_bool (w_res rfl) w_lit) rfl
theorem dp7{l:OpenLaw}{n:Nat}{q:Program}{loose:List Str}{XP:(Str->Option Value)->Heap->Prop}{YP:World->Heap->Prop}{d:DefRec}
  (hn:l.most=some n) (ze:d.params.defaults=[])
  (call:∀(w:World) (cT bL:Shared) (mg mb:Str->Option Value) (fa:Addr) (o:Obj) (pm cd doc:Value) (a:Addr) (vs:List Value) (ns:List Int),
   Ground q loose [] XP w cT mg mb bL.heap->YP w bL.heap ->
   bL.heap.get? fa=some o->o.data=.func (docDef d.name d.params d.body d.scope pm cd doc)->bL.heap.CodeRec cd d.name->mg d.name=some (.ref fa) ->
   bL.heap.get? a=some { cls:=.type "list",data:=.seq vs.toArray }->IntsAre vs ns->ns.length<=n->bL.gens=#[] ->
   codeAny (model l.prog w) callerA (.call (.ref fa) ⟨[.ref a],[]⟩) (λr s'=>r=.ok (.ret (.bool true))/\OldK bL.heap s'.heap/\s'.os=bL.os/\AllBare s'.gens) bL) :
  WalkO q loose XP YP l.row.toRowW d [] (λf vs=>PySem.call f vs):=by
 intro w cT bL mg mb G Y fa o pm cd doc dV kV ho hd dq hD zf hg args vals as Ce fh2 hrd GK dJ
 obtain rfl:dV=.none:=Dflts.none hD ze
 obtain rfl:kV=.none:=Dflts.noKw hD
 obtain⟨a,vs,ns,rfl,rfl,GL,hints,hlen⟩:=b84 hn Ce GK
 refine enter_call (codeAny_mono (call w cT bL mg mb fa o pm cd doc a vs ns G Y ho (fd_plain hd) dq zf GL hints hlen hg) λr s' hq=>?_)
 obtain⟨rfl,h2,h3,h4⟩:=hq
 exact⟨.inl ⟨.bool true,.bool true,[],rfl,λ_=>rfl,.bool true,bW1 l _,λ_=>⟨Q9,λ_ hm=>(nomatch hm)⟩⟩,h2,h3,h4⟩
section
variable{prog:Program}{w:World}{A:Around}{E:Value->Shared->Prop}{s:Shared}{K:Frag}
end
end Att
namespace L2
open PySem PySem.Spec PyProof.Rows
theorem SG:∀{vs:List Value} {ns:List Int},IntsAre vs ns->Vals (ns.map V.int) vs
 | _,_,.nil=>.nil
 | _,_,.cons n t h=>.cons ⟨t,rfl⟩ (SG h)
end L2
namespace L2
open PySem PySem.Spec PyProof.Rows
end L2
/- THE fh5 fh6 (shape;LID,My.* are fh8):
   My.gU: a structure of SH addresses fh9 fi0 fi1 names (classes,fi2);My.Txt K t: a structure (Prop) of SH equations over K;
   My.fi3:{K} {implicit addresses ..} (e1:nsIn K mainGlobals "law"=some (some (.ref f))) (e2:K.lookup f=some ⟨oc,od,.func (fnOf "law" "law" params body scope dV kV doc pm an aK ct),sl⟩) (e3:codeIn K aK "law"=true) ..:∃t,My.Txt K t
(SH tactic k_is has no namespace: write k_is) -/
namespace L2
open PySem PySem.Spec PyProof.Rows
noncomputable def iP(s:Stmt)(j:Nat):Stmt:=match s with
 | .ClassDef _ _ _ body _ _ _ _ _ _ _=>body.getD j (.Pass ⟨0,0,0,0⟩)
 | _=>.Pass ⟨0,0,0,0⟩
noncomputable def bx(s:Stmt):Arguments:=match s with
 | .FunctionDef _ a _ _ _ _ _ _ _ _=>a
 | _=>{ posonlyargs:=[],args:=[],vararg:=none,kwonlyargs:=[],kw_defaults:=[],kwarg:=none,defaults:=[] }
noncomputable def br(s:Stmt):List Stmt:=match s with
 | .FunctionDef _ _ b _ _ _ _ _ _ _=>b
 | _=>[]
noncomputable def aB(s:Stmt):Scope:=match s with
 | .FunctionDef _ _ _ _ _ _ sc _ _ _=>sc
 | _=>{ kind:=.function,names:=[],isGenerator:=false,isCoroutine:=false }
noncomputable abbrev bf:fg:=λ_ _ _ _ _ _=>False
noncomputable abbrev E0:XK:=λ_ _ _=>False
theorem aN{X:Cx}:mx bf X E0:=λ_ _ _ _ _ _ _ h=>h.elim
structure bt(K:PySem.W.Frag)(x qual:Str)(st:Stmt)(f:Addr)(fd:FuncData):Prop where
 ex:∃(oc:Value) (od:Option Addr) (kV doc pm:Value) (an:Option Addr) (aK ct:Value) (my:Array (Option Value)),
  fd=PySem.W.fnOf x qual (bx st) (br st) (aB st) .none kV doc pm an aK ct/\K.lookup f=some ⟨oc,od,.func fd,my⟩/\PySem.W.codeIn K aK qual=true
 kp:PySem.W.keepIn K (.ref f)=true
section
variable{P:Program}{w:World}{K:PySem.W.Frag}{mg:Str->Option Value}{base:Heap}
theorem bt.ok{x qual:Str}{st:Stmt}{f:Addr}{fd:FuncData}{N ps:List Str}{k:Nat}{sp:Sp}(F:bt K x qual st f fd)(S:bw N ps (aB st))(len:∀vs H Q E,sp vs H Q E->vs.length=ps.length)
  (iM:∀(aK:Value) (A:Around) (outer:List Env) (s:Shared) (H:Hp) (vs:List V) (Q:VK) (E:XK),cO k (A.deeper (envOfC qual (aB st) s.heap.objs.size f aK))->sp vs H Q E ->
   ∃t,PSs (jv bf P w K mg base N qual (aB st) f aK A outer s H E).gR (br st) t/\t { nx:=λ_ H'=>Q .az H',rt:=Q } (start N vs) H):aU P w K mg base bf (k+1) f fd ps sp:=by
 obtain⟨oc,od,kV,doc,pm,an,aK,ct,my,rfl,lk,dq⟩:=F.ex
 refine GB lk dq S len λA outer s H vs Q E hr jw=>?_
 obtain⟨t,h,q⟩:=iM aK A outer s H vs Q E hr jw
 exact⟨t,h.gR,q⟩
theorem bt.binds{x qual:Str}{st:Stmt}{f:Addr}{fd:FuncData}{ps:List Str}(F:bt K x qual st f fd)
  (h:∀(kV doc pm:Value) (an:Option Addr) (aK ct:Value) (us:List Value),us.length=ps.length->bindArgs (PySem.W.fnOf x qual (bx st) (br st) (aB st) .none kV doc pm an aK ct) ⟨us,[]⟩=pure (ps.zip us)):Binds K fd ps []:=by
 obtain⟨oc,od,kV,doc,pm,an,aK,ct,my,rfl,lk,dq⟩:=F.ex
 exact .all (h kV doc pm an aK ct)
theorem bF{x qual:Str}{st:Stmt}{f:Addr}{oc:Value}{od an:Option Addr}{my:Array (Option Value)}{kV doc pm aK ct:Value}(l:K.lookup f=some ⟨oc,od,.func (PySem.W.fnOf x qual (bx st) (br st) (aB st) .none kV doc pm an aK ct),my⟩)
  (c:PySem.W.codeIn K aK qual=true) (k:PySem.W.keepIn K (.ref f)=true):bt K x qual st f (PySem.W.fnOf x qual (bx st) (br st) (aB st) .none kV doc pm an aK ct):=⟨⟨oc,od,kV,doc,pm,an,aK,ct,my,rfl,l,c⟩,k⟩
end
section
variable{X:Cx}
theorem pv(i:Nat){x:Str}{pos:Pos}(hN:X.N[i]?=some x:=by rfl)(hv:nQ X.env.scope x:=by first | exact ao rfl | exact bh (ao rfl) | exact bh (bh rfl))(hd:(x==("__debug__":Str))=false:=by decide)
  (dq:(x==("__classdict__":Str))=false:=by decide):PE X (.Name x pos) (RX i):=vw hN hv hd dq
end
theorem mC{A B:Prop}(h:B):if false=true then A else B:=by
 rw[if_neg fW]
 exact h
theorem qm{A B:Prop}(h:A):if true=true then A else B:=by
 rw[if_pos rfl]
 exact h
end L2
namespace Mf
noncomputable def bl(n:Nat):Nat:=if n=0 then 0 else n.log2+1
theorem eX{n m:Nat}:bl n<=m↔n<2 ^ m:=by
 unfold bl
 by_cases h:n=0
 ·simp[h,yC]
 ·rw[if_neg h]
  rw[<-Nat.log2_lt h]
  omega
theorem GN{n m:Nat}:m<bl n↔2 ^ m<=n:=by
 have:=@eX n m
 omega
theorem jy(n:Nat):n<2 ^ bl n:=eX.mp (bN _)
theorem SI{n:Nat}(h:n≠0):2 ^ (bl n-1)<=n:=by
 have:0<bl n:=by unfold bl;rw[if_neg h];omega
 exact GN.mp (by omega)
theorem ir{n:Nat}(h:n≠0):0<bl n:=by
 unfold bl;rw[if_neg h];omega
theorem nW:bl 0=0:=rfl
theorem vB{n:Nat}(h:n≠0):n.testBit (bl n-1)=true:=by
 have h1:=SI h
 have h2:=jy n
 have hp:=ir h
 have e:bl n=(bl n-1)+1:=by omega
 rw[e,nE]at h2
 rw[cZ4]
 have:n/2 ^ (bl n-1)=1:=by
  apply Nat.div_eq_of_lt_le
  ·omega
  ·omega
 rw[this];rfl
theorem bV5{x n:Nat}(h:∀i,n<=i->x.testBit i=false):x<2 ^ n:=by
 apply Nat.lt_pow_two_of_testBit
 intro i hi
 exact h i hi
theorem SJ{x y n:Nat}(hx:x<2 ^ (n+1))(hy:y<2 ^ (n+1))(tx:x.testBit n=true)(ty:y.testBit n=true):x ^^^ y<2 ^ n:=by
 apply bV5
 intro i hi
 rw[nF]
 by_cases e:i=n
 ·rw[e,tx,ty];rfl
 ·have iu:n+1<=i:=by omega
  have p:2 ^ (n+1)<=2 ^ i:=yD (by decide) iu
  rw[Fm (dv hx p),Fm (dv hy p)]
  rfl
theorem SK(x y z:Nat):(x ^^^ y) ^^^ (z ^^^ y)=x ^^^ z:=by
 apply BD;intro i;simp only[nF]
 cases x.testBit i<;>cases y.testBit i<;>cases z.testBit i<;>rfl
theorem SM(x y z t:Nat):(x ^^^ y) ^^^ (z ^^^ t)=(x ^^^ z) ^^^ (y ^^^ t):=by
 apply BD;intro i;simp only[nF]
 cases x.testBit i<;>cases y.testBit i<;>cases z.testBit i<;>cases t.testBit i<;>rfl
noncomputable def P(a b:Nat):Nat->Nat
 | 0=>0
 | k+1=>P a b k ^^^ (if b.testBit k then a <<< k else 0)
noncomputable def cl(a b:Nat):Nat:=P a b (bl b)
theorem SN{a b k:Nat}(h:b<2 ^ k):∀j,P a b (k+j)=P a b k
 | 0=>rfl
 | j+1=>by
  show P a b (k+j) ^^^ (if b.testBit (k+j)then a <<< (k+j)else 0)=_
  rw[SN h j]
  have p:2 ^ k<=2 ^ (k+j):=yD (by decide) (by omega)
  rw[Fm (dv h p)]
  simp
theorem vC{a b k:Nat}(h:b<2 ^ k):P a b k=cl a b:=by
 have h1:=eX.mpr h
 have e:k=bl b+(k-bl b):=by omega
 rw[e,SN (jy b)]
 rfl
theorem SO(a a' b:Nat):∀k,P (a ^^^ a') b k=P a b k ^^^ P a' b k
 | 0=>(me 0).symm
 | k+1=>by
  show P (a ^^^ a') b k ^^^ _=(P a b k ^^^ _) ^^^ (P a' b k ^^^ _)
  rw[SO a a' b k]
  by_cases t:b.testBit k=true
  ·rw[if_pos t,if_pos t,if_pos t,cZ5]
   ac_rfl
  ·rw[if_neg t,if_neg t,if_neg t]
   simp
theorem SQ(a b b':Nat):∀k,P a (b ^^^ b') k=P a b k ^^^ P a b' k
 | 0=>(me 0).symm
 | k+1=>by
  show P a (b ^^^ b') k ^^^ _=(P a b k ^^^ _) ^^^ (P a b' k ^^^ _)
  rw[SQ a b b' k,nF]
  cases b.testBit k<;>cases b'.testBit k<;>simp
  ·ac_rfl
  ·ac_rfl
  ·exact(SK _ _ _).symm
theorem qo(a a' b:Nat):cl (a ^^^ a') b=cl a b ^^^ cl a' b:=SO a a' b _
theorem vD{x y n:Nat}(hx:x<2 ^ n)(hy:y<2 ^ n):x ^^^ y<2 ^ n:=Nat.xor_lt_two_pow hx hy
theorem bG0(a b b':Nat):cl a (b ^^^ b')=cl a b ^^^ cl a b':=by
 let k:=bl b+bl b'
 have h1:b<2 ^ k:=eX.mp (by omega)
 have h2:b'<2 ^ k:=eX.mp (by omega)
 rw[<-vC (vD h1 h2),<- vC h1,<- vC h2,SQ]
theorem cB3(a:Nat):cl a 0=0:=rfl
theorem SR(b:Nat):∀k,P 0 b k=0
 | 0=>rfl
 | k+1=>by
  show P 0 b k ^^^ _=0
  rw[SR b k];simp
theorem qp(b:Nat):cl 0 b=0:=SR b _
theorem bK4(b k:Nat):(b/2).testBit k=b.testBit (k+1):=by
 rw[Fo]
theorem SS(a b:Nat):∀k,P a b (k+1)=(if b%2=1 then a else 0) ^^^ P (2*a) (b/2) k
 | 0=>by
  show 0 ^^^ _=_ ^^^ 0
  rw[p5,me,BE]
  simp
 | k+1=>by
  show P a b (k+1) ^^^ _=_ ^^^ (P (2*a) (b/2) k ^^^ _)
  rw[SS a b k,bK4,sJ]
  have e:a <<< (k+1)=(2*a) <<< k:=by
   rw[kK,kK,nE]
   rw[nD 2 a,vb,nD 2]
  rw[e]
theorem SU{b k:Nat}(h:b<2 ^ (k+1)):b/2<2 ^ k:=by
 rw[nE]at h;omega
theorem SV(a b:Nat):cl a b=(if b%2=1 then a else 0) ^^^ cl (2*a) (b/2):=by
 have h:b<2 ^ (bl b+1):=Fp (jy b) (by rw[nE];have:=yC (bl b);omega)
 rw[<-vC h,SS,vC (SU h)]
theorem SW(a b:Nat):∀k,P (2*a) b k=2*P a b k
 | 0=>rfl
 | k+1=>by
  show P (2*a) b k ^^^ _=2*(P a b k ^^^ _)
  rw[SW a b k]
  have d:∀x y:Nat,2*(x ^^^ y)=2*x ^^^ 2*y:=by
   intro x y
   have h:=@cZ5 1 x y
   rw[kK,kK,kK,Nat.pow_one]at h
   rw[nD 2 (x ^^^ y),nD 2 x,nD 2 y]
   exact h
  rw[d]
  by_cases t:b.testBit k=true
  ·rw[if_pos t,if_pos t,kK,kK,vb]
  ·rw[if_neg t,if_neg t]
theorem GO(a b:Nat):cl (2*a) b=2*cl a b:=SW a b _
theorem zh(a c t:Nat)(ht:t<2):cl a (2*c+t)=2*cl a c ^^^ (if t=1 then a else 0):=by
 rw[SV,GO,Ra]
 have e1:(2*c+t)/2=c:=by omega
 have e2:(2*c+t)%2=t:=by omega
 rw[e1,e2]
theorem cJ5(a c:Nat):cl a (2*c)=2*cl a c:=by
 have h:=zh a c 0 (by decide)
 simpa using h
theorem SX(c t:Nat)(ht:t<2):2*c ^^^ t=2*c+t:=by
 apply BD
 intro i
 cases i with
 | zero =>
  rw[nF,BE,BE,BE]
  have:t=0\/t=1:=by omega
  rcases this with h | h<;>subst h<;>simp<;>omega
 | succ i =>
  rw[nF,Fo,Fo,Fo]
  have e1:2*c/2=c:=by omega
  have e2:t/2=0:=by omega
  have e3:(2*c+t)/2=c:=by omega
  rw[e1,e2,e3];simp
theorem GP:∀b:Nat,cl 1 b=b:=by
 intro b
 induction b using BF with
 | ind b ih =>
  by_cases h:b=0
  ·subst h;rfl
  ·have e:b=2*(b/2)+b%2:=by omega
   rw[e,zh 1 (b/2) (b%2) (by omega),ih (b/2) (by omega)]
   have:b%2=0\/b%2=1:=by omega
   rcases this with h | h
   ·rw[h];simp
   ·rw[h];rw[if_pos rfl];exact SX _ _ (by decide)
theorem zi:∀b a:Nat,cl a b=cl b a:=by
 intro b
 induction b using BF with
 | ind b ih =>
  intro a
  by_cases h:b=0
  ·subst h;rw[qp];rfl
  ·have e:b=2*(b/2)+b%2:=by omega
   have lt:b%2<2:=by omega
   have e':cl b a=cl (2*(b/2) ^^^ b%2) a:=by rw[SX _ _ lt,<- e]
   rw[e',qo,GO,<- ih (b/2) (by omega) a]
   have e'':cl a b=cl a (2*(b/2)+b%2):=by rw[<-e]
   rw[e'',zh _ _ _ lt]
   have:b%2=0\/b%2=1:=by omega
   rcases this with h | h
   ·rw[h,qp];rfl
   ·rw[h,GP];rfl
theorem GQ{a m:Nat}(h:a<2 ^ m)(b:Nat):∀k,P a b (k+1)<2 ^ (m+k)
 | 0=>by
  show 0 ^^^ _<_
  rw[p5,Nat.add_zero]
  by_cases t:b.testBit 0=true
  ·rw[if_pos t];simpa using h
  ·rw[if_neg t];exact yC m
 | k+1=>by
  show P a b (k+1) ^^^ _<_
  have i:=GQ h b k
  have p:2 ^ (m+k)<=2 ^ (m+(k+1)):=yD (by decide) (by omega)
  apply vD (dv i p)
  by_cases t:b.testBit (k+1)=true
  ·rw[if_pos t,kK,Nat.pow_add 2 m]
   exact(cZ6 (yC _)).mpr h
  ·rw[if_neg t];exact yC _
theorem cO5{a b m n:Nat}(h:a<2 ^ m)(h':b<2 ^ (n+1)):cl a b<2 ^ (m+n):=by
 rw[<-vC h'];exact GQ h b n
theorem cT3{a b:Nat}(ha:a≠0)(hb:b≠0):2 ^ (bl a-1+(bl b-1))<=cl a b:=by
 have e:bl b=(bl b-1)+1:=by have:=ir hb;omega
 have ta:=vB ha
 have tb:=vB hb
 apply Nat.ge_two_pow_of_testBit
 unfold cl
 rw[e]
 show(P a b (bl b-1) ^^^ _).testBit _=true
 have e2:bl b-1+1-1=bl b-1:=by omega
 rw[e2,nF,if_pos tb]
 have f:(P a b (bl b-1)).testBit (bl a-1+(bl b-1))=false:=by
  cases q:bl b-1 with
  | zero=>show Nat.testBit 0 _=false;exact Nat.zero_testBit _
  | succ k =>
   apply Fm
   have l:=GQ (jy a) b k
   have p:=ir ha
   have e3:bl a-1+(k+1)=bl a+k:=by omega
   rw[e3];exact l
 rw[f,cZ7]
 have e4:bl a-1+(bl b-1)-(bl b-1)=bl a-1:=by omega
 rw[e4,ta]
 simp
theorem SY{a b:Nat}(ha:a≠0)(hb:b≠0):bl (cl a b)=bl a+bl b-1:=by
 have p1:=ir ha
 have p2:=ir hb
 have h1:bl (cl a b)<=bl a+(bl b-1):=eX.mpr (cO5 (jy a) (by
  have e:bl b-1+1=bl b:=by omega
  rw[e];exact jy b))
 have h2:=GN.mpr (cT3 ha hb)
 omega
theorem S0(s b:Nat):cl (2 ^ s) b=b <<< s:=by
 induction s with
 | zero=>rw[Nat.pow_zero,GP];rfl
 | succ s ih =>
  rw[nE,nD,GO,ih,kK,kK,nE]
  rw[<-vb,nD 2,vb,nD 2,<- vb,vb]
theorem ce3{a q b r s:Nat}(h:a=cl q b ^^^ r):a=cl (q ^^^ 2 ^ s) b ^^^ (r ^^^ b <<< s):=by
 rw[qo,S0,h,SK]
theorem S1{b r:Nat}(hb:b≠0)(h:bl b<=bl r):bl (r ^^^ b <<< (bl r-bl b))<bl r:=by
 have p:=ir hb
 have hr:r≠0:=by
  intro z;rw[z,nW]at h;omega
 have:r ^^^ b <<< (bl r-bl b)<2 ^ (bl r-1):=by
  apply SJ
  ·have e:bl r-1+1=bl r:=by omega
   rw[e];exact jy r
  ·have e:bl r-1+1=bl b+(bl r-bl b):=by omega
   rw[e,kK,Nat.pow_add]
   exact(cZ6 (yC _)).mpr (jy b)
  ·exact vB hr
  ·rw[cZ7]
   have e:bl r-1-(bl r-bl b)=bl b-1:=by omega
   rw[e,vB hb]
   simp;omega
 have:=eX.mpr this
 omega
theorem bU6{x y z:Nat}(h:x ^^^ y=z):x=z ^^^ y:=by
 rw[<-h,sJ,BG,me]
theorem GR{x y:Nat}(h:x ^^^ y=0):x=y:=by
 have:=bU6 h
 rwa [p5]at this
theorem bT7{b q r q' r':Nat}(h:cl q b ^^^ r=cl q' b ^^^ r')(hr:bl r<bl b)(bq:bl r'<bl b):q=q'/\r=r':=by
 have hb:b≠0:=by intro z;rw[z,nW]at hr;omega
 have e:cl (q ^^^ q') b=r ^^^ r':=by
  rw[qo]
  have z:(cl q b ^^^ r) ^^^ (cl q' b ^^^ r')=0:=by rw[h,BG]
  rw[SM]at z
  exact GR z
 have lt:bl (r ^^^ r')<bl b:=by
  have h1:r<2 ^ (bl b-1):=eX.mp (by omega)
  have h2:r'<2 ^ (bl b-1):=eX.mp (by omega)
  have:=eX.mpr (vD h1 h2)
  have:=ir hb
  omega
 have z:q ^^^ q'=0:=by
  apply Fq
  intro hq
  have h1:=SY hq hb
  have h2:=ir hq
  rw[e]at h1
  omega
 have zq:=GR z
 subst zq
 rw[z,qp]at e
 exact⟨rfl,GR e.symm⟩
end Mf
namespace Mf
open PySem PySem.Builtin.Int
theorem cB6(x y:Nat):(x ^^^ y)+2*(x &&& y)=x+y:=by
 induction x using BF generalizing y with
 | ind x ih =>
  by_cases h:x=0
  ·subst h;simp
  ·have h1:=ih (x/2) (by omega) (y/2)
   have e1:(x ^^^ y)/2=x/2 ^^^ y/2:=Nat.xor_div_two
   have e2:(x &&& y)/2=x/2 &&& y/2:=Nat.and_div_two
   have t:∀n:Nat,n%2=if n.testBit 0=true then 1 else 0:=by
    intro n
    rw[BE]
    by_cases h:n%2=1
    ·simp[h]
    ·simp[h];omega
   have m1:(x ^^^ y)%2=(x%2+y%2)%2:=by
    rw[t (x ^^^ y),t x,t y,nF]
    cases x.testBit 0<;>cases y.testBit 0<;>rfl
   have m2:(x &&& y)%2=x%2*(y%2):=by
    rw[t (x &&& y),t x,t y,Rb]
    cases x.testBit 0<;>cases y.testBit 0<;>rfl
   have d1:=Nat.div_add_mod (x ^^^ y) 2
   have d2:=Nat.div_add_mod (x &&& y) 2
   rw[e1]at d1
   rw[e2]at d2
   have hx:x%2=0\/x%2=1:=by omega
   have hy:y%2=0\/y%2=1:=by omega
   rcases hx with hx | hx<;>rcases hy with hy | hy<;>rw[hx,hy]at m1 m2<;>omega
theorem S2{x y:Int}(hx:0<=x)(hy:0<=y):pW x y=((x.toNat &&& y.toNat:Nat):Int):=by
 unfold pW
 rw[decide_eq_true hx,decide_eq_true hy]
theorem cl0{x y:Int}(hx:0<=x)(hy:0<=y):Builtin.bitOr x y=((x.toNat ||| y.toNat:Nat):Int):=by
 unfold Builtin.bitOr pW Builtin.bitNot
 rw[decide_eq_false (by omega),decide_eq_false (by omega)]
 show-(-((((- (-x-1)-1).toNat ||| (-(-y-1)-1).toNat:Nat):Int))-1)-1=_
 have e1:(- (-x-1)-1).toNat=x.toNat:=by omega
 have e2:(- (-y-1)-1).toNat=y.toNat:=by omega
 rw[e1,e2]
 omega
theorem cK8(x y:Nat):(x ||| y)=(x ^^^ y)+(x &&& y):=by
 have d:(x ^^^ y) &&& (x &&& y)=0:=by
  apply BD;intro i
  simp only[nF,Rb,Nat.zero_testBit]
  cases x.testBit i<;>cases y.testBit i<;>rfl
 have e:(x ||| y)=(x ^^^ y) ^^^ (x &&& y):=by
  apply BD;intro i
  simp only[nF,Rb,Nat.testBit_or]
  cases x.testBit i<;>cases y.testBit i<;>rfl
 have h:=cB6 (x ^^^ y) (x &&& y)
 rw[d]at h
 rw[e];omega
theorem cb9{x y:Int}(hx:0<=x)(hy:0<=y):pX x y=((x.toNat ^^^ y.toNat:Nat):Int):=by
 unfold pX
 rw[cl0 hx hy,S2 hx hy,cK8]
 omega
theorem nX(x y:Nat):pX (x:Int) (y:Int)=((x ^^^ y:Nat):Int):=by
 rw[cb9 (by omega) (by omega)];rfl
theorem S3(x y:Nat):pW (x:Int) (y:Int)=((x &&& y:Nat):Int):=by
 rw[S2 (by omega) (by omega)];rfl
theorem vE(x k:Nat):(x:Int)*2 ^ ((k:Int)).toNat=((x <<< k:Nat):Int):=by
 rw[kK]
 simp
theorem cC2(x k:Nat):(x:Int)/2 ^ ((k:Int)).toNat=((x >>> k:Nat):Int):=by
 rw[cZ8]
 simp
theorem cy9(x k:Nat):((x >>> k) &&& 1=1)↔x.testBit k=true:=by
 rw[cZ4,cZ8]
 have:(x/2 ^ k) &&& 1=(x/2 ^ k)%2:=Nat.and_two_pow_sub_one_eq_mod _ 1
 rw[this]
 simp
end Mf
namespace Mf
end Mf
namespace Mf
theorem S4(a b:Nat):∀c,cl (cl a b) c=cl a (cl b c):=by
 intro c
 induction c using BF with
 | ind c ih =>
  by_cases h:c=0
  ·subst h;rfl
  ·have e:c=2*(c/2)+c%2:=by omega
   have lt:c%2<2:=by omega
   have i:=ih (c/2) (by omega)
   rw[e,zh _ _ _ lt,zh _ _ _ lt,i,bG0,cJ5]
   have:c%2=0\/c%2=1:=by omega
   rcases this with h | h
   ·rw[h];rfl
   ·rw[h];rfl
noncomputable def vF:Nat->Nat->Nat->Nat
 | 0,a,_=>a
 | n+1,a,b=>if bl a<bl b then a else vF n (a ^^^ b <<< (bl a-bl b)) b
noncomputable def md(a b:Nat):Nat:=vF (bl a+1) a b
theorem S5{b:Nat}(hb:b≠0):∀n a,bl a<n->(∃q,a=cl q b ^^^ vF n a b)/\bl (vF n a b)<bl b
 | 0,_,h=>absurd h (by omega)
 | n+1,a,h=>by
  unfold vF
  by_cases l:bl a<bl b
  ·rw[if_pos l]
   exact⟨⟨0,by rw[qp,p5]⟩,l⟩
  ·rw[if_neg l]
   have less:=S1 hb (show bl b<=bl a by omega)
   obtain⟨⟨q,e⟩,l2⟩:=S5 hb n (a ^^^ b <<< (bl a-bl b)) (by omega)
   refine⟨⟨q ^^^ 2 ^ (bl a-bl b),?_⟩,l2⟩
   rw[qo,S0]
   have e2:a=(a ^^^ b <<< (bl a-bl b)) ^^^ b <<< (bl a-bl b):=by rw[sJ,BG,me]
   rw[e]at e2
   refine e2.trans ?_
   generalize vF n _ b=r
   rw[sJ,Ra r,<- sJ]
theorem zj{b:Nat}(hb:b≠0)(a:Nat):(∃q,a=cl q b ^^^ md a b)/\bl (md a b)<bl b:=S5 hb _ a (by omega)
theorem zk{a b q r:Nat}(h:a=cl q b ^^^ r)(hr:bl r<bl b):md a b=r:=by
 have hb:b≠0:=by intro z;rw[z,nW]at hr;omega
 obtain⟨⟨q',e⟩,l⟩:=zj hb a
 exact(bT7 (e.symm.trans h) l hr).2
theorem cR1(q:Nat){b:Nat}(hb:b≠0):md (cl q b) b=0 :=
 zk (q:=q) (by rw[me]) (by rw[nW];exact ir hb)
end Mf
namespace Mf
theorem cz9(y:Nat):bl (y/2)=bl y-1:=by
 by_cases h:y=0
 ·subst h;rfl
 ·have p:=ir h
  have h1:bl (y/2)<=bl y-1:=eX.mpr (SU (by
   have e:bl y-1+1=bl y:=by omega
   rw[e];exact jy y))
  have h2:bl y<=bl (y/2)+1:=eX.mpr (by
   have:=jy (y/2)
   rw[nE];omega)
  omega
theorem cH1(x:Nat):bl (2*x)<=bl x+1:=eX.mpr (by
 have:=jy x
 rw[nE];omega)
theorem GS{x y:Nat}(h:x<=y):bl x<=bl y:=eX.mpr (nG h (jy y))
end Mf
namespace Mf
noncomputable def al(a:Nat):Bool:=decide (2<=a)&&(bg (2 ^ ((bl a-1)/2+1)-2)).all λi=>md a (2+i) != 0
theorem ci0{a:Nat}(h:a<2):al a=false:=by
 unfold al;rw[decide_eq_false (by omega)];rfl
theorem cy6{a:Nat}(h:2<=a)(k:∀i,i<2 ^ ((bl a-1)/2+1)-2->md a (2+i)≠0):al a=true:=by
 unfold al
 rw[decide_eq_true h,ka,dw]
 intro i hi
 have:=k i (cL.mp hi)
 simpa using this
theorem cl2{a i:Nat}(k:i<2 ^ ((bl a-1)/2+1)-2)(z:md a (2+i)=0):al a=false:=by
 unfold al
 rw[Bool.and_eq_false_iff]
 right
 rw[List.all_eq_false]
 exact⟨i,cL.mpr k,by simp[z]⟩
theorem cg9{a:Nat}(h:2<=a){b:Nat}(hb:b<2 ^ ((bl a-1)/2+1)):b<a/\2*bl b<=bl a+1:=by
 have h2:2<=bl a:=by
  have:=GN.mpr (show 2 ^ 1<=a by omega)
  omega
 have l:=eX.mpr hb
 refine⟨dv hb (eP (yD (by decide) ?_) (SI (by omega))),by omega⟩
 omega
end Mf
namespace L2
open PySem PySem.Spec PyProof.Rows Mf
theorem gW:bootBuiltins "len"=some (.builtin "len"):=by decide +kernel
theorem bD7:bootBuiltins "isinstance"=some (.builtin "isinstance"):=by decide +kernel
theorem Cf:bootBuiltins "all"=some (.builtin "all"):=by decide +kernel
theorem cE7:bootBuiltins "any"=some (.builtin "any"):=by decide +kernel
theorem cE5:bootBuiltins "sum"=some (.builtin "sum"):=by decide +kernel
theorem cJ6:bootBuiltins "int"=some (.type "int"):=by decide +kernel
theorem cC1:bootBuiltins "bool"=some (.type "bool"):=by decide +kernel
theorem tG:bootBuiltins "list"=some (.type "list"):=by decide +kernel
section
variable{X:Cx}{a b o:Expr}{ta tb to:TE}{pos apos cB:Pos}
theorem S6(i:Int):Builtin.Int.intBits i=bl i.natAbs:=by
 unfold Builtin.Int.intBits bl
 by_cases h:i=0
 ·subst h;rfl
 ·have h':¬ i.natAbs=0:=by omega
  rw[if_neg h',if_neg (by simpa using h)]
noncomputable def S7:V->List V->Hp->VK->Prop:=λx vs H Q=>∃i,x=.int i/\vs=[]/\Q (.int (bl i.natAbs:Nat)) H
theorem cb7:Cc X "int.bit_length" S7:=by
 intro pins s σ H x xs v us Q I rx rs h
 obtain⟨i,rfl,rfl,q⟩:=h
 obtain⟨t,rfl⟩:=rx
 cases rs
 refine call_int_bit_length ?_
 rw[S6]
 exact⟨.int _,H,I.tok _,⟨_,rfl⟩,q⟩
theorem GU(ho:PE X o to)(nU:attributeBase o "bit_length" X.env (eval o X.env)=eval o X.env:=by rfl)(nV:(apos.endLine==cB.line)=true:=by rfl) :
  PE X (.Call (.Attribute o "bit_length" apos) [] [] cB) (Sy X.K "int" S7 to) :=
 cI4 PySem.F.plainAttrs_int PySem.F.slot_int_bit_length PySem.F.type_int_bit_length cb7 ho nU nV
noncomputable def S8(i j:Int):Prop:=0<=j/\((bl i.natAbs:Nat):Int)+j<=134217728
theorem S9:cN X (binaryOp .LShift) (rI S8 λi j=>.int (i*2 ^ j.toNat)):=y7 λi j _ _ _ _ _ hc q =>
 lshift_int hc.1 (by rw[S6];exact Int.le_trans hc.2 (by decide)) q
theorem cP7{x:Str}{n:String}(hg:Gl X x)(hm:X.mg x=none)(hv:bootBuiltins x=some (.type n))(hn:x≠"__name__":=by decide)(hd:(x==("__debug__":Str))=false:=by decide):PE X (.Name x pos) (tC (.ty n)) :=
 cy2 hg hm hv rfl hn hd
noncomputable def cW3(K:PySem.W.Frag):List V->Hp->VK->Prop:=λxs H Q=>∃x n t b,xs=[x,.ty n]/\iL K H x t/\PySem.W.kitOne K t (.type n)=some b/\Q (.bl b) H
theorem bw0:iK X (.builtin "isinstance") (cW3 X.K):=by
 intro pins s σ H xs us Q I r h
 obtain⟨x,n,t,b,rfl,ty,e,q⟩:=h
 obtain⟨u,v,rfl,ru,rv⟩:=r.two
 cases(show v=Value.type n from rv)
 exact cb6 I ru ty e λtk=>⟨.bl b,H,I.tok _,rfl,q⟩
end
theorem cx5(b i:Nat):decide (V.int (pW ((b:Int)/2 ^ ((0:Int)+(i:Int)).toNat) 1)=V.int 1)=b.testBit i:=by
 have e:((0:Int)+(i:Int)).toNat=((i:Int)).toNat:=by omega
 rw[e,cC2,show(1:Int)=((1:Nat):Int) from rfl,S3,sM,decide_eq_true_iff,<- cy9]
 constructor
 ·intro h;injection h with h;omega
 ·intro h;rw[h]
theorem cl4{a b i:Nat}(h:b.testBit i=true):pX ((P a b i:Nat):Int) ((a:Int)*2 ^ ((0:Int)+(i:Int)).toNat)=((P a b (i+1):Nat):Int):=by
 have e:((0:Int)+(i:Int)).toNat=((i:Int)).toNat:=by omega
 rw[e,vE,nX]
 show _=((P a b i ^^^ (if b.testBit i then a <<< i else 0):Nat):Int)
 rw[if_pos h]
theorem bU0{a b i:Nat}(h:¬ b.testBit i=true):P a b (i+1)=P a b i:=by
 show P a b i ^^^ (if b.testBit i then a <<< i else 0)=_
 rw[if_neg h,me]
theorem dI{i j:Int}:decide (V.int i=V.int j)=true↔i=j:=by
 rw[decide_eq_true_iff]
 exact⟨λh=>by injection h,λh=>by rw[h]⟩
end L2
namespace L2
open PySem PySem.Spec PyProof.Rows
section
variable{X:Cx}
end
end L2
namespace L2
open PySem PySem.Spec PyProof.Rows
noncomputable def Cg(X:Cx)(scope:Scope)(N:List Str)(cl:List (Str × Addr))(C:Addr)(s:Shared)(H:Hp)(fp:List Addr):Cx where
 prog:=X.prog
 w:=X.w
 K:=X.K
 mg:=X.mg
 base:=X.base
 A:=X.A
 N:=N
 cT:=s
 kP:=H
 env:=compEnvC scope cl C X.env
 outer:=X.stack
 stack:=X.stack
 ex:=fp
 fn:=λ_=>false
 calm:=X.calm
 pn:=[]
 xe:=λ_ _=>False
noncomputable def nY(X:Cx)(scope:Scope)(cl:List (Str × Addr)):List (Str × Nat)->Prop
 | []=>True
 | (y,i)::r=>(X.N[i]?=some y/\(X.env.scope.names.lookup y=some .cell\/X.env.scope.names.lookup y=some .free)/\((relabel scope X.env).names.lookup y=some .cell\/(relabel scope X.env).names.lookup y=some .free)/\∃c,cl.lookup y=some c/\X.env.cells.lookup y=some c)/\nY X scope cl r
theorem nY.at{X:Cx}{scope:Scope}{cl:List (Str × Addr)}:∀{aJ:List (Str × Nat)},nY X scope cl aJ->∀p∈aJ,X.N[p.2]?=some p.1/\(X.env.scope.names.lookup p.1=some .cell\/X.env.scope.names.lookup p.1=some .free)/\((relabel scope X.env).names.lookup p.1=some .cell\/(relabel scope X.env).names.lookup p.1=some .free)/\∃c,cl.lookup p.1=some c/\X.env.cells.lookup p.1=some c
 | [],_,p,hp=>absurd hp (by simp)
 | (y,i)::r,h,p,hp=>by
  rcases cA.mp hp with e | e
  ·subst e;exact h.1
  ·exact nY.at h.2 p e
noncomputable def nZ(Y:Cx)(ifs:List Expr)(t:TT):Prop :=
 ∀(pins:List (Addr × Obj)) (s:Shared) (σ:St) (H:Hp) (Q:Bool->Hp->Prop),Inv Y pins σ H s->t σ H Q ->
  wpAny (model Y.prog Y.w) Y.A (forIn ifs true λc r=>if r=true then do let ok<-isTrue c Y.env (eval c Y.env);pure (Fs ok)else pure (Fs r)) (TP Y pins σ Q) Y.xe s
noncomputable def cW9:TT:=λ_ H Q=>Q true H
theorem cw9{Y:Cx}:nZ Y [] cW9:=λ_ _ _ H _ I h=>wpAny_tests_nil ⟨H,I,h⟩
theorem cA9{Y:Cx}{c:Expr}{t:TT}(h:PT Y c t):nZ Y [c] t:=λpins s σ H Q I q=>wpAny_tests_one (h pins s σ H Q I q)
section
variable{X:Cx}{elt iter:Expr}{x:Str}{px pos:Pos}{ifs:List Expr}{scope:Scope}{cl:List (Str × Addr)}{aJ:List (Str × Nat)}{wi:TI}{tt:TT}{te:TE}
end
section
variable{prog:Program}{w:World}{A:Around}{R:Result->Shared->Prop}{s:Shared}
theorem bK3{elt target iter:Expr}{ifs:List Expr}{scope:Scope}{pos:Pos}{it acc:Value}{env:Env}(Iv:Nat->Shared->Prop)
  (turn:∀n s,Iv n s->wpAny (model prog w) A (pyNext it) (λr s1=>match r with
   | none=>R (.ok .next) s1
   | some v=>wpAny (model prog w) A (letOwnedTupleGo target it v) (λ_ t1=>wpAny (model prog w) A (assign target env v) (λ_ s2 =>
     wpAny (model prog w) A (forIn ifs true λc r=>if r=true then do let ok<-isTrue c env (eval c env);pure (Fs ok)else pure (Fs r)) (λok s3 =>
      if ok=true then wpAny (model prog w) A (eval elt env) (λy s4=>wpAny (model prog w) A (call (.builtin "list.append") [acc,y]) (λ_ s5=>∃m,m<n/\Iv m s5) (λ_ _=>False) s4) (λ_ _=>False) s3
      else ∃m,m<n/\Iv m s3) (λ_ _=>False) s2) (λ_ _=>False) t1) (λ_ _=>False) s1) (λ_ _=>False) s)
  (n:Nat) (h:Iv n s):codeAny (model prog w) A (.compLoop (.ListComp elt [⟨target,iter,ifs,0⟩] scope pos) 0 it acc env) R s:=by
 refine codeAny_loop rfl Iv (λn s hI=>?_) n h
 change wpAny _ A (Sem.onRaise (compTurn (.ListComp elt [⟨target,iter,ifs,0⟩] scope pos) 0 it acc env) λx=>do noteFrame x env;theTreesLotGoes x) _ _ s
 refine wpAny_noted (wpAny_mono (E:=λ_ _=>False) ?_ (λ_ _ q=>q) λ_ _ z=>z.elim)
 rw[compTurn_list]
 refine wpAny_bind (wpAny_standAt (wpAny_bind (bc (turn n s hI) λr s1 h1=>?_)))
 cases r with
 | none=>exact wpAny_pure h1
 | some v =>
  refine wpAny_bind (bc h1 λ_ t1 k1=>wpAny_bind (bc k1 λ_ s2 h2=>wpAny_bind (bc h2 λok s3 h3=>?_)))
  cases ok with
  | false=>exact wpAny_pure ⟨rfl,h3⟩
  | true=>exact wpAny_bind (wpAny_bind (bc h3 λy s4 h4=>wpAny_bind (bc h4 λ_ s5 h5=>wpAny_pure (wpAny_pure ⟨rfl,h5⟩))))
end
section
variable{X:Cx}{elt iter:Expr}{x:Str}{px pos:Pos}{ifs:List Expr}{scope:Scope}{cl:List (Str × Addr)}{aJ:List (Str × Nat)}{wi:TI}{tt:TT}{te:TE}
end
end L2
namespace L2
open PySem PySem.Spec PyProof.Rows
section
variable{X:Cx}
theorem cg2{bs:List Bool}{us:List Value}(r:Vals (bs.map V.bl) us):bs.length=us.length/\∀(i:Nat) (v:Value),us[i]?=some v->∃b,bs[i]?=some b/\v=.bool b:=by
 have l:=r.length
 rw[bB]at l
 refine⟨l,λi v e=>?_⟩
 have hi:i<us.length:=(j9.mp e).1
 have hb:i<bs.length:=by omega
 obtain⟨u,e2,q⟩:=r.get (i:=i) (x:=V.bl bs[i]) (by rw[bQ,aP hb];rfl)
 rw[e]at e2
 cases e2
 exact⟨bs[i],aP hb,q⟩
theorem GV{s:Shared}{h':Heap}{o:Obj}(hk:∀b x,b ∉ [s.heap.objs.size]->(s.heap.push o).get? b=some x->h'.get? b=some x)(b:Addr)(x:Obj)(e:s.heap.get? b=some x):h'.get? b=some x :=
 hk b x (λhm=>fK _ (by have:=bW e;rw[dP.mp hm]at this;exact this)) (fL _ e)
theorem ce7(bs:List Bool):((bg bs.length).all λi=>(bs[i]?).getD true)=bs.all id:=by
 rw[sM,dw,dw]
 constructor
 ·intro h b hb
  obtain⟨i,hi,rfl⟩:=gj hb
  have:=h i (cL.mpr hi)
  rwa [aP hi]at this
 ·intro h i hi
  have iu:=cL.mp hi
  rw[aP iu]
  exact h _ (cM iu)
theorem ce5(bs:List Bool):((bg bs.length).any λi=>(bs[i]?).getD false)=bs.any id:=by
 rw[sM,Ft,Ft]
 constructor
 ·rintro⟨i,hi,h⟩
  have iu:=cL.mp hi
  rw[aP iu]at h
  exact⟨_,cM iu,h⟩
 ·rintro⟨b,hb,h⟩
  obtain⟨i,hi,rfl⟩:=gj hb
  exact⟨i,cL.mpr hi,by rw[aP hi];exact h⟩
theorem cf9(hc:X.calm=true):iK X (.builtin "all") (λxs H Q=>∃(p:Addr) (bs:List Bool),xs=[.ref p]/\bS X.K H p (bs.map V.bl)/\Q (.bl (bs.all id)) H):=by
 intro pins s σ H xs us Q I r h
 obtain⟨p,bs,rfl,hS,q⟩:=h
 obtain⟨u,rfl,ru⟩:=r.one
 cases ru
 obtain⟨its,rv,pl,hz⟩:=I.list hS
 obtain⟨hlen,GW⟩:=cg2 rv
 have hl:=pl.isList
 have gr:p<s.heap.objs.size:=by obtain⟨_,e,_⟩:=hl;exact bW e
 refine call_all_walk (wpAny_pyIter_list hl ?_)
 refine⟨s.heap.objs.size,[s.heap.objs.size,p],[s.heap.objs.size],its.toArray.size,_,_,λi=>(bs[i]?).getD true,rfl,Walks.list (A:=X.A.in1) (I.ok.hd hc) _ p (fo gr) its.toArray,
  ⟨⟨_,gJ _ rfl,rfl,rfl⟩,hl.push _⟩,λi v s' Q' E' hP hQ=>?_,λh' tk hk=>?_⟩
 ·obtain⟨b,e,rfl⟩:=GW i v (by simpa using hP)
  simp only[e,p7]at hQ
  exact wpAny_truthy_bool hQ
 ·have e:((bg its.toArray.size).all λi=>(bs[i]?).getD true)=bs.all id:=by
   rw[dX,<- hlen];exact ce7 bs
  rw[e]
  exact⟨.bl _,H,I.kept (h':=h') (t':=tk) (GV hk),rfl,q⟩
end
noncomputable def n5(X:Cx):List (Str × Addr)->Prop
 | []=>True
 | (y,c)::r=>X.env.cells.lookup y=some c/\n5 X r
theorem n5.all{X:Cx}:∀{cl:List (Str × Addr)},n5 X cl->∀y c,cl.lookup y=some c->X.env.cells.lookup y=some c
 | [],_,y,c,h=>by simp at h
 | (z,d)::r,h,y,c,e=>by
  rw[gx]at e
  cases q:y==z with
  | true =>
   rw[q]at e
   cases e
   rw[eq_of_beq q]
   exact h.1
  | false =>
   rw[q]at e
   exact n5.all h.2 y c e
noncomputable def n6(cl:List (Str × Addr)):List (Str × NameKind)->Prop
 | []=>True
 | (y,k)::r=>(k=.local\/k=.globalImplicit\/∃c,cl.lookup y=some c)/\n6 cl r
theorem n6.all{cl:List (Str × Addr)}:∀{ns:List (Str × NameKind)},n6 cl ns->∀y,(ns.lookup y=some .cell\/ns.lookup y=some .free)->∃c,cl.lookup y=some c
 | [],_,y,h=>by simp at h
 | (z,k)::r,h,y,e=>by
  rw[gx]at e
  cases q:y==z with
  | true =>
   rw[q]at e
   rw[eq_of_beq q]
   rcases h.1 with g | g | g
   ·rw[g]at e;rcases e with e | e<;>cases e
   ·rw[g]at e;rcases e with e | e<;>cases e
   ·exact g
  | false =>
   rw[q]at e
   exact n6.all h.2 y e
section
variable{X:Cx}{elt iter:Expr}{x:Str}{px pos:Pos}{ifs:List Expr}{scope:Scope}{cl:List (Str × Addr)}{wi:TI}{tt:TT}{te:TE}
end
end L2
namespace L2
open PySem PySem.Spec PyProof.Rows Mf
end L2
namespace L2
end L2
namespace L2
open PySem PySem.Spec PyProof.Rows
noncomputable def ix(aJ:List (Str × Nat))(n:Nat)(σ:L2.St):St:=(aJ.map λp=>(σ[p.2]?).getD none)++bH n none
noncomputable def Ta(J:It)(aJ:List (Str × Nat))(n:Nat)(g:TG)(tt:TT)(te:TE)(σ:L2.St)(H1:Hp)(Q:VK):Prop:=∀D,H1 D=none->∃W:Nat->Nat->List V->Hp->Prop,(∃m,W 0 m [] (upd H1 D (.lst []))) /\
 ∀i m acc H2,W i m acc H2->H2 D=some (.lst acc)/\((J.stop i H2/\Q (.ref D) H2)\/(J.go i H2/\∀x H3,J.ki i H2 x H3->H3 D=some (.lst acc)/\g x (ix aJ n σ) H3 λgS H4 =>
  (gS.length=(ix aJ n σ).length/\∀j,j<aJ.length->gS[j]?=(ix aJ n σ)[j]?)/\tt gS H4 λb H5=>H5 D=some (.lst acc) /\
  if b=true then te gS H5 λy H6=>H6 D=some (.lst acc)/\acc.length<sizeLine/\∃m',m'<m/\W (i+1) m' (acc++[y]) (upd H6 D (.lst (acc++[y])))else ∃m',m'<m/\W (i+1) m' acc H5))
noncomputable def Ci(wi:TI)(aJ:List (Str × Nat))(n:Nat)(g:TG)(tt:TT)(te:TE):TE:=λσ H Q=>wi σ H λJ H1=>Ta J aJ n g tt te σ H1 Q
section
variable{X:Cx}{elt iter tg:Expr}{pos:Pos}{ifs:List Expr}{scope:Scope}{cl:List (Str × Addr)}{wi:TI}{tt:TT}{te:TE}{g:TG}
end
end L2
namespace L2
open PySem PySem.Spec PyProof.Rows
section
variable{X:Cx}{tg:Expr}
end
end L2
namespace L2
open PySem PySem.Spec PyProof.Rows
noncomputable def GX(h:Heap)(a T:Addr)(cls fl:Value):Prop :=
 ∃oe vs oT ts,h.get? a=some oe/\oe.cls=cls/\oe.dict=none/\oe.data=.fields vs/\vs[1]?=some (.ref T)/\T≠a/\h.get? T=some oT/\oT.data=.fields ts/\ts[3]?=some fl
noncomputable abbrev tH(h:Heap)(a T:Addr)(cls:Value):Prop:=GX h a T cls .none
theorem bz0(o:Obj)(f:Array Value->Array Value):(o.mapFields f).dict=o.dict:=by
 obtain⟨c,d,dt,sl⟩:=o
 cases dt<;>rfl
section
variable{M:Model}{A:Around}{E:Value->Shared->Prop}{s:Shared}{base:Heap}{env:Env}{outer:List Env}{L a T:Addr}{cls:Value}{oe:Obj}{vs:Array Value}{Q:Unit->Shared->Prop}
structure Ent(fs:List Addr)(h h':Heap)(a T:Addr)(oe:Obj)(L:Addr):Prop where
 new:h.get? T=none
 ne:T≠a
 keep:∀b o,b≠a->b ∉ fs->h.get? b=some o->h'.get? b=some o
 slot:∀b o,b≠a->h.get? b=some o->∃sl,h'.get? b=some { o with slots:=sl }
 exc:h'.get? a=some (oe.mapFields λz=>z.setIfInBounds 1 (.ref T))
 ent:∃oT ts,h'.get? T=some oT/\oT.data=.fields ts/\ts[3]?=some (rawInt L)
theorem Tc{head:Value}{du3:Bool}(eY:A.frames=some (env::outer))(hl:s.heap.FunFrames base (env::outer))(hf:env.frame=some L)(he:s.heap.get? a=some oe)(hd:oe.data=.fields vs)(mw:1<vs.size)
  (na:a ∉ (env::outer).filterMap (·.frame)) (k:∀h' T',Ent ((env::outer).filterMap (·.frame)) s.heap h' a T' oe L->Q () { s with heap:=h' }) :
  wpAny M A (do let x<-frameOf env;let pl<-entryPlaceOf L du3;let b<-EntryCells.newEntry head x .none (rawInt L) .none pl;setField (.ref a) 1 b) Q E s:=by
 refine wpAny_bind (wpAny_frameOf_fun eY hl hf λg1 so=>wpAny_bind (wpAny_entryPlaceOf λpl ip=>?_))
 unfold EntryCells.newEntry newFields
 have e1:g1.get? a=some oe:=(so.2.1 a na).trans he
 refine wpAny_bind (wpAny_newObj_type ?_ (ip.sizeOk5 _ _ _ _ _))
 generalize Td:({ cls:=.type "traceback",dict:=none,data:=.fields ([head,fJ L,.none,rawInt L,.none]++(if pl.isEmpty then bH 6 su else pl)).toArray }:Obj)=te
 have e2:(g1.push te).get? a=some oe:=fL te e1
 have hda:te.data=.fields ([head,fJ L,.none,rawInt L,.none]++(if pl.isEmpty then bH 6 su else pl)).toArray:=by rw[<-Td]
 have nf:te.isFreed=false:=by rw[<-Td];rfl
 refine wpAny_setField e2 hd mw ?_
 have d3:=Fu hd λz=>z.setIfInBounds 1 (fJ g1.objs.size)
 have nT:g1.objs.size≠a:=Q6 (bW e1)
 refine k _ g1.objs.size ⟨?_,nT,λb o hb hz q=>?_,λb o hb q=>?_,Fh _ e2 (Rc d3),⟨te,_,?_,hda,?_⟩⟩
 ·cases q:s.heap.get? g1.objs.size with
  | none=>rfl
  | some o=>obtain⟨sl,z⟩:=so.2.2 _ _ q;exact absurd (bW z) (fK _)
 ·rw[sG _ _ (fq hb)]
  exact fL te ((so.2.1 b hz).trans q)
 ·obtain⟨sl,z⟩:=so.2.2 b o q
  refine⟨sl,?_⟩
  rw[sG _ _ (fq hb)]
  exact fL te z
 ·rw[sG _ _ (fq nT)]
  exact gJ g1 nf
 ·first | (simp;done) | (rcases ip with rfl | ⟨_,_,_,_,_,_,_,rfl⟩<;>simp)
structure Te(fs Z:List Addr)(h h':Heap)(a T:Addr)(cls:Value):Prop where
 new:h.get? T=none
 keep:∀b o,b ∉ Z->b ∉ fs->h.get? b=some o->h'.get? b=some o
 slot:∀b o,b ∉ Z->h.get? b=some o->∃sl,h'.get? b=some { o with slots:=sl }
 zo:tH h' a T cls
theorem Tf{fl:Value}(tr:GX s.heap a T cls fl)(k:∀h',(∀b o,b≠T->s.heap.get? b=some o->h'.get? b=some o)->tH h' a T cls->Q () { s with heap:=h' }):wpAny M A (setFlight (.ref a) none) Q E s:=by
 obtain⟨oe,vs,oT,ts,h1,h2,h3,h4,h5,h6,h7,h8,h9⟩:=tr
 have sz:3<ts.size:=(Rh.mp h9).1
 unfold setFlight
 refine wpAny_bind (wpAny_field h1 h4 h5 ?_)
 rw[if_pos (by simp)]
 refine wpAny_setField h7 h8 sz (k _ (λb o hb q=>(sG _ _ (fq hb)).trans q) ?_)
 have d:=Fu h8 λz=>z.setIfInBounds 3 ((none:Option Addr).elim su λf=>rawInt f)
 exact⟨oe,vs,_,_,(sG _ _ h6).trans h1,h2,h3,h4,h5,h6,Fh _ h7 (Rc d),d,by simp[sz]⟩
theorem Ent.fin{fs:List Addr}{h h':Heap}{a T L:Addr}{oe:Obj}{vs:Array Value}(e:Ent fs h h' a T oe L)(hd:oe.data=.fields vs)(mw:1<vs.size)(hdi:oe.dict=none):GX h' a T oe.cls (rawInt L):=by
 obtain⟨oT,ts,e1,e2,e3⟩:=e.ent
 exact⟨_,_,oT,ts,e.exc,Obj.cls_mapFields _ _,by rw[bz0];exact hdi,Fu hd _,by simp[mw],e.ne,e1,e2,e3⟩
theorem bM2(eY:A.frames=some (env::outer))(hl:s.heap.FunFrames base (env::outer))(hf:env.frame=some L)(na:a ∉ (env::outer).filterMap (·.frame))(tr:tH s.heap a T cls)
  (k:∀h' T',Te ((env::outer).filterMap (·.frame)) [a,T] s.heap h' a T' cls->Q () { s with heap:=h' }):wpAny M A (noteFrame (.ref a) env) (λ_ kS=>wpAny M A (setFlight (.ref a) none) Q E kS) E s:=by
 obtain⟨oe,vs,oT,ts,h1,h2,h3,h4,h5,h6,h7,h8,h9⟩:=tr
 have s1:1<vs.size:=(Rh.mp h5).1
 have s3:3<ts.size:=(Rh.mp h9).1
 unfold noteFrame
 simp only[hf]
 refine wpAny_bind (wpAny_field h1 h4 h5 ?_)
 rw[if_pos (by simp)]
 refine wpAny_bind (wpAny_field h7 h8 h9 ?_)
 rw[if_neg (by simp[rawInt])]
 refine wpAny_bind (wpAny_setField h7 h8 s3 ?_)
 generalize hg:s.heap.update T (Obj.mapFields λz=>z.setIfInBounds 3 su)=g
 have cP:∀b,b≠T->g.get? b=s.heap.get? b:=λb hb=>by rw[<-hg];exact sG _ _ (fq hb)
 have bT:∀b o,s.heap.get? b=some o->(∀ws,o.data≠.fields ws)->b≠T:=λb o q hn z=>by subst z;rw[h7]at q;cases q;exact hn ts h8
 have gT:∃oT',g.get? T=some oT':=⟨_,by rw[<-hg];exact Fh _ h7 (Rc (Fu h8 _))⟩
 refine Tc (s:={ s with heap:=g }) eY (hl.of_keeps λb o q hn=>⟨o,(cP b (bT b o q hn)).trans q,rfl⟩) hf ((cP a (fq h6)).trans h1) h4 s1 na λh' T' en=>?_
 have nT':T'≠T:=λz=>by subst z;obtain⟨o,q⟩:=gT;rw[en.new]at q;cases q
 refine Tf (s:={ s with heap:=h' }) (h2 ▸ en.fin h4 s1 h3) λGY kp GZ=>?_
 refine k GY T' ⟨(cP T' nT').symm.trans en.new,λb o hz hb q=>?_,λb o hz q=>?_,GZ⟩
 ·have z1:b≠a:=λz=>hz (by simp[z])
  have z2:b≠T:=λz=>hz (by simp[z])
  have z3:b≠T':=λz=>by have:=en.new;rw[<-z,cP b z2,q]at this;cases this
  exact kp b o z3 (en.keep b o z1 hb ((cP b z2).trans q))
 ·have z1:b≠a:=λz=>hz (by simp[z])
  have z2:b≠T:=λz=>hz (by simp[z])
  have z3:b≠T':=λz=>by have:=en.new;rw[<-z,cP b z2,q]at this;cases this
  obtain⟨sl,r⟩:=en.slot b o z1 ((cP b z2).trans q)
  exact⟨sl,kp b _ z3 r⟩
theorem bL5{h1:Heap}{args:List Value}(eY:A.frames=some (env::outer))(hl:s.heap.FunFrames base (env::outer))(hf:env.frame=some L)(hx:Ri s.heap h1 a cls args)
  (k:∀h' T',Te ((env::outer).filterMap (·.frame)) [] s.heap h' a T' cls->Q () { s with heap:=h' }):wpAny M A (noteFrame (.ref a) env) (λ_ kS=>wpAny M A (setFlight (.ref a) none) Q E kS) E { s with heap:=h1 }:=by
 obtain⟨t,e1,_,_⟩:=hx.there
 have na:a ∉ (env::outer).filterMap (·.frame):=λhb=>by obtain⟨_,o,ho,_⟩:=hl.mem hb;rw[hx.new]at ho;cases ho
 unfold noteFrame
 simp only[hf]
 refine wpAny_bind (wpAny_field (s:={ s with heap:=h1 }) e1 rfl (x:=.none) (by rfl) ?_)
 rw[if_neg (by decide)]
 refine Tc (s:={ s with heap:=h1 }) eY (hl.of_keeps λb o q _=>⟨o,hx.keeps b o q,rfl⟩) hf e1 rfl (by simp) na λh' T' en=>?_
 refine Tf (s:={ s with heap:=h' }) (en.fin rfl (by simp) rfl) λGY kp GZ=>?_
 have ba:∀b o,s.heap.get? b=some o->b≠a:=λb o q z=>by rw[z,hx.new]at q;cases q
 have bT:∀b o,s.heap.get? b=some o->b≠T':=λb o q z=>by have:=hx.keeps b o q;rw[z,en.new]at this;cases this
 refine k GY T' ⟨?_,λb o _ hb q=>kp b o (bT b o q) (en.keep b o (ba b o q) hb (hx.keeps b o q)),λb o _ q=>?_,GZ⟩
 ·cases q:s.heap.get? T' with
  | none=>rfl
  | some o=>exact absurd rfl (bT T' o q)
 ·obtain⟨sl,r⟩:=en.slot b o (ba b o q) (hx.keeps b o q)
  exact⟨sl,kp b _ (bT b o q) r⟩
end
end L2
namespace L2
open PySem PySem.Spec PyProof.Rows
theorem eH.there{P:Program}{w:World}{H:Hp}{h:Heap}{a:Addr}{o:HO}(x:eH P w H h a o):∃u,h.get? a=some u:=by
 cases o with
 | lst xs=>obtain⟨_,_,_,_,e⟩:=x;exact⟨_,e⟩
 | tup xs=>obtain⟨_,_,_,o,e,_⟩:=x;exact⟨o,e⟩
 | dK dR=>obtain⟨_,_,_,_,o,_,_,e,_⟩:=x;exact⟨_,e⟩
 | dT dR=>obtain⟨_,_,_,_,o,_,_,e,_⟩:=x;exact⟨_,e⟩
 | set S n=>obtain⟨o,_,_,_,e,_⟩:=x;exact⟨_,e⟩
 | ins C dx fs=>obtain⟨_,_,_,e,_⟩:=x;exact⟨_,e⟩
 | own y=>exact x
 | xd fs=>obtain⟨_,⟨_,_,_,e,_⟩,_⟩:=x;exact⟨_,e⟩
 | yO lo hi=>obtain⟨_,_,_,e⟩:=x;exact⟨_,e⟩
 | cq ob u=>obtain⟨e,_⟩:=x;exact⟨_,e⟩
 | dH ps=>exact⟨_,show h.get? a=some _ from x.1⟩
 | met f y=>exact⟨_,show h.get? a=some _ from x⟩
 | ext φ=>obtain⟨_,e,_⟩:=x;exact e
theorem cS.none{P:Program}{w:World}{H:Hp}{h:Heap}{a:Addr}(x:cS P w H h)(e:h.get? a=.none):H a=.none:=by
 cases q:H a with
 | none=>rfl
 | some u=>obtain⟨o,z⟩:=(x a u q).there;rw[e]at z;cases z
structure Apart(X:Cx)(pins:List (Addr × Obj))(H:Hp)(b:Addr):Prop where
 old:X.cT.heap.get? b=none
 free:H b=none
 loc:b≠X.env.locals
 cell:∀x c,X.env.cells.lookup x=some c->c≠b
 pin:∀p∈X.pn++pins,p.1≠b
 fr:b ∉ eI X.stack
section
variable{X:Cx}{pins:List (Addr × Obj)}{σ:St}{H H':Hp}{s:Shared}{a T b:Addr}{cls:Value}{M:Model}{Q:Unit->Shared->Prop}{E:Value->Shared->Prop}{h':Heap}
theorem Inv.old(I:Inv X pins σ H s)(hex:X.ex=[])(e:s.heap.get? b=none):X.cT.heap.get? b=none:=by
 cases q:X.cT.heap.get? b with
 | none=>rfl
 | some o=>obtain⟨o',z⟩:=I.base.there b o q (by rw[hex];simp);rw[e]at z;cases z
theorem Tg(I:Inv X pins σ H s)(dB:X.stack=X.env::X.outer)(hex:X.ex=[])(hf:X.env.frame=some X.env.locals)(Z:List Addr)(hZ:∀b∈Z,X.cT.heap.get? b=none/\H b=none)
  (keep:∀b o,b ∉ Z->b ∉ eI X.stack->s.heap.get? b=some o->h'.get? b=some o) (slots:∀b o,b ∉ Z->s.heap.get? b=some o->∃sl,h'.get? b=some { o with slots:=sl }) :
  Un (eI X.outer) [] X.kP H X.cT.heap h'/\cS X.prog X.w H h':=by
 have G0:∀b o,X.cT.heap.get? b=some o->b ∉ Z:=λb o e z=>by rw[(hZ b z).1]at e;cases e
 have sub:∀b,b∈eI X.stack->b=X.env.locals\/b∈eI X.outer:=λb hb=>by
  rw[dB]at hb
  unfold eI at hb
  rw[Bt,hf]at hb
  exact cA.mp hb
 have sup:∀b,b∈eI X.outer->b∈eI X.stack:=λb hb=>by
  rw[dB]
  unfold eI
  rw[Bt,hf]
  exact dZ _ hb
 have BS:∀b o,X.cT.heap.get? b=some o->b≠X.env.locals:=λb o e=>fo (dv (bW e) I.ok.above)
 have nx:∀b:Addr,b ∉ X.ex:=λb=>by rw[hex];simp
 refine⟨⟨λb o e n hb _=>?_,λb o e n hb _=>?_,λb o e n _=>I.base.free b o e n (nx b),λb o e _=>?_,I.base.kb,I.base.jO,I.base.iJ⟩,λb ob e=>?_⟩
 ·exact keep b o (G0 b o e) (λz=>(sub b z).elim (BS b o e) hb) (I.base.keep b o e n hb (nx b))
 ·obtain⟨sl,e1⟩:=I.base.slot b o e n hb (nx b)
  exact(slots b _ (G0 b o e) e1).imp λsl h=>h
 ·obtain⟨o',e1⟩:=I.base.there b o e (nx b)
  exact(slots b o' (G0 b o e) e1).elim λsl q=>⟨_,q⟩
 ·refine(I.aR b ob e).kO (λc u hc q=>keep c u (λz=>?_) (λz=>?_) q) (λ_ q=>q) (λ_ _ q=>q) λ_ _ q=>q
  ·have n:=(hZ c z).2
   rcases hc with rfl | hc
   ·rw[n]at e;cases e
   ·rw[n]at hc;cases hc
  ·have n:=I.FU c z
   rcases hc with rfl | hc
   ·rw[n]at e;cases e
   ·rw[n]at hc;cases hc
structure Th(X:Cx)(H:Hp)(h':Heap)(a T:Addr)(cls:Value):Prop where
 un:Un (eI X.outer) [] X.kP H X.cT.heap h'
 aR:cS X.prog X.w H h'
 zo:tH h' a T cls
 a0:X.cT.heap.get? a=none
 a1:H a=none
 t0:X.cT.heap.get? T=none
 t1:H T=none
theorem b05(I:Inv X pins σ H s)(dB:X.stack=X.env::X.outer)(hex:X.ex=[])(hf:X.env.frame=some X.env.locals)(tr:tH s.heap a T cls)(pa:Apart X pins H a)(pT:Apart X pins H T)
  (hQ:∀h' T',Th X H h' a T' cls->Q () { s with heap:=h' }):wpAny M X.A (leaving X.env (.ref a)) Q E s:=by
 have hZ:∀b∈[a,T],X.cT.heap.get? b=none/\H b=none:=λb hb=>by
  rcases cA.mp hb with rfl | hb
  ·exact⟨pa.old,pa.free⟩
  ·rw[dP.mp hb];exact⟨pT.old,pT.free⟩
 have na:a ∉ (X.env::X.outer).filterMap (·.frame):=by have:=pa.fr;rw[dB]at this;exact this
 refine wpAny_bind (bM2 (base:=X.base) (by rw[I.ok.frames,dB]) (dB ▸ I.stack) hf na tr λh' T' st=>?_)
 have kp:∀b o,b ∉ [a,T]->b ∉ eI X.stack->s.heap.get? b=some o->h'.get? b=some o:=λb o hz hb q=>st.keep b o hz (by rw[dB]at hb;exact hb) q
 obtain⟨un,aR⟩:=Tg (h':=h') I dB hex hf [a,T] hZ kp st.slot
 exact hQ h' T' ⟨un,aR,st.zo,pa.old,pa.free,I.old hex st.new,I.aR.none st.new⟩
theorem b86{h1:Heap}{args:List Value}(I:Inv X pins σ H s)(dB:X.stack=X.env::X.outer)(hex:X.ex=[])(hf:X.env.frame=some X.env.locals)(hx:Ri s.heap h1 a cls args)
  (hQ:∀h' T',Th X H h' a T' cls->Q () { s with heap:=h' }):wpAny M X.A (leaving X.env (.ref a)) Q E { s with heap:=h1 }:=by
 refine wpAny_bind (bL5 (base:=X.base) (by rw[I.ok.frames,dB]) (dB ▸ I.stack) hf hx λh' T' st=>?_)
 have kp:∀b o,b ∉ ([]:List Addr)->b ∉ eI X.stack->s.heap.get? b=some o->h'.get? b=some o:=λb o hz hb q=>st.keep b o hz (by rw[dB]at hb;exact hb) q
 obtain⟨un,aR⟩:=Tg (h':=h') I dB hex hf [] (λb hb=>absurd hb (by simp)) kp st.slot
 exact hQ h' T' ⟨un,aR,st.zo,I.old hex hx.new,I.aR.none hx.new,I.old hex st.new,I.aR.none st.new⟩
end
noncomputable def n8(P:Program)(w:World):fg:=λouter H s E e s'=>∃a T cls H',e=.ref a/\s'.os=s.os/\AllBare s'.gens/\Un (eI outer) [] H H' s.heap s'.heap/\cS P w H' s'.heap/\tH s'.heap a T cls /\
 s.heap.get? a=none/\H' a=none/\s.heap.get? T=none/\H' T=none/\E cls none H'
section
variable{X:Cx}{pins:List (Addr × Obj)}{σ:St}{H H':Hp}{s:Shared}{a T b:Addr}{cls:Value}{M:Model}{Q:Unit->Shared->Prop}{E:Value->Shared->Prop}{h':Heap}
end
end L2
namespace L2
open PySem PySem.W PySem.Spec PySem.Calls PyProof.Rows
section
variable{prog:Program}{w:World}{A:Around}{E:Value->Shared->Prop}{s:Shared}{K:Frag}{x D:Addr}{ox:Obj}{odo:Option Obj}
end
end L2
namespace L2
open PySem PySem.W PySem.Spec PySem.Calls PyProof.Rows
section
variable{prog:Program}{w:World}{A:Around}{E:Value->Shared->Prop}{s:Shared}{K:Frag}{x D:Addr}{ox:Obj}{odo:Option Obj}
structure dv3(K:Frag)(C:Addr):Prop where
 cls:(clsIn K C).isSome=true
 ga:findIn K (.ref C) "__getattribute__"=some (some (.builtin "BaseException.__getattribute__"))
 gt:findIn K (.ref C) "__getattr__"=some none
 ca:findIn K (.ref C) "__class__"=some (some (.builtin "object.__class__"))
 hn:specialIn K (.builtin "object.__class__") "__get__"=some (some (.builtin "getset_descriptor.__get__"))
 tk:takesIn K (.builtin "object.__class__")=some true
 mo:mroIn K C (.type "object")=some true
 mb:mroIn K C (.type "BaseException")=some true
end
end L2
namespace L2
open PySem PySem.Spec PyProof.Rows
section
variable{X:Cx}{pins:List (Addr × Obj)}{σ:St}{H:Hp}{s:Shared}{h':Heap}{its:List Addr}{T:Addr}{o:HO}{t':Nat}
theorem Inv.Cj(I:Inv X pins σ H s)(k:∀b o,b ∉ its->s.heap.get? b=some o->h'.get? b=some o)(hf:∀b∈its,js X pins H b):Inv X pins σ H { s with heap:=h',toks:=t' }:=by
 have qh:∀b u,H b=some u->b ∉ its:=λb u e z=>by have:=(hf b z).1;rw[this]at e;cases e
 refine I.step (g':=s.gens) (d':=s.drawn) (ch:=its) (λb hb=>?_) (λb o _ _ hc e _=>k b o hc e) (λb o _ _ hc e _=>⟨o.slots,k b o hc e⟩) (λ_ _ _ _ n=>n)
  (λb o hc e=>⟨o,k b o hc e⟩) (λ_ _ e=>e) (λ_ _ _ e=>e) (λb ps e=>⟨#[],by rw[e];simp⟩) (λm hm=>?_) (λb u e=>?_) I.bare
 ·obtain⟨_,h1,_,h2,h3,h4⟩:=hf b hb
  exact⟨h2,h1,h3,h4⟩
 ·obtain⟨o,es,ep,ho,r⟩:=hm
  exact⟨o,es,ep,k _ o (λz=>(hf _ z).2.1 rfl) ho,r⟩
 ·refine(I.aR b u e).kO (λc v hc q=>k c v ?_ q) (λ_ q=>q) (λ_ _ q=>q) λ_ _ q=>q
  rcases hc with z | z
  ·rw[z];exact qh b u e
  ·exact qh c _ z
theorem Inv.Ti(I:Inv X pins σ H s)(k:∀b o,b ∉ its->s.heap.get? b=some o->h'.get? b=some o)(hf:∀b∈its,js X pins H b)(hT:s.heap.objs.size<=T)(new:eH X.prog X.w (upd H T o) h' T o) :
  Inv X pins σ (upd H T o) { s with heap:=h',toks:=t' }:=by
 have qh:∀b u,H b=some u->b ∉ its:=λb u e z=>by have:=(hf b z).1;rw[this]at e;cases e
 have fT:H T=none:=I.aR.fresh hT
 have neT:∀b u,H b=some u->b≠T:=λb u e z=>by rw[z,fT]at e;cases e
 have neS:∀b u,s.heap.get? b=some u->b≠T:=λb u e z=>absurd (dv (bW e) hT) (by rw[z];exact fK _)
 refine I.step (g':=s.gens) (d':=s.drawn) (ch:=its) (λb hb=>?_) (λb o _ _ hc e _=>k b o hc e) (λb o _ _ hc e _=>⟨o.slots,k b o hc e⟩) (λb u _ e n=>by rw[bu (neS b u e)];exact n)
  (λb o hc e=>⟨o,k b o hc e⟩) (λb _ e=>by rw[bu (neT b _ e)];exact e) (λb _ _ e=>by rw[bu (neT b _ e)];exact e) (λb ps e=>⟨#[],by rw[bu (neT b _ e),e];simp⟩) (λm hm=>?_) (λb u e=>?_) I.bare
 ·obtain⟨_,h1,_,h2,h3,h4⟩:=hf b hb
  exact⟨h2,h1,h3,h4⟩
 ·obtain⟨o,es,ep,ho,r⟩:=hm
  exact⟨o,es,ep,k _ o (λz=>(hf _ z).2.1 rfl) ho,r⟩
 ·by_cases hb:b=T
  ·subst hb;rw[cF]at e;cases e;exact new
  ·rw[bu hb]at e
   refine(I.aR b u e).kO (λc v hc q=>k c v ?_ q) (λc q=>by rw[bu (neT c _ q)];exact q) (λc _ q=>by rw[bu (neT c _ q)];exact q) λc _ q=>by rw[bu (neT c _ q)];exact q
   rcases hc with z | z
   ·rw[z];exact qh b u e
   ·exact qh c _ z
noncomputable def G1(K:PySem.W.Frag)(a b:Addr):It :=
 ⟨λi H=>∃xs ys x y,bS K H a xs/\bS K H b ys/\xs[i]?=some x/\ys[i]?=some y,
  λi H v H'=>∃T x y,v=.ref T/\H T=none/\H'=upd H T (.tup [x,y])/\(∀xs,bS K H a xs->xs[i]?=some x)/\∀ys,bS K H b ys->ys[i]?=some y,
  λi H=>∃xs ys,bS K H a xs/\bS K H b ys/\(xs.length<=i\/ys.length<=i)⟩
theorem qq{K:PySem.W.Frag}{a c:Addr}{xs:List V}(hk:X.K=K)(I:Inv X pins σ H s)(h:bS K H a xs)(hf:js X pins H c)(ho:∃o,s.heap.get? c=some o/\o.cls≠.type "list"):a≠c:=by
 subst hk
 obtain⟨its,rv,p,hz⟩:=I.list h
 obtain⟨o,e,d⟩:=ho
 obtain⟨o',e',c',_⟩:=p.isList
 intro z
 subst z
 rw[e]at e';cases e'
 exact d c'
theorem ce0{P:Program}{w:World}{K:PySem.W.Frag}{elts:List Expr}{k:Nat}{pos:Pos}(a b z TI TO i1 i2:Addr)(D5:[z,TI,TO,i1,i2].Nodup) :
  Turn P w K (.Tuple elts k pos) (G1 K a b) [z,TI,TO,i1,i2] z (λi h=>IsZip h z TI TO .none/\IsPair h TI (.ref i1) (.ref i2)/\(∃u v,IsPair h TO u v)/\h.IsListIter i1 a i/\h.IsListIter i2 b i):=by
 have ap:∀(X:Cx) (pins:List (Addr × Obj)) (s:Shared) (σ:St) (H:Hp) (i:Nat) (xs ys:List V),X.K=K->Inv X pins σ H s->(∀b∈[z,TI,TO,i1,i2],js X pins H b)->IsZip s.heap z TI TO .none->(∃u v,IsPair s.heap TO u v)->s.heap.IsListIter i1 a i->s.heap.IsListIter i2 b i ->
   bS K H a xs->bS K H b ys->ZipApart z TI TO i1 i2 a b:=by
  intro X pins s σ H i xs ys hK I hf hz jz h1 h2 hx hy
  simp only[jm,cA,not_or,ij,not_false_eq_true,and_true]at D5
  obtain⟨⟨d1,d2,d3,d4⟩,⟨d5,d6,d7⟩,⟨d8,d9⟩,d10,_⟩:=D5
  have oz:∃o,s.heap.get? z=some o/\o.cls≠.type "list":=⟨_,hz,by intro q;exact absurd (Fv q) (by decide)⟩
  have Tj:∃o,s.heap.get? TO=some o/\o.cls≠.type "list":=by obtain⟨u,v,e⟩:=jz;exact⟨_,e,by intro q;exact absurd (Fv q) (by decide)⟩
  have o1:∃o,s.heap.get? i1=some o/\o.cls≠.type "list":=by obtain⟨o,e,c,d⟩:=h1;exact⟨_,e,by rw[c];intro q;exact absurd (Fv q) (by decide)⟩
  have o2:∃o,s.heap.get? i2=some o/\o.cls≠.type "list":=by obtain⟨o,e,c,d⟩:=h2;exact⟨_,e,by rw[c];intro q;exact absurd (Fv q) (by decide)⟩
  exact⟨fq d1,fq d2,fq d3,fq d4,d5,d6,d7,d8,d9,d10,
   qq hK I hx (hf z (by simp)) oz,qq hK I hx (hf TO (by simp)) Tj,qq hK I hx (hf i1 (by simp)) o1,qq hK I hx (hf i2 (by simp)) o2,
   qq hK I hy (hf z (by simp)) oz,qq hK I hy (hf TO (by simp)) Tj,qq hK I hy (hf i1 (by simp)) o1,qq hK I hy (hf i2 (by simp)) o2⟩
 refine⟨by simp,λi h st c hc=>?_,λi h h' st kk=>?_,?_,?_,λ_ _ _ _ _ st h=>wpAny_pyIter_zip st.1 h⟩
 ·obtain⟨hz,kW,⟨u,v,jz⟩,⟨o1,e1,c1,d1⟩,⟨o2,e2,c2,d2⟩⟩:=st
  simp only[cA,ij,or_false]at hc
  rcases hc with rfl | rfl | rfl | rfl | rfl
  ·exact⟨_,hz,λv q=>by cases q⟩
  ·exact⟨_,kW,λv q=>by cases q⟩
  ·exact⟨_,jz,λv q=>by cases q⟩
  ·exact⟨_,e1,λv q=>by rw[d1]at q;cases q⟩
  ·exact⟨_,e2,λv q=>by rw[d2]at q;cases q⟩
 ·obtain⟨hz,kW,⟨u,v,jz⟩,h1,h2⟩:=st
  exact⟨kk _ (by simp) _ hz,kk _ (by simp) _ kW,⟨u,v,kk _ (by simp) _ jz⟩,h1.at λo e=>kk _ (by simp) o e,h2.at λo e=>kk _ (by simp) o e⟩
 ·intro X hP hw hK hc i pins s σ H E I hf st hg
  obtain⟨xs,ys,x,y,hx,hy,ex,ey⟩:=hg
  obtain⟨hz,kW,⟨u,v,jz⟩,h1,h2⟩:=st
  have D:=ap X pins s σ H i xs ys hK I hf hz ⟨u,v,jz⟩ h1 h2 hx hy
  subst hP hw hK
  obtain⟨as,ra,pa,_⟩:=I.list hx
  obtain⟨bs,rb,pb,_⟩:=I.list hy
  obtain⟨ux,G2,rx⟩:=ra.get ex
  obtain⟨uy,euy,ry⟩:=rb.get ey
  refine wpAny_pyNext_zip_item D hz kW jz h1 h2 pa.isList pb.isList (x:=ux) (y:=uy) (by simpa using G2) (by simpa using euy) λh' z' TO' kq jR T' sz kk=>?_
  have fT:H s.heap.objs.size=none:=I.aR.fresh (bN _)
  have I1:Inv X pins σ (upd H s.heap.objs.size (.tup [x,y])) { s with heap:=h',toks:=s.toks }:=I.Ti (its:=[z,TO,i1,i2]) (λc o hc e=>kk c o (λq=>hc (by simp[q])) (λq=>hc (by simp[q])) (λq=>hc (by simp[q])) (λq=>hc (by simp[q])) e)
   (λc hc=>hf c (by simp only[cA,ij,or_false]at hc ⊢;rcases hc with rfl | rfl | rfl | rfl<;>simp)) (bN _) ⟨by show 2<=sizeLine;decide,[ux,uy],.cons rx (.cons ry .nil),⟨_,T',rfl,_,rfl⟩⟩
  have nT:∀c∈[z,TI,TO,i1,i2],c≠s.heap.objs.size:=λc hc q=>by
   have:∃o,s.heap.get? c=some o:=by
    simp only[cA,ij,or_false]at hc
    rcases hc with rfl | rfl | rfl | rfl | rfl
    ·exact⟨_,hz⟩
    ·exact⟨_,kW⟩
    ·exact⟨_,jz⟩
    ·obtain⟨o,e,_⟩:=h1;exact⟨o,e⟩
    ·obtain⟨o,e,_⟩:=h2;exact⟨o,e⟩
   obtain⟨o,e⟩:=this
   exact absurd (bW e) (by rw[q];exact fK _)
  refine⟨_,rfl,wpAny_letOwnedTupleGo_zip z' λG3 G4 sb=>?_⟩
  have G5:∀c∈[z],js X pins (upd H s.heap.objs.size (.tup [x,y])) c:=λc hc=>by
   have e:c=z:=by simpa using hc
   subst e
   obtain⟨f0,fr⟩:=hf c (by simp)
   exact⟨by rw[bu (nT c (by simp))];exact f0,fr⟩
  have I2:=Inv.Cj (h':=G3) (its:=[z]) (t':=s.toks) I1 (λc o hc e=>sb.extBut _ _ (λq=>hc (by simp[q])) e) G5
  refine⟨.ref s.heap.objs.size,_,I2,rfl,⟨_,x,y,rfl,fT,rfl,λxs' eo=>by rw[I.BZ eo hx];exact ex,λTn hy'=>by rw[I.BZ hy' hy];exact ey⟩,⟨G4,sb.extBut _ _ D.TIz (kk _ _ D.TIz D.TITO D.TIi1 D.TIi2 kW),⟨ux,uy,sb.extBut _ _ D.TOz TO'⟩,kq.extBut sb.extBut D.i1z,jR.extBut sb.extBut D.i2z⟩,λc hc=>?_⟩
  rw[bu (nT c hc)]
  exact(hf c hc).1
 ·intro X hP hw hK hc i pins s σ H E I hf st hg
  obtain⟨xs,ys,hx,hy,hl⟩:=hg
  obtain⟨hz,kW,⟨u,v,jz⟩,h1,h2⟩:=st
  have D:=ap X pins s σ H i xs ys hK I hf hz ⟨u,v,jz⟩ h1 h2 hx hy
  subst hP hw hK
  obtain⟨as,ra,pa,_⟩:=I.list hx
  obtain⟨bs,rb,pb,_⟩:=I.list hy
  have la:=ra.length
  have lb:=rb.length
  refine wpAny_pyNext_zip_end (I.ok.hd hc) D hz kW jz h1 h2 pa.isList pb.isList (hl.imp (λq=>by simp;omega) λq=>by simp;omega) λh' kk=>⟨rfl,?_⟩
  exact I.Cj (its:=[z,TO,i1,i2]) (t':=s.toks) (λc o hc e=>kk c o (λq=>hc (by simp[q])) (λq=>hc (by simp[q])) (λq=>hc (by simp[q])) (λq=>hc (by simp[q])) e)
   (λc hc=>hf c (by simp only[cA,ij,or_false]at hc ⊢;rcases hc with rfl | rfl | rfl | rfl<;>simp))
noncomputable def G6(K:PySem.W.Frag)(a:Addr):It :=
 ⟨λi H=>∃xs x,bS K H a xs/\xs[i]?=some x,
  λi H v H'=>∃T x,v=.ref T/\H T=none/\H'=upd H T (.tup [.int i,x])/\∀xs,bS K H a xs->xs[i]?=some x,
  λi H=>∃xs,bS K H a xs/\xs.length<=i⟩
theorem cb4{P:Program}{w:World}{K:PySem.W.Frag}{elts:List Expr}{k:Nat}{pos:Pos}(a z it:Addr)(tI:z≠it) :
  Turn P w K (.Tuple elts k pos) (G6 K a) [z,it] z (λi h=>(∃old,IsEnum h z it i old)/\h.IsListIter it a i):=by
 refine⟨by simp,λi h st c hc=>?_,λi h h' st kk=>?_,?_,?_,λ_ _ _ _ _ st h=>by obtain⟨⟨old,e⟩,_⟩:=st;exact wpAny_pyIter_enum e h⟩
 ·obtain⟨⟨old,hz⟩,⟨o1,e1,c1,d1⟩⟩:=st
  simp only[cA,ij,or_false]at hc
  rcases hc with rfl | rfl
  ·exact⟨_,hz,λv q=>by cases q⟩
  ·exact⟨_,e1,λv q=>by rw[d1]at q;cases q⟩
 ·obtain⟨⟨old,hz⟩,h1⟩:=st
  exact⟨⟨old,kk _ (by simp) _ hz⟩,h1.at λo e=>kk _ (by simp) o e⟩
 ·intro X hP hw hK hc i pins s σ H E I hf st hg
  subst hP hw hK
  obtain⟨xs,x,hx,ex⟩:=hg
  obtain⟨⟨old,hz⟩,h1⟩:=st
  obtain⟨as,ra,pa,_⟩:=I.list hx
  obtain⟨ux,G2,rx⟩:=ra.get ex
  refine wpAny_pyNext_enum_item hz h1 pa.isList (x:=ux) (by simpa using G2) tI λh' z' kq T' sz kk=>?_
  have fT:H s.heap.objs.size=none:=I.aR.fresh (bN _)
  have I1:Inv X pins σ (upd H s.heap.objs.size (.tup [.int i,x])) { s with heap:=h',toks:=s.toks+1 }:=I.Ti (its:=[z,it]) (λc o hc e=>kk c o (λq=>hc (by simp[q])) (λq=>hc (by simp[q])) e)
   (λc hc=>hf c hc) (bN _) ⟨by show 2<=sizeLine;decide,[.int i s.toks,ux],.cons ⟨_,rfl⟩ (.cons rx .nil),⟨_,T',rfl,_,rfl⟩⟩
  have nT:∀c∈[z,it],c≠s.heap.objs.size:=λc hc q=>by
   have:∃o,s.heap.get? c=some o:=by
    simp only[cA,ij,or_false]at hc
    rcases hc with rfl | rfl
    ·exact⟨_,hz⟩
    ·obtain⟨o,e,_⟩:=h1;exact⟨o,e⟩
   obtain⟨o,e⟩:=this
   exact absurd (bW e) (by rw[q];exact fK _)
  refine⟨_,rfl,wpAny_letOwnedTupleGo_enum z' λG3 G4 sb=>?_⟩
  have G5:∀c∈[z],js X pins (upd H s.heap.objs.size (.tup [.int i,x])) c:=λc hc=>by
   have e:c=z:=by simpa using hc
   subst e
   obtain⟨f0,fr⟩:=hf c (by simp)
   exact⟨by rw[bu (nT c (by simp))];exact f0,fr⟩
  have I2:=Inv.Cj (h':=G3) (its:=[z]) (t':=s.toks+1) I1 (λc o hc e=>sb.extBut _ _ (λq=>hc (by simp[q])) e) G5
  refine⟨.ref s.heap.objs.size,_,I2,rfl,⟨_,x,rfl,fT,rfl,λxs' eo=>by rw[I.BZ eo hx];exact ex⟩,⟨⟨ux,by simpa using G4⟩,kq.extBut sb.extBut (fq tI)⟩,λc hc=>?_⟩
  rw[bu (nT c hc)]
  exact(hf c hc).1
 ·intro X hP hw hK hc i pins s σ H E I hf st hg
  subst hP hw hK
  obtain⟨xs,hx,hl⟩:=hg
  obtain⟨⟨old,hz⟩,h1⟩:=st
  obtain⟨as,ra,pa,_⟩:=I.list hx
  have la:=ra.length
  refine wpAny_pyNext_enum_end (I.ok.hd hc) hz h1 pa.isList (by simp;omega) λh' kk=>⟨rfl,?_⟩
  exact I.Cj (its:=[it]) (t':=s.toks) (λc o hc e=>kk c o (λq=>hc (by simp[q])) e) (λc hc=>hf c (by simp at hc ⊢;simp[hc]))
end
section
variable{X:Cx}{a b:Expr}{ta:TA}{p pos tu:Pos}{elts:List Expr}{x1:Nat}
noncomputable def cX0(K:PySem.W.Frag)(ta:TA):TI:=λσ H R=>ta σ H λvs H1=>∃a b,vs=[.ref a,.ref b]/\(∃xs,bS K H1 a xs)/\(∃ys,bS K H1 b ys)/\R (G1 K a b) H1
theorem cf6:bootBuiltins "zip"=some (.type "zip"):=by decide +kernel
theorem cF8(hg:Gl X "zip")(hm:X.mg "zip"=none)(ha:PA X [a,b] ta)(hs:starEach [a,b] X.env=[(false,eval a X.env),(false,eval b X.env)]:=by rfl)(jt:starEach [b] X.env=[(false,eval b X.env)]:=by rfl) :
  PI X (.Tuple elts x1 tu) (.Call (.Name "zip" p) [a,b] [] pos) (cX0 X.K ta):=by
 intro pins s σ H R I h
 refine Call_ (sY I hg hm cf6 (Bv (bc (ha pos pins s σ H _ I h) λus s1 ⟨vs,H1,I1,r1,q1⟩=>?_) (by rw[hs,jt]) (by rw[jt];rfl)))
 obtain⟨a,b,e,⟨xs,hx⟩,⟨ys,hy⟩,q⟩:=q1
 subst e
 cases r1 with
 | cons r rr =>
  cases rr with
  | cons r2 rr =>
   cases rr
   cases r
   cases r2
   obtain⟨as,ra,pa,_⟩:=I1.list hx
   obtain⟨bs,rb,pb,_⟩:=I1.list hy
   refine call_zip_2 pa.isList pb.isList λh' hz kW jz h1 h2 sz kk=>wpAny_pyIter_zip hz ?_
   refine⟨_,[s1.heap.objs.size+4,s1.heap.objs.size+2,s1.heap.objs.size+3,s1.heap.objs.size,s1.heap.objs.size+1],_,_,H1,rfl,I1.kept (t':=s1.toks) kk,ce0 a b _ _ _ _ _ (by simp),⟨hz,kW,⟨_,_,jz⟩,h1,h2⟩,λc hc=>?_,q⟩
   have hle:s1.heap.objs.size<=c:=by
    simp only[cA,ij,or_false]at hc
    rcases hc with rfl | rfl | rfl | rfl | rfl<;>omega
   exact I1.B5 hle (I1.aR.fresh hle)
noncomputable def cT5(K:PySem.W.Frag)(ta:TA):TI:=λσ H R=>ta σ H λvs H1=>∃a,vs=[.ref a]/\(∃xs,bS K H1 a xs)/\R (G6 K a) H1
theorem by3:bootBuiltins "enumerate"=some (.type "enumerate"):=by decide +kernel
theorem cB9(hg:Gl X "enumerate")(hm:X.mg "enumerate"=none)(ha:PA X [a] ta)(hs:starEach [a] X.env=[(false,eval a X.env)]:=by rfl) :
  PI X (.Tuple elts x1 tu) (.Call (.Name "enumerate" p) [a] [] pos) (cT5 X.K ta):=by
 intro pins s σ H R I h
 refine Call_ (sY I hg hm by3 (Bv (bc (ha pos pins s σ H _ I h) λus s1 ⟨vs,H1,I1,r1,q1⟩=>?_) hs rfl))
 obtain⟨a,e,⟨xs,hx⟩,q⟩:=q1
 subst e
 cases r1 with
 | cons r rr =>
  cases rr
  cases r
  obtain⟨as,ra,pa,_⟩:=I1.list hx
  refine call_enumerate_list pa.isList λh' hz h1 sz kk=>wpAny_pyIter_enum hz ?_
  refine⟨_,[s1.heap.objs.size+1,s1.heap.objs.size],_,_,H1,rfl,I1.kept (t':=s1.toks) kk,cb4 a (s1.heap.objs.size+1) s1.heap.objs.size (Nat.succ_ne_self _),⟨⟨_,hz⟩,h1⟩,λc hc=>?_,q⟩
  have hle:s1.heap.objs.size<=c:=by
   simp only[cA,ij,or_false]at hc
   rcases hc with rfl | rfl<;>omega
  exact I1.B5 hle (I1.aR.fresh hle)
end
end L2
namespace L2
open PySem PySem.Spec PyProof.Rows PySem.W PySem.Calls
section
variable{X:Cx}
noncomputable def vG{α:Type}(xs:List α)(lo hi:Option Int):List α:=(xs.drop (HT.di xs.length 0 lo)).take (HT.di xs.length xs.length hi-HT.di xs.length 0 lo)
theorem b71(x:Str)(lo hi:Option Int):Txt.slice x lo hi=⟨(vG x.cps.toList lo hi).toArray⟩:=by
 have hx:x.length=x.cps.size:=rfl
 have e:(Fw lo hi 1 x.length).filterMap (x.cps[·]?)=vG x.cps.toList lo hi:=by
  obtain⟨h1,h2,h3⟩:=GF lo hi x.length
  have e0:Fw lo hi 1 x.length=sliceRange (sliceBounds lo hi none x.length).1 (sliceBounds lo hi none x.length).2.1 1:=by
   cases lo<;>cases hi<;>rfl
  rw[e0,h1,h2]
  simp only[sliceRange_one,pick_run]
  unfold vG
  rw[hx,yB]
 unfold Txt.slice
 split
 ·rename_i h
  have hl:(Fw lo hi 1 x.length).length=x.length:=by
   rw[eQ]at h;exact eq_of_beq h.2
  have hs:(vG x.cps.toList lo hi)=x.cps.toList:=by
   have e2:HT.di x.cps.toList.length x.cps.toList.length hi-HT.di x.cps.toList.length 0 lo=x.length:=by
    obtain⟨h1,h2,h3⟩:=GF lo hi x.length
    have e0:Fw lo hi 1 x.length=sliceRange (sliceBounds lo hi none x.length).1 (sliceBounds lo hi none x.length).2.1 1:=by
     cases lo<;>cases hi<;>rfl
    rw[e0,h1,h2]at hl
    simp only[sliceRange_one,bB,dQ]at hl
    rw[yB,<- hx]
    omega
   unfold vG
   have le:HT.di x.cps.toList.length x.cps.toList.length hi<=x.cps.toList.length:=by
    cases hi with
    | none=>simp[HT.di]
    | some i=>simp only[HT.di];split<;>omega
   have le2:HT.di x.cps.toList.length 0 lo<=x.cps.toList.length:=by
    cases lo with
    | none=>simp[HT.di]
    | some i=>simp only[HT.di];split<;>omega
   rw[yB,<- hx]at e2 le le2 ⊢
   have z:HT.di x.length 0 lo=0:=by omega
   have z2:HT.di x.length x.length hi=x.length:=by omega
   rw[z,z2,List.drop_zero,Nat.sub_zero,hx,<- yB,sN]
  rw[hs]
 ·rw[e]
theorem cF5:tE X (λx lo hi H Q=>∃z,x=.str z/\z.length<=sizeLine/\Q (.str ⟨(vG z.cps.toList lo hi).toArray⟩) H):=by
 intro pins s σ H x v vl vu lo hi sl Q I rx hs pl pu h
 obtain⟨z,rfl,hz,q⟩:=h
 obtain⟨t,rfl⟩:=rx
 refine⟨"str",_,F.slot_str_getitem.lookup,typeIs_str _ _ _,?_⟩
 have fin:∀(l u:Option (Int × Tok)),l.map (·.1)=lo->u.map (·.1)=hi->partValue l=vl->partValue u=vu->wpAny (model X.prog X.w) X.A (getItem (.str z t) (.ref sl)) (EP X pins σ Q) X.xe s:=by
  intro l u h1 h2 h3 h4
  obtain⟨o,e1,e2,e3⟩:=hs
  refine wpAny_getItem_str_slice (l:=l) (u:=u) (st:=none) ⟨o,e1,e2,by rw[e3,h3,h4];rfl⟩ rfl ?_
  have e:Txt.slice z lo hi=(if(((none:Option (Int × Tok)).map (·.1)).getD 1==1&&(slicePicked z l u none).length==z.length)=true then z else⟨((slicePicked z l u none).filterMap (z.cps[·]?)).toArray⟩):=by
   unfold Txt.slice slicePicked;rw[h1,h2];rfl
  refine post_val_or_str ⟨?_,λt' k=>?_⟩
  ·rw[<-e];exact eP (Txt.slice_le z _ _) hz
  ·rw[<-e,b71];exact⟨.str _,H,I.tok _,⟨_,rfl⟩,q⟩
 cases pl with
 | none =>
  cases pu with
  | none=>exact fin none none rfl rfl rfl rfl
  | int j tj=>exact fin none (some (j,tj)) rfl rfl rfl rfl
 | int i ti =>
  cases pu with
  | none=>exact fin (some (i,ti)) none rfl rfl rfl rfl
  | int j tj=>exact fin (some (i,ti)) (some (j,tj)) rfl rfl rfl rfl
end
end L2
namespace L3
open PySem L2
noncomputable def jA:HO->Bool
 | .dH _=>false
 | _=>true
structure ag(H H':Hp):Prop where
 get:∀b o,H b=some o->(h:jA o=true:=by rfl)->H' b=some o
 tb:∀b ps,H b=some (.dH ps)->∃more,H' b=some (.dH (ps++more))
noncomputable instance {H H':Hp}:CoeFun (ag H H') λ_=>∀b o,H b=some o->(h:jA o=true:=by rfl)->H' b=some o:=⟨λs=>@ag.get _ _ s⟩
theorem G7{o:HO}(h:jA o=false):∃ps,o=.dH ps:=by
 cases o with
 | dH ps=>exact⟨ps,rfl⟩
 | _=>cases h
theorem ag.of{H H':Hp}(h:∀b o,H b=some o->H' b=some o):ag H H':=⟨λb o e _=>h b o e,λb ps e=>⟨#[],by rw[h b _ e];simp⟩⟩
theorem ag.refl(H:Hp):ag H H:=.of λ_ _ h=>h
theorem ag.trans{H H1 H2:Hp}(a:ag H H1)(b:ag H1 H2):ag H H2 :=
 ⟨λc o h n=>b.get c o (a.get c o h n) n,λc ps h=>by
  obtain⟨m1,e1⟩:=a.tb c ps h
  obtain⟨m2,e2⟩:=b.tb c _ e1
  exact⟨m1++m2,by rw[e2,Bu]⟩⟩
theorem ag.any{H H':Hp}(e:ag H H'){l:Addr}{o:HO}(h:H l=some o):∃o',H' l=some o':=by
 cases n:jA o with
 | true=>exact⟨o,e.get l o h n⟩
 | false =>
  obtain⟨ps,rfl⟩:=G7 n
  obtain⟨m,q⟩:=e.tb l ps h
  exact⟨_,q⟩
theorem ag.free{H H':Hp}(e:ag H H'){l:Addr}(h:H' l=Option.none):H l=Option.none:=by
 cases q:H l with
 | none=>rfl
 | some o =>
  obtain⟨o',z⟩:=e.any q
  rw[z]at h
  cases h
inductive vH where
 | ext (φ:Addr->Heap->Prop)
 | lam (of oc:Obj) (c k:Addr)
noncomputable instance:Coe (Addr->Heap->Prop) vH:=⟨.ext⟩
noncomputable def G8(H:Hp)(k:Addr):Prop:=∃ψ,H k=some (.ext ψ)/\∀h,ψ h->∃q,h.CodeRec (.ref k) q
noncomputable def jS(of oc:Obj)(c p:Addr):Heap->Prop:=λh=>h.get? p=some of/\h.get? c=some oc
structure kr(H:Hp)(p:Addr)(of oc:Obj)(c k:Addr):Prop where
 fn:H p=some (.ext (jS of oc c p))
 cell:H c=some (.own p)
 G9:G8 H k
noncomputable def tJ(H:Hp)(p:Addr):vH->Prop
 | .ext φ=>H p=some (.ext (φ p))
 | .lam of oc c k=>kr H p of oc c k
theorem tJ.mono{H H':Hp}{p:Addr}:∀{z:vH},tJ H p z->(∀a o,H a=some o->(∀ws,o≠.lst ws)->jA o=true->H' a=some o)->tJ H' p z
 | .ext φ,x,k=>k _ _ x (λws q=>by cases q) rfl
 | .lam of oc c k',x,k=>⟨k _ _ x.fn (λws q=>by cases q) rfl,k _ _ x.cell (λws q=>by cases q) rfl,let⟨ψ,e,h⟩:=x.G9;⟨ψ,k _ _ e (λws q=>by cases q) rfl,h⟩⟩
inductive D where
 | az | bl (b:Bool) | int (i:Int) | str (x:Str)
 | lst (o:Bool) (xs:List D)
 | tup (xs:List D)
 | obj (C:Addr) (ns:List Str) (xs:List D)
 | fz (xs:List D)
 | bM (z:vH)
 deriving Inhabited
noncomputable def D.pl:D->Bool
 | .lst o xs=>!o&&zr xs
 | .tup xs=>zr xs
 | _=>true
where zr:List D->Bool
 | []=>true
 | d::ds=>d.pl&&zr ds
noncomputable def D.fr:D->Bool
 | .lst o xs=>o&&zt xs
 | .tup xs=>zt xs
 | .obj _ _ _=>false
 | .fz _=>false
 | _=>true
where zt:List D->Bool
 | []=>true
 | d::ds=>d.fr&&zt ds
noncomputable def D.sh:D->D
 | .lst _ xs=>.lst false (zu xs)
 | .tup xs=>.tup (zu xs)
 | d=>d
where zu:List D->List D
 | []=>[]
 | d::ds=>d.sh::zu ds
theorem To(ds:List D):D.pl.zr ds=ds.all D.pl:=by induction ds with | nil=>rfl | cons d ds ih=>simp[D.pl.zr,ih]
theorem Tp(ds:List D):D.fr.zt ds=ds.all D.fr:=by induction ds with | nil=>rfl | cons d ds ih=>simp[D.fr.zt,ih]
theorem Tq(ds:List D):D.sh.zu ds=ds.map D.sh:=by induction ds with | nil=>rfl | cons d ds ih=>simp[D.sh.zu,ih]
theorem fi(o:Bool)(xs:List D):(D.lst o xs).pl=(!o&&xs.all D.pl):=by simp[D.pl,To]
theorem jT(xs:List D):(D.tup xs).pl=xs.all D.pl:=by simp[D.pl,To]
theorem eT(o:Bool)(xs:List D):(D.lst o xs).fr=(o&&xs.all D.fr):=by simp[D.fr,Tp]
theorem n9(xs:List D):(D.tup xs).fr=xs.all D.fr:=by simp[D.fr,Tp]
theorem dj(o:Bool)(xs:List D):(D.lst o xs).sh=.lst false (xs.map D.sh):=by simp[D.sh,Tq]
theorem jU(xs:List D):(D.tup xs).sh=.tup (xs.map D.sh):=by simp[D.sh,Tq]
inductive R(F H:Hp):List D->List V->List Addr->Prop
 | nil:R F H [] [] []
 | az {ds vs B}:R F H ds vs B->R F H (.az::ds) (.az::vs) B
 | bl {b ds vs B}:R F H ds vs B->R F H (.bl b::ds) (.bl b::vs) B
 | int {i ds vs B}:R F H ds vs B->R F H (.int i::ds) (.int i::vs) B
 | str {x ds vs B}:R F H ds vs B->R F H (.str x::ds) (.str x::vs) B
 | shr {p ws xs ds vs B}:F p=some (.lst ws)->R F H xs ws []->R F H ds vs B->R F H (.lst false xs::ds) (.ref p::vs) B
 | own {p ws xs A ds vs B}:H p=some (.lst ws)->F p=none->R F H xs ws A->R F H ds vs B->R F H (.lst true xs::ds) (.ref p::vs) (p::(A++B))
 | tup {p ws xs A ds vs B}:H p=some (.tup ws)->R F H xs ws A->R F H ds vs B->R F H (.tup xs::ds) (.ref p::vs) (A++B)
 | obj {p C dx ns ws xs ds vs B}:H p=some (.ins C dx (ns.zip ws))->ns.length=ws.length->R F H xs ws []->R F H ds vs B->R F H (.obj C ns xs::ds) (.ref p::vs) B
 | fz {p o ws xs ds vs B}:F p=some (.cq o (.lst ws))->R F H xs ws []->R F H ds vs B->R F H (.fz xs::ds) (.ref p::vs) B
 | bM {p z ds vs B}:tJ H p z->R F H ds vs B->R F H (.bM z::ds) (.ref p::vs) B
inductive S(F H:Hp):List D->List V->Prop
 | nil:S F H [] []
 | az {ds vs}:S F H ds vs->S F H (.az::ds) (.az::vs)
 | bl {b ds vs}:S F H ds vs->S F H (.bl b::ds) (.bl b::vs)
 | int {i ds vs}:S F H ds vs->S F H (.int i::ds) (.int i::vs)
 | str {x ds vs}:S F H ds vs->S F H (.str x::ds) (.str x::vs)
 | shr {p ws xs ds vs}:F p=some (.lst ws)->R F H xs ws []->S F H ds vs->S F H (.lst false xs::ds) (.ref p::vs)
 | own {p ws xs ds vs}:H p=some (.lst ws)->S F H xs ws->S F H ds vs->S F H (.lst true xs::ds) (.ref p::vs)
 | tup {p ws xs ds vs}:H p=some (.tup ws)->S F H xs ws->S F H ds vs->S F H (.tup xs::ds) (.ref p::vs)
 | obj {p C dx ns ws xs ds vs}:H p=some (.ins C dx (ns.zip ws))->ns.length=ws.length->R F H xs ws []->S F H ds vs->S F H (.obj C ns xs::ds) (.ref p::vs)
 | fz {p o ws xs ds vs}:F p=some (.cq o (.lst ws))->R F H xs ws []->S F H ds vs->S F H (.fz xs::ds) (.ref p::vs)
 | bM {p z ds vs}:tJ H p z->S F H ds vs->S F H (.bM z::ds) (.ref p::vs)
section
variable{F F' H H':Hp}{d:D}{ds es:List D}{v:V}{vs ws:List V}{A B:List Addr}
theorem R.length(r:R F H ds vs A):ds.length=vs.length:=by
 induction r<;>simp_all
theorem S.length(r:S F H ds vs):ds.length=vs.length:=by
 induction r<;>simp_all
theorem R.cons(r:R F H [d] [v] A)(q:R F H ds vs B):R F H (d::ds) (v::vs) (A++B):=by
 cases r with
 | az r=>cases r;exact .az q
 | bl r=>cases r;exact .bl q
 | int r=>cases r;exact .int q
 | str r=>cases r;exact .str q
 | shr h x r=>cases r;exact .shr h x q
 | own h f x r=>cases r;simpa using R.own h f x q
 | tup h x r=>cases r;simpa using R.tup h x q
 | obj h l x r=>cases r;exact .obj h l x q
 | fz h x r=>cases r;exact .fz h x q
 | bM h r=>cases r;exact .bM h q
theorem R.dM(r:R F H (d::ds) vs A):∃v cU A1 A2,vs=v::cU/\A=A1++A2/\R F H [d] [v] A1/\R F H ds cU A2:=by
 cases r with
 | az r=>exact⟨_,_,[],_,rfl,rfl,.az .nil,r⟩
 | bl r=>exact⟨_,_,[],_,rfl,rfl,.bl .nil,r⟩
 | int r=>exact⟨_,_,[],_,rfl,rfl,.int .nil,r⟩
 | str r=>exact⟨_,_,[],_,rfl,rfl,.str .nil,r⟩
 | shr h x r=>exact⟨_,_,[],_,rfl,rfl,.shr h x .nil,r⟩
 | @own p _ _ A1 _ _ B1 h f x r=>exact⟨_,_,p::A1,B1,rfl,rfl,by simpa using R.own h f x .nil,r⟩
 | @tup p _ _ A1 _ _ B1 h x r=>exact⟨_,_,A1,B1,rfl,rfl,by simpa using R.tup h x .nil,r⟩
 | obj h l x r=>exact⟨_,_,[],_,rfl,rfl,.obj h l x .nil,r⟩
 | fz h x r=>exact⟨_,_,[],_,rfl,rfl,.fz h x .nil,r⟩
 | bM h r=>exact⟨_,_,[],_,rfl,rfl,.bM h .nil,r⟩
theorem S.cons(r:S F H [d] [v])(q:S F H ds vs):S F H (d::ds) (v::vs):=by
 cases r with
 | az r=>exact .az q
 | bl r=>exact .bl q
 | int r=>exact .int q
 | str r=>exact .str q
 | shr h x r=>exact .shr h x q
 | own h x r=>exact .own h x q
 | tup h x r=>exact .tup h x q
 | obj h l x r=>exact .obj h l x q
 | fz h x r=>exact .fz h x q
 | bM h r=>exact .bM h q
theorem S.dM(r:S F H (d::ds) vs):∃v cU,vs=v::cU/\S F H [d] [v]/\S F H ds cU:=by
 cases r with
 | az r=>exact⟨_,_,rfl,.az .nil,r⟩
 | bl r=>exact⟨_,_,rfl,.bl .nil,r⟩
 | int r=>exact⟨_,_,rfl,.int .nil,r⟩
 | str r=>exact⟨_,_,rfl,.str .nil,r⟩
 | shr h x r=>exact⟨_,_,rfl,.shr h x .nil,r⟩
 | own h x r=>exact⟨_,_,rfl,.own h x .nil,r⟩
 | tup h x r=>exact⟨_,_,rfl,.tup h x .nil,r⟩
 | obj h l x r=>exact⟨_,_,rfl,.obj h l x .nil,r⟩
 | fz h x r=>exact⟨_,_,rfl,.fz h x .nil,r⟩
 | bM h r=>exact⟨_,_,rfl,.bM h .nil,r⟩
theorem R.append:∀{ds:List D} {vs:List V} {A:List Addr},R F H ds vs A->R F H es ws B->R F H (ds++es) (vs++ws) (A++B)
 | [],_,_,r,q=>by cases r;exact q
 | d::ds,_,_,r,q=>by
  obtain⟨v,cU,A1,A2,rfl,rfl,h1,h2⟩:=r.dM
  simpa using h1.cons (R.append h2 q)
theorem S.append:∀{ds:List D} {vs:List V},S F H ds vs->S F H es ws->S F H (ds++es) (vs++ws)
 | [],_,r,q=>by cases r;exact q
 | d::ds,_,r,q=>by
  obtain⟨v,cU,rfl,h1,h2⟩:=r.dM
  exact h1.cons (S.append h2 q)
theorem R.split:∀{ds:List D} {vs:List V} {A:List Addr},R F H (ds++es) vs A->∃v1 v2 A1 A2,vs=v1++v2/\A=A1++A2/\R F H ds v1 A1/\R F H es v2 A2
 | [],vs,A,r=>⟨[],vs,[],A,rfl,rfl,.nil,r⟩
 | d::ds,_,_,r=>by
  obtain⟨v,cU,A1,A2,rfl,rfl,h1,h2⟩:=R.dM (ds:=ds++es) r
  obtain⟨v1,v2,B1,B2,rfl,rfl,h3,h4⟩:=R.split (ds:=ds) h2
  exact⟨v::v1,v2,A1++B1,B2,rfl,by simp,h1.cons h3,h4⟩
theorem R.get:∀{ds:List D} {vs:List V} {A:List Addr} {i:Nat},R F H ds vs A->ds[i]?=some d->∃v A1,vs[i]?=some v/\R F H [d] [v] A1/\A1 ⊆ A
 | [],_,_,_,_,e=>by simp at e
 | d'::ds,_,_,i,r,e=>by
  obtain⟨v,cU,A1,A2,rfl,rfl,h1,h2⟩:=r.dM
  cases i with
  | zero=>simp at e;subst e;exact⟨v,A1,rfl,h1,by simp⟩
  | succ i =>
   obtain⟨w,B1,e2,q,sb⟩:=R.get (ds:=ds) (i:=i) h2 (by simpa using e)
   exact⟨w,B1,by simpa using e2,q,λx hx=>fc _ (sb hx)⟩
theorem S.get:∀{ds:List D} {vs:List V} {i:Nat},S F H ds vs->ds[i]?=some d->∃v,vs[i]?=some v/\S F H [d] [v]
 | [],_,_,_,e=>by simp at e
 | d'::ds,_,i,r,e=>by
  obtain⟨v,cU,rfl,h1,h2⟩:=r.dM
  cases i with
  | zero=>simp at e;subst e;exact⟨v,rfl,h1⟩
  | succ i =>
   obtain⟨w,e2,q⟩:=S.get (ds:=ds) (i:=i) h2 (by simpa using e)
   exact⟨w,by simpa using e2,q⟩
theorem S.get':∀{ds:List D} {vs:List V} {i:Nat},S F H ds vs->vs[i]?=some v->∃d,ds[i]?=some d/\S F H [d] [v]
 | [],_,_,r,e=>by cases r;simp at e
 | d'::ds,_,i,r,e=>by
  obtain⟨v,cU,rfl,h1,h2⟩:=r.dM
  cases i with
  | zero=>simp at e;subst e;exact⟨d',rfl,h1⟩
  | succ i =>
   obtain⟨w,e2,q⟩:=S.get' (ds:=ds) (i:=i) h2 (by simpa using e)
   exact⟨w,by simpa using e2,q⟩
theorem S.take:∀{ds:List D} {vs:List V} (n:Nat),S F H ds vs->S F H (ds.take n) (vs.take n)
 | _,_,0,r=>by simpa using S.nil
 | [],_,n+1,r=>by cases r;exact .nil
 | d::ds,_,n+1,r=>by
  obtain⟨v,cU,rfl,h1,h2⟩:=r.dM
  exact h1.cons (S.take n h2)
theorem S.drop:∀{ds:List D} {vs:List V} (n:Nat),S F H ds vs->S F H (ds.drop n) (vs.drop n)
 | _,_,0,r=>by simpa using r
 | [],_,n+1,r=>by cases r;exact .nil
 | d::ds,_,n+1,r=>by
  obtain⟨v,cU,rfl,h1,h2⟩:=r.dM
  exact S.drop n h2
theorem iQ{p:Addr}{o:HO}(h:Rd F p o)(s:ag F F')(n:jA o=true:=by rfl):Rd F' p o:=by
 rcases h with h | ⟨u,h⟩
 ·exact .inl (s.get _ _ h n)
 ·exact .inr ⟨u,s _ _ h⟩
theorem R.s(r:R F H ds vs A):S F H ds vs:=by
 induction r with
 | nil=>exact .nil
 | az _ ih=>exact .az ih
 | bl _ ih=>exact .bl ih
 | int _ ih=>exact .int ih
 | str _ ih=>exact .str ih
 | shr h x _ _ ih=>exact .shr h x ih
 | own h f _ _ i1 i2=>exact .own h i1 i2
 | tup h _ _ i1 i2=>exact .tup h i1 i2
 | obj h l x _ _ ih=>exact .obj h l x ih
 | fz h x _ _ ih=>exact .fz h x ih
 | bM h _ ih=>exact .bM h ih
structure iy(W:List Addr)(H H':Hp):Prop where
 get:∀a o,H a=some o->a ∉ W->(h:jA o=true:=by rfl)->H' a=some o
noncomputable instance {W:List Addr} {H H':Hp}:CoeFun (iy W H H') λ_=>∀a o,H a=some o->a ∉ W->(h:jA o=true:=by rfl)->H' a=some o:=⟨λs=>@iy.get _ _ _ s⟩
noncomputable def jB(W:List Addr)(H:Hp):Prop:=∀a∈W,∃ws,H a=some (.lst ws)
theorem R.keep{W:List Addr}(hf:ag F F')(hb:iy W H H')(hl:jB W H)(r:R F H ds vs A)(hn:∀a∈A,F' a=none)(hd:∀a∈A,a ∉ W):R F' H' ds vs A:=by
 induction r with
 | nil=>exact .nil
 | az _ ih=>exact .az (ih hn hd)
 | bl _ ih=>exact .bl (ih hn hd)
 | int _ ih=>exact .int (ih hn hd)
 | str _ ih=>exact .str (ih hn hd)
 | shr h x _ i1 ih=>exact .shr (hf _ _ h) (i1 (by simp) (by simp)) (ih hn hd)
 | own h f _ _ i1 i2 =>
  refine .own (hb _ _ h (hd _ (by simp))) (hn _ (by simp)) (i1 (λa ha=>hn a ?_) λa ha=>hd a ?_) (i2 (λa ha=>hn a ?_) λa ha=>hd a ?_)<;>simp[ha]
 | @tup p ws _ _ _ _ _ h _ _ i1 i2 =>
  refine .tup (hb _ _ h λz=>?_) (i1 (λa ha=>hn a ?_) λa ha=>hd a ?_) (i2 (λa ha=>hn a ?_) λa ha=>hd a ?_)<;>try simp[ha]
  obtain⟨q,e⟩:=hl _ z
  rw[h]at e;cases e
 | obj h l x _ i1 ih =>
  refine .obj (hb _ _ h λz=>?_) l (i1 (by simp) (by simp)) (ih hn hd)
  obtain⟨q,e⟩:=hl _ z
  rw[h]at e;cases e
 | fz h x _ i1 ih=>exact .fz (hf _ _ h) (i1 (by simp) (by simp)) (ih hn hd)
 | bM h _ ih =>
  exact .bM (h.mono λa o e n t=>hb.get a o e (λz=>by
   obtain⟨q,e'⟩:=hl _ z
   rw[e]at e';cases e';exact n _ rfl) t) (ih hn hd)
theorem iy.same(h:ag H H'):iy [] H H':=⟨λa o e _ n=>h.get a o e n⟩
theorem jB.nil:jB [] H:=λa h=>absurd h (by simp)
theorem R.grow(hf:ag F F')(hb:ag H H')(r:R F H ds vs A)(hn:∀a∈A,F' a=none):R F' H' ds vs A :=
 r.keep hf (iy.same hb) jB.nil hn (by simp)
theorem R.shared(hf:ag F F')(hb:ag H H')(r:R F H ds vs []):R F' H' ds vs []:=r.grow hf hb (by simp)
theorem S.mono(hf:ag F F')(hb:ag H H')(r:S F H ds vs):S F' H' ds vs:=by
 induction r with
 | nil=>exact .nil
 | az _ ih=>exact .az ih
 | bl _ ih=>exact .bl ih
 | int _ ih=>exact .int ih
 | str _ ih=>exact .str ih
 | shr h x _ ih=>exact .shr (hf _ _ h) (x.shared hf hb) ih
 | own h _ _ i1 i2=>exact .own (hb _ _ h) i1 i2
 | tup h _ _ i1 i2=>exact .tup (hb _ _ h) i1 i2
 | obj h l x _ ih=>exact .obj (hb _ _ h) l (x.shared hf hb) ih
 | fz h x _ ih=>exact .fz (hf _ _ h) (x.shared hf hb) ih
 | bM h _ ih=>exact .bM (h.mono λa o e _ t=>hb.get a o e t) ih
theorem S.r(s:S F H ds vs)(p:ds.all D.pl=true):R F H ds vs []:=by
 induction s with
 | nil=>exact .nil
 | az _ ih=>exact .az (ih (by simpa[D.pl]using p))
 | bl _ ih=>exact .bl (ih (by simpa[D.pl]using p))
 | int _ ih=>exact .int (ih (by simpa[D.pl]using p))
 | str _ ih=>exact .str (ih (by simpa[D.pl]using p))
 | shr h x _ ih=>exact .shr h x (ih (by simp[fi]at p;simpa using p.2))
 | own h _ _ i1 i2=>simp[fi]at p
 | tup h _ _ i1 i2 =>
  rw[dY,jT,eQ]at p
  simpa using R.tup h (i1 p.1) (i2 p.2)
 | obj h l x _ ih=>exact .obj h l x (ih (by simpa[D.pl]using p))
 | fz h x _ ih=>exact .fz h x (ih (by simpa[D.pl]using p))
 | bM h _ ih=>exact .bM h (ih (by simpa[D.pl]using p))
theorem R.pl(r:R F H ds vs []):ds.all D.pl=true:=by
 generalize e:([]:List Addr)=A at r
 induction r with
 | nil=>rfl
 | az _ ih=>simp[D.pl];simpa using ih e
 | bl _ ih=>simp[D.pl];simpa using ih e
 | int _ ih=>simp[D.pl];simpa using ih e
 | str _ ih=>simp[D.pl];simpa using ih e
 | shr h x _ i1 ih=>simp only[dY,fi,i1 rfl,ih e];rfl
 | own h f _ _ i1 i2=>cases e
 | tup h _ _ i1 i2 =>
  obtain⟨e1,e2⟩:=Fx.mp e.symm
  simp only[dY,jT,i1 e1.symm,i2 e2.symm];rfl
 | obj h l x _ i1 ih=>simp[D.pl];simpa using ih e
 | fz h x _ i1 ih=>simp[D.pl];simpa using ih e
 | bM h _ ih=>simp[D.pl];simpa using ih e
theorem D.Ck:∀{d:D},d.pl=true->d.sh=d
 | .az,_=>rfl
 | .bl _,_=>rfl
 | .int _,_=>rfl
 | .str _,_=>rfl
 | .obj _ _ _,_=>rfl
 | .fz _,_=>rfl
 | .bM _,_=>rfl
 | .lst o xs,h=>by
  rw[fi,eQ]at h
  have:∀(l:List D),(∀x∈l,x∈xs)->l.all D.pl=true->l.map D.sh=l:=by
   intro l hl hp
   induction l with
   | nil=>rfl
   | cons x l ih =>
    simp only[dY,eQ]at hp
    have hx:x∈xs:=hl x (by simp)
    rw[dz,D.Ck hp.1,ih (λy hy=>hl y (by simp[hy])) hp.2]
  rw[dj,this xs (λ_ h=>h) h.2]
  cases o<;>simp_all
 | .tup xs,h=>by
  rw[jT]at h
  have:∀(l:List D),(∀x∈l,x∈xs)->l.all D.pl=true->l.map D.sh=l:=by
   intro l hl hp
   induction l with
   | nil=>rfl
   | cons x l ih =>
    simp only[dY,eQ]at hp
    have hx:x∈xs:=hl x (by simp)
    rw[dz,D.Ck hp.1,ih (λy hy=>hl y (by simp[hy])) hp.2]
  rw[jU,this xs (λ_ h=>h) h]
termination_by d=>sizeOf d
theorem mD{l:List D}(h:l.all D.pl=true):l.map D.sh=l:=by
 induction l with
 | nil=>rfl
 | cons x l ih =>
  simp only[dY,eQ]at h
  rw[dz,D.Ck h.1,ih h.2]
theorem S.frozen(e:ag F H)(s:S F H ds vs):R H H (ds.map D.sh) vs []:=by
 induction s with
 | nil=>exact .nil
 | az _ ih=>exact .az ih
 | bl _ ih=>exact .bl ih
 | int _ ih=>exact .int ih
 | str _ ih=>exact .str ih
 | shr h x _ ih =>
  rw[dz,dj,mD x.pl]
  exact .shr (e _ _ h) (x.shared e (ag.refl _)) ih
 | own h _ _ i1 i2=>rw[dz,dj];exact .shr h i1 i2
 | tup h _ _ i1 i2=>rw[dz,jU];simpa using R.tup h i1 i2
 | obj h l x _ ih=>exact .obj h l (x.shared e (ag.refl _)) ih
 | fz h x _ ih=>exact .fz (e _ _ h) (x.shared e (ag.refl _)) ih
 | bM h _ ih=>exact .bM h ih
noncomputable def cq(F H:Hp)(A:List Addr):Hp:=λa=>if a∈A then H a else F a
theorem mE(e:ag F H):ag F (cq F H A):=⟨λa o h n=>by unfold cq;split;exact e.get _ _ h n;exact h,λa ps h=>by unfold cq;split;exact e.tb _ _ h;exact⟨#[],by rw[h];simp⟩⟩
theorem Tr(e:ag F H):ag (cq F H A) H:=⟨λa o h n=>by unfold cq at h;split at h;exact h;exact e.get _ _ h n,λa ps h=>by unfold cq at h;split at h;exact⟨#[],by rw[h];simp⟩;exact e.tb _ _ h⟩
theorem Cm{a:Addr}(h:a ∉ A):cq F H A a=F a:=by unfold cq;rw[if_neg h]
theorem cM5{a:Addr}(h:a∈A):cq F H A a=H a:=by unfold cq;rw[if_pos h]
theorem R.cq(e:ag F H)(r:R F H ds vs A):∀A',A ⊆ A'->R (L3.cq F H A') H (ds.map D.sh) vs []:=by
 induction r with
 | nil=>exact λ_ _=>.nil
 | az _ ih=>exact λA' h=>.az (ih A' h)
 | bl _ ih=>exact λA' h=>.bl (ih A' h)
 | int _ ih=>exact λA' h=>.int (ih A' h)
 | str _ ih=>exact λA' h=>.str (ih A' h)
 | shr h x _ i1 ih =>
  intro A' hA
  rw[dz,dj,mD x.pl]
  exact .shr (mE e _ _ h) (x.shared (mE e) (ag.refl _)) (ih A' hA)
 | own h f _ _ i1 i2 =>
  intro A' hA
  rw[dz,dj]
  exact .shr ((cM5 (hA (by simp))).trans h) (i1 A' λa ha=>hA (by simp[ha])) (i2 A' λa ha=>hA (by simp[ha]))
 | tup h _ _ i1 i2 =>
  intro A' hA
  rw[dz,jU]
  simpa using R.tup h (i1 A' λa ha=>hA (by simp[ha])) (i2 A' λa ha=>hA (by simp[ha]))
 | obj h l x _ i1 ih=>exact λA' hA=>.obj h l (x.shared (mE e) (ag.refl _)) (ih A' hA)
 | fz h x _ i1 ih=>exact λA' hA=>.fz (mE e _ _ h) (x.shared (mE e) (ag.refl _)) (ih A' hA)
 | bM h _ ih=>exact λA' hA=>.bM h (ih A' hA)
theorem R.lists(r:R F H ds vs A):∀a∈A,(∃ws,H a=some (.lst ws))/\F a=none:=by
 induction r with
 | nil=>simp
 | az _ ih=>exact ih
 | bl _ ih=>exact ih
 | int _ ih=>exact ih
 | str _ ih=>exact ih
 | shr h x _ i1 ih=>exact ih
 | own h f _ _ i1 i2 =>
  intro a ha
  rcases cA.mp ha with rfl | ha
  ·exact⟨⟨_,h⟩,f⟩
  ·exact(cg.mp ha).elim (i1 a) (i2 a)
 | tup h _ _ i1 i2=>exact λa ha=>(cg.mp ha).elim (i1 a) (i2 a)
 | obj h l x _ i1 ih=>exact ih
 | fz h x _ i1 ih=>exact ih
 | bM h _ ih=>exact ih
theorem R.Ha(r:R F H ds vs A)(hd:ds.all D.fr=true)(e:ag F' F):R F' H ds vs A:=by
 induction r with
 | nil=>exact .nil
 | az _ ih=>exact .az (ih (by simpa[D.fr]using hd))
 | bl _ ih=>exact .bl (ih (by simpa[D.fr]using hd))
 | int _ ih=>exact .int (ih (by simpa[D.fr]using hd))
 | str _ ih=>exact .str (ih (by simpa[D.fr]using hd))
 | shr h x _ i1 ih=>simp[eT]at hd
 | own h f _ _ i1 i2 =>
  rw[dY,eT,eQ,ka]at hd
  exact .own h (e.free f) (i1 hd.1) (i2 hd.2)
 | tup h _ _ i1 i2 =>
  rw[dY,n9,eQ]at hd
  exact .tup h (i1 hd.1) (i2 hd.2)
 | obj h l x _ i1 ih=>simp[D.fr]at hd
 | fz h x _ i1 ih=>simp[D.fr]at hd
 | bM h _ ih=>exact .bM h (ih (by simpa[D.fr]using hd))
theorem R.inj(r:R F H ds vs A):∀{B:List Addr},R F H ds vs B->A=B:=by
 induction r with
 | nil=>intro B q;cases q;rfl
 | az _ ih=>intro B q;cases q with | az q=>exact ih q
 | bl _ ih=>intro B q;cases q with | bl q=>exact ih q
 | int _ ih=>intro B q;cases q with | int q=>exact ih q
 | str _ ih=>intro B q;cases q with | str q=>exact ih q
 | shr h x _ i1 ih=>intro B q;cases q with | shr _ _ q=>exact ih q
 | own h f _ _ i1 i2 =>
  intro B q
  cases q with
  | own h' f' x' q =>
   rw[h]at h';cases h'
   rw[i1 x',i2 q]
 | tup h _ _ i1 i2 =>
  intro B q
  cases q with
  | tup h' x' q =>
   rw[h]at h';cases h'
   rw[i1 x',i2 q]
 | obj h l x _ i1 ih=>intro B q;cases q with | obj _ _ _ q=>exact ih q
 | fz h x _ i1 ih=>intro B q;cases q with | fz _ _ q=>exact ih q
 | bM h _ ih=>intro B q;cases q with | bM _ q=>exact ih q
theorem R.perm{ps qs:List (D × V)}(hp:ps.Perm qs):∀{A:List Addr},R F H (ps.map (·.1)) (ps.map (·.2)) A->∃A',R F H (qs.map (·.1)) (qs.map (·.2)) A'/\A.Perm A':=by
 induction hp with
 | nil=>exact λr=>⟨_,r,.refl _⟩
 | cons x _ ih =>
  intro A r
  obtain⟨v,cU,A1,A2,e,rfl,h1,h2⟩:=R.dM r
  obtain⟨rfl,rfl⟩:=nH e
  obtain⟨A',r',p⟩:=ih h2
  exact⟨A1++A',h1.cons r',p.append_left _⟩
 | swap x y l =>
  intro A r
  obtain⟨v,cU,A1,A2,e,rfl,h1,h2⟩:=R.dM r
  obtain⟨rfl,rfl⟩:=nH e
  obtain⟨v2,Ts,B1,B2,e,rfl,h3,h4⟩:=R.dM h2
  obtain⟨rfl,rfl⟩:=nH e
  exact⟨B1++(A1++B2),h3.cons (h1.cons h4),by rw[<-eV,<- eV];exact p8.append_right _⟩
 | trans _ _ i1 i2 =>
  intro A r
  obtain⟨A',r',p⟩:=i1 r
  obtain⟨A2,r2,p2⟩:=i2 r'
  exact⟨A2,r2,p.trans p2⟩
noncomputable def Full(F H:Hp):Prop:=∀a o,H a=some o->(∀ws,o≠.lst ws)->F a=some o
theorem Full.refl(H:Hp):Full H H:=λ_ _ h _=>h
theorem R.full(hF:Full F H)(hs:ag F H')(r:R F H ds vs A)(e:A=[]):R F H' ds vs []:=by
 induction r with
 | nil=>exact .nil
 | az _ ih=>exact .az (ih e)
 | bl _ ih=>exact .bl (ih e)
 | int _ ih=>exact .int (ih e)
 | str _ ih=>exact .str (ih e)
 | shr h x _ i1 ih=>exact .shr h (i1 rfl) (ih e)
 | own h f _ _ i1 i2=>cases e
 | tup h _ _ i1 i2 =>
  obtain⟨e1,e2⟩:=Fx.mp e
  exact R.tup (A:=[]) (B:=[]) (hs _ _ (hF _ _ h (by intro ws z;cases z))) (i1 e1) (i2 e2)
 | obj h l x _ i1 ih=>exact .obj (hs _ _ (hF _ _ h (by intro ws z;cases z))) l (i1 rfl) (ih e)
 | fz h x _ i1 ih=>exact .fz h (i1 rfl) (ih e)
 | bM h _ ih=>exact .bM (h.mono λa o e n t=>hs.get a o (hF a o e n) t) (ih e)
open Classical in
noncomputable def snap(F H:Hp):Hp:=λa=>if(∃o,H a=some o/\∀ws,o≠.lst ws)then H a else F a
theorem vI:Full (snap F H) H:=λa o h n=>by unfold snap;rw[if_pos ⟨o,h,n⟩];exact h
theorem tK(e:ag F H):ag F (snap F H):=⟨λa o h n=>by
 unfold snap;split
 ·exact e.get a o h n
 ·exact h,λa ps h=>by
 unfold snap;split
 ·exact e.tb a ps h
 ·exact⟨#[],by rw[h];simp⟩⟩
theorem ci2(e:ag F H):ag (snap F H) H:=⟨λa o h n=>by
 unfold snap at h;split at h
 ·exact h
 ·exact e.get a o h n,λa ps h=>by
 unfold snap at h;split at h
 ·exact⟨#[],by rw[h];simp⟩
 ·exact e.tb a ps h⟩
theorem bX4(e:ag F H){a:Addr}{ws:List V}(h:snap F H a=some (.lst ws)):F a=some (.lst ws):=by
 unfold snap at h;split at h
 ·rename_i z
  obtain⟨o,h1,h2⟩:=z
  rw[h]at h1;exact absurd (cX h1).symm (h2 ws)
 ·exact h
theorem bW3{a:Addr}{ws:List V}(h:H a=some (.lst ws))(n:F a=none):snap F H a=none:=by
 unfold snap;split
 ·rename_i z
  obtain⟨o,h1,h2⟩:=z
  rw[h]at h1;exact absurd (cX h1).symm (h2 ws)
 ·exact n
end
end L3
namespace L3
open PySem L2
noncomputable abbrev Dl:=List (Option D)
inductive RS(F H:Hp):Dl->St->List Addr->Prop
 | nil:RS F H [] [] []
 | az {δ σ o C}:RS F H δ σ C->RS F H (none::δ) (o::σ) C
 | gX {d v A δ σ C}:R F H [d] [v] A->RS F H δ σ C->RS F H (some d::δ) (some v::σ) (A++C)
theorem jV{A B:List Addr}:(A++B).Nodup↔A.Nodup/\B.Nodup/\∀a∈A,a ∉ B:=by
 rw[List.nodup_append]
 constructor
 ·rintro⟨h1,h2,h3⟩;exact⟨h1,h2,λa ha hb=>h3 a ha a hb rfl⟩
 ·rintro⟨h1,h2,h3⟩;exact⟨h1,h2,λa ha b hb e=>h3 a ha (e ▸ hb)⟩
section
variable{F F' H H':Hp}{d:D}{v:V}{δ:Dl}{σ:St}{A C:List Addr}{i:Nat}
theorem RS.length(r:RS F H δ σ C):δ.length=σ.length:=by induction r<;>simp_all
theorem RS.pick:∀{δ:Dl} {σ:St} {C:List Addr} {i:Nat},RS F H δ σ C->δ[i]?=some (some d)->∃v A C',σ[i]?=some (some v)/\R F H [d] [v] A/\RS F H (δ.set i none) σ C'/\C.Perm (A++C')
 | _,_,_,_,.nil,e=>by simp at e
 | _,_,_,i,.az r,e=>by
  cases i with
  | zero=>simp at e
  | succ i =>
   obtain⟨v,A,C',e1,h1,h2,p⟩:=RS.pick r (by simpa using e)
   exact⟨v,A,C',by simpa using e1,h1,.az h2,p⟩
 | _,_,_,i,.gX (A:=A0) (C:=C0) h r,e=>by
  cases i with
  | zero =>
   simp at e;subst e
   exact⟨_,A0,C0,rfl,h,.az r,.refl _⟩
  | succ i =>
   obtain⟨v,A,C',e1,h1,h2,p⟩:=RS.pick r (by simpa using e)
   refine⟨v,A,A0++C',by simpa using e1,h1,.gX h h2,(p.append_left A0).trans ?_⟩
   rw[<-eV,<- eV]
   exact p8.append_right _
theorem RS.fill:∀{δ:Dl} {σ:St} {C:List Addr} {i:Nat},RS F H δ σ C->δ[i]?=some none->σ[i]?=some (some v)->R F H [d] [v] A->∃C',RS F H (δ.set i (some d)) σ C'/\C'.Perm (A++C)
 | _,_,_,_,.nil,e,_,_=>by simp at e
 | _,_,_,i,.az r,e,e2,h=>by
  cases i with
  | zero=>simp at e2;subst e2;exact⟨_,.gX h r,.refl _⟩
  | succ i =>
   obtain⟨C',h1,p⟩:=RS.fill r (by simpa using e) (by simpa using e2) h
   exact⟨C',.az h1,p⟩
 | _,_,_,i,.gX (A:=A0) (C:=C0) h0 r,e,e2,h=>by
  cases i with
  | zero=>simp at e
  | succ i =>
   obtain⟨C',h1,p⟩:=RS.fill r (by simpa using e) (by simpa using e2) h
   refine⟨A0++C',.gX h0 h1,(p.append_left A0).trans ?_⟩
   rw[<-eV,<- eV]
   exact p8.append_right _
theorem RS.drop:∀{δ:Dl} {σ:St} {C:List Addr} (i:Nat),RS F H δ σ C->∃C',RS F H (δ.set i none) σ C'/\C'.Sublist C
 | _,_,_,_,.nil=>⟨_,.nil,.refl _⟩
 | _,_,_,i,.az r=>by
  cases i with
  | zero=>exact⟨_,.az r,.refl _⟩
  | succ i=>obtain⟨C',h,s⟩:=RS.drop i r;exact⟨C',.az h,s⟩
 | _,_,_,i,.gX (A:=A0) h0 r=>by
  cases i with
  | zero=>exact⟨_,.az r,List.sublist_append_right _ _⟩
  | succ i=>obtain⟨C',h,s⟩:=RS.drop i r;exact⟨_,.gX h0 h,(Rj A0).append s⟩
theorem RS.zw:∀{δ:Dl} {σ:St} {C:List Addr} {i:Nat} (o:Option V),RS F H δ σ C->(δ[i]?=some none\/δ[i]?=none)->RS F H δ (σ.set i o) C
 | _,_,_,_,_,.nil,_=>.nil
 | _,_,_,i,_,.az r,e=>by
  cases i with
  | zero=>exact .az r
  | succ i=>exact .az (RS.zw _ r (by simpa using e))
 | _,_,_,i,_,.gX h0 r,e=>by
  cases i with
  | zero=>simp at e
  | succ i=>exact .gX h0 (RS.zw _ r (by simpa using e))
theorem RS.keep{W:List Addr}(hf:ag F F')(hb:iy W H H')(hl:jB W H)(r:RS F H δ σ C)(hn:∀a∈C,F' a=none)(hd:∀a∈C,a ∉ W):RS F' H' δ σ C:=by
 induction r with
 | nil=>exact .nil
 | az _ ih=>exact .az (ih hn hd)
 | gX h _ ih=>exact .gX (h.keep hf hb hl (λa ha=>hn a (by simp[ha])) λa ha=>hd a (by simp[ha])) (ih (λa ha=>hn a (by simp[ha])) λa ha=>hd a (by simp[ha]))
theorem RS.lists(r:RS F H δ σ C):∀a∈C,(∃ws,H a=some (.lst ws))/\F a=none:=by
 induction r with
 | nil=>simp
 | az _ ih=>exact ih
 | gX h _ ih=>exact λa ha=>(cg.mp ha).elim (h.lists a) (ih a)
end
structure Bs where
 H0:Hp
 F0:Hp
structure ay(B:Bs)(F H:Hp)(σ:St)(δ:Dl)(ts:List (D × V)):Prop where
 ext:ag F H
 b1:ag B.H0 H
 b2:ag B.F0 F
 b3:∀a ws,F a=some (.lst ws)->B.F0 a=some (.lst ws)\/B.H0 a=none
 own:∃A C,R F H (ts.map (·.1)) (ts.map (·.2)) A/\RS F H δ σ C/\(A++C).Nodup/\∀a∈A++C,B.H0 a=none
section
variable{B:Bs}{F F' H H':Hp}{d:D}{v:V}{δ:Dl}{σ:St}{ts ps:List (D × V)}{A C W:List Addr}{i:Nat}{p:Addr}{xs ys:List D}{vs ws:List V}
theorem ay.look(c:ay B F H σ δ ts)(e:δ[i]?=some (some d)):∃v,σ[i]?=some (some v)/\S F H [d] [v]:=by
 obtain⟨A,C,r,s,nd,fr⟩:=c.own
 obtain⟨v,A',C',e1,h1,h2,p⟩:=s.pick e
 exact⟨v,e1,h1.s⟩
theorem ay.len(c:ay B F H σ δ ts):δ.length=σ.length:=let⟨_,_,_,s,_⟩:=c.own;s.length
theorem ay.grow(c:ay B F H σ δ ts)(h:ag H H'):ay B F H' σ δ ts:=by
 obtain⟨A,C,r,s,nd,fr⟩:=c.own
 exact⟨c.ext.trans h,c.b1.trans h,c.b2,c.b3,A,C,r.grow (ag.refl _) h λa ha=>(r.lists a ha).2,s.keep (ag.refl _) (iy.same h) jB.nil (λa ha=>(s.lists a ha).2) (by simp),nd,fr⟩
theorem ay.pop(c:ay B F H σ δ ((d,v)::ts)):ay B F H σ δ ts:=by
 obtain⟨A,C,r,s,nd,fr⟩:=c.own
 obtain⟨w,cU,A1,A2,e,rfl,h1,h2⟩:=R.dM r
 obtain⟨rfl,rfl⟩:=nH e
 refine⟨c.ext,c.b1,c.b2,c.b3,A2,C,h2,s,?_,λa ha=>fr a (by simp at ha ⊢;exact .inr ha)⟩
 rw[eV]at nd
 exact(jV.mp nd).2.1
theorem ay.top(c:ay B F H σ δ ((d,v)::ts)):S F H [d] [v]:=by
 obtain⟨A,C,r,s,nd,fr⟩:=c.own
 obtain⟨w,cU,A1,A2,e,rfl,h1,h2⟩:=R.dM r
 obtain⟨rfl,rfl⟩:=nH e
 exact h1.s
theorem ay.pushS(c:ay B F H σ δ ts)(s:S F H [d] [v])(pl:d.pl=true):ay B F H σ δ ((d,v)::ts):=by
 obtain⟨A,C,r,q,nd,fr⟩:=c.own
 exact⟨c.ext,c.b1,c.b2,c.b3,A,C,(s.r (by simp[pl])).cons r,q,nd,fr⟩
theorem ag.upd{o:HO}(h:H p=none):ag H (upd H p o):=.of λb u e=>by rw[bu (fA e h)];exact e
theorem ay.pack(c:ay B F H σ δ (ps++ts))(hs:ag H H')(k:∀A1,R F H' (ps.map (·.1)) (ps.map (·.2)) A1->A1.Nodup->∃A',R F H' [d] [v] A'/\A'.Nodup/\∀a∈A',a∈A1\/H a=none):ay B F H' σ δ ((d,v)::ts):=by
 obtain⟨A,C,r,s,nd,fr⟩:=c.own
 rw[fM,fM]at r
 obtain⟨v1,v2,A1,A2,e,rfl,h1,h2⟩:=R.split r
 have l1:(ps.map (·.2)).length=v1.length:=by rw[<-h1.length];simp
 obtain⟨rfl,rfl⟩:=Fy e l1
 rw[eV]at nd fr
 obtain⟨n1,n2,n3⟩:=jV.mp nd
 have g1:=h1.grow (ag.refl F) hs λa ha=>(h1.lists a ha).2
 have g2:=h2.grow (ag.refl F) hs λa ha=>(h2.lists a ha).2
 have gs:=s.keep (ag.refl F) (iy.same hs) jB.nil (λa ha=>(s.lists a ha).2) (by simp)
 obtain⟨A',r',vJ,sub⟩:=k A1 g1 n1
 refine⟨c.ext.trans hs,c.b1.trans hs,c.b2,c.b3,A'++A2,C,r'.cons g2,gs,?_,?_⟩
 ·rw[eV]
  refine jV.mpr ⟨vJ,n2,λa ha hb=>?_⟩
  rcases sub a ha with z | z
  ·exact n3 a z hb
  ·rcases cg.mp hb with y | y
   ·obtain⟨⟨_,q⟩,_⟩:=h2.lists a y;rw[z]at q;cases q
   ·obtain⟨⟨_,q⟩,_⟩:=s.lists a y;rw[z]at q;cases q
 ·intro a ha
  rw[eV]at ha
  rcases cg.mp ha with y | y
  ·rcases sub a y with z | z
   ·exact fr a (by simp[z])
   ·exact c.b1.free z
  ·exact fr a (fc _ y)
theorem ay.Hb(c:ay B F H σ δ ts)(hs:ag H H')(r:R F H' [d] [v] A)(nd:A.Nodup)(fr:∀a∈A,H a=none):ay B F H' σ δ ((d,v)::ts) :=
 ay.pack (ps:=[]) c hs λ_ _ _=>⟨A,r,nd,λa ha=>.inr (fr a ha)⟩
theorem ay.qt(c:ay B F H σ δ ts)(hp:H p=none)(s:S F H xs vs)(pl:xs.all D.pl=true):ay B F (upd H p (.lst vs)) σ δ ((.lst true xs,.ref p)::ts) :=
 c.Hb (ag.upd hp) (A:=[p]) (by simpa using R.own cF (c.ext.free hp) ((s.r pl).shared (ag.refl _) (ag.upd hp)) .nil) (by simp) (by simp[hp])
theorem ay.dx5(c:ay B F H σ δ (ps++ts))(hp:H p=none):ay B F (upd H p (.lst (ps.map (·.2)))) σ δ ((.lst true (ps.map (·.1)),.ref p)::ts):=by
 refine c.pack (ag.upd hp) λA1 r nd=>⟨p::A1,by simpa using R.own cF (c.ext.free hp) r .nil,jm.mpr ⟨λh=>?_,nd⟩,λa ha=>?_⟩
 ·obtain⟨A,C,r0,_,_,_⟩:=c.own
  rw[fM,fM]at r0
  obtain⟨v1,v2,B1,B2,e,rfl,h1,h2⟩:=R.split r0
  have l1:(ps.map (·.2)).length=v1.length:=by rw[<-h1.length];simp
  obtain⟨rfl,rfl⟩:=Fy e l1
  have g1:=h1.grow (ag.refl F) (ag.upd (o:=.lst (ps.map (·.2))) hp) λa ha=>(h1.lists a ha).2
  have:A1=B1:=R.inj r g1
  subst this
  obtain⟨⟨_,q⟩,_⟩:=h1.lists p h
  rw[hp]at q;cases q
 ·rcases cA.mp ha with rfl | h
  ·exact .inr hp
  ·exact .inl h
theorem ay.dx6(c:ay B F H σ δ (ps++ts))(hp:H p=none):ay B F (upd H p (.tup (ps.map (·.2)))) σ δ ((.tup (ps.map (·.1)),.ref p)::ts) :=
 c.pack (ag.upd hp) λA1 r nd=>⟨A1,by simpa using R.tup (F:=F) cF r .nil,nd,λa ha=>.inl ha⟩
theorem ay.perm(c:ay B F H σ δ ps)(h:ps.Perm ts):ay B F H σ δ ts:=by
 obtain⟨A,C,r,s,nd,fr⟩:=c.own
 obtain⟨A',r',p⟩:=r.perm h
 have pp:=p.append_right C
 exact⟨c.ext,c.b1,c.b2,c.b3,A',C,r',s,pp.nodup_iff.mp nd,λa ha=>fr a (pp.mem_iff.mpr ha)⟩
theorem ay.move(c:ay B F H σ δ ts)(e:δ[i]?=some (some d)):∃v,σ[i]?=some (some v)/\ay B F H σ (δ.set i none) ((d,v)::ts):=by
 obtain⟨A,C,r,s,nd,fr⟩:=c.own
 obtain⟨v,A',C',e1,h1,h2,p⟩:=s.pick e
 have pp:(A++C).Perm ((A'++A)++C'):=by
  refine(p.append_left A).trans ?_
  rw[<-eV]
  exact p8.append_right _
 exact⟨v,e1,c.ext,c.b1,c.b2,c.b3,A'++A,C',h1.cons r,h2,pp.nodup_iff.mp nd,λa ha=>fr a (pp.mem_iff.mpr ha)⟩
theorem ay.forget(c:ay B F H σ δ ts)(i:Nat):ay B F H σ (δ.set i none) ts:=by
 obtain⟨A,C,r,s,nd,fr⟩:=c.own
 obtain⟨C',h,sb⟩:=s.drop i
 exact⟨c.ext,c.b1,c.b2,c.b3,A,C',r,h,nd.sublist ((Rj A).append sb),λa ha=>fr a (((Rj A).append sb).subset ha)⟩
theorem ay.fill(c:ay B F H σ δ ((d,v)::ts))(e:δ[i]?=some none)(e2:σ[i]?=some (some v)):ay B F H σ (δ.set i (some d)) ts:=by
 obtain⟨A,C,r,s,nd,fr⟩:=c.own
 obtain⟨w,cU,A1,A2,e',rfl,h1,h2⟩:=R.dM r
 obtain⟨rfl,rfl⟩:=nH e'
 obtain⟨C',s',p⟩:=s.fill e e2 h1
 have pp:((A1++A2)++C).Perm (A2++C'):=by
  refine((p8 (l₁:=A1) (l₂:=A2)).append_right C).trans ?_
  rw[eV]
  exact(p.symm).append_left A2
 exact⟨c.ext,c.b1,c.b2,c.b3,A2,C',h2,s',pp.nodup_iff.mp nd,λa ha=>fr a (pp.mem_iff.mpr ha)⟩
theorem ay.zw(c:ay B F H σ δ ts)(o:Option V)(e:δ[i]?=some none\/δ[i]?=none):ay B F H (σ.set i o) δ ts:=by
 obtain⟨A,C,r,s,nd,fr⟩:=c.own
 exact⟨c.ext,c.b1,c.b2,c.b3,A,C,r,s.zw o e,nd,fr⟩
theorem ay.store(c:ay B F H σ δ ((d,v)::ts))(i:Nat):ay B F H (σ.set i (some v)) (δ.set i (some d)) ts:=by
 by_cases hi:i<δ.length
 ·have c1:=c.forget i
  have hs:i<σ.length:=by rw[<-c.len];exact hi
  have e:(δ.set i none)[i]?=some none:=by simp[hi]
  have c2:=(c1.zw (some v) (.inl e)).fill (i:=i) e (by simp[hs])
  rwa [Rk]at c2
 ·have hs:¬ i<σ.length:=by rw[<-c.len];exact hi
  rw[cZ9 (by omega),cZ9 (by omega)]
  exact c.pop
theorem ay.mut(c:ay B F H σ δ (ps++ts))(e:δ[i]?=some (some (.lst true xs)))(e2:σ[i]?=some (some (.ref p)))
  (k:∀ws A1 A2,H p=some (.lst ws)->R F H xs ws A1->R F H (ps.map (·.1)) (ps.map (·.2)) A2->(A1++A2).Nodup->∃A',R F H ys vs A'/\A'.Nodup/\∀a∈A',a∈A1++A2) :
  ay B F (upd H p (.lst vs)) σ (δ.set i (some (.lst true ys))) ts:=by
 have hi:i<δ.length:=(j9.mp e).1
 obtain⟨v,e3,c1⟩:=c.move e
 rw[e2]at e3;cases e3
 obtain⟨A,C,r,s,nd,fr⟩:=c1.own
 have r':R F H (([.lst true xs]++ps.map (·.1))++ts.map (·.1)) ((.ref p::ps.map (·.2))++ts.map (·.2)) A:=by simpa using r
 obtain⟨v1,v2,A1,A2,e4,rfl,h1,h2⟩:=R.split r'
 have l1:(V.ref p::ps.map (·.2)).length=v1.length:=by rw[<-h1.length];simp
 obtain⟨rfl,rfl⟩:=Fy e4 l1
 cases h1 with
 | @own _ Hc _ B1 _ _ B2 hH hF hx hr =>
  rw[eV]at nd fr
  obtain⟨n1,n2,n3⟩:=jV.mp nd
  obtain⟨m1,m2⟩:=jm.mp n1
  obtain⟨A',ra,nda,sub⟩:=k Hc B1 B2 hH hx hr m2
  have pA:p ∉ A':=λz=>m1 (sub _ z)
  have pR:p ∉ A2++C:=λz=>n3 p (by simp) z
  have but:iy [p] H (upd H p (.lst vs)):=⟨λa o q z _=>by rw[bu (by simpa using z)];exact q⟩
  have hl:jB [p] H:=λa ha=>by rw[dP.mp ha];exact⟨_,hH⟩
  have g1:=ra.keep (ag.refl F) but hl (λa ha=>(ra.lists a ha).2) λa ha z=>pA (by rw[<-dP.mp z];exact ha)
  have g2:=h2.keep (ag.refl F) but hl (λa ha=>(h2.lists a ha).2) λa ha z=>pR (by rw[<-dP.mp z];exact ig _ ha)
  have gs:=s.keep (ag.refl F) but hl (λa ha=>(s.lists a ha).2) λa ha z=>pR (by rw[<-dP.mp z];exact fc _ ha)
  have fp:B.H0 p=none:=fr p (by simp)
  have b1:ag B.H0 (upd H p (.lst vs)):=⟨λa o q n=>by
   rw[bu (λz=>by rw[z,fp]at q;cases q)]
   exact c1.b1.get a o q n,λa ps q=>by
   rw[bu (λz=>by rw[z,fp]at q;cases q)]
   exact c1.b1.tb a ps q⟩
  have ext:ag F (upd H p (.lst vs)):=⟨λa o q n=>by
   rw[bu (λz=>by rw[z,hF]at q;cases q)]
   exact c1.ext.get a o q n,λa ps q=>by
   rw[bu (λz=>by rw[z,hF]at q;cases q)]
   exact c1.ext.tb a ps q⟩
  have c2:ay B F (upd H p (.lst vs)) σ (δ.set i none) ((.lst true ys,.ref p)::ts):=by
   refine⟨ext,b1,c1.b2,c1.b3,(p::A')++A2,C,R.cons (by simpa using R.own cF hF g1 .nil) g2,gs,?_,?_⟩
   ·rw[eV]
    refine jV.mpr ⟨jm.mpr ⟨pA,nda⟩,n2,λa ha hb=>?_⟩
    rcases cA.mp ha with rfl | ha
    ·exact pR hb
    ·exact n3 a (dZ _ (sub a ha)) hb
   ·intro a ha
    rw[eV]at ha
    rcases cg.mp ha with z | z
    ·rcases cA.mp z with rfl | z
     ·exact fp
     ·exact fr a (ig _ (dZ _ (sub a z)))
    ·exact fr a (fc _ z)
  have c3:=c2.fill (i:=i) (by simp[hi]) e2
  rwa [Rk]at c3
theorem ay.He(c:ay B F H σ δ ((d,v)::ts)):∃F',ag F F'/\ay B F' H σ δ ((d.sh,v)::ts):=by
 obtain⟨A,C,r,s,nd,fr⟩:=c.own
 obtain⟨w,cU,A1,A2,e',rfl,h1,h2⟩:=R.dM r
 obtain⟨rfl,rfl⟩:=nH e'
 rw[eV]at nd fr
 obtain⟨n1,n2,n3⟩:=jV.mp nd
 have out:∀a∈A2++C,cq F H A1 a=F a:=λa ha=>Cm λz=>n3 a z ha
 have b3:∀a o,cq F H A1 a=some (.lst o)->B.F0 a=some (.lst o)\/B.H0 a=none:=λa o q=>by
  by_cases z:a∈A1
  ·exact .inr (fr a (ig _ z))
  ·rw[Cm z]at q;exact c.b3 a o q
 refine⟨cq F H A1,mE c.ext,Tr c.ext,c.b1,c.b2.trans (mE c.ext),b3,A2,C,?_,?_,n2,λa ha=>fr a (fc _ ha)⟩
 ·have g1:=h1.cq c.ext A1 (λ_ h=>h)
  exact R.cons (A:=[]) g1 (h2.keep (mE c.ext) (iy.same (ag.refl H)) jB.nil (λa ha=>by rw[out a (ig _ ha)];exact(h2.lists a ha).2) (by simp))
 ·exact s.keep (mE c.ext) (iy.same (ag.refl H)) jB.nil (λa ha=>by rw[out a (fc _ ha)];exact(s.lists a ha).2) (by simp)
theorem ay.freeze(c:ay B F H σ δ ts)(e:δ[i]?=some (some d)):∃F',ag F F'/\ay B F' H σ (δ.set i (some d.sh)) ts:=by
 have hi:i<δ.length:=(j9.mp e).1
 obtain⟨v,e2,c1⟩:=c.move e
 obtain⟨F',s,c2⟩:=c1.He
 refine⟨F',s,?_⟩
 have c3:=c2.fill (i:=i) (by simp[hi]) e2
 rwa [Rk]at c3
theorem ay.rebase(c:ay B F H σ δ ts):ay ⟨B.H0,F⟩ F H σ δ ts:=⟨c.ext,c.b1,ag.refl _,λ_ _ q=>.inl q,c.own⟩
theorem ay.dx8{F1:Hp}(c:ay ⟨B.H0,F1⟩ F H σ δ ts)(h:ag B.F0 F1)(h3:∀a ws,F1 a=some (.lst ws)->B.F0 a=some (.lst ws)\/B.H0 a=none):ay B F H σ δ ts :=
 ⟨c.ext,c.b1,h.trans c.b2,λa o q=>(c.b3 a o q).elim (h3 a o) .inr,c.own⟩
theorem ay.call(c:ay B F H σ δ ts)(hs:ag H H')(hf:ag F F')(he:ag F' H')(h3:∀a ws,F' a=some (.lst ws)->F a=some (.lst ws)\/H a=none)(r:R F' H' [d] [v] A)(nd:A.Nodup)(fr:∀a∈A,H a=none) :
  ay B F' H' σ δ ((d,v)::ts):=by
 obtain⟨A0,C,r0,s,nd0,fr0⟩:=c.own
 have no:∀a,(∃ws,H a=some (.lst ws))/\F a=none->F' a=none:=λa zz=>by
  obtain⟨⟨ws,e⟩,n⟩:=zz
  cases q:F' a with
  | none=>rfl
  | some o =>
   have q2:H' a=some o:=by
    cases n:jA o with
    | true=>exact he.get a o q n
    | false =>
     obtain⟨ps,rfl⟩:=G7 n
     obtain⟨m,z⟩:=he.tb a ps q
     rw[hs a _ e]at z
     cases z
   rw[hs a _ e]at q2
   cases q2
   rcases h3 a ws q with z | z
   ·rw[n]at z;cases z
   ·rw[e]at z;cases z
 refine⟨he,c.b1.trans hs,c.b2.trans hf,λa o q=>(h3 a o q).elim (c.b3 a o) λz=>.inr (c.b1.free z),A++A0,C,R.cons r (r0.grow hf hs λa ha=>no a (r0.lists a ha)),
  s.keep hf (iy.same hs) jB.nil (λa ha=>no a (s.lists a ha)) (by simp),?_,?_⟩
 ·rw[eV]
  refine jV.mpr ⟨nd,nd0,λa ha hb=>?_⟩
  have z:=fr a ha
  rcases cg.mp hb with y | y
  ·obtain⟨⟨_,q⟩,_⟩:=r0.lists a y;rw[z]at q;cases q
  ·obtain⟨⟨_,q⟩,_⟩:=s.lists a y;rw[z]at q;cases q
 ·intro a ha
  rw[eV]at ha
  rcases cg.mp ha with y | y
  ·exact c.b1.free (fr a y)
  ·exact fr0 a y
theorem ay.inS(c:ay B F H σ δ ((d,v)::ts)):ay B F H (some v::σ) (some d::δ) ts:=by
 obtain⟨A,C,r,s,nd,fr⟩:=c.own
 obtain⟨w,cU,A1,A2,e',rfl,h1,h2⟩:=R.dM r
 obtain⟨rfl,rfl⟩:=nH e'
 have pp:((A1++A2)++C).Perm (A2++(A1++C)):=by
  rw[<-eV];exact p8.append_right C
 exact⟨c.ext,c.b1,c.b2,c.b3,A2,A1++C,h2,.gX h1 s,pp.nodup_iff.mp nd,λa ha=>fr a (pp.mem_iff.mpr ha)⟩
theorem ay.dy2{w:V}(c:ay B F H (some w::σ) (some d::δ) ts):ay B F H σ δ ((d,w)::ts):=by
 obtain⟨A,C,r,s,nd,fr⟩:=c.own
 cases s with
 | @gX _ _ A1 _ _ C1 h1 s =>
  have pp:(A++(A1++C1)).Perm ((A1++A)++C1):=by
   rw[<-eV];exact p8.append_right C1
  exact⟨c.ext,c.b1,c.b2,c.b3,A1++A,C1,R.cons h1 r,s,pp.nodup_iff.mp nd,λa ha=>fr a (pp.mem_iff.mpr ha)⟩
theorem ay.dy3(c:ay B F H σ δ ((d,v)::(.lst true xs,.ref p)::ts))(hp:H p=some (.lst ws)):ay B F (upd H p (.lst (ws++[v]))) σ δ ((.lst true (xs++[d]),.ref p)::ts):=by
 have c1:=(c.perm (List.Perm.swap _ _ _)).inS
 refine(ay.mut (ps:=[(d,v)]) (i:=0) (ys:=xs++[d]) (vs:=ws++[v]) c1 rfl rfl λgy A1 A2 h r1 r2 nd=>?_).dy2
 rw[hp]at h;cases h
 exact⟨A1++A2,r1.append r2,nd,λa ha=>ha⟩
theorem ay.app(c:ay B F H σ δ ((d,v)::ts))(e:δ[i]?=some (some (.lst true xs)))(e2:σ[i]?=some (some (.ref p)))(hp:H p=some (.lst ws)) :
  ay B F (upd H p (.lst (ws++[v]))) σ (δ.set i (some (.lst true (xs++[d])))) ts :=
 ay.mut (ps:=[(d,v)]) c e e2 λgy A1 A2 h r1 r2 nd=>by
  rw[hp]at h;cases h
  exact⟨A1++A2,r1.append r2,nd,λa ha=>ha⟩
theorem R.Tt:∀{xs:List D} {ws:List V} {A1 A2:List Addr} (j:Nat),R F H xs ws A1->R F H [d] [v] A2->(A1++A2).Nodup->∃A',R F H (xs.set j d) (ws.set j v) A'/\A'.Nodup/\∀a∈A',a∈A1++A2
 | [],_,A1,A2,j,r,q,nd=>by cases r;exact⟨[],.nil,by simp,by simp⟩
 | x::xs,_,A1,A2,j,r,q,nd=>by
  obtain⟨w,gy,B1,B2,rfl,rfl,h1,h2⟩:=r.dM
  rw[eV]at nd
  obtain⟨n1,n2,n3⟩:=jV.mp nd
  cases j with
  | zero =>
   refine⟨A2++B2,q.cons h2,(p8 (l₁:=B2) (l₂:=A2)).nodup_iff.mp n2,λa ha=>?_⟩
   simp only[cg]at ha ⊢
   rcases ha with z | z
   ·exact .inr z
   ·exact .inl (.inr z)
  | succ j =>
   obtain⟨A',r',vJ,sub⟩:=R.Tt j h2 q n2
   refine⟨B1++A',h1.cons r',jV.mpr ⟨n1,vJ,λa ha hb=>n3 a ha (sub a hb)⟩,λa ha=>?_⟩
   rcases cg.mp ha with z | z
   ·simp[z]
   ·have:=sub a z
    simp only[cg]at this ⊢
    rcases this with z | z
    ·exact .inl (.inr z)
    ·exact .inr z
theorem ay.dy4(c:ay B F H σ δ ((d,v)::ts))(e:δ[i]?=some (some (.lst true xs)))(e2:σ[i]?=some (some (.ref p)))(hp:H p=some (.lst ws))(j:Nat) :
  ay B F (upd H p (.lst (ws.set j v))) σ (δ.set i (some (.lst true (xs.set j d)))) ts :=
 ay.mut (ps:=[(d,v)]) c e e2 λgy A1 A2 h r1 r2 nd=>by
  rw[hp]at h;cases h
  exact r1.Tt j r2 nd
theorem ay.ownAt(c:ay B F H σ δ ts)(e:δ[i]?=some (some (.lst true xs))):∃p ws,σ[i]?=some (some (.ref p))/\H p=some (.lst ws)/\xs.length=ws.length:=by
 obtain⟨v,e1,s⟩:=c.look e
 cases s with
 | own h x _=>exact⟨_,_,e1,h,x.length⟩
theorem RS.start{ds:List D}{vs:List V}(r:R F H ds vs [])(n:Nat):RS F H (ds.map some++bH n none) (vs.map some++bH n none) []:=by
 have z:∀n,RS F H (bH n none) (bH n none) []:=λn=>by
  induction n with
  | zero=>exact .nil
  | succ n ih=>exact .az ih
 have:∀(ds:List D) (vs:List V),R F H ds vs []->RS F H (ds.map some++bH n none) (vs.map some++bH n none) []:=by
  intro ds
  induction ds with
  | nil=>intro vs r;cases r;exact z n
  | cons d ds ih =>
   intro vs r
   obtain⟨v,cU,A1,A2,rfl,e,h1,h2⟩:=r.dM
   obtain⟨rfl,rfl⟩:=Fx.mp e.symm
   exact .gX (A:=[]) h1 (ih _ h2)
 exact this ds vs r
theorem ay.start{ds:List D}{vs:List V}(e:ag F H)(r:R F H ds vs [])(n:Nat):ay ⟨H,F⟩ F H (vs.map some++bH n none) (ds.map some++bH n none) [] :=
 ⟨e,ag.refl _,ag.refl _,λ_ _ q=>.inl q,[],[],.nil,RS.start r n,by simp,by simp⟩
theorem ay.snap(c:ay B F H σ δ ts):ay B (L3.snap F H) H σ δ ts:=by
 obtain⟨A,C,r,s,nd,fr⟩:=c.own
 have no:∀a,(∃ws,H a=some (.lst ws))/\F a=none->L3.snap F H a=none:=λa ⟨⟨ws,e⟩,n⟩=>bW3 e n
 exact⟨ci2 c.ext,c.b1,c.b2.trans (tK c.ext),λa ws q=>c.b3 a ws (bX4 c.ext q),A,C,r.grow (tK c.ext) (ag.refl _) λa ha=>no a (r.lists a ha),
  s.keep (tK c.ext) (iy.same (ag.refl _)) jB.nil (λa ha=>no a (s.lists a ha)) (by simp),nd,fr⟩
end
end L3
namespace L3
open PySem L2 PySem.Spec PyProof.Rows
noncomputable abbrev aY:=Dl->(D->Dl->Prop)->Prop
noncomputable abbrev fO:=Dl->(Bool->Dl->Prop)->Prop
noncomputable abbrev cY:=Dl->(List D->Dl->Prop)->Prop
structure tL where
 nx:Dl->Prop
 rt:D->Prop
 bk:Dl->Prop:=λ_=>False
 ct:Dl->Prop:=λ_=>False
 xc:Addr->Dl->Prop:=λ_ _=>False
 xr:Addr->Dl->Prop:=λ_ _=>False
noncomputable abbrev cZ:=tL->Dl->Prop
noncomputable def lE(t:aY):TE:=λσ H Q=>∃B F δ ts Qd,ay B F H σ δ ts/\t δ Qd/\∀d ak v F' H',Qd d ak->ag F F'->ag H H'->ay B F' H' σ ak ((d,v)::ts)->Q v H'
noncomputable def lB(t:aY):TE:=λσ H Q=>∃B F δ ts Qd,ay B F H σ δ ts/\t δ Qd/\∀d ak v F' H',Qd d ak->ag F F'->ag H H'->ay B F' H' σ ak ts->S F' H' [d] [v]->Q v H'
noncomputable def lT(t:fO):TT:=λσ H Q=>∃B F δ ts Qd,ay B F H σ δ ts/\t δ Qd/\∀b ak F' H',Qd b ak->ag F F'->ag H H'->ay B F' H' σ ak ts->Q b H'
noncomputable def lA(t:cY):TA:=λσ H Q=>∃B F δ ts Qd,ay B F H σ δ ts/\t δ Qd/\∀ds ak vs F' H',Qd ds ak->ag F F'->ag H H'->ay B F' H' σ ak ts->S F' H' ds vs->Q vs H'
noncomputable def lO(t:cY):TA:=λσ H Q=>∃B F δ ts Qd,ay B F H σ δ ts/\t δ Qd/\∀(ps:List (D × V)) ak F' H',Qd (ps.map (·.1)) ak->ag F F'->ag H H'->ay B F' H' σ ak (ps++ts)->Q (ps.map (·.2)) H'
noncomputable def XL(X:Cx)(B:Bs)(Dd:tL):Prop :=
 (∀C ak pins aO F' H' s' a T,Dd.xc C ak->ay B F' H' aO ak []->Inv X pins aO H' s'->tH s'.heap a T (.ref C)->Apart X pins H' a->Apart X pins H' T->X.xe (.ref a) s') /\
 (∀C ak pins aO F' H' s' h' e vs,Dd.xr C ak->ay B F' H' aO ak []->Inv X pins aO H' s'->Ri s'.heap h' e (.ref C) vs->X.xe (.ref e) { s' with heap:=h' })
theorem XL.none{X:Cx}{B:Bs}{Dd:tL}(h1:∀C δ,¬ Dd.xc C δ)(h2:∀C δ,¬ Dd.xr C δ):XL X B Dd:=⟨λC δ _ _ _ _ _ _ _ h=>absurd h (h1 C δ),λC δ _ _ _ _ _ _ _ _ h=>absurd h (h2 C δ)⟩
noncomputable def lS(X:Cx)(t:cZ):TS:=λD σ H=>∃B F δ Dd,ay B F H σ δ []/\t Dd δ/\(∀ak aO F' H',Dd.nx ak->ay B F' H' aO ak []->D.nx aO H')/\(∀d v ak aO F' H',Dd.rt d->ay B F' H' aO ak [(d,v)]->D.rt v H') /\
 (∀ak aO F' H',Dd.bk ak->ay B F' H' aO ak []->D.bk aO H')/\(∀ak aO F' H',Dd.ct ak->ay B F' H' aO ak []->D.ct aO H')/\XL X B Dd
section
variable{X:Cx}{e a b c:Expr}{es:List Expr}{pos:Pos}{st:Stmt}{zx:List Stmt}
theorem dN{t t':TE}(h:PE X e t)(m:∀σ H Q,t' σ H Q->t σ H Q):PE X e t':=λpins s σ H Q I q=>h pins s σ H Q I (m σ H Q q)
theorem Hf{t t':TT}(h:PT X e t)(m:∀σ H Q,t' σ H Q->t σ H Q):PT X e t':=λpins s σ H Q I q=>h pins s σ H Q I (m σ H Q q)
theorem Tu{t t':TT}(h:PW X e t)(m:∀σ H Q,t' σ H Q->t σ H Q):PW X e t':=λwh pins s σ H Q I q=>h wh pins s σ H Q I (m σ H Q q)
theorem zy{t t':TA}(h:PA X es t)(m:∀σ H Q,t' σ H Q->t σ H Q):PA X es t':=λp pins s σ H Q I q=>h p pins s σ H Q I (m σ H Q q)
theorem og{t t':TS}(h:PS X st t)(m:∀D σ H,t' D σ H->t D σ H):PS X st t':=λpins s σ H D I q=>h pins s σ H D I (m D σ H q)
theorem Hg{t t':TS}(h:PSs X zx t)(m:∀D σ H,t' D σ H->t D σ H):PSs X zx t':=λpins s σ H D I q=>h pins s σ H D I (m D σ H q)
variable{t u ta tb tc:aY}
theorem ae(h:PE X e (lE t)):PE X e (lB t):=dN h λσ H Q ⟨B,F,δ,ts,Qd,c,q,k⟩=>⟨B,F,δ,ts,Qd,c,q,λd ak v F' H' hd sf sh c'=>k d ak v F' H' hd sf sh c'.pop c'.top⟩
noncomputable def oh(t:aY):aY:=λδ Q=>t δ λd ak=>d.pl=true/\Q d ak
theorem cV(h:PE X e (lB t)):PE X e (lE (oh t)):=dN h λσ H Q ⟨B,F,δ,ts,Qd,c,q,k⟩=>⟨B,F,δ,ts,_,c,q,λd ak v F' H' hd sf sh c' s=>k d ak v F' H' hd.2 sf sh (c'.pushS s hd.1)⟩
noncomputable def ku(i:Nat):aY:=λδ Q=>match δ[i]? with
 | some (some d)=>Q d δ
 | _=>False
noncomputable def by4(i:Nat):aY:=λδ Q=>match δ[i]? with
 | some (some d)=>Q d (δ.set i none)
 | _=>False
theorem cA2{i:Nat}{δ:Dl}{Q:D->Dl->Prop}(h:ku i δ Q):∃d,δ[i]?=some (some d)/\Q d δ:=by
 unfold ku at h
 split at h
 ·rename_i d e;exact⟨d,e,h⟩
 ·exact h.elim
theorem cg7{i:Nat}{δ:Dl}{Q:D->Dl->Prop}(h:by4 i δ Q):∃d,δ[i]?=some (some d)/\Q d (δ.set i none):=by
 unfold by4 at h
 split at h
 ·rename_i d e;exact⟨d,e,h⟩
 ·exact h.elim
noncomputable def dC(d:D):aY:=λδ Q=>Q d δ
theorem bv(i:Nat){x:Str}(hN:X.N[i]?=some x:=by rfl)(hv:nQ X.env.scope x:=by first | exact ao rfl | exact bh (ao rfl) | exact bh (bh rfl))(hd:(x==("__debug__":Str))=false:=by decide)
  (dq:(x==("__classdict__":Str))=false:=by decide):PE X (.Name x pos) (lB (ku i)):=dN (vw hN hv hd dq) λσ H Q ⟨B,F,δ,ts,Qd,c,q,k⟩=>by
 obtain⟨d,e,q⟩:=cA2 q
 obtain⟨v,e1,s⟩:=c.look e
 exact⟨v,e1,k d δ v F H q (ag.refl _) (ag.refl _) c s⟩
theorem em(i:Nat){x:Str}(hN:X.N[i]?=some x:=by rfl)(hv:nQ X.env.scope x:=by first | exact ao rfl | exact bh (ao rfl) | exact bh (bh rfl))(hd:(x==("__debug__":Str))=false:=by decide)
  (dq:(x==("__classdict__":Str))=false:=by decide):PE X (.Name x pos) (lE (by4 i)):=dN (vw hN hv hd dq) λσ H Q ⟨B,F,δ,ts,Qd,c,q,k⟩=>by
 obtain⟨d,e,q⟩:=cg7 q
 obtain⟨v,e1,c'⟩:=c.move e
 exact⟨v,e1,k d _ v F H q (ag.refl _) (ag.refl _) c'⟩
theorem Cn{B:Bs}{F H:Hp}{σ:L2.St}{δ:Dl}{ts:List (D × V)}{Qd:D->Dl->Prop}{Q:VK}{d:D}{v:V}(c:ay B F H σ δ ts)(q:Qd d δ)(s:S F H [d] [v])(p:d.pl=true)
  (k:∀d ak v F' H',Qd d ak->ag F F'->ag H H'->ay B F' H' σ ak ((d,v)::ts)->Q v H'):Q v H:=k d δ v F H q (ag.refl _) (ag.refl _) (c.pushS s p)
theorem aA{i j}:PE X (.Constant (.int i) j pos) (lE (dC (.int i))):=dN yV λσ H Q ⟨B,F,δ,ts,Qd,c,q,k⟩=>Cn c q (.int .nil) rfl k
theorem oi{i j}:PE X (.Constant (.bool i) j pos) (lE (dC (.bl i))):=dN cP6 λσ H Q ⟨B,F,δ,ts,Qd,c,q,k⟩=>Cn c q (.bl .nil) rfl k
theorem eZ{j}:PE X (.Constant .none j pos) (lE (dC .az)):=dN cG7 λσ H Q ⟨B,F,δ,ts,Qd,c,q,k⟩=>Cn c q (.az .nil) rfl k
theorem Tv{x j}:PE X (.Constant (.str x) j pos) (lE (dC (.str x))):=dN cI9 λσ H Q ⟨B,F,δ,ts,Qd,c,q,k⟩=>Cn c q (.str .nil) rfl k
noncomputable abbrev cQ:=D->D->(D->Prop)->Prop
noncomputable def Co(r:R2)(rd:cQ):Prop:=∀{B:Bs} {F H:Hp} {σ:L2.St} {δ:Dl} {ts:List (D × V)} {x y:D} {v w:V} {Q:VK} {Qd:D->Prop},ay B F H σ δ ts->S F H [x] [v]->S F H [y] [w]->rd x y Qd ->
 (∀d z H',Qd d->ag H H'->ay B F H' σ δ ((d,z)::ts)->Q z H')->r v w H Q
noncomputable def bV(X:Cx)(f:Value->Value->Sem Value)(rd:cQ):Prop:=∃r,cN X f r/\Co r rd
theorem bV.or{f:Value->Value->Sem Value}{r1 r2:cQ}(h1:bV X f r1)(h2:bV X f r2):bV X f λx y Q=>r1 x y Q\/r2 x y Q:=by
 obtain⟨q1,a1,b1⟩:=h1
 obtain⟨q2,a2,b2⟩:=h2
 refine⟨_,a1.or a2,λ{B F H σ δ ts x y v w Q Qd} c sx sy h k=>?_⟩
 rcases h with h | h
 ·exact .inl (b1 c sx sy h k)
 ·exact .inr (b2 c sx sy h k)
theorem bV.imp{f:Value->Value->Sem Value}{r1 r2:cQ}(h1:bV X f r1)(h:∀x y Q,r2 x y Q->r1 x y Q):bV X f r2:=by
 obtain⟨q1,a1,b1⟩:=h1
 exact⟨q1,a1,λ{B F H σ δ ts x y v w Q Qd} c sx sy h2 k=>b1 c sx sy (h _ _ _ h2) k⟩
noncomputable def kX(rd:cQ)(ta tb:aY):aY:=λδ Q=>ta δ λx ax=>tb ax λy bo=>rd x y λd=>Q d bo
theorem Hh{r:R2}{rd:cQ}(hl:Co r rd):∀σ H Q,lE (kX rd ta tb) σ H Q->y0 r (lB ta) (lB tb) σ H Q:=λσ H Q ⟨B,F,δ,ts,Qd,c,q,k⟩ =>
 ⟨B,F,δ,ts,_,c,q,λx ax v F1 H1 q1 f1 h1 c1 s1=>⟨B,F1,ax,ts,_,c1,q1,λy bo w F2 H2 q2 f2 h2 c2 s2 =>
  hl c2 (s1.mono f2 h2) s2 q2 λd z H' hd hs c3=>k d bo z F2 H' hd (f1.trans f2) ((h1.trans h2).trans hs) c3⟩⟩
theorem aI{op:Operator}{rd:cQ}(ho:bV X (binaryOp op) rd)(ha:PE X a (lB ta))(hb:PE X b (lB tb)):PE X (.BinOp a op b pos) (lE (kX rd ta tb)):=by
 obtain⟨r,h1,h2⟩:=ho
 exact dN (y6 h1 ha hb) (Hh h2)
theorem Cp{op:CmpOp}{rd:cQ}(ho:bV X (compareOp op) rd)(ha:PE X a (lB ta))(hb:PE X b (lB tb))(hm:behindInMarks op b=false):PE X (.Compare a [op] [b] pos) (lE (kX rd ta tb)):=by
 obtain⟨r,h1,h2⟩:=ho
 exact dN (cz0 h1 ha hb hm) (Hh h2)
noncomputable def dT(t:aY):fO:=λδ Q=>t δ λd ak=>∃k,d=.bl k/\Q k ak
theorem cm8{te:TE}(h:∀σ H Q,lE t σ H Q->te σ H Q):∀σ H Q,lT (dT t) σ H Q->Sa te σ H Q:=λσ H Q zz=>by
 obtain⟨B,F,δ,ts,Qd,c,q,k⟩:=zz
 refine h σ H _ ⟨B,F,δ,ts,_,c,q,λd ak v F' H' hd sf sh c'=>?_⟩
 obtain⟨b,rfl,qb⟩:=hd
 have s:=c'.top
 cases s with
 | bl _=>exact⟨b,rfl,k b ak F' H' qb sf sh c'.pop⟩
theorem bR{op:CmpOp}{rd:cQ}(ho:bV X (compareOp op) rd)(ha:PE X a (lB ta))(hb:PE X b (lB tb))(hm:behindInMarks op b=false):PT X (.Compare a [op] [b] pos) (lT (dT (kX rd ta tb))):=by
 obtain⟨r,h1,h2⟩:=ho
 exact Hf (cC4 h1 ha hb hm) (cm8 (Hh h2))
noncomputable def oj(r r':cQ)(ta tb tc:aY):aY:=λδ Q=>ta δ λx ax=>tb ax λy bo=>r x y λd=>∃k,d=.bl k/\if k=true then tc bo λz iS=>r' y z λd'=>Q d' iS else Q (.bl false) bo
theorem jC(h:PE X e (lB t))(he:∀whole,isTrue e X.env whole=(do let v<-whole;standAt e.pos;holding [v] (truthy v)):=by intro _;rfl):PT X e (lT (dT t)) :=
 Hf (FZ h he) λσ H Q ⟨B,F,δ,ts,Qd,c,q,k⟩=>⟨B,F,δ,ts,_,c,q,λd ak v F' H' hd sf sh c' s=>by
  obtain⟨b,rfl,qb⟩:=hd
  cases s with
  | bl _=>exact⟨b,rfl,k b ak F' H' qb sf sh c'⟩⟩
variable{tA tB:fO}{rest:List Expr}
noncomputable def qu(t u:fO):fO:=λδ Q=>t δ λc ax=>if c=true then u ax Q else Q false ax
noncomputable def qv(t u:fO):fO:=λδ Q=>t δ λc ax=>if c=true then Q true ax else u ax Q
noncomputable def qw(t:fO):fO:=λδ Q=>t δ λc ax=>Q (!c) ax
theorem Tw(ha:PT X a (lT tA))(hb:PW X (.BoolOp .And (b::rest) pos) (lT tB)):PW X (.BoolOp .And (a::b::rest) pos) (lT (qu tA tB)) :=
 Tu (cM4 ha hb) λσ H Q ⟨B,F,δ,ts,Qd,c,q,k⟩=>⟨B,F,δ,ts,_,c,q,λb ax F1 H1 q1 f1 h1 c1=>by
  cases b with
  | true=>exact qm ⟨B,F1,ax,ts,Qd,c1,by simpa using q1,λb ak F' H' hd sf sh c'=>k b ak F' H' hd (f1.trans sf) (h1.trans sh) c'⟩
  | false=>exact mC (k false ax F1 H1 (by simpa using q1) f1 h1 c1)⟩
theorem Cq(ha:PT X a (lT tA))(hb:PW X (.BoolOp .Or (b::rest) pos) (lT tB)):PW X (.BoolOp .Or (a::b::rest) pos) (lT (qv tA tB)) :=
 Tu (cS6 ha hb) λσ H Q ⟨B,F,δ,ts,Qd,c,q,k⟩=>⟨B,F,δ,ts,_,c,q,λb ax F1 H1 q1 f1 h1 c1=>by
  cases b with
  | true=>exact qm (k true ax F1 H1 (by simpa using q1) f1 h1 c1)
  | false=>exact mC ⟨B,F1,ax,ts,Qd,c1,by simpa using q1,λb ak F' H' hd sf sh c'=>k b ak F' H' hd (f1.trans sf) (h1.trans sh) c'⟩⟩
theorem qy(ha:PT X a (lT tA)):PT X (.UnaryOp .Not a pos) (lT (qw tA)) :=
 Hf (Ga ha) λσ H Q ⟨B,F,δ,ts,Qd,c,q,k⟩=>⟨B,F,δ,ts,_,c,q,λb ax F1 H1 q1 f1 h1 c1=>k _ ax F1 H1 q1 f1 h1 c1⟩
noncomputable def qA(ta tb:aY):aY:=λδ Q=>ta δ λx ax=>∃c,x=.bl c/\if c=true then tb ax Q else Q (.bl false) ax
noncomputable def qB(ta:aY):aY:=λδ Q=>ta δ λx ax=>∃c,x=.bl c/\Q (.bl (!c)) ax
theorem Cr(ha:PE X a (lB ta))(hb:PE X (.BoolOp .And (b::rest) pos) (lE tb)):PE X (.BoolOp .And (a::b::rest) pos) (lE (qA ta tb)) :=
 dN (cL3 ha hb) λσ H Q ⟨B,F,δ,ts,Qd,c,q,k⟩=>⟨B,F,δ,ts,_,c,q,λd ax v F1 H1 q1 f1 h1 c1 s1=>by
  obtain⟨b,rfl,qb⟩:=q1
  cases s1 with
  | bl _ =>
   refine⟨b,rfl,?_⟩
   cases b with
   | true=>exact qm ⟨B,F1,ax,ts,Qd,c1,by simpa using qb,λd ak v F' H' hd sf sh c'=>k d ak v F' H' hd (f1.trans sf) (h1.trans sh) c'⟩
   | false=>exact mC (k _ ax _ F1 H1 (by simpa using qb) f1 h1 (c1.pushS (.bl .nil) rfl))⟩
theorem cS9(ha:PE X a (lB ta)):PE X (.UnaryOp .Not a pos) (lE (qB ta)) :=
 dN (cG1 ha) λσ H Q ⟨B,F,δ,ts,Qd,c,q,k⟩=>⟨B,F,δ,ts,_,c,q,λd ax v F1 H1 q1 f1 h1 c1 s1=>by
  obtain⟨b,rfl,qb⟩:=q1
  cases s1 with
  | bl _=>exact⟨b,rfl,k _ ax _ F1 H1 qb f1 h1 (c1.pushS (.bl .nil) rfl)⟩⟩
noncomputable def qC(t:fO)(ta tb:aY):aY:=λδ Q=>t δ λc ax=>if c=true then ta ax Q else tb ax Q
theorem zA(hc:PT X c (lT tA))(ha:PE X a (lE ta))(hb:PE X b (lE tb)):PE X (.IfExp c a b pos) (lE (qC tA ta tb)) :=
 dN (cl1 hc ha hb) λσ H Q ⟨B,F,δ,ts,Qd,c,q,k⟩=>⟨B,F,δ,ts,_,c,q,λb ax F1 H1 q1 f1 h1 c1=>by
  cases b with
  | true=>exact qm ⟨B,F1,ax,ts,Qd,c1,by simpa using q1,λd ak v F' H' hd sf sh c'=>k d ak v F' H' hd (f1.trans sf) (h1.trans sh) c'⟩
  | false=>exact mC ⟨B,F1,ax,ts,Qd,c1,by simpa using q1,λd ak v F' H' hd sf sh c'=>k d ak v F' H' hd (f1.trans sf) (h1.trans sh) c'⟩⟩
noncomputable def mF:cY:=λδ Q=>Q [] δ
noncomputable def mG(t:aY)(r:cY):cY:=λδ Q=>t δ λd ax=>r ax λds bo=>Q (d::ds) bo
theorem au:PA X [] (lA mF):=zy kj λσ H Q ⟨B,F,δ,ts,Qd,c,q,k⟩=>k [] δ [] F H q (ag.refl _) (ag.refl _) c .nil
variable{tr:cY}
theorem af(ha:PE X e (lB t))(hr:PA X es (lA tr))(hs:starEach (e::es) X.env=(false,eval e X.env)::starEach es X.env:=by rfl):PA X (e::es) (lA (mG t tr)) :=
 zy (gn ha hr hs) λσ H Q ⟨B,F,δ,ts,Qd,c,q,k⟩=>⟨B,F,δ,ts,_,c,q,λd ax v F1 H1 q1 f1 h1 c1 s1=>⟨B,F1,ax,ts,_,c1,q1,λds bo vs F2 H2 q2 f2 h2 c2 s2 =>
  k (d::ds) bo (v::vs) F2 H2 q2 (f1.trans f2) (h1.trans h2) c2 ((s1.mono f2 h2).cons s2)⟩⟩
theorem dD:PA X [] (lO mF):=zy kj λσ H Q ⟨B,F,δ,ts,Qd,c,q,k⟩=>k [] δ F H q (ag.refl _) (ag.refl _) c
theorem fB(ha:PE X e (lE t))(hr:PA X es (lO tr))(hs:starEach (e::es) X.env=(false,eval e X.env)::starEach es X.env:=by rfl):PA X (e::es) (lO (mG t tr)) :=
 zy (gn ha hr hs) λσ H Q ⟨B,F,δ,ts,Qd,c,q,k⟩=>⟨B,F,δ,ts,_,c,q,λd ax v F1 H1 q1 f1 h1 c1=>⟨B,F1,ax,(d,v)::ts,_,c1,q1,λps bo F2 H2 q2 f2 h2 c2 =>
  k ((d,v)::ps) bo F2 H2 q2 (f1.trans f2) (h1.trans h2) (c2.perm (List.perm_middle))⟩⟩
noncomputable def om(t:cY):aY:=λδ Q=>t δ λds ak=>ds.length<=sizeLine/\Q (.lst true ds) ak
noncomputable def qD(t:cY):aY:=λδ Q=>t δ λds ak=>ds.length<=sizeLine/\Q (.tup ds) ak
theorem eM(h:PA X es (lO tr)):PE X (.List es pos) (lE (om tr)) :=
 dN (Sf h) λσ H Q ⟨B,F,δ,ts,Qd,c,q,k⟩=>⟨B,F,δ,ts,_,c,q,λps ax F1 H1 q1 f1 h1 c1=>⟨by simpa using q1.1,λp hp=>k _ ax _ F1 _ q1.2 f1 (h1.trans (ag.upd hp)) (c1.dx5 hp)⟩⟩
theorem zB{x1}(h:PA X es (lO tr)):PE X (.Tuple es x1 pos) (lE (qD tr)) :=
 dN (cG0 h) λσ H Q ⟨B,F,δ,ts,Qd,c,q,k⟩=>⟨B,F,δ,ts,_,c,q,λps ax F1 H1 q1 f1 h1 c1=>⟨by simpa using q1.1,λp hp=>k _ ax _ F1 _ q1.2 f1 (h1.trans (ag.upd hp)) (c1.dx6 hp)⟩⟩
end
end L3
namespace L3
open PySem L2 PySem.Spec PyProof.Rows
noncomputable abbrev bC:=List D->(D->Prop)->Prop
noncomputable def bA(sp:bC):Sp:=λvs H Q _=>∃F ds Qd,ag F H/\R F H ds vs []/\sp ds Qd/\∀d v F' H' A,Qd d->ag H H'->ag F F'->ag F' H'->(∀a ws,F' a=some (.lst ws)->F a=some (.lst ws)\/H a=none)->R F' H' [d] [v] A->A.Nodup->(∀a∈A,H a=none)->Q v H'
noncomputable def mH(sp:bC)(t:cY):aY:=λδ Q=>t δ λds ak=>sp (ds.map D.sh) λd=>(ds.all D.pl||d.fr)=true/\Q d ak
theorem Ct{B:Bs}{F H:Hp}{σ:L2.St}{δ:Dl}{ts:List (D × V)}{Qd:D->Prop}{Q:VK}{E:XK}{ds:List D}{vs:List V}{sp:bC}(c:ay B F H σ δ ts)(s:S F H ds vs)(q:sp (ds.map D.sh) λd=>(ds.all D.pl||d.fr)=true/\Qd d)
  (k:∀d v F' H',Qd d->ag F F'->ag H H'->ay B F' H' σ δ ((d,v)::ts)->Q v H'):bA sp vs H Q E:=by
 by_cases hp:ds.all D.pl=true
 ·rw[mD hp]at q
  exact⟨F,ds,_,c.ext,s.r hp,q,λd v F' H' A hd hs hf he h3 r nd fr=>k d v F' H' hd.2 hf hs (c.call hs hf he h3 r nd fr)⟩
 ·refine⟨H,ds.map D.sh,_,ag.refl _,s.frozen c.ext,q,λd v F' H' A hd hs hf he h3 r nd fr=>?_⟩
  have eY:d.fr=true:=by
   have:=hd.1
   rw[Bool.or_eq_true]at this
   exact this.resolve_left hp
  exact k d v F H' hd.2 (ag.refl _) hs (c.Hb hs (r.Ha (by simp[eY]) (c.ext.trans hf)) nd fr)
section
variable{X:Cx}{CX:fg}{n:Nat}{f:Addr}{fd:FuncData}{ps:List Str}{sp:bC}{E:XK}{x:Str}{p pos:Pos}{e:Expr}{es:List Expr}{t:cY}
theorem aS(F:aU X.prog X.w X.K X.mg X.base CX n f fd ps (bA sp))(hr:cO n X.A)(hg:Gl X x)(hm:X.mg x=some (.ref f))(hk:PySem.W.keepIn X.K (.ref f)=true)(hb:Binds X.K fd ps [])(hx:mx CX X E)
  (ha:PA X (e::es) (lA t)) (fh:(x==("__debug__":Str))=false:=by decide) (he:starEach (e::es) X.env=(false,eval e X.env)::starEach es X.env:=by rfl) (bU:(backTo pos (starEach es X.env)).any (·.1)=false:=by rfl) :
  PE X (.Call (.Name x p) (e::es) [] pos) (lE (mH sp t)) :=
 dN (tw F hr hg hm hk hb .nil hx ha fh he bU) λσ H Q ⟨B,F,δ,ts,Qd,c,q,k⟩=>⟨B,F,δ,ts,_,c,q,λds ax vs F1 H1 q1 f1 h1 c1 s1=>by
  show bA sp (vs++[]) H1 Q E
  rw[lZ]
  exact Ct c1 s1 q1 λd v F' H' hd hf hs c'=>k d ax v F' H' hd (f1.trans hf) (h1.trans hs) c'⟩
end
noncomputable def jW(N:List Str)(ds:List D):Dl:=ds.map some++bH (N.length-ds.length) none
section
variable{P:Program}{w:World}{K:PySem.W.Frag}{mg:Str->Option Value}{base:Heap}
theorem bJ{x qual:Str}{st:Stmt}{f:Addr}{fd:FuncData}{N ps:List Str}{k:Nat}{sp:bC}(F:bt K x qual st f fd)(S:bw N ps (aB st))(len:∀ds Q,sp ds Q->ds.length=ps.length)
  (iM:∀(aK:Value) (A:Around) (outer:List Env) (s:Shared) (H:Hp) (E:XK),cO k (A.deeper (envOfC qual (aB st) s.heap.objs.size f aK)) ->
   ∃t:cZ,PSs (jv bf P w K mg base N qual (aB st) f aK A outer s H E).gR (br st) (lS (jv bf P w K mg base N qual (aB st) f aK A outer s H E).gR t)/\∀ds Q,sp ds Q->t { nx:=λ_=>Q .az,rt:=Q } (jW N ds)):aU P w K mg base bf (k+1) f fd ps (bA sp):=by
 refine F.ok S (λvs H Q E ⟨F,ds,Qd,e,r,h,_⟩=>by rw[<-r.length];exact len ds Qd h) λaK A outer s H vs Q E hr zz=>?_
 obtain⟨F,ds,Qd,e,r,h,k⟩:=zz
 obtain⟨t,ht,hq⟩:=iM aK A outer s H E hr
 have fin:∀d v ak aO F' H',Qd d->ay ⟨H,F⟩ F' H' aO ak [(d,v)]->Q v H':=λd v ak aO F' H' hd c=>by
  obtain⟨A,C,r',s',nd,fr⟩:=c.own
  exact k d v F' H' A hd c.b1 c.b2 c.ext c.b3 r' (jV.mp nd).1 λa ha=>fr a (ig _ ha)
 have e1:L2.start N vs=vs.map some++bH (N.length-ds.length) none:=by unfold L2.start;rw[r.length]
 refine⟨_,ht,⟨H,F⟩,F,jW N ds,_,?_,hq ds Qd h,λak aO F' H' hd c=>fin .az .az ak aO F' H' hd (c.pushS (.az .nil) rfl),fin,λ_ _ _ _ z=>z.elim,λ_ _ _ _ z=>z.elim,XL.none (λ_ _ z=>z) λ_ _ z=>z⟩
 rw[e1]
 exact ay.start e r _
end
section
variable{X:Cx}{e a b c:Expr}{es:List Expr}{pos:Pos}{st:Stmt}{zx rest:List Stmt}{t u:cZ}{te:aY}{tt:fO}
noncomputable def qE:cZ:=λD δ=>D.nx δ
noncomputable def Tx(t u:cZ):cZ:=λD δ=>t { D with nx:=u D } δ
theorem aE{t u:cZ}{En:tL}{δ:Dl}(h:∀U:Dl->Prop,(∀ak,u En ak->U ak)->t { En with nx:=U } δ):Tx t u En δ:=h (u En) λ_ z=>z
theorem cH:PSs X [] (lS X qE):=Hg Gb λD σ H ⟨B,F,δ,Dd,c,q,k1,_⟩=>k1 δ σ F H q c
theorem aF(h1:PS X st (lS X t))(h2:PSs X rest (lS X u)):PSs X (st::rest) (lS X (Tx t u)) :=
 Hg (kR h1 h2) λD σ H ⟨B,F,δ,Dd,c,q,k1,k2,k3,k4⟩=>⟨B,F,δ,{ Dd with nx:=u Dd },c,q,λak aO F' H' hq c'=>⟨B,F',ak,Dd,c',hq,k1,k2,k3,k4⟩,k2,k3,k4⟩
theorem aG(h1:PS X st (lS X t)):PSs X [st] (lS X t):=vx h1
noncomputable def oo(i:Nat)(t:cZ):cZ:=λD δ=>∃d,δ[i]?=some (some d)/\t D (δ.set i (some d.sh))
theorem qF(i:Nat)(h:PSs X zx (lS X t)):PSs X zx (lS X (oo i t)):=Hg h λD σ H zz=>by
 obtain⟨B,F,δ,Dd,c,⟨d,e,q⟩,k⟩:=zz
 obtain⟨F',s,c'⟩:=c.freeze e
 exact⟨B,F',_,Dd,c',q,k⟩
noncomputable def mI(i:Nat)(t:aY):cZ:=λD δ=>t δ λd ak=>D.nx (ak.set i (some d))
theorem aX{i:Nat}{x:Str}{pos':Pos}(hN:X.N.Nodup)(hi:X.N[i]?=some x)(hx:Loc X.env.scope x)(he:PE X e (lE te))(hs:swapsWith e (some (.Name x pos')) pos.line X.env=pure false:=by rfl)
  (hf:X.fn x=true\/X.env.scope.names.lookup x=some .local:=by first | exact .inl rfl | exact .inr rfl | assumption):PS X (.Assign [.Name x pos'] e pos) (lS X (mI i te)) :=
 og (R1 hN hi hx he hs hf) λD σ H ⟨B,F,δ,Dd,c,q,k1,k2,k3,k4⟩=>⟨B,F,δ,[],_,c,q,λd ak v F' H' hd sf sh c'=>k1 _ _ F' H' hd (c'.store i)⟩
noncomputable def qG(t:aY):cZ:=λD δ=>t δ λd _=>D.rt d
theorem aZ(he:PE X e (lE te)):PS X (.Return (some e) pos) (lS X (qG te)) :=
 og (cN1 he) λD σ H ⟨B,F,δ,Dd,c,q,k1,k2,k3,k4⟩=>⟨B,F,δ,[],_,c,q,λd ak v F' H' hd sf sh c'=>k2 d v ak σ F' H' hd c'⟩
noncomputable def oq(tc:fO)(t u:cZ):cZ:=λD δ=>tc δ λb ak=>if b=true then t D ak else u D ak
theorem cu{l r:List Stmt}(hc:PT X c (lT tt))(ha:PSs X l (lS X t))(hb:PSs X r (lS X u)):PS X (.If c l r pos) (lS X (oq tt t u)) :=
 og (Ge hc ha hb) λD σ H ⟨B,F,δ,Dd,c,q,k⟩=>⟨B,F,δ,[],_,c,q,λb ak F' H' hq sf sh c'=>by
  cases b with
  | true=>exact qm ⟨B,F',ak,Dd,c',by simpa using hq,k⟩
  | false=>exact mC ⟨B,F',ak,Dd,c',by simpa using hq,k⟩⟩
noncomputable def qH(i:Nat)(rd:cQ)(t:aY):cZ:=λD δ=>∃x,δ[i]?=some (some x)/\t δ λy ax=>rd x y λz=>D.nx (ax.set i (some z))
theorem zC{i:Nat}{x:Str}{op:Operator}{rd:cQ}{pos':Pos}(hN:X.N.Nodup)(hi:X.N[i]?=some x)(hx:Loc X.env.scope x)(he:PE X e (lB te))(ho:bV X (inplaceOp op) rd)
  (hf:X.fn x=true\/X.env.scope.names.lookup x=some .local:=by first | exact .inl rfl | exact .inr rfl | assumption):PS X (.AugAssign (.Name x pos') op e pos) (lS X (qH i rd te)):=by
 obtain⟨r,h1,h2⟩:=ho
 refine og (cF1 hN hi hx he (ti:=r) h1 hf) λD σ H zz=>?_
 obtain⟨B,F,δ,Dd,c,⟨d0,e0,q⟩,k1,k2,k3,k4⟩:=zz
 obtain⟨v0,e1,s0⟩:=c.look e0
 exact⟨v0,e1,B,F,δ,[],_,c,q,λd ak v F' H' hd sf sh c' s=>h2 c' (s0.mono sf sh) s hd λz w H2 hz h3 c3=>k1 _ _ F' H2 hz (c3.store i)⟩
noncomputable def qI(tc:fO)(tb:cZ):cZ:=λD δ=>∃W:Nat->Dl->Prop,(∃m,W m δ)/\∀m δ,W m δ->tc δ λb ak=>if b=true then tb { D with nx:=λak=>∃m',m'<m/\W m' ak,ct:=λak=>∃m',m'<m/\W m' ak,bk:=D.nx } ak else D.nx ak
theorem zD{body:List Stmt}(hp:PassesOwn (model X.prog X.w) X.A X.env X.xe)(hc:PT X c (lT tt))(hb:PSs X body (lS X t)):PS X (.While c body [] pos) (lS X (qI tt t)) :=
 og (ce2 hp hc hb) λD σ H zz=>by
  obtain⟨B,F,δ,Dd,c,⟨W,⟨m0,w0⟩,hw⟩,k1,k2,k3,k4⟩:=zz
  refine⟨λm σ H=>∃F δ,ay B F H σ δ []/\W m δ,⟨m0,F,δ,c,w0⟩,λm σ H ⟨F,δ,c,w⟩=>⟨B,F,δ,[],_,c,hw m δ w,λb ak F' H' hq sf sh c'=>?_⟩⟩
  cases b with
  | true =>
   refine qm ⟨λaO H'=>∃m',m'<m/\∃F δ,ay B F H' aO δ []/\W m' δ,λaO H' z=>z,B,F',ak,{ Dd with nx:=λak=>∃m',m'<m/\W m' ak,ct:=λak=>∃m',m'<m/\W m' ak,bk:=Dd.nx },c',by simpa using hq,λbo mv F2 H2 ⟨m',hm,w2⟩ c2=>⟨m',hm,F2,bo,c2,w2⟩,k2,λbo mv F2 H2 z c2=>k1 bo mv F2 H2 z c2,λbo mv F2 H2 ⟨m',hm,w2⟩ c2=>⟨m',hm,F2,bo,c2,w2⟩,k4.2⟩
  | false=>exact mC (k1 ak σ F' H' (by simpa using hq) c')
end
structure JD(J:It)(F:Hp)(xs:List D):Prop where
 go:∀i H,ag F H->i<xs.length->J.go i H
 ki:∀i H x H',ag F H->i<xs.length->J.ki i H x H'->∃d,xs[i]?=some d/\ag H H'/\R F H' [d] [x] []
 stop:∀i H,ag F H->xs.length<=i->J.stop i H
noncomputable abbrev jX:=Dl->(Bool->List D->Dl->Prop)->Prop
noncomputable def lI(t:jX):TI:=λσ H Rr=>∃B F δ ts Qd,ay B F H σ δ ts/\t δ Qd/\∀g xs ak J F' H',Qd g xs ak->ag F F'->ag H H'->ay B F' H' σ ak ts->JD J H' (xs.map D.sh)->(g=true->xs.all D.pl=true/\JD J F' xs)->Rr J H'
noncomputable abbrev iT:=D->Dl->(Dl->Prop)->Prop
noncomputable def lG(m:Nat)(t:iT):TG:=λv σ H Q=>∃B F δ ts d Qd,ay B F H σ δ ((d,v)::ts)/\t d δ Qd/\∀ak aO,Qd ak->aO.length=σ.length->(∀j,j<m->aO[j]?=σ[j]?)->ay B F H aO ak ts->Q aO H
noncomputable def iU:D->Option (List D)
 | .lst _ xs=>some xs
 | .fz xs=>some xs
 | _=>none
section
variable{B:Bs}{F H F1:Hp}{σ:L2.St}{δ:Dl}{ts:List (D × V)}
end
section
variable{X:Cx}{e a b c tg l iter:Expr}{es:List Expr}{pos:Pos}{t u:cZ}{te:aY}{tt:fO}{ta:cY}{m:Nat}
theorem vK{w w':TI}(h:PI X tg iter w)(m:∀σ H Q,w' σ H Q->w σ H Q):PI X tg iter w':=λpins s σ H Q I q=>h pins s σ H Q I (m σ H Q q)
theorem Tz{w w':TG}(h:PG X tg w)(m:∀v σ H Q,w' v σ H Q->w v σ H Q):PG X tg w':=λpins s σ H v u Q I r q=>h pins s σ H v u Q I r (m v σ H Q q)
noncomputable def gN(i:Nat):iT:=λd δ Q=>Q (δ.set i (some d))
theorem cI{i:Nat}{x:Str}(hN:X.N.Nodup)(hi:X.N[i]?=some x)(hx:Loc X.env.scope x)(hm:m<=i:=by decide)(hf:X.fn x=true\/X.env.scope.names.lookup x=some .local:=by first | exact .inl rfl | exact .inr rfl | assumption):PG X (.Name x pos) (lG m (gN i)) :=
 Tz (B4 hN hi hx hf) λv σ H Q ⟨B,F,δ,ts,d,Qd,c,q,k⟩=>k _ _ q (by simp) (λj hj=>by rw[u5 (by omega)]) (c.store i)
theorem ot{K:PySem.W.Frag}{F H:Hp}{p:Addr}{xs:List D}{ws:List V}(hp:Rd F p (.lst ws))(r:R F H xs ws [])(hF:Full F H):JD (Gj K p) F xs where
 go:=λi H' hs hi=>by
  have l:=r.length
  have iu:i<ws.length:=by omega
  exact⟨ws,ws[i],.inl (iQ hp hs),aP iu⟩
 ki:=λi H' x H2 hs hi zz=>by
  obtain⟨e,y⟩:=zz
  subst e
  have hx:=y ws (.inl (iQ hp hs))
  obtain⟨v,A1,e2,r1,sub⟩:=(r.full hF hs rfl).get (aP hi)
  rw[hx]at e2;cases e2
  have:A1=[]:=c00.mpr λa ha=>by simpa using sub ha
  subst this
  exact⟨_,aP hi,ag.refl _,r1⟩
 stop:=λi H' hs hi=>⟨ws,.inl (iQ hp hs),by have:=r.length;omega⟩
theorem Cu{F:Hp}(lo:Int)(n:Nat):JD (yW lo n) F ((bg n).map λ(k:Nat)=>D.int (lo+(k:Int))) where
 go:=λi H' hs hi=>by
  have iu:i<n:=by simpa using hi
  exact iu
 ki:=λi H' x H2 hs hi zz=>by
  obtain⟨e,y⟩:=zz
  subst e y
  have iu:i<n:=by simpa using hi
  exact⟨.int (lo+i),by simp[kL iu],ag.refl _,.int .nil⟩
 stop:=λi H' hs hi=>by
  have iu:n<=i:=by simpa using hi
  exact iu
noncomputable def qJ(t:aY):jX:=λδ Q=>t δ λd ak=>∃xs,iU d=some xs/\Q true (xs.map D.sh) ak
theorem cW8(xs:List D){F H:Hp}{ws:List V}(r:R F H (xs.map D.sh) ws []):(xs.map D.sh).map D.sh=xs.map D.sh:=mD r.pl
theorem Cv(h:PE X l (lE te)):PI X tg l (lI (qJ te)) :=
 vK (R5 h) λσ H Q ⟨B,F,δ,ts,Qd,c,q,k⟩=>⟨B,F,δ,ts,_,c,q,λd ax v F1 H1 hd f1 h1 c1=>by
  obtain⟨xs,e,hq⟩:=hd
  obtain⟨F2,f2,c2⟩:=c1.He
  have tp:=c2.top
  have c3:=c2.pop.snap
  have e2:=c2.ext
  have sn:=tK e2
  cases d with
  | lst o ys =>
   obtain rfl:=cX e
   rw[dj]at tp
   cases tp with
   | @shr p ws _ _ _ hp r _ =>
    have r3:=r.shared sn (ag.refl _)
    refine⟨p,rfl,⟨ws,bS.of (e2 _ _ hp)⟩,k true _ ax _ _ H1 hq ((f1.trans f2).trans sn) h1 c3 ?_ λ_=>⟨r.pl,ot (.inl (sn _ _ hp)) r3 vI⟩⟩
    rw[cW8 _ r]
    exact ot (.inl (e2 _ _ hp)) (r.shared e2 (ag.refl _)) (Full.refl _)
  | fz ys =>
   obtain rfl:=cX e
   cases tp with
   | @fz p o ws _ _ _ hp r _ =>
    have r3:=r.shared sn (ag.refl _)
    have es:=mD r.pl
    rw[es]at hq
    refine⟨p,rfl,⟨ws,.inl (.inr ⟨o,e2 _ _ hp⟩)⟩,k true _ ax _ _ H1 hq ((f1.trans f2).trans sn) h1 c3 ?_ λ_=>⟨r.pl,ot (.inr ⟨o,sn _ _ hp⟩) r3 vI⟩⟩
    rw[es]
    exact ot (.inr ⟨o,e2 _ _ hp⟩) (r.shared e2 (ag.refl _)) (Full.refl _)
  | az=>cases e
  | bl _=>cases e
  | int _=>cases e
  | str _=>cases e
  | tup _=>cases e
  | obj _ _ _=>cases e
  | bM _=>cases e⟩
noncomputable def ou(t:aY):jX:=λδ Q=>t δ λd ak=>∃xs,iU d=some xs/\Q d.pl xs ak
theorem gb(h:PE X l (lB te)):PI X tg l (lI (ou te)) :=
 vK (R5 h) λσ H Q ⟨B,F,δ,ts,Qd,c,q,k⟩=>⟨B,F,δ,ts,_,c,q,λd ax v F1 H1 hd f1 h1 c1 s=>by
  obtain⟨xs,e,hq⟩:=hd
  have c3:=c1.snap
  have e2:=c1.ext
  have sn:=tK e2
  cases s with
  | @shr p ws ys _ _ hp r _ =>
   obtain rfl:=cX e
   refine⟨p,rfl,⟨ws,bS.of (e2 _ _ hp)⟩,k _ _ ax _ _ H1 hq (f1.trans sn) h1 c3 ?_ λ_=>⟨r.pl,ot (.inl (sn _ _ hp)) (r.shared sn (ag.refl _)) vI⟩⟩
   rw[mD r.pl]
   exact ot (.inl (e2 _ _ hp)) (r.shared e2 (ag.refl _)) (Full.refl _)
  | @own p ws ys _ _ hp r _ =>
   obtain rfl:=cX e
   refine⟨p,rfl,⟨ws,bS.of hp⟩,k _ _ ax _ _ H1 hq (f1.trans sn) h1 c3 (ot (.inl hp) (r.frozen e2) (Full.refl _)) λz=>by simp[fi]at z⟩
  | @fz p o ws ys _ _ hp r _ =>
   obtain rfl:=cX e
   refine⟨p,rfl,⟨ws,.inl (.inr ⟨o,e2 _ _ hp⟩)⟩,k _ _ ax _ _ H1 hq (f1.trans sn) h1 c3 ?_ λ_=>⟨r.pl,ot (.inr ⟨o,sn _ _ hp⟩) (r.shared sn (ag.refl _)) vI⟩⟩
   rw[mD r.pl]
   exact ot (.inr ⟨o,e2 _ _ hp⟩) (r.shared e2 (ag.refl _)) (Full.refl _)
  | az _=>cases e
  | bl _=>cases e
  | int _=>cases e
  | str _=>cases e
  | tup _ _ _=>cases e
  | obj _ _ _ _=>cases e
  | bM _ _=>cases e⟩
theorem zE(f:Nat->Int)(l:List Nat):(l.map λk=>D.int (f k)).map D.sh=l.map λk=>D.int (f k):=by simp[D.sh]
theorem TB(f:Nat->Int)(l:List Nat):(l.map λk=>D.int (f k)).all D.pl=true:=by simp[D.pl]
noncomputable def qK(t:cY):jX:=λδ Q=>t δ λds ak=>∃j:Int,ds=[.int j]/\(-(2 ^ 62)<=j/\j<2 ^ 62)/\Q true ((bg j.toNat).map λ(k:Nat)=>D.int (0+(k:Int))) ak
theorem kA{p:Pos}(hg:Gl X "range")(hm:X.mg "range"=none)(ha:PA X [a] (lA ta))(hs:starEach [a] X.env=[(false,eval a X.env)]:=by rfl):PI X tg (.Call (.Name "range" p) [a] [] pos) (lI (qK ta)) :=
 vK (b07 hg hm ha hs) λσ H Q ⟨B,F,δ,ts,Qd,c,q,k⟩=>⟨B,F,δ,ts,_,c,q,λds ax vs F1 H1 hd f1 h1 c1 s=>by
  obtain⟨j,rfl,⟨b1,b2⟩,hq⟩:=hd
  cases s with
  | int s =>
   cases s
   refine⟨j,rfl,b1,b2,k true _ ax _ _ H1 hq f1 h1 c1 ?_ λ_=>⟨TB _ _,Cu 0 _⟩⟩
   rw[zE]
   exact Cu 0 _⟩
noncomputable def qL(t:cY):jX:=λδ Q=>t δ λds ak=>∃i j:Int,ds=[.int i,.int j]/\(-(2 ^ 62)<=i/\i<2 ^ 62/\-(2 ^ 62)<=j/\j<2 ^ 62)/\Q true ((bg (j-i).toNat).map λ(k:Nat)=>D.int (i+(k:Int))) ak
theorem Cw{p:Pos}(hg:Gl X "range")(hm:X.mg "range"=none)(ha:PA X [a,b] (lA ta))(hs:starEach [a,b] X.env=[(false,eval a X.env),(false,eval b X.env)]:=by rfl)(jt:starEach [b] X.env=[(false,eval b X.env)]:=by rfl) :
  PI X tg (.Call (.Name "range" p) [a,b] [] pos) (lI (qL ta)) :=
 vK (bX0 hg hm ha hs jt) λσ H Q ⟨B,F,δ,ts,Qd,c,q,k⟩=>⟨B,F,δ,ts,_,c,q,λds ax vs F1 H1 hd f1 h1 c1 s=>by
  obtain⟨i,j,rfl,bd,hq⟩:=hd
  cases s with
  | int s =>
   cases s with
   | int s =>
    cases s
    refine⟨i,j,rfl,bd,k true _ ax _ _ H1 hq f1 h1 c1 ?_ λ_=>⟨TB _ _,Cu i _⟩⟩
    rw[zE]
    exact Cu i _⟩
noncomputable def fP(xs:List D)(g:iT)(tb:cZ):cZ:=λEn ax=>∃Iv:Nat->Dl->Prop,Iv 0 ax /\
 (∀i d ak,xs[i]?=some d->Iv i ak->g d ak λbo=>tb { En with nx:=Iv (i+1),ct:=Iv (i+1),bk:=En.nx } bo)/\∀ak,Iv xs.length ak->En.nx ak
theorem fP.mk{xs:List D}{g:iT}{tb:cZ}{En:tL}{δ:Dl}(Iv:Nat->Dl->Prop)(h0:Iv 0 δ)(ht:∀i d ak,xs[i]?=some d->Iv i ak->g d ak λbo=>tb { En with nx:=Iv (i+1),ct:=Iv (i+1),bk:=En.nx } bo)
  (hf:∀ak,Iv xs.length ak->En.nx ak):fP xs g tb En δ:=⟨Iv,h0,ht,hf⟩
noncomputable def qM(ti:jX)(g:iT)(tb:cZ):cZ:=λEn δ=>ti δ λsh xs ax=>sh=true/\fP xs g tb En ax
theorem fQ{ti:jX}{g:iT}{body:List Stmt}(hp:PassesOwn (model X.prog X.w) X.A X.env X.xe)(hc:X.calm=true)(hi:PI X tg iter (lI ti))(hg:PG X tg (lG 0 g))(hb:PSs X body (lS X t))
  (hs:∀x,foldedSetIterable iter X.env x=pure x:=by intro _;rfl):PS X (.For tg iter body [] pos) (lS X (qM ti g t)) :=
 og (cJ9 hp hc hi hg hb hs) λEn σ H ⟨B,F,δ,Dd,c,q,k1,k2,k3,k4⟩=>⟨B,F,δ,[],_,c,q,λsh xs ax J F1 H1 hq f1 h1 c1 _ jd=>by
  obtain⟨zd,Iv,i0,turn,fin⟩:=hq
  obtain⟨bU,jd⟩:=jd zd
  have un:∀{F' H':Hp} {aO:L2.St} {ak:Dl} {ts:List (D × V)},ay ⟨B.H0,F1⟩ F' H' aO ak ts->ay B F' H' aO ak ts:=λc'=>c'.dx8 c1.b2 c1.b3
  refine⟨λi m σ H=>m=xs.length-i/\i<=xs.length/\∃F δ,ay ⟨B.H0,F1⟩ F H σ δ []/\Iv i δ,⟨_,rfl,jM _,F1,ax,c1.rebase,i0⟩,?_⟩
  rintro i m mv H2 ⟨rfl,hi,F2,bo,c2,iv⟩
  have s2:ag F1 H2:=c2.b2.trans c2.ext
  by_cases gr:i<xs.length
  ·refine .inr ⟨jd.go i H2 s2 gr,λaO H'=>∃F δ,ay ⟨B.H0,F1⟩ F H' aO δ []/\Iv (i+1) δ,λaO H' z=>⟨xs.length-(i+1),by omega,rfl,gr,z⟩,λx H3 y=>?_⟩
   obtain⟨d,e,s3,r⟩:=jd.ki i H2 x H3 s2 gr y
   have c3:=(c2.grow s3).pushS (d:=d) (v:=x) ((r.s).mono c2.b2 (ag.refl _)) (by have:=r.pl;simpa using this)
   refine⟨⟨B.H0,F1⟩,F2,bo,[],d,_,c3,turn i d bo e iv,λak aO hq _ _ c4=>?_⟩
   exact⟨⟨B.H0,F1⟩,F2,ak,_,c4,hq,λjY oy F5 H5 h5 c5=>⟨F5,jY,c5,h5⟩,λd5 v5 jY oy F5 H5 h5 c5=>k2 d5 v5 jY oy F5 H5 h5 (un c5),λjY oy F5 H5 h5 c5=>k1 jY oy F5 H5 h5 (un c5),λjY oy F5 H5 h5 c5=>⟨F5,jY,c5,h5⟩,⟨λC jY pins oy F5 H5 s5 a T h5 c5=>k4.2.1 C jY pins oy F5 H5 s5 a T h5 (un c5),λC jY pins oy F5 H5 s5 h' e vs h5 c5=>k4.2.2 C jY pins oy F5 H5 s5 h' e vs h5 (un c5)⟩⟩
  ·have e:i=xs.length:=by omega
   subst e
   exact .inl ⟨jd.stop _ H2 s2 (bN _),k1 bo mv F2 H2 (fin bo iv) (un c2)⟩⟩
end
end L3
namespace L3
open PySem L2 PySem.Spec PyProof.Rows
noncomputable def iV(δ:Dl)(q:Str × Nat):Option D:=(δ[q.2]?).getD none
noncomputable def iz(δ:Dl)(q:Str × Nat):Bool:=match iV δ q with
 | some d=>d.pl
 | none=>true
noncomputable def fR(aJ:List (Str × Nat))(n:Nat)(δ:Dl):Dl:=(aJ.map λq=>(iV δ q).map D.sh)++bH n none
noncomputable def vL(sh:Bool)(xs:List D)(aJ:List (Str × Nat))(n:Nat)(g:iT)(tt:fO)(te:aY)(ax:Dl)(Q:D->Dl->Prop):Prop:=∃(p:D->Bool) (f:D->D),
 (∀x∈xs.map D.sh,g x (fR aJ n ax) λbo=>tt bo λb iS=>b=p x/\(p x=true->te iS λd _=>d=f x)) /\
 ((sh&&aJ.all (iz ax))=true\/∀x∈xs.map D.sh,p x=true->(f x).fr=true)/\xs.length<=sizeLine/\Q (.lst true (((xs.map D.sh).filter p).map f)) ax
noncomputable def mJ(ti:jX)(aJ:List (Str × Nat))(n:Nat)(g:iT)(tt:fO)(te:aY):aY:=λδ Q=>ti δ λsh xs ax=>vL sh xs aJ n g tt te ax Q
noncomputable def kB:fO:=λδ Q=>Q true δ
theorem ch6{sh:Bool}{xs:List D}{aJ:List (Str × Nat)}{n m:Nat}{te:aY}{ax:Dl}{Q:D->Dl->Prop}(f:D->D)(hx:∀x∈xs.map D.sh,te ((fR aJ n ax).set m (some x)) λd _=>d=f x)
  (eY:(sh&&aJ.all (iz ax))=true\/∀x∈xs.map D.sh,(f x).fr=true) (hl:xs.length<=sizeLine) (hq:Q (.lst true ((xs.map D.sh).map f)) ax):vL sh xs aJ n (gN m) kB te ax Q :=
 ⟨λ_=>true,f,λx h=>⟨rfl,λ_=>hx x h⟩,eY.imp id λh x hx _=>h x hx,hl,by rw[c01.mpr (λ_ _=>rfl)];exact hq⟩
section
variable{B:Bs}{F H:Hp}{σ:L2.St}{δ:Dl}{ts:List (D × V)}
theorem TC(c:ay B F H σ δ ts)(n:Nat):∀(aJ:List (Str × Nat)),aJ.all (iz δ)=true->RS F H (fR aJ n δ) (ix aJ n σ) []
 | [],_=>by
  have z:∀n,RS F H (bH n none) (bH n none) []:=λn=>by
   induction n with
   | zero=>exact .nil
   | succ n ih=>exact .az ih
  exact z n
 | q::r,h=>by
  rw[dY,eQ]at h
  have ih:=TC c n r h.2
  show RS F H ((iV δ q).map D.sh::fR r n δ) ((σ[q.2]?).getD none::ix r n σ) []
  cases e:iV δ q with
  | none=>exact .az ih
  | some d =>
   have e2:δ[q.2]?=some (some d):=by
    unfold iV at e
    cases z:δ[q.2]? with
    | none=>rw[z]at e;cases e
    | some o=>rw[z]at e;exact congrArg some e
   have hp:d.pl=true:=by have:=h.1;unfold iz at this;rw[e]at this;exact this
   obtain⟨v,e3,s⟩:=c.look e2
   rw[e3]
   show RS F H (some d.sh::_) (some v::_) []
   rw[D.Ck hp]
   exact .gX (A:=[]) (s.r (by simp[hp])) ih
theorem TF(c:ay B F H σ δ ts)(n:Nat):∀(aJ:List (Str × Nat)),RS H H (fR aJ n δ) (ix aJ n σ) []
 | []=>by
  have z:∀n,RS H H (bH n none) (bH n none) []:=λn=>by
   induction n with
   | zero=>exact .nil
   | succ n ih=>exact .az ih
  exact z n
 | q::r=>by
  have ih:=TF c n r
  show RS H H ((iV δ q).map D.sh::fR r n δ) ((σ[q.2]?).getD none::ix r n σ) []
  cases e:iV δ q with
  | none=>exact .az ih
  | some d =>
   have e2:δ[q.2]?=some (some d):=by
    unfold iV at e
    cases z:δ[q.2]? with
    | none=>rw[z]at e;cases e
    | some o=>rw[z]at e;exact congrArg some e
   obtain⟨v,e3,s⟩:=c.look e2
   rw[e3]
   exact .gX (A:=[]) (s.frozen c.ext) ih
theorem TH{α:Type}(xs:List α)(p:α->Bool)(i:Nat)(x:α)(h:xs[i]?=some x):(xs.take (i+1)).filter p=(xs.take i).filter p++(if p x=true then [x]else []):=by
 rw[mf,h,List.filter_append]
 simp only[Rl]
 by_cases hp:p x=true<;>simp[hp]
end
section
variable{X:Cx}{elt iter tg:Expr}{pos:Pos}{ifs:List Expr}{scope:Scope}{cl:List (Str × Addr)}{ti:jX}{tt:fO}{te:aY}{g:iT}
theorem TJ{B:Bs}{F1 H1:Hp}{σ:L2.St}{ax:Dl}{ts:List (D × V)}{J:It}{Qd:D->Dl->Prop}{Q:VK}{xs:List D}{sh:Bool}{aJ:List (Str × Nat)}{n:Nat}(c1:ay B F1 H1 σ ax ts)
  (tM:JD J H1 (xs.map D.sh)) (zF:sh=true->xs.all D.pl=true/\JD J F1 xs) (p:D->Bool) (f:D->D)
  (hx:∀x∈xs.map D.sh,g x (fR aJ n ax) λbo=>tt bo λb iS=>b=p x/\(p x=true->te iS λd _=>d=f x))
  (eY:(sh&&aJ.all (iz ax))=true\/∀x∈xs.map D.sh,p x=true->(f x).fr=true) (hlen:xs.length<=sizeLine) (hq:Qd (.lst true (((xs.map D.sh).filter p).map f)) ax)
  (k:∀d ak v F' H',Qd d ak->ag F1 F'->ag H1 H'->ay B F' H' σ ak ((d,v)::ts)->Q v H'):Ta J aJ n (lG aJ.length g) (lT tt) (lE te) σ H1 Q:=by
 intro Dp hD
 have cD:ay B F1 (upd H1 Dp (.lst [])) σ ax ((.lst true [],.ref Dp)::ts):=c1.qt hD .nil rfl
 refine⟨λi m acc H2=>m=xs.length-i/\i<=xs.length/\H2 Dp=some (.lst acc)/\ag H1 H2/\acc.length<=i/\∃F2,ag F1 F2 /\
  ay B F2 H2 σ ax ((.lst true ((((xs.map D.sh).take i).filter p).map f),.ref Dp)::ts),⟨xs.length,rfl,jM _,cF,ag.upd hD,bN _,F1,ag.refl _,by simpa using cD⟩,?_⟩
 rintro i m acc H2 ⟨rfl,hi,Hi,zG,hal,F2,mK,c2⟩
 refine⟨Hi,?_⟩
 by_cases gr:i<xs.length
 case neg =>
  have e:i=xs.length:=by omega
  subst e
  refine .inl ⟨tM.stop _ H2 zG (by simp),k _ ax _ F2 H2 ?_ mK zG c2⟩
  have:(xs.map D.sh).take xs.length=xs.map D.sh:=by rw[sO (by simp)]
  rw[this]
  exact hq
 case pos =>
  refine .inr ⟨tM.go i H2 zG (by simpa using gr),λx H3 y=>?_⟩
  obtain⟨d0,e0,Hj,r0⟩:=tM.ki i H2 x H3 zG (by simpa using gr) y
  have TK:d0∈xs.map D.sh:=u9 e0
  have TL:H3 Dp=some (.lst acc):=Hj _ _ Hi
  have c3:=c2.grow Hj
  have Hk:=zG.trans Hj
  refine⟨TL,?_⟩
  have Hl:=hx d0 TK
  have turn:∀Fi,ag Fi H3->RS Fi H3 (fR aJ n ax) (ix aJ n σ) []->S Fi H3 [d0] [x]->d0.pl=true ->
    (∀d v F' H' A,d=f d0->p d0=true->ag H3 H'->ag Fi F'->ag F' H'->(∀a ws,F' a=some (.lst ws)->Fi a=some (.lst ws)\/H3 a=none)->R F' H' [d] [v] A->A.Nodup->(∀a∈A,H3 a=none) ->
     ∃F4,ag F2 F4/\ay B F4 H' σ ax ((d,v)::(.lst true ((((xs.map D.sh).take i).filter p).map f),.ref Dp)::ts)) ->
    lG aJ.length g x (ix aJ n σ) H3 λgS H4 =>
     (gS.length=(ix aJ n σ).length/\∀j,j<aJ.length->gS[j]?=(ix aJ n σ)[j]?)/\lT tt gS H4 λb H5=>H5 Dp=some (.lst acc) /\
     if b=true then lE te gS H5 λy H6=>H6 Dp=some (.lst acc)/\acc.length<sizeLine/\∃m',m'<xs.length-i /\
      (m'=xs.length-(i+1)/\i+1<=xs.length/\upd H6 Dp (.lst (acc++[y])) Dp=some (.lst (acc++[y]))/\ag H1 (upd H6 Dp (.lst (acc++[y])))/\(acc++[y]).length<=i+1/\∃F2,ag F1 F2 /\
       ay B F2 (upd H6 Dp (.lst (acc++[y]))) σ ax ((.lst true ((((xs.map D.sh).take (i+1)).filter p).map f),.ref Dp)::ts))
     else ∃m',m'<xs.length-i/\(m'=xs.length-(i+1)/\i+1<=xs.length/\H5 Dp=some (.lst acc)/\ag H1 H5/\acc.length<=i+1/\∃F2,ag F1 F2 /\
       ay B F2 H5 σ ax ((.lst true ((((xs.map D.sh).take (i+1)).filter p).map f),.ref Dp)::ts)):=by
   intro Fi hFi hRS hS bU back
   have ci:ay ⟨H3,Fi⟩ Fi H3 (ix aJ n σ) (fR aJ n ax) []:=⟨hFi,ag.refl _,ag.refl _,λ_ _ q=>.inl q,[],[],.nil,hRS,by simp,by simp⟩
   refine⟨⟨H3,Fi⟩,Fi,fR aJ n ax,[],d0,_,ci.pushS hS bU,Hl,λak gS hq1 l1 k1 c4=>⟨⟨l1,k1⟩,⟨H3,Fi⟩,Fi,ak,[],_,c4,hq1,λb jY F5 H5 hb f5 h5 c5=>?_⟩⟩
   obtain⟨hb,ht⟩:=hb
   have Cy:H5 Dp=some (.lst acc):=h5 _ _ TL
   refine⟨Cy,?_⟩
   by_cases hp:p d0=true
   ·rw[hb,hp]
    refine qm ⟨⟨H3,Fi⟩,F5,jY,[],_,c5,ht hp,λd δ6 v F6 H6 hd f6 h6 c6=>?_⟩
    have TM:H6 Dp=some (.lst acc):=h6 _ _ Cy
    obtain⟨A,C,r,s,nd,fr⟩:=c6.own
    obtain⟨F4,vM,c7⟩:=back d v F6 H6 A hd hp c6.b1 c6.b2 c6.ext c6.b3 r (jV.mp nd).1 λa ha=>fr a (ig _ ha)
    have c8:=c7.dy3 TM
    refine⟨TM,by omega,xs.length-(i+1),by omega,rfl,gr,cF,?_,by simpa using hal,F4,mK.trans vM,?_⟩
    ·have TN:=Hk.trans c6.b1
     exact⟨λa o q n=>by rw[bu (fA q hD)];exact TN.get a o q n,λa ps q=>by rw[bu (fA q hD)];exact TN.tb a ps q⟩
    ·have e9:(((xs.map D.sh).take (i+1)).filter p).map f=(((xs.map D.sh).take i).filter p).map f++[d]:=by
      rw[TH _ p i d0 e0,hp,hd];simp
     rw[e9]
     exact c8
   ·have TQ:p d0=false:=by simpa using hp
    rw[hb,TQ]
    refine mC ⟨xs.length-(i+1),by omega,rfl,gr,Cy,Hk.trans h5,by omega,F2,mK,?_⟩
    have e9:(((xs.map D.sh).take (i+1)).filter p).map f=(((xs.map D.sh).take i).filter p).map f:=by
     rw[TH _ p i d0 e0,TQ];simp
    rw[e9]
    exact c3.grow h5
  by_cases hA:(sh&&aJ.all (iz ax))=true
  ·rw[eQ]at hA
   obtain⟨bU,jd⟩:=zF hA.1
   have zd:=mD bU
   rw[zd]at e0
   obtain⟨d1,e1,_,r1⟩:=jd.ki i H2 x H3 (mK.trans c2.ext) gr y
   rw[e0]at e1;cases e1
   have dz5:d0.pl=true:=by have:=r1.pl;simpa using this
   refine turn F2 c3.ext (TC c3 n aJ hA.2) ((r1.s).mono mK (ag.refl _)) dz5 λd v F' H' A hd hp hs hf he h3 r nd fr=>⟨F',hf,c3.call hs hf he h3 r nd fr⟩
  ·have dz6:=eY.resolve_left hA
   refine turn H3 (ag.refl _) (TF c3 n aJ) ((r0.shared Hk (ag.refl _)).s) (by have:=r0.pl;simpa using this) λd v F' H' A hd hp hs hf he h3 r nd fr=>⟨F2,ag.refl _,?_⟩
   exact c3.Hb hs (r.Ha (by rw[hd];simp[dz6 d0 TK hp]) (c3.ext.trans hf)) nd fr
theorem dE{Y:Cx}:nZ Y [] (lT kB):=λ_ _ _ H _ I ⟨B,F,δ,ts,Qd,c,q,k⟩=>cw9 _ _ _ H _ I (k true δ F H q (ag.refl _) (ag.refl _) c)
theorem zH{Y:Cx}{c:Expr}(h:PT Y c (lT tt)):nZ Y [c] (lT tt):=cA9 h
end
end L3
namespace L3
open PySem L2 PySem.Spec PyProof.Rows
section
variable{X:Cx}{F H:Hp}{v w:V}
noncomputable def l2(rd:cQ):R2:=λv w H Q=>∃B F σ δ ts x y Qd,ay B F H σ δ ts/\S F H [x] [v]/\S F H [y] [w]/\rd x y Qd/\∀d z H',Qd d->ag H H'->ay B F H' σ δ ((d,z)::ts)->Q z H'
theorem bV.of{f:Value->Value->Sem Value}{rd:cQ}(h:cN X f (l2 rd)):bV X f rd:=⟨_,h,λ{B F H σ δ ts x y v w Q Qd} c sx sy q k=>⟨B,F,σ,δ,ts,x,y,Qd,c,sx,sy,q,k⟩⟩
theorem zI{f:Value->Value->Sem Value}{C:Int->Int->Prop}{g:Int->Int->V}{gd:Int->Int->D}(ho:cN X f (rI C g))(hg:∀i j F H,S F H [gd i j] [g i j])(hp:∀i j,(gd i j).pl=true):bV X f λx y Q=>∃i j,x=.int i/\y=.int j/\C i j/\Q (gd i j) :=
 ⟨_,ho,λ{B F H σ δ ts x y v w Q Qd} c sx sy h k=>by
  obtain⟨i,j,rfl,rfl,hc,q⟩:=h
  cases sx;cases sy
  exact⟨i,j,rfl,rfl,hc,k _ _ _ q (ag.refl _) (c.pushS (hg i j F H) (hp i j))⟩⟩
theorem mL{f:Value->Value->Sem Value}{g:Int->Int->V}{gd:Int->Int->D}(ho:cN X f (jQ g))(hg:∀i j F H,S F H [gd i j] [g i j])(hp:∀i j,(gd i j).pl=true):bV X f λx y Q=>∃i j,x=.int i/\y=.int j/\Q (gd i j) :=
 ⟨_,ho,λ{B F H σ δ ts x y v w Q Qd} c sx sy h k=>by
  obtain⟨i,j,rfl,rfl,q⟩:=h
  cases sx;cases sy
  exact⟨i,j,rfl,rfl,k _ _ _ q (ag.refl _) (c.pushS (hg i j F H) (hp i j))⟩⟩
theorem iW{o:Bool}{xs:List D}(s:S F H [.lst o xs] [v])(e:ag F H):∃p ws,v=.ref p/\H p=some (.lst ws)/\S F H xs ws:=by
 cases s with
 | shr h r _=>exact⟨_,_,rfl,e _ _ h,r.s⟩
 | own h r _=>exact⟨_,_,rfl,h,r⟩
theorem kY{xs:List D}(s:S F H [.tup xs] [v]):∃p ws,v=.ref p/\H p=some (.tup ws)/\S F H xs ws:=by
 cases s with
 | tup h r _=>exact⟨_,_,rfl,h,r⟩
theorem mM{d:D}{xs:List D}(s:S F H [d] [v])(e:ag F H)(h:iU d=some xs):∃p ws,v=.ref p/\Rd H p (.lst ws)/\S F H xs ws:=by
 cases s with
 | shr h' r _=>cases h;exact⟨_,_,rfl,.inl (e _ _ h'),r.s⟩
 | own h' r _=>cases h;exact⟨_,_,rfl,.inl h',r⟩
 | fz h' r _=>cases h;exact⟨_,_,rfl,.inr ⟨_,e _ _ h'⟩,r.s⟩
 | az _=>cases h
 | bl _=>cases h
 | int _=>cases h
 | str _=>cases h
 | tup _ _ _=>cases h
 | obj _ _ _ _=>cases h
 | bM _ _=>cases h
theorem S.rep{xs:List D}{ws:List V}(s:S F H xs ws):∀k:Nat,S F H (bH k xs).flatten (bH k ws).flatten
 | 0=>by simpa using S.nil
 | k+1=>by
  rw[sH,sH,va,va]
  exact s.append (S.rep s k)
noncomputable def oA:cQ:=λx y Q=>match x,y with
 | .int i,.int j=>Q (.int (i+j))
 | .str a,.str b=>a.length+b.length<=sizeLine/\Q (.str (a++b))
 | .lst _ xs,.lst _ ys=>(xs.length+ys.length<=sizeLine/\xs.all D.pl=true/\ys.all D.pl=true)/\Q (.lst true (xs++ys))
 | _,_=>False
theorem cQ8:bV X (binaryOp .Add) λx y Q=>∃o xs o' ys,x=.lst o xs/\y=.lst o' ys/\(xs.length+ys.length<=sizeLine/\xs.all D.pl=true/\ys.all D.pl=true)/\Q (.lst true (xs++ys)) :=
 ⟨_,SE,λ{B F H σ δ ts x y v w Q Qd} c sx sy h k=>by
  obtain⟨o,xs,o',ys,rfl,rfl,⟨hz,h1,h2⟩,q⟩:=h
  obtain⟨p,ws,rfl,e1,s1⟩:=iW sx c.ext
  obtain⟨p',gy,rfl,e2,s2⟩:=iW sy c.ext
  refine⟨p,p',ws,gy,rfl,rfl,e1,e2,by rw[<-s1.length,<- s2.length];exact hz,λr hr=>?_⟩
  exact k _ _ _ q (ag.upd hr) (c.qt hr (s1.append s2) (by simp[h1,h2]))⟩
theorem dz8:bV X (binaryOp .Add) λx y Q=>∃i j,x=.str i/\y=.str j/\i.length+j.length<=sizeLine/\Q (.str (i++j)) :=
 ⟨_,bU2,λ{B F H σ δ ts x y v w Q Qd} c sx sy h k=>by
  obtain⟨i,j,rfl,rfl,hz,q⟩:=h
  cases sx;cases sy
  exact⟨i,j,rfl,rfl,hz,k _ _ _ q (ag.refl _) (c.pushS (.str .nil) rfl)⟩⟩
theorem dy:bV X (binaryOp .Add) oA:=((mL (gd:=λi j=>.int (i+j)) cG2 (λ_ _ _ _=>.int .nil) λ_ _=>rfl).or (dz8.or cQ8)).imp λx y Q h=>by
 unfold oA at h
 split at h
 ·exact .inl ⟨_,_,rfl,rfl,h⟩
 ·exact .inr (.inl ⟨_,_,rfl,rfl,h.1,h.2⟩)
 ·exact .inr (.inr ⟨_,_,_,_,rfl,rfl,h.1,h.2⟩)
 ·exact h.elim
noncomputable def iI(C:Int->Int->Prop)(g:Int->Int->D):cQ:=λx y Q=>match x,y with
 | .int i,.int j=>C i j/\Q (g i j)
 | _,_=>False
noncomputable def gz(g:Int->Int->D):cQ:=λx y Q=>match x,y with
 | .int i,.int j=>Q (g i j)
 | _,_=>False
theorem Cz{f:Value->Value->Sem Value}{C:Int->Int->Prop}{g:Int->Int->D}(h:bV X f λx y Q=>∃i j,x=.int i/\y=.int j/\C i j/\Q (g i j)):bV X f (iI C g):=h.imp λx y Q h=>by
 unfold iI at h
 split at h
 ·exact⟨_,_,rfl,rfl,h.1,h.2⟩
 ·exact h.elim
theorem oB{f:Value->Value->Sem Value}{g:Int->Int->D}(h:bV X f λx y Q=>∃i j,x=.int i/\y=.int j/\Q (g i j)):bV X f (gz g):=h.imp λx y Q h=>by
 unfold gz at h
 split at h
 ·exact⟨_,_,rfl,rfl,h⟩
 ·exact h.elim
noncomputable def qN:cQ:=gz λi j=>.int (i-j)
theorem gY:bV X (binaryOp .Sub) qN:=oB (mL Gv (λ_ _ _ _=>.int .nil) λ_ _=>rfl)
noncomputable def Hm(_ j:Int):Prop:=0<j/\j.natAbs.log2<9000
theorem iX{i j:Int}(h1:0<j)(h2:j<1073741824):Hm i j:=⟨h1,by
 have h:j.natAbs<2 ^ 30:=by omega
 have:=(Nat.log2_lt (show j.natAbs≠0 by omega)).mpr h
 omega⟩
theorem ce4:cN X (binaryOp .FloorDiv) (rI Hm λi j=>.int (i/j)):=y7 λi j _ _ _ _ _ hc q =>
 floordiv_int (show j≠0 by have:=hc.1;omega) (by rw[cZ1 i (by have:=hc.1;omega)];exact q) (.inl (PyProof.noPylong_of_log2 hc.2))
noncomputable def qO:cQ:=iI Hm λi j=>.int (i/j)
theorem iY:bV X (binaryOp .FloorDiv) qO:=Cz (zI ce4 (λ_ _ _ _=>.int .nil) λ_ _=>rfl)
noncomputable def qP:cQ:=iI (λ_ j=>0<j) λi j=>.int (i%j)
theorem dk:bV X (binaryOp .Mod) qP:=Cz (zI cH0 (λ_ _ _ _=>.int .nil) λ_ _=>rfl)
noncomputable def qQ:cQ:=iI S8 λi j=>.int (i*2 ^ j.toNat)
theorem vN:bV X (binaryOp .LShift) qQ:=Cz (zI S9 (λ_ _ _ _=>.int .nil) λ_ _=>rfl)
noncomputable def qR:cQ:=iI (λ_ j=>0<=j) λi j=>.int (i/2 ^ j.toNat)
theorem TR:bV X (binaryOp .RShift) qR:=Cz (zI cK7 (λ_ _ _ _=>.int .nil) λ_ _=>rfl)
noncomputable def qS:cQ:=gz λi j=>.int (pW i j)
theorem TU:bV X (binaryOp .BitAnd) qS:=oB (mL cK5 (λ_ _ _ _=>.int .nil) λ_ _=>rfl)
noncomputable def qT:cQ:=gz λi j=>.int (pX i j)
theorem zJ:bV X (binaryOp .BitXor) qT:=oB (mL cH7 (λ_ _ _ _=>.int .nil) λ_ _=>rfl)
theorem ci1:cN X (binaryOp .Mult) (rI IntMulOk λi j=>.int (i*j)):=y7 λ_ _ _ _ _ _ _ hc q=>mul_int q hc
noncomputable def oE:cQ:=λx y Q=>match x,y with
 | .int i,.int j=>IntMulOk i j/\Q (.int (i*j))
 | .lst _ xs,.int k=>(-(2 ^ 63)<=k/\k<2 ^ 63/\xs.length*k.toNat<=sizeLine/\xs.all D.pl=true)/\Q (.lst true (bH k.toNat xs).flatten)
 | _,_=>False
theorem cS8:bV X (binaryOp .Mult) λx y Q=>∃o xs k,x=.lst o xs/\y=.int k/\(-(2 ^ 63)<=k/\k<2 ^ 63/\xs.length*k.toNat<=sizeLine/\xs.all D.pl=true)/\Q (.lst true (bH k.toNat xs).flatten) :=
 ⟨_,cL2,λ{B F H σ δ ts x y v w Q Qd} c sx sy h k=>by
  obtain⟨o,xs,n,rfl,rfl,⟨b1,b2,hz,h1⟩,q⟩:=h
  obtain⟨p,ws,rfl,e1,s1⟩:=iW sx c.ext
  cases sy
  refine⟨p,n,ws,rfl,rfl,e1,b1,b2,by rw[<-s1.length];exact hz,λr hr=>?_⟩
  refine k _ _ _ q (ag.upd hr) (c.qt hr (s1.rep _) ?_)
  rw[dw]
  intro x hx
  obtain⟨l,hl,tN⟩:=List.mem_flatten.mp hx
  rw[(Fz.mp hl).2]at tN
  exact dw.mp h1 x tN⟩
theorem gA:bV X (binaryOp .Mult) oE:=((zI (gd:=λi j=>.int (i*j)) ci1 (λ_ _ _ _=>.int .nil) λ_ _=>rfl).or cS8).imp λx y Q h=>by
 unfold oE at h
 split at h
 ·exact .inl ⟨_,_,rfl,rfl,h.1,h.2⟩
 ·exact .inr ⟨_,_,_,rfl,rfl,h.1,h.2⟩
 ·exact h.elim
theorem cG8:bV X (inplaceOp .Add) (gz λi j=>.int (i+j)):=oB (mL cz4 (λ_ _ _ _=>.int .nil) λ_ _=>rfl)
theorem CA:bV X (inplaceOp .BitXor) (gz λi j=>.int (pX i j)):=oB (mL cx6 (λ_ _ _ _=>.int .nil) λ_ _=>rfl)
noncomputable def qU:cQ:=gz λi j=>.bl (decide (i<j))
noncomputable def qV:cQ:=gz λi j=>.bl (decide (i<=j))
noncomputable def qW:cQ:=gz λi j=>.bl (decide (j<i))
noncomputable def qX:cQ:=gz λi j=>.bl (decide (j<=i))
theorem CB:bV X (compareOp .Lt) qU:=oB (mL cQ0 (λ_ _ _ _=>.bl .nil) λ_ _=>rfl)
theorem zK:bV X (compareOp .LtE) qV:=oB (mL cP3 (λ_ _ _ _=>.bl .nil) λ_ _=>rfl)
theorem Ho:bV X (compareOp .Gt) qW:=oB (mL cP8 (λ_ _ _ _=>.bl .nil) λ_ _=>rfl)
theorem TV:bV X (compareOp .GtE) qX:=oB (mL cO1 (λ_ _ _ _=>.bl .nil) λ_ _=>rfl)
noncomputable def kZ:D->Bool
 | .az=>true
 | _=>false
noncomputable def oG:cQ:=λx y Q=>match y with
 | .az=>Q (.bl (kZ x))
 | _=>False
noncomputable def oH:cQ:=λx y Q=>match y with
 | .az=>Q (.bl (!kZ x))
 | _=>False
theorem TX{d:D}(s:S F H [d] [v]):decide (v=.az)=kZ d:=by cases s<;>simp[kZ]
theorem qY:bV X (compareOp .Is) oG:=⟨_,cJ1,λ{B F H σ δ ts x y v w Q Qd} c sx sy h k=>by
 unfold oG at h
 split at h
 ·cases sy
  refine⟨rfl,?_⟩
  rw[TX sx]
  exact k _ _ _ h (ag.refl _) (c.pushS (.bl .nil) rfl)
 ·exact h.elim⟩
theorem Hq:bV X (compareOp .IsNot) oH:=⟨_,cz1,λ{B F H σ δ ts x y v w Q Qd} c sx sy h k=>by
 unfold oH at h
 split at h
 ·cases sy
  refine⟨rfl,?_⟩
  rw[TX sx]
  exact k _ _ _ h (ag.refl _) (c.pushS (.bl .nil) rfl)
 ·exact h.elim⟩
noncomputable def bP:D->D->Bool
 | .az,.az=>true
 | .bl a,.bl b=>a==b
 | .bl a,.int b=>(if a then 1 else 0)==b
 | .int a,.bl b=>a==(if b then 1 else 0)
 | .int a,.int b=>a==b
 | .str a,.str b=>a==b
 | .lst _ xs,.lst _ ys=>gg xs ys
 | .tup xs,.tup ys=>gg xs ys
 | _,_=>false
where gg:List D->List D->Bool
 | [],[]=>true
 | x::xs,y::ys=>bP x y&&gg xs ys
 | _,_=>false
noncomputable def dS:Nat->D->Bool
 | _,.az=>true
 | _,.bl _=>true
 | _,.int _=>true
 | _,.str _=>true
 | n+1,.lst _ xs=>xs.all (dS n)
 | n+1,.tup xs=>xs.all (dS n)
 | _,_=>false
theorem Hr:∀(xs ys:List D),xs.length=ys.length->bP.gg xs ys=(bg xs.length).all λj=>bP (xs.getD j .az) (ys.getD j .az)
 | [],[],_=>rfl
 | x::xs,y::ys,h=>by
  rw[gK,c02,dY,mh]
  show(bP x y&&bP.gg xs ys)=_
  rw[Hr xs ys (by simpa using h)]
  rfl
theorem Hs:∀(xs ys:List D),xs.length≠ys.length->bP.gg xs ys=false
 | [],[],h=>absurd rfl h
 | [],_::_,_=>rfl
 | _::_,[],_=>rfl
 | x::xs,y::ys,h=>by
  show(bP x y&&bP.gg xs ys)=false
  rw[Hs xs ys (by simpa using h),Bool.and_false]
noncomputable def ofV:V->D
 | .bl b=>.bl b
 | .int i=>.int i
 | .str z=>.str z
 | _=>.az
theorem zL{x:D}{v:V}(h:dS 0 x=true)(s:S F H [x] [v]):x=ofV v:=by
 cases s with
 | az _=>rfl
 | bl _=>rfl
 | int _=>rfl
 | str _=>rfl
 | _=>cases h
theorem TY{x:D}(h:dS 0 x=true):bP x x=true:=by
 cases x with
 | az=>rfl
 | bl b=>exact beq_self_eq_true b
 | int i=>exact beq_self_eq_true i
 | str z=>exact beq_self_eq_true z
 | _=>cases h
theorem qZ{n:Nat}{x:D}(h:dS (n+1) x=true):dS 0 x=true\/(∃o xs,x=.lst o xs/\xs.all (dS n)=true)\/∃xs,x=.tup xs/\xs.all (dS n)=true:=by
 cases x with
 | lst o xs=>exact .inr (.inl ⟨o,xs,rfl,h⟩)
 | tup xs=>exact .inr (.inr ⟨xs,rfl,h⟩)
 | obj _ _ _=>exact absurd h fW
 | fz _=>exact absurd h fW
 | bM _=>exact absurd h fW
 | _=>exact .inl rfl
theorem CC{x:D}{p:Addr}(h:dS 0 x=true)(s:S F H [x] [.ref p]):False:=by
 rw[zL h s]at s
 cases s
theorem TZ:∀(n:Nat) {xs ys:List D} {vs:List V},xs.all (dS n)=true->ys.all (dS n)=true->S F H xs vs->S F H ys vs->ag F H->bP.gg xs ys=true:=by
 intro n xs
 induction n generalizing xs with
 | zero =>
  induction xs with
  | nil=>intro ys vs _ _ s1 s2 _;cases s1;cases s2;rfl
  | cons x xs ih =>
   intro ys vs h1 h2 s1 s2 e
   obtain⟨v,cU,rfl,q1,r1⟩:=s1.dM
   cases ys with
   | nil=>cases s2
   | cons y ys =>
    obtain⟨v',Ts,ee,q2,r2⟩:=s2.dM
    obtain⟨rfl,rfl⟩:=nH ee
    rw[dY,eQ]at h1 h2
    show(bP x y&&bP.gg xs ys)=true
    rw[ih h1.2 h2.2 r1 r2 e,kM,zL h2.1 q2,<- zL h1.1 q1]
    exact TY h1.1
 | succ n T1 =>
  induction xs with
  | nil=>intro ys vs _ _ s1 s2 _;cases s1;cases s2;rfl
  | cons x xs ih =>
   intro ys vs h1 h2 s1 s2 e
   obtain⟨v,cU,rfl,q1,r1⟩:=s1.dM
   cases ys with
   | nil=>cases s2
   | cons y ys =>
    obtain⟨v',Ts,ee,q2,r2⟩:=s2.dM
    obtain⟨rfl,rfl⟩:=nH ee
    rw[dY,eQ]at h1 h2
    show(bP x y&&bP.gg xs ys)=true
    rw[ih h1.2 h2.2 r1 r2 e,kM]
    have h1:=h1.1
    have h2:=h2.1
    clear ih r1 r2 s1 s2
    rcases qZ h1 with k1 | ⟨o1,a1,rfl,k1⟩ | ⟨a1,rfl,k1⟩
    ·rcases qZ h2 with k2 | ⟨o2,a2,rfl,k2⟩ | ⟨a2,rfl,k2⟩
     ·rw[zL k2 q2,<- zL k1 q1]
      exact TY k1
     ·obtain⟨p,ws,rfl,_⟩:=iW q2 e
      exact(CC k1 q1).elim
     ·obtain⟨p,ws,rfl,_⟩:=kY q2
      exact(CC k1 q1).elim
    ·obtain⟨p,ws,rfl,e1,t1⟩:=iW q1 e
     rcases qZ h2 with k2 | ⟨o2,a2,rfl,k2⟩ | ⟨a2,rfl,k2⟩
     ·exact(CC k2 q2).elim
     ·obtain⟨p2,Ht,ev,e2,t2⟩:=iW q2 e
      cases ev
      cases e1.symm.trans e2
      exact T1 k1 k2 t1 t2 e
     ·obtain⟨p2,Ht,ev,e2,t2⟩:=kY q2
      cases ev
      cases e1.symm.trans e2
    ·obtain⟨p,ws,rfl,e1,t1⟩:=kY q1
     rcases qZ h2 with k2 | ⟨o2,a2,rfl,k2⟩ | ⟨a2,rfl,k2⟩
     ·exact(CC k2 q2).elim
     ·obtain⟨p2,Ht,ev,e2,t2⟩:=iW q2 e
      cases ev
      cases e1.symm.trans e2
     ·obtain⟨p2,Ht,ev,e2,t2⟩:=kY q2
      cases ev
      cases e1.symm.trans e2
      exact T1 k1 k2 t1 t2 e
end
end L3
namespace L3
open PySem L2 PySem.Spec PyProof.Rows
structure T2(A:Around)(s:Shared)(u w:Value)(b:Bool):Prop where
 rc:SeqAt.RcAt A s u w b
 ne:SeqAt.RcNeAt A s u w (!b)
 eq:Fj A s u w b
section
variable{X:Cx}{F H:Hp}{v w:V}
theorem T3{xs:List V}{us:List Value}(r:Vals xs us){j:Nat}(h:j<us.toArray.size):∃x,xs[j]?=some x/\RelV x us.toArray[j]:=by
 have l:=r.length
 have hj:j<xs.length:=by rw[l];simpa using h
 obtain⟨u,e,q⟩:=r.get (aP hj)
 obtain⟨_,z⟩:=j9.mp e
 refine⟨_,aP hj,?_⟩
 have:us.toArray[j]=u:=by simpa using z
 rw[this];exact q
theorem T4{xs:List D}{j:Nat}{d:D}(h:xs[j]?=some d):xs.getD j .az=d:=by rw[aQ,h];rfl
theorem vO{x:D}{v:V}{u:Value}(h:dS 0 x=true)(s:S F H [x] [v])(r:RelV v u):(x=.az/\u=.none)\/(∃b,x=.bl b/\u=.bool b)\/(∃i t,x=.int i/\u=.int i t)\/∃z t,x=.str z/\u=.str z t:=by
 cases s with
 | az _=>cases r;exact .inl ⟨rfl,rfl⟩
 | bl _=>cases r;exact .inr (.inl ⟨_,rfl,rfl⟩)
 | int _=>obtain⟨t,rfl⟩:=r;exact .inr (.inr (.inl ⟨_,t,rfl,rfl⟩))
 | str _=>obtain⟨t,rfl⟩:=r;exact .inr (.inr (.inr ⟨_,t,rfl,rfl⟩))
 | _=>exact absurd h fW
theorem T5{x y:D}{u u':Value}{A:Around}{s:Shared}(h1:(x=.az/\u=.none)\/(∃b,x=.bl b/\u=.bool b)\/(∃i t,x=.int i/\u=.int i t)\/∃z t,x=.str z/\u=.str z t)(h2:(y=.az/\u'=.none)\/(∃b,y=.bl b/\u'=.bool b)\/(∃i t,y=.int i/\u'=.int i t)\/∃z t,y=.str z/\u'=.str z t):T2 A s u u' (bP x y):=by
 rcases h1 with⟨rfl,rfl⟩ | ⟨a,rfl,rfl⟩ | ⟨a,t,rfl,rfl⟩ | ⟨a,t,rfl,rfl⟩<;>rcases h2 with⟨rfl,rfl⟩ | ⟨b,rfl,rfl⟩ | ⟨b,t',rfl,rfl⟩ | ⟨b,t',rfl,rfl⟩
 ·exact⟨.none_none,.none_none,.same _⟩
 ·exact⟨.none_bool _,.none_bool _,.none_bool _⟩
 ·exact⟨.none_int _ _,.none_int _ _,.none_int _ _⟩
 ·exact⟨.none_str _ _,.none_str _ _,.none_str _ _⟩
 ·exact⟨.bool_none _,.bool_none _,.bool_none _⟩
 ·exact⟨.bool_bool _ _,.bool_bool _ _,.bool_bool _ _⟩
 ·exact⟨.bool_int _ _ _,.bool_int _ _ _,.bool_int _ _ _⟩
 ·exact⟨.bool_str _ _ _,.bool_str _ _ _,.bool_str _ _ _⟩
 ·exact⟨.int_none _ _,.int_none _ _,.int_none _ _⟩
 ·exact⟨.int_bool _ _ _,.int_bool _ _ _,.int_bool _ _ _⟩
 ·exact⟨.int_int _ _ _ _,.int_int _ _ _ _,.int_int _ _ _ _⟩
 ·exact⟨.int_str _ _ _ _,.int_str _ _ _ _,.int_str _ _ _ _⟩
 ·exact⟨.str_none _ _,.str_none _ _,.str_none _ _⟩
 ·exact⟨.str_bool _ _ _,.str_bool _ _ _,.str_bool _ _ _⟩
 ·exact⟨.str_int _ _ _ _,.str_int _ _ _ _,.str_int _ _ _ _⟩
 ·exact⟨.str_str _ _ _ _,.str_str _ _ _ _,.str_str _ _ _ _⟩
theorem T6{pins:List (Addr × Obj)}{σ:L2.St}{s:Shared}(I:Inv X pins σ H s)(e:ag F H):∀(n:Nat) (x y:D) (v w:V) (u u':Value) (A:Around),dS n x=true->dS n y=true->S F H [x] [v]->S F H [y] [w]->RelV v u->RelV w u' ->
  A.units+n<cLine->T2 A s u u' (bP x y):=by
 intro n
 induction n with
 | zero =>
  intro x y v w u u' A hx hy sx sy rv gq hu
  exact T5 (vO hx sx rv) (vO hy sy gq)
 | succ n ih =>
  intro x y v w u u' A hx hy sx sy rv gq hu
  have bI:A.units<cLine:=nG (Nat.le_add_right ..) hu
  have T7:A.in1.units+n<cLine:=by show A.units+1+n<cLine;rw[FA,BC 1];exact hu
  have items:∀{xs ys:List D} {vs ws:List V} {us vP:List Value},xs.all (dS n)=true->ys.all (dS n)=true->S F H xs vs->S F H ys ws->Vals vs us->Vals ws vP ->
    ∀j (h1:j<us.toArray.size) (h2:j<vP.toArray.size),Fj A.in1 s us.toArray[j] vP.toArray[j] (bP (xs.getD j .az) (ys.getD j .az)):=by
   intro xs ys vs ws us vP hx hy sx sy r1 r2 j h1 h2
   obtain⟨a,e1,q1⟩:=T3 r1 h1
   obtain⟨b,e2,q2⟩:=T3 r2 h2
   obtain⟨d1,g1,t1⟩:=sx.get' e1
   obtain⟨d2,g2,t2⟩:=sy.get' e2
   rw[T4 g1,T4 g2]
   exact(ih d1 d2 a b _ _ A.in1 (dw.mp hx d1 (u9 g1)) (dw.mp hy d2 (u9 g2)) t1 t2 q1 q2 T7).eq
  clear ih hu T7
  rcases qZ hx with k1 | ⟨o,xs,rfl,k1⟩ | ⟨xs,rfl,k1⟩
  ·have f:=vO k1 sx rv
   rcases qZ hy with k2 | ⟨o',ys,rfl,k2⟩ | ⟨ys,rfl,k2⟩
   ·exact T5 f (vO k2 sy gq)
   ·obtain⟨p',gy,rfl,e2,t2⟩:=iW sy e
    cases gq
    obtain⟨lh,r2,p2,z2⟩:=I.list (bS.of (K:=X.K) e2)
    have p2:=p2.isList
    rcases f with⟨rfl,rfl⟩ | ⟨a,rfl,rfl⟩ | ⟨a,t,rfl,rfl⟩ | ⟨a,t,rfl,rfl⟩
    ·exact⟨.none_list p2 bI,.none_list p2 bI,.none_list p2 bI⟩
    ·exact⟨.bool_list _ p2 bI,.bool_list _ p2 bI,.bool_list _ p2 bI⟩
    ·exact⟨.int_list _ _ p2 bI,.int_list _ _ p2 bI,.int_list _ _ p2 bI⟩
    ·exact⟨.str_list _ _ p2 bI,.str_list _ _ p2 bI,.str_list _ _ p2 bI⟩
   ·obtain⟨p',gy,rfl,e2,t2⟩:=kY sy
    cases gq
    obtain⟨lh,r2,p2,z2⟩:=I.tuple (ik.of (K:=X.K) e2)
    rcases f with⟨rfl,rfl⟩ | ⟨a,rfl,rfl⟩ | ⟨a,t,rfl,rfl⟩ | ⟨a,t,rfl,rfl⟩
    ·exact⟨.none_tuple p2 bI,.none_tuple p2 bI,.none_tuple p2 bI⟩
    ·exact⟨.bool_tuple _ p2 bI,.bool_tuple _ p2 bI,.bool_tuple _ p2 bI⟩
    ·exact⟨.int_tuple _ _ p2 bI,.int_tuple _ _ p2 bI,.int_tuple _ _ p2 bI⟩
    ·exact⟨.str_tuple _ _ p2 bI,.str_tuple _ _ p2 bI,.str_tuple _ _ p2 bI⟩
  ·obtain⟨p,ws,rfl,e1,t1⟩:=iW sx e
   cases rv
   obtain⟨its,r1,p1,z1⟩:=I.list (bS.of (K:=X.K) e1)
   have p1:=p1.isList
   rcases qZ hy with k2 | ⟨o',ys,rfl,k2⟩ | ⟨ys,rfl,k2⟩
   ·rcases vO k2 sy gq with⟨rfl,rfl⟩ | ⟨a,rfl,rfl⟩ | ⟨a,t,rfl,rfl⟩ | ⟨a,t,rfl,rfl⟩
    ·exact⟨.list_none p1 bI,.list_none p1 bI,.list_none p1 bI⟩
    ·exact⟨.list_bool _ p1 bI,.list_bool _ p1 bI,.list_bool _ p1 bI⟩
    ·exact⟨.list_int _ _ p1 bI,.list_int _ _ p1 bI,.list_int _ _ p1 bI⟩
    ·exact⟨.list_str _ _ p1 bI,.list_str _ _ p1 bI,.list_str _ _ p1 bI⟩
   ·obtain⟨p',gy,rfl,e2,t2⟩:=iW sy e
    cases gq
    obtain⟨lh,r2,p2,z2⟩:=I.list (bS.of (K:=X.K) e2)
    have p2:=p2.isList
    have tO:xs.length=its.length:=t1.length.trans r1.length
    have vQ:ys.length=lh.length:=t2.length.trans r2.length
    by_cases hl:xs.length=ys.length
    ·have mw:its.toArray.size=lh.toArray.size:=by rw[dX,dX,<- tO,<- vQ];exact hl
     have ev:(bg its.toArray.size).all (λj=>bP (xs.getD j .az) (ys.getD j .az))=bP (.lst o xs) (.lst o' ys):=by
      show _=bP.gg xs ys
      rw[Hr xs ys hl,dX,<- tO]
     have a:=SeqAt.RcAt.lists (e:=λj=>bP (xs.getD j .az) (ys.getD j .az)) p1 p2 mw bI (items k1 k2 t1 t2 r1 r2)
     have b:=SeqAt.RcNeAt.lists (e:=λj=>bP (xs.getD j .az) (ys.getD j .az)) p1 p2 mw bI (items k1 k2 t1 t2 r1 r2)
     rw[ev]at a b
     refine⟨a,b,?_⟩
     by_cases lj:p=p'
     ·subst lj
      cases e1.symm.trans e2
      rw[show bP (.lst o xs) (.lst o' ys)=true from TZ n k1 k2 t1 t2 e]
      exact .same _
     ·exact .of_refs lj a
    ·have mw:(its.toArray.size != lh.toArray.size)=true:=bne_iff_ne.mpr (by rw[dX,dX,<- tO,<- vQ];exact hl)
     rw[show bP (.lst o xs) (.lst o' ys)=false from Hs xs ys hl]
     have a:=SeqAt.RcAt.lists_lengths p1 p2 mw bI
     refine⟨a,SeqAt.RcNeAt.lists_lengths p1 p2 mw bI,.of_refs (λlj=>?_) a⟩
     subst lj
     cases e1.symm.trans e2
     exact hl (t1.length.trans t2.length.symm)
   ·obtain⟨p',gy,rfl,e2,t2⟩:=kY sy
    cases gq
    obtain⟨lh,r2,p2,z2⟩:=I.tuple (ik.of (K:=X.K) e2)
    exact⟨.list_tuple p1 p2 bI,.list_tuple p1 p2 bI,.list_tuple p1 p2 bI⟩
  ·obtain⟨p,ws,rfl,e1,t1⟩:=kY sx
   cases rv
   obtain⟨its,r1,p1,z1⟩:=I.tuple (ik.of (K:=X.K) e1)
   rcases qZ hy with k2 | ⟨o',ys,rfl,k2⟩ | ⟨ys,rfl,k2⟩
   ·rcases vO k2 sy gq with⟨rfl,rfl⟩ | ⟨a,rfl,rfl⟩ | ⟨a,t,rfl,rfl⟩ | ⟨a,t,rfl,rfl⟩
    ·exact⟨.tuple_none p1 bI,.tuple_none p1 bI,.tuple_none p1 bI⟩
    ·exact⟨.tuple_bool _ p1 bI,.tuple_bool _ p1 bI,.tuple_bool _ p1 bI⟩
    ·exact⟨.tuple_int _ _ p1 bI,.tuple_int _ _ p1 bI,.tuple_int _ _ p1 bI⟩
    ·exact⟨.tuple_str _ _ p1 bI,.tuple_str _ _ p1 bI,.tuple_str _ _ p1 bI⟩
   ·obtain⟨p',gy,rfl,e2,t2⟩:=iW sy e
    cases gq
    obtain⟨lh,r2,p2,z2⟩:=I.list (bS.of (K:=X.K) e2)
    have p2:=p2.isList
    exact⟨.tuple_list p1 p2 bI,.tuple_list p1 p2 bI,.tuple_list p1 p2 bI⟩
   ·obtain⟨p',gy,rfl,e2,t2⟩:=kY sy
    cases gq
    obtain⟨lh,r2,p2,z2⟩:=I.tuple (ik.of (K:=X.K) e2)
    have tO:xs.length=its.length:=t1.length.trans r1.length
    have vQ:ys.length=lh.length:=t2.length.trans r2.length
    have ev:((bg (min its.toArray.size lh.toArray.size)).all (λj=>bP (xs.getD j .az) (ys.getD j .az))&&its.toArray.size==lh.toArray.size)=bP (.tup xs) (.tup ys):=by
     show _=bP.gg xs ys
     rw[dX,dX,<- tO,<- vQ]
     by_cases hl:xs.length=ys.length
     ·rw[Hr xs ys hl,<- hl,sP,beq_self_eq_true,kM]
     ·rw[Hs xs ys hl,beq_false_of_ne hl,Bool.and_false]
    have a:=SeqAt.RcAt.tuples (e:=λj=>bP (xs.getD j .az) (ys.getD j .az)) p1 p2 bI (items k1 k2 t1 t2 r1 r2)
    have b:=SeqAt.RcNeAt.tuples (e:=λj=>bP (xs.getD j .az) (ys.getD j .az)) p1 p2 bI (items k1 k2 t1 t2 r1 r2)
    rw[ev]at a b
    refine⟨a,b,?_⟩
    by_cases lj:p=p'
    ·subst lj
     cases e1.symm.trans e2
     rw[show bP (.tup xs) (.tup ys)=true from TZ n k1 k2 t1 t2 e]
     exact .same _
    ·exact .of_refs lj a
noncomputable def q0:cQ:=λx y Q=>(dS 6 x=true/\dS 6 y=true)/\Q (.bl (bP x y))
noncomputable def q5:cQ:=λx y Q=>(dS 6 x=true/\dS 6 y=true)/\Q (.bl (!bP x y))
theorem fS(hu:X.A.units+6<cLine):bV X (compareOp .Eq) q0:=bV.of λpins s σ H v w u u' Q I rv gq zz=>by
 obtain⟨B,F,aO,δ,ts,x,y,Qd,c,sx,sy,⟨⟨hx,hy⟩,q⟩,k⟩:=zz
 exact(T6 I c.ext 6 x y v w u u' X.A hx hy sx sy rv gq hu).rc _ _ _ _ ⟨.bl _,H,I,rfl,k _ _ _ q (ag.refl _) (c.pushS (.bl .nil) rfl)⟩
theorem mO(hu:X.A.units+6<cLine):bV X (compareOp .NotEq) q5:=bV.of λpins s σ H v w u u' Q I rv gq zz=>by
 obtain⟨B,F,aO,δ,ts,x,y,Qd,c,sx,sy,⟨⟨hx,hy⟩,q⟩,k⟩:=zz
 exact(T6 I c.ext 6 x y v w u u' X.A hx hy sx sy rv gq hu).ne _ _ _ _ ⟨.bl _,H,I,rfl,k _ _ _ q (ag.refl _) (c.pushS (.bl .nil) rfl)⟩
end
end L3
namespace L3
open PySem L2 PySem.Spec PyProof.Rows
section
variable{X:Cx}{F H:Hp}{v w:V}{e a b c o:Expr}{es:List Expr}{pos p p2 apos cB:Pos}{t ta tb tc te:aY}{tr:cY}{x:Str}
theorem bX1{r r':R2}{rd zM:cQ}(hl:Co r rd)(qi:Co r' zM):∀σ H Q,lE (oj rd zM ta tb tc) σ H Q->Sb r r' (lB ta) (lB tb) (lB tc) σ H Q:=λσ H Q ⟨B,F,δ,ts,Qd,c,q,k⟩ =>
 ⟨B,F,δ,ts,_,c,q,λx ax v F1 H1 q1 f1 h1 c1 s1=>⟨B,F1,ax,ts,_,c1,q1,λy bo w F2 H2 q2 f2 h2 c2 s2=>by
  refine hl c2 (s1.mono f2 h2) s2 q2 λd z H' hd hs c3=>?_
  obtain⟨b,rfl,qb⟩:=hd
  have st:=c3.top
  cases st with
  | bl _ =>
   refine⟨b,rfl,?_⟩
   cases b with
   | true =>
    refine qm ⟨B,F2,bo,ts,_,c3.pop,by simpa using qb,λz iS w3 F3 H3 q3 f3 h3 c4 s3=>?_⟩
    exact qi c4 (s2.mono f3 (hs.trans h3)) s3 q3 λd z H' hd hs' c5=>k d iS z F3 H' hd ((f1.trans f2).trans f3) ((((h1.trans h2).trans hs).trans h3).trans hs') c5
   | false=>exact mC (k _ bo _ F2 H' (by simpa using qb) (f1.trans f2) ((h1.trans h2).trans hs) (c3.pop.pushS (.bl .nil) rfl))⟩⟩
theorem Hu{op s9:CmpOp}{rd zM:cQ}(ho:bV X (compareOp op) rd)(kQ:bV X (compareOp s9) zM)(ha:PE X a (lB ta))(hb:PE X b (lB tb))(hc:PE X c (lB tc))
  (hm:lastMarks [op,s9] [b,c]=false:=by with_unfolding_all rfl):PE X (.Compare a [op,s9] [b,c] pos) (lE (oj rd zM ta tb tc)):=by
 obtain⟨r,h1,h2⟩:=ho
 obtain⟨r',kq,jR⟩:=kQ
 exact dN (cj0 h1 kq ha hb hc hm) (bX1 h2 jR)
noncomputable def q8(t:aY):aY:=λδ Q=>t δ λd ak=>match d with
 | .int i=>Q (.int (-i)) ak
 | _=>False
theorem Hv(ha:PE X a (lB ta)):PE X (.UnaryOp .USub a pos) (lE (q8 ta)):=dN (cS7 cL8 ha) λσ H Q ⟨B,F,δ,ts,Qd,c,q,k⟩=>⟨B,F,δ,ts,_,c,q,λd ax v F1 H1 q1 f1 h1 c1 s1=>by
 cases s1 with
 | int _=>exact⟨_,rfl,k _ ax _ F1 H1 q1 f1 h1 (c1.pushS (.int .nil) rfl)⟩
 | _=>exact q1.elim⟩
noncomputable abbrev kC:=List D->(D->Prop)->Prop
noncomputable def lc(rd:kC):List V->Hp->VK->Prop:=λvs H Q=>∃B F σ δ ts ds Qd,ay B F H σ δ ts/\S F H ds vs/\rd ds Qd/\∀d z H',Qd d->ag H H'->ay B F H' σ δ ((d,z)::ts)->Q z H'
noncomputable def jD(X:Cx)(f:Value)(rd:kC):Prop:=iK X f (lc rd)
theorem jD.of{f:Value}{r:List V->Hp->VK->Prop}{rd:kC}(h:iK X f r)(m:∀vs H Q,lc rd vs H Q->r vs H Q):jD X f rd:=λpins s σ H xs us Q I r q=>h pins s σ H xs us Q I r (m xs H Q q)
noncomputable def mP(rd:kC)(t:cY):aY:=λδ Q=>t δ λds ak=>rd ds λd=>Q d ak
theorem T8{rd:kC}:∀σ H Q,lE (mP rd tr) σ H Q->GC (lc rd) (lA tr) σ H Q:=λσ H Q ⟨B,F,δ,ts,Qd,c,q,k⟩=>⟨B,F,δ,ts,_,c,q,λds ax vs F1 H1 q1 f1 h1 c1 s1 =>
 ⟨B,F1,σ,ax,ts,ds,_,c1,s1,q1,λd z H' hd hs c'=>k d ax z F1 H' hd f1 (h1.trans hs) c'⟩⟩
theorem fj{id:String}{rd:kC}(hc:jD X (.builtin id) rd)(hg:Gl X x)(hm:X.mg x=none)(hv:bootBuiltins x=some (.builtin id))(ha:PA X (e::es) (lA tr))(hn:x≠"__name__":=by decide)(fh:(x==("__debug__":Str))=false:=by decide)
  (he:starEach (e::es) X.env=(false,eval e X.env)::starEach es X.env:=by rfl) (bU:(backTo pos (starEach es X.env)).any (·.1)=false:=by rfl):PE X (.Call (.Name x p) (e::es) [] pos) (lE (mP rd tr)) :=
 dN (Sn hc hg hm hv ha hn fh he bU) T8
theorem CD{T:String}{rd:kC}(hc:jD X (.type T) rd)(hg:Gl X x)(hm:X.mg x=none)(hv:bootBuiltins x=some (.type T))(ha:PA X (e::es) (lA tr))(hn:x≠"__name__":=by decide)(fh:(x==("__debug__":Str))=false:=by decide)
  (he:starEach (e::es) X.env=(false,eval e X.env)::starEach es X.env:=by rfl) (bU:(backTo pos (starEach es X.env)).any (·.1)=false:=by rfl):PE X (.Call (.Name x p) (e::es) [] pos) (lE (mP rd tr)) :=
 dN (b83 hc hg hm hv ha hn fh he bU) T8
theorem mQ{d:D}{vs:List V}(s:S F H [d] vs):∃v,vs=[v]/\S F H [d] [v]:=by
 obtain⟨v,cU,rfl,h1,h2⟩:=s.dM
 cases h2
 exact⟨v,rfl,h1⟩
theorem lC{K:PySem.W.Frag}{p:Addr}{ws:List V}(h:Rd H p (.lst ws)):bS K H p ws:=.inl h
noncomputable def oI:kC:=λds Q=>match ds with
 | [.lst _ xs]=>Q (.int xs.length)
 | [.fz xs]=>Q (.int xs.length)
 | [.tup xs]=>Q (.int xs.length)
 | [.str z]=>z.length<=sizeLine/\Q (.int z.length)
 | _=>False
theorem gZ:jD X (.builtin "len") oI:=jD.of (dn5.or bG2) λvs H Q zz=>by
 obtain⟨B,F,σ,δ,ts,ds,Qd,c,s,q,k⟩:=zz
 unfold oI at q
 split at q
 ·obtain⟨v,rfl,s1⟩:=mQ s
  obtain⟨p,ws,rfl,h,t⟩:=mM s1 c.ext rfl
  refine .inl ⟨p,ws,rfl,.inl (lC h),?_⟩
  rw[<-t.length]
  exact k _ _ _ q (ag.refl _) (c.pushS (.int .nil) rfl)
 ·obtain⟨v,rfl,s1⟩:=mQ s
  obtain⟨p,ws,rfl,h,t⟩:=mM s1 c.ext rfl
  refine .inl ⟨p,ws,rfl,.inl (lC h),?_⟩
  rw[<-t.length]
  exact k _ _ _ q (ag.refl _) (c.pushS (.int .nil) rfl)
 ·obtain⟨v,rfl,s1⟩:=mQ s
  obtain⟨p,ws,rfl,h,t⟩:=kY s1
  refine .inl ⟨p,ws,rfl,.inr (ik.of h),?_⟩
  rw[<-t.length]
  exact k _ _ _ q (ag.refl _) (c.pushS (.int .nil) rfl)
 ·obtain⟨v,rfl,s1⟩:=mQ s
  cases s1
  exact .inr ⟨_,rfl,q.1,k _ _ _ q.2 (ag.refl _) (c.pushS (.int .nil) rfl)⟩
 ·exact q.elim
noncomputable def oJ:kC:=λds Q=>match ds with
 | [.lst _ xs]=>xs.all D.pl=true/\Q (.lst true xs)
 | [.fz xs]=>Q (.lst true xs)
 | [.tup xs]=>xs.all D.pl=true/\Q (.lst true xs)
 | _=>False
theorem CF:jD X (.type "list") oJ:=jD.of bH5 λvs H Q zz=>by
 obtain⟨B,F,σ,δ,ts,ds,Qd,c,s,q,k⟩:=zz
 unfold oJ at q
 split at q
 ·obtain⟨v,rfl,s1⟩:=mQ s
  obtain⟨p,ws,rfl,h,t⟩:=mM s1 c.ext rfl
  exact⟨p,ws,rfl,.inl (lC h),λl hl=>k _ _ _ q.2 (ag.upd hl) (c.qt hl t q.1)⟩
 ·obtain⟨v,rfl,s1⟩:=mQ s
  cases s1 with
  | fz h r _=>exact⟨_,_,rfl,.inl (lC (.inr ⟨_,c.ext _ _ h⟩)),λl hl=>k _ _ _ q (ag.upd hl) (c.qt hl r.s r.pl)⟩
 ·obtain⟨v,rfl,s1⟩:=mQ s
  obtain⟨p,ws,rfl,h,t⟩:=kY s1
  exact⟨p,ws,rfl,.inr (ik.of h),λl hl=>k _ _ _ q.2 (ag.upd hl) (c.qt hl t q.1)⟩
 ·exact q.elim
noncomputable def vR(bs:List Bool):List D:=bs.map D.bl
theorem T9:∀{bs:List Bool} {ws:List V},S F H (vR bs) ws->ws=bs.map V.bl
 | [],_,s=>by cases s;rfl
 | b::bs,_,s=>by
  cases s with
  | bl s=>rw[T9 s];rfl
noncomputable def oK:kC:=λds Q=>match ds with
 | [.lst _ xs]=>∃bs,xs=vR bs/\Q (.bl (bs.all id))
 | _=>False
theorem CG(hc:X.calm=true):jD X (.builtin "all") oK:=jD.of (cf9 hc) λvs H Q zz=>by
 obtain⟨B,F,σ,δ,ts,ds,Qd,c,s,q,k⟩:=zz
 unfold oK at q
 split at q
 ·obtain⟨v,rfl,s1⟩:=mQ s
  obtain⟨bs,rfl,q⟩:=q
  obtain⟨p,ws,rfl,h,t⟩:=mM s1 c.ext rfl
  rw[T9 t]at h
  exact⟨p,bs,rfl,lC h,k _ _ _ q (ag.refl _) (c.pushS (.bl .nil) rfl)⟩
 ·exact q.elim
noncomputable def Hw:D->Option String
 | .int _=>some "int"
 | .bl _=>some "bool"
 | .az=>some "NoneType"
 | .str _=>some "str"
 | .lst _ _=>some "list"
 | .fz _=>some "list"
 | .tup _=>some "tuple"
 | _=>none
noncomputable def Hx(k n:String):Option Bool:=([("int","int",true),("int","bool",false),("int","list",false),("int","tuple",false),("int","str",false),("bool","int",true),("bool","bool",true),("bool","list",false),("bool","tuple",false),("bool","str",false),
 ("NoneType","int",false),("NoneType","bool",false),("NoneType","list",false),("NoneType","tuple",false),("NoneType","str",false),("str","int",false),("str","bool",false),("str","list",false),("str","tuple",false),("str","str",true),
 ("list","int",false),("list","bool",false),("list","list",true),("list","tuple",false),("list","str",false),("tuple","int",false),("tuple","bool",false),("tuple","list",false),("tuple","tuple",true),("tuple","str",false)].find? λz=>z.1==k&&z.2.1==n).map (·.2.2)
noncomputable def mR(n:String)(d:D):Option Bool:=(Hw d).bind λk=>Hx k n
theorem cM6{K:PySem.W.Frag}{k n:String}{r:Bool}(h:Hx k n=some r):PySem.W.kitOne K (.type k) (.type n)=some r:=by
 unfold Hx at h
 obtain⟨z,hz,rfl⟩:=sQ.mp h
 have hm:=Rm hz
 have hp:=List.find?_some hz
 rw[eQ,beq_iff_eq,beq_iff_eq]at hp
 obtain⟨rfl,rfl⟩:=hp
 simp only[cA,ij,or_false]at hm
 repeat' (rcases hm with hm | hm)
 all_goals rfl
theorem cy5{K:PySem.W.Frag}{d:D}(s:S F H [d] [v])(e:ag F H){k:String}(h:Hw d=some k):iL K H v (.type k):=by
 cases s with
 | int _=>cases h;exact .int _
 | bl _=>cases h;exact .bl _
 | az _=>cases h;exact .az
 | str _=>cases h;exact .str _
 | shr h' _ _=>cases h;exact .lst (e _ _ h')
 | own h' _ _=>cases h;exact .lst h'
 | fz h' _ _=>cases h;exact .cq (e _ _ h')
 | tup h' _ _=>cases h;exact .tup h'
 | obj _ _ _ _=>cases h
 | bM _ _=>cases h
theorem cP2{K:PySem.W.Frag}{d:D}(s:S F H [d] [v])(e:ag F H){n:String}{r:Bool}(h:mR n d=some r):∃t,iL K H v t/\PySem.W.kitOne K t (.type n)=some r:=by
 unfold mR at h
 cases hk:Hw d with
 | none=>rw[hk]at h;cases h
 | some k=>rw[hk]at h;exact⟨_,cy5 s e hk,cM6 h⟩
noncomputable def q9(n:String)(t:aY):aY:=λδ Q=>t δ λd ak=>∃r,mR n d=some r/\Q (.bl r) ak
theorem zN{n:String}{y:Str}{q:Pos}(hg:Gl X "isinstance")(hm:X.mg "isinstance"=none)(hg2:Gl X y)(Ua:X.mg y=none)(hv2:bootBuiltins y=some (.type n))(ha:PE X a (lB ta))
  (hn:y≠"__name__":=by decide) (hd:(y==("__debug__":Str))=false:=by decide)
  (hs:starEach [a,.Name y q] X.env=(false,eval a X.env)::starEach [.Name y q] X.env:=by rfl) (jt:starEach [.Name y q] X.env=(false,eval (.Name y q) X.env)::starEach [] X.env:=by rfl) (bU:(backTo pos (starEach [.Name y q] X.env)).any (·.1)=false:=by rfl) :
  PE X (.Call (.Name "isinstance" p) [a,.Name y q] [] pos) (lE (q9 n ta)) :=
 dN (Sn bw0 hg hm bD7 (gn ha (gn (cP7 hg2 Ua hv2 hn hd) kj jt) hs) (by decide) (by decide) hs bU) λσ H Q ⟨B,F,δ,ts,Qd,c,q,k⟩=>⟨B,F,δ,ts,_,c,q,λd ax v F1 H1 q1 f1 h1 c1 s1=>by
  obtain⟨r,e,qr⟩:=q1
  obtain⟨t,h2,h3⟩:=cP2 (K:=X.K) s1 c1.ext e
  exact⟨v,n,t,r,rfl,h2,h3,k _ ax _ F1 H1 qr f1 h1 (c1.pushS (.bl .nil) rfl)⟩⟩
theorem Hy{xs:List D}{ws:List V}{i:Int}{d:D}(s:S F H xs ws)(h:eK xs i=some d):∃v,eK ws i=some v/\S F H [d] [v]:=by
 unfold eK at h ⊢
 rw[<-s.length]
 cases e:iN xs.length i with
 | none=>rw[e]at h;cases h
 | some j =>
  rw[e]at h
  exact s.get h
noncomputable def oM(x y:D)(Q:D->Prop):Prop:=match x,y with
 | .lst _ xs,.int i=>∃d,eK xs i=some d/\Q d
 | .fz xs,.int i=>∃d,eK xs i=some d/\Q d
 | .tup xs,.int i=>∃d,eK xs i=some d/\Q d
 | .str z,.int i=>z.length<=sizeLine/\∃ch,eK z.cps.toList i=some ch/\Q (.str ⟨#[ch]⟩)
 | _,_=>False
noncomputable def rf(ta tb:aY):aY:=λδ Q=>ta δ λx ax=>tb ax λy bo=>oM x y λd=>Q d bo
theorem bK(ha:PE X a (lB ta))(hb:PE X b (lB tb))(hs:Sq b):PE X (.Subscript a b pos) (lB (rf ta tb)) :=
 dN (cS3 cF0 ha hb hs) λσ H Q ⟨B,F,δ,ts,Qd,c,q,k⟩=>⟨B,F,δ,ts,_,c,q,λx ax v F1 H1 q1 f1 h1 c1 s1=>⟨B,F1,ax,ts,_,c1,q1,λy bo w F2 H2 q2 f2 h2 c2 s2=>by
  have oN:=s1.mono f2 h2
  have fin:∀d z,Qd d bo->S F2 H2 [d] [z]->Q z H2:=λd z hd s=>k d bo z F2 H2 hd (f1.trans f2) (h1.trans h2) c2 s
  unfold oM at q2
  split at q2
  ·obtain⟨d,ed,qd⟩:=q2
   cases s2
   obtain⟨p,ws,rfl,h,t⟩:=mM oN c2.ext rfl
   obtain⟨z,ez,sz⟩:=Hy t ed
   exact .inl ⟨p,ws,_,z,rfl,rfl,lC h,ez,fin d z qd sz⟩
  ·obtain⟨d,ed,qd⟩:=q2
   cases s2
   obtain⟨p,ws,rfl,h,t⟩:=mM oN c2.ext rfl
   obtain⟨z,ez,sz⟩:=Hy t ed
   exact .inl ⟨p,ws,_,z,rfl,rfl,lC h,ez,fin d z qd sz⟩
  ·obtain⟨d,ed,qd⟩:=q2
   cases s2
   obtain⟨p,ws,rfl,h,t⟩:=kY oN
   obtain⟨z,ez,sz⟩:=Hy t ed
   exact .inr (.inl ⟨p,ws,_,z,rfl,rfl,ik.of h,ez,fin d z qd sz⟩)
  ·obtain⟨hz,ch,ec,qc⟩:=q2
   cases oN
   cases s2
   exact .inr (.inr ⟨_,_,ch,rfl,rfl,hz,ec,fin _ _ qc (.str .nil)⟩)
  ·exact q2.elim⟩⟩
noncomputable abbrev vS:=Dl->(Option Int->Dl->Prop)->Prop
noncomputable def lP(t:vS):TO:=λσ H Q=>∃B F δ ts Qd,ay B F H σ δ ts/\t δ Qd/\∀o ak F' H',Qd o ak->ag F F'->ag H H'->ay B F' H' σ ak ts->Q o H'
theorem Ub{oe:Option Expr}{u u':TO}(h:PO X oe u)(m:∀σ H Q,u' σ H Q->u σ H Q):PO X oe u':=λpins s σ H Q I q=>h pins s σ H Q I (m σ H Q q)
noncomputable def rh:vS:=λδ Q=>Q none δ
noncomputable def rj(t:aY):vS:=λδ Q=>t δ λd ak=>match d with
 | .int i=>Q (some i) ak
 | _=>False
theorem tP:PO X none (lP rh):=Ub cD7 λσ H Q ⟨B,F,δ,ts,Qd,c,q,k⟩=>k none δ F H q (ag.refl _) (ag.refl _) c
theorem oO(h:PE X e (lB t)):PO X (some e) (lP (rj t)):=Ub (cC0 h) λσ H Q ⟨B,F,δ,ts,Qd,c,q,k⟩=>⟨B,F,δ,ts,_,c,q,λd ax v F1 H1 q1 f1 h1 c1 s1=>by
 cases s1 with
 | int _=>exact⟨_,rfl,k _ ax F1 H1 q1 f1 h1 c1⟩
 | _=>exact q1.elim⟩
noncomputable def fk{α:Type}(xs:List α)(lo hi:Option Int):List α:=(xs.drop (HT.di xs.length 0 lo)).take (HT.di xs.length xs.length hi-HT.di xs.length 0 lo)
theorem S.cut{xs:List D}{ws:List V}(s:S F H xs ws)(lo hi:Option Int):S F H (fk xs lo hi) (vA ws lo hi):=by
 unfold fk vA
 rw[<-s.length]
 exact(s.drop _).take _
theorem Uc{xs:List D}{p:D->Bool}(h:xs.all p=true)(lo hi:Option Int):(fk xs lo hi).all p=true:=by
 rw[dw]at h ⊢
 intro x hx
 exact h x (nI (nJ hx))
noncomputable def rk(t:aY):aY:=λδ Q=>t δ λd ak=>match d with
 | .int i=>Q (.int (Mf.bl i.natAbs:Nat)) ak
 | _=>False
theorem oQ(ho:PE X o (lB t))(nU:attributeBase o "bit_length" X.env (eval o X.env)=eval o X.env:=by rfl)(nV:(apos.endLine==cB.line)=true:=by rfl):PE X (.Call (.Attribute o "bit_length" apos) [] [] cB) (lE (rk t)) :=
 dN (GU ho nU nV) λσ H Q ⟨B,F,δ,ts,Qd,c,q,k⟩=>⟨B,F,δ,ts,_,c,q,λd ax v F1 H1 q1 f1 h1 c1 s1=>by
  cases s1 with
  | int _=>exact⟨rfl,_,rfl,rfl,k _ ax _ F1 H1 q1 f1 h1 (c1.pushS (.int .nil) rfl)⟩
  | _=>exact q1.elim⟩
end
end L3
namespace L3
open PySem L2 PySem.Spec PyProof.Rows
section
variable{X:Cx}{F H:Hp}{v w:V}{e a b c o tg:Expr}{es:List Expr}{pos p p2 apos cB pos':Pos}{t ta tb tc te ti:aY}{tr:cY}{x:Str}{i:Nat}
noncomputable def rl(i:Nat)(t:aY):cZ:=λD δ=>(∃xs,δ[i]?=some (some (.lst true xs)))/\t δ λd ak=>∃xs,ak[i]?=some (some (.lst true xs))/\xs.length<sizeLine/\D.nx (ak.set i (some (.lst true (xs++[d]))))
theorem kD(hN:X.N[i]?=some x)(hv:nQ X.env.scope x)(he:PE X e (lE t))(hd:(x==("__debug__":Str))=false:=by decide)(dq:(x==("__classdict__":Str))=false:=by decide)
  (nU:attributeBase (.Name x p) "append" X.env (eval (.Name x p) X.env)=eval (.Name x p) X.env:=by rfl)
  (GI:((backTo cB (starEach [e] X.env)).all (λx=>!x.1)&&(backToKw cB (keywordEach [] X.env)).all (λx=>x.1.isSome)
   && decide ([e].length+([]:List Keyword).length+(if([]:List Keyword).isEmpty then 0 else 1)<30))=true:=by rfl)
  (nV:(apos.endLine==cB.line)=true:=by rfl) (hs:starEach [e] X.env=(false,eval e X.env)::starEach [] X.env:=by rfl) (GJ:(backTo cB (starEach [] X.env)).any (·.1)=false:=by rfl)
  (zO:swapsWith (.Call (.Attribute (.Name x p) "append" apos) [e] [] cB) none pos.line X.env=pure false:=by rfl) :
  PS X (.Expr (.Call (.Attribute (.Name x p) "append" apos) [e] [] cB) pos) (lS X (rl i t)) :=
 og (Gd (cP1 PySem.F.plainAttrs_list PySem.F.slot_list_append PySem.F.type_list_append SD (vw hN hv hd dq) (gn he kj hs) nU GI nV hs GJ) zO) λEn σ H zz=>by
  obtain⟨B,F,δ,Dd,c,⟨⟨ys,ey⟩,q⟩,k1,k2,k3,k4⟩:=zz
  obtain⟨p0,Hc,g1,g2,g3⟩:=c.ownAt ey
  refine⟨.ref p0,g1,.inl ⟨rfl,_,bS.of g2⟩,B,F,δ,[],_,c,q,λd ak v F' H' hd sf sh c'=>?_⟩
  obtain⟨xs,ex,hl,hn⟩:=hd
  obtain⟨p1,ws,r1,r2,r3⟩:=c'.ownAt ex
  rw[g1]at r1;cases r1
  exact⟨p0,ws,v,rfl,rfl,r2,by omega,k1 _ _ F' _ hn (c'.app ex g1 r2)⟩
noncomputable def rm(i:Nat)(te ti:aY):cZ:=λD δ=>te δ λd ax=>∃ys,ax[i]?=some (some (.lst true ys))/\oh ti ax λk bo=>match k with
 | .int n=>∃xs j,bo[i]?=some (some (.lst true xs))/\iN xs.length n=some j/\D.nx (bo.set i (some (.lst true (xs.set j d))))
 | _=>False
theorem zP(hN:X.N[i]?=some x)(hv:nQ X.env.scope x)(he:PE X e (lE te))(hi:PE X b (lB ti))(hd:(x==("__debug__":Str))=false:=by decide)(dq:(x==("__classdict__":Str))=false:=by decide)
  (ha:∀v,assign (.Subscript (.Name x p) b pos') X.env v=(do
   let ov<-holding [v] (eval (.Name x p) X.env)
   let iv<-holding [v,ov] (eval b X.env)
   standAt pos'
   holding [v,ov,iv] (setItem ov iv v)
   release [v,ov,iv] []):=by intro _;rfl)
  (hs:swapsWithSole [.Subscript (.Name x p) b pos'] e pos.line X.env=pure false:=by rfl) (hw:swappedStores [.Subscript (.Name x p) b pos'] e X.env=pure none:=by rfl)
  (h1:(assignEach [.Subscript (.Name x p) b pos'] X.env).map (·.2)=[assign (.Subscript (.Name x p) b pos') X.env]:=by rfl) :
  PS X (.Assign [.Subscript (.Name x p) b pos'] e pos) (lS X (rm i te ti)) :=
 og (cK0 he (cG6 (vw hN hv hd dq) (cV hi) cm5 ha) hs hw h1) λEn σ H ⟨B,F,δ,Dd,c,q,k1,k2,k3,k4⟩=>⟨B,F,δ,[],_,c,q,λd ax v F1 H1 hq f1 h1 c1=>by
  obtain⟨ys,ey,hq⟩:=hq
  obtain⟨p0,Hc,g1,g2,g3⟩:=c1.ownAt ey
  refine⟨.ref p0,g1,B,F1,ax,[(d,v)],_,c1,hq,λkd bo kv F2 H2 hk f2 h2 c2=>?_⟩
  have st:=c2.top
  split at hk
  ·obtain⟨xs,j,ex,ej,hn⟩:=hk
   cases st
   have c3:=c2.pop
   obtain⟨p1,ws,r1,r2,r3⟩:=c3.ownAt ex
   rw[g1]at r1;cases r1
   exact⟨p0,ws,_,j,rfl,rfl,r2,by rw[<-r3];exact ej,k1 _ _ F2 _ hn (c3.dy4 ex g1 r2 j)⟩
  ·exact hk.elim⟩
end
end L3
namespace L3
open PySem L2 PySem.Spec PyProof.Rows
theorem dF{A:Around}{k:Nat}(hr:cO k A):A.units+6<cLine:=by have:=hr.un;omega
noncomputable def aL(ns:List Int):List D:=ns.map D.int
noncomputable def Hz(o:Obj):Bool:=match o.cls with
 | .type n=>n != "list"
 | _=>true
noncomputable def Ud:bC:=λds Q=>∃ns:List Int,ds=[.fz (aL ns)]/\ns.length<=63/\Q (.bl true)
theorem lD{F H:Hp}:∀ns:List Int,R F H (aL ns) (ns.map V.int) []
 | []=>.nil
 | n::ns=>.int (lD ns)
theorem bO9{K:PySem.W.Frag}{a:Addr}{o:Obj}(h:K.lookup a=some o):(a,o)∈K:=by
 induction K with
 | nil=>cases h
 | cons p K ih =>
  obtain⟨b,u⟩:=p
  rw[gx]at h
  split at h
  ·rename_i z
   have:a=b:=by simpa using z
   cases h;subst this;simp
  ·exact dZ _ (ih h)
end L3
namespace L3
open PySem L2 PySem.Spec PyProof.Rows
section
variable{B:Bs}{F H:Hp}{σ:L2.St}{δ:Dl}{ts ps:List (D × V)}{i k:Nat}{p q:Addr}{l1 l2 ys Tn:List D}{ws vP:List V}
end
section
variable{X:Cx}{F H:Hp}{e b:Expr}{pos p pr apos cB HA:Pos}{t ti te:aY}{x y:Str}{i j:Nat}
end
end L3
namespace L3
open PySem L2 PySem.Spec PyProof.Rows
theorem tQ(i:Int):(D.int i).pl=true:=rfl
theorem tR(i:Bool):(D.bl i).pl=true:=rfl
theorem tS(i:Str):(D.str i).pl=true:=rfl
theorem tT:D.az.pl=true:=rfl
theorem tU(xs:List D):(D.fz xs).pl=true:=rfl
theorem tV(C:Addr)(ns:List Str)(xs:List D):(D.obj C ns xs).pl=true:=rfl
theorem rn(i:Int):(D.int i).fr=true:=rfl
theorem tW(i:Bool):(D.bl i).fr=true:=rfl
theorem tX(i:Str):(D.str i).fr=true:=rfl
theorem tY:D.az.fr=true:=rfl
theorem gB(i:Int):(D.int i).sh=.int i:=rfl
theorem tZ(i:Bool):(D.bl i).sh=.bl i:=rfl
theorem t7(i:Str):(D.str i).sh=.str i:=rfl
theorem t8:D.az.sh=.az:=rfl
theorem t9(xs:List D):(D.fz xs).sh=.fz xs:=rfl
theorem ua(C:Addr)(ns:List Str)(xs:List D):(D.obj C ns xs).sh=.obj C ns xs:=rfl
theorem ub{α:Type}(n:Nat)(x:α):(bH n [x]).flatten=bH n x:=by
 induction n with
 | zero=>rfl
 | succ n ih=>rw[sH,va,ih];rfl
theorem lH(ns:List Int):(aL ns).length=ns.length:=by simp[aL]
theorem lJ(ns:List Int):(aL ns).all D.pl=true:=by simp[aL,D.pl]
theorem oR(ns:List Int):(aL ns).all D.fr=true:=by simp[aL,D.fr]
theorem jE(ns:List Int):(aL ns).map D.sh=aL ns:=by simp[aL,D.sh]
theorem oS(a b:List Int):aL a++aL b=aL (a++b):=by simp[aL]
theorem ud(n:Nat)(i:Int):bH n (D.int i)=aL (bH n i):=by simp[aL]
theorem rp(n:Nat)(i:Int):dS n (.int i)=true:=by cases n<;>rfl
theorem ue(n:Nat)(i:Str):dS n (.str i)=true:=by cases n<;>rfl
theorem lK(i j:Int):bP (.int i) (.int j)=decide (i=j):=by
 show(i==j)=_
 rw[Bool.beq_eq_decide_eq]
theorem Ue:∀(a b:List Int),bP.gg (aL a) (aL b)=decide (a=b)
 | [],[]=>rfl
 | [],_::_=>by simp[aL,bP.gg]
 | _::_,[]=>by simp[aL,bP.gg]
 | x::xs,y::ys=>by
  show(bP (.int x) (.int y)&&bP.gg (aL xs) (aL ys))=_
  rw[Ue xs ys,lK,sM];simp
theorem rq(o o':Bool)(a b:List Int):bP (.lst o (aL a)) (.lst o' (aL b))=decide (a=b):=Ue a b
theorem cf7{ns:List Int}{k:Nat}(h:k<ns.length):(aL ns)[k]?=some (.int ns[k]):=by simp[aL,h]
theorem mS{ns:List Int}{k:Int}(h0:0<=k)(h:k<ns.length):eK (aL ns) k=some (.int (ns.getD k.toNat 0)):=by
 unfold eK iN
 rw[if_pos h0,lH,if_pos h]
 show(aL ns)[k.toNat]?=_
 have hk:k.toNat<ns.length:=by omega
 rw[cf7 hk,aQ,aP hk];rfl
theorem rz(ns:List Int)(lo hi:Option Int):fk (aL ns) lo hi=aL (fk ns lo hi):=by simp[fk,aL,Rn,Ro]
theorem uf(i:Int):mR "int" (.int i)=some true:=by rfl
theorem ug(i:Int):mR "bool" (.int i)=some false:=by rfl
theorem uh(i:Int):mR "list" (.int i)=some false:=by rfl
theorem ui(o:Bool)(xs:List D):mR "list" (.lst o xs)=some true:=by rfl
theorem uj:mR "int" .az=some false:=by rfl
theorem uk(x:Str):mR "str" (.str x)=some true:=by rfl
theorem um(xs:List D):mR "tuple" (.tup xs)=some true:=by rfl
theorem sL:sizeLine=16777216:=rfl
theorem uo{p:Prop}[Decidable p]:(decide p=true)=p:=by simp
theorem Ug{α:Type}(xs:List α)(a b:Nat):fk xs (some (a:Int)) (some (b:Int))=(xs.drop a).take (b-a):=by
 unfold fk
 rw[HT.GD,HT.GD]
 by_cases h:a<=xs.length
 ·rw[Nat.min_eq_left h]
  apply FC
  intro i
  rw[c03,c03,FD]
  by_cases hi:i<b-a
  ·rw[if_pos hi]
   by_cases hb:a+i<xs.length
   ·rw[if_pos (by omega)]
   ·rw[fY (by omega)];simp
  ·rw[if_neg hi,if_neg (by omega)]
 ·rw[Nat.min_eq_right (show xs.length<=a by omega),Rp (bN _),Rp (show xs.length<=a by omega)];simp
end L3
namespace L2
open PySem PySem.Spec PyProof.Rows
section
variable{X:Cx}{e:Expr}{te:TE}{lo hi:Option Expr}{st:Expr}{tl th ts:TO}{pos p2:Pos}
theorem Uh(ns:List Int):∀k,k<=ns.length->preSum (λi=>ns.getD i 0) k=(ns.take k).sum
 | 0,_=>rfl
 | k+1,h=>by
  show preSum (λi=>ns.getD i 0) k+ns.getD k 0=_
  rw[Uh ns k (by omega),mf,aP (by omega),List.sum_append,aQ,aP (by omega)]
  simp
theorem bY1(hc:X.calm=true):iK X (.builtin "sum") (λxs H Q=>∃(p:Addr) (ns:List Int),xs=[.ref p]/\bS X.K H p (ns.map V.int)/\Q (.int ns.sum) H):=by
 intro pins s σ H xs us Q I r h
 obtain⟨p,ns,rfl,hS,q⟩:=h
 obtain⟨u,rfl,ru⟩:=r.one
 cases ru
 obtain⟨its,rv,pl,hz⟩:=I.list hS
 have hi:=bV7 rv
 have hlen:ns.length=its.length:=by have:=rv.length;simpa using this
 have hl:=pl.isList
 have gr:p<s.heap.objs.size:=by obtain⟨_,e,_⟩:=hl;exact bW e
 refine call_sum_walkG (wpAny_pyIter_list hl ?_)
 refine⟨s.heap.objs.size,[s.heap.objs.size,p],[s.heap.objs.size],its.toArray.size,_,_,λi=>ns.getD i 0,rfl,Walks.list (A:=X.A.in1) (I.ok.hd hc) _ p (fo gr) its.toArray,
  ⟨⟨_,gJ _ rfl,rfl,rfl⟩,hl.push _⟩,λb hb=>?_,λi v hP=>?_,λh' tk t' hk=>?_⟩
 ·simp only[u7]
  rcases cA.mp hb with rfl | hb
  ·exact Bz _
  ·rw[dP.mp hb];exact Rq gr
 ·have e:its[i]?=some v:=by simpa using hP
  obtain⟨x,ex,q2⟩:∃x,(ns.map V.int)[i]?=some x/\RelV x v:=by
   have iu:i<its.length:=(j9.mp e).1
   obtain⟨u,e2,q2⟩:=rv.get (i:=i) (x:=V.int ns[i]) (by rw[bQ,aP (by omega)];rfl)
   rw[e]at e2;cases e2
   exact⟨_,by rw[bQ,aP (by omega)];rfl,q2⟩
  rw[bQ]at ex
  obtain⟨n,en,rfl⟩:=sQ.mp ex
  obtain⟨t,rfl⟩:=q2
  exact⟨t,by show pV n t=pV (ns.getD i 0) t;rw[aQ,en];rfl⟩
 ·rw[dX,<- hlen,Uh ns _ (bN _),sN]
  exact⟨.int _,H,I.kept (h':=h') (t':=tk) (GV hk),⟨_,rfl⟩,q⟩
end
end L2
namespace L3
open PySem L2 PySem.Spec PyProof.Rows
section
variable{X:Cx}{F H:Hp}{e:Expr}{t:aY}{lo hi:Option Expr}{st:Expr}{tl th td:vS}{pos p2:Pos}
theorem HB:∀{a:List Int} {ws:List V},S F H (aL a) ws->ws=a.map V.int
 | [],_,s=>by cases s;rfl
 | b::bs,_,s=>by
  cases s with
  | int s=>rw[HB s];rfl
noncomputable def lL:kC:=λds Q=>match ds with
 | [.lst _ xs]=>∃a,xs=aL a/\Q (.int a.sum)
 | _=>False
theorem cR3(hc:X.calm=true):jD X (.builtin "sum") lL:=jD.of (bY1 hc) λvs H Q zz=>by
 obtain⟨B,F,σ,δ,ts,ds,Qd,c,s,q,k⟩:=zz
 unfold lL at q
 split at q
 ·obtain⟨v,rfl,s1⟩:=mQ s
  obtain⟨a,rfl,q⟩:=q
  obtain⟨p,ws,rfl,h,t⟩:=mM s1 c.ext rfl
  rw[HB t]at h
  exact⟨p,a,rfl,lC h,k _ _ _ q (ag.refl _) (c.pushS (.int .nil) rfl)⟩
 ·exact q.elim
noncomputable def HC:Expr->Option Int
 | .Constant (.int i) _ _=>some i
 | _=>none
noncomputable def CH:List Expr->Option (List Int)
 | []=>some []
 | e::es=>(HC e).bind λi=>(CH es).map (i :: ·)
theorem cl6{e:Expr}{i:Int}(h:HC e=some i):∃a b,e=.Constant (.int i) a b:=by
 cases e with
 | Constant c a b =>
  cases c with
  | int j=>cases h;exact⟨_,_,rfl⟩
  | _=>cases h
 | _=>cases h
noncomputable def cS0(ns:List Int):cY:=λδ Q=>Q (aL ns) δ
theorem Ui:∀(es:List Expr) (ns:List Int),CH es=some ns->PA X es (lO (cS0 ns))
 | [],ns,h=>by cases h;exact dD
 | e::es,ns,h=>by
  obtain⟨i,hi,h2⟩:=Option.bind_eq_some_iff.mp (show(HC e).bind (λi=>(CH es).map (i :: ·))=some ns from h)
  obtain⟨ms,hm,rfl⟩:=sQ.mp h2
  obtain⟨a,b,rfl⟩:=cl6 hi
  exact zy (fB (aA (i:=i)) (Ui es ms hm)) λ_ _ _ q=>q
noncomputable def rA(ns:List Int):aY:=λδ Q=>ns.length<=sizeLine/\Q (.lst true (aL ns)) δ
theorem Uj{es:List Expr}{ns:List Int}(h:CH es=some ns):PE X (.List es pos) (lE (rA ns)) :=
 dN (eM (Ui es ns h)) λ_ _ _ ⟨B,F,δ,ts,Qd,c,q,k⟩=>⟨B,F,δ,ts,Qd,c,by
  show(aL ns).length<=sizeLine/\_
  rw[lH];exact q,k⟩
theorem zQ{n:Nat}{g:iT}{tb:cZ}{En:tL}{δ:Dl}(Iv:Nat->Dl->Prop)(h0:Iv 0 δ)(ht:∀k ak,k<n->Iv k ak->g (.int k) ak λbo=>tb { En with nx:=Iv (k+1),ct:=Iv (k+1),bk:=En.nx } bo)
  (hf:∀ak,Iv n ak->En.nx ak):fP (FE (λ(k:Nat)=>D.int (0+(k:Int))) (bg (n:Int).toNat)) g tb En δ:=by
 rw[fX]
 refine fP.mk Iv h0 (λi d ak hd iv=>?_) λak iv=>hf ak (by simpa using iv)
 rw[bQ]at hd
 obtain⟨k,hk,rfl⟩:=sQ.mp hd
 have hi:i<n:=by have:=(j9.mp hk).1;simpa using this
 rw[kL hi]at hk
 cases hk
 rw[Rt]
 exact ht i ak hi iv
theorem ql{xs:List D}{k:Int}{d:D}(h0:0<=k)(h:xs[k.toNat]?=some d):eK xs k=some d:=by
 unfold eK iN
 have hk:k.toNat<xs.length:=(j9.mp h).1
 rw[if_pos h0,if_pos (by omega)]
 exact h
end
end L3
namespace L3
open PySem L2 PySem.Spec PyProof.Rows
noncomputable abbrev rB:=List D->(D->Prop)->(Addr->Prop)->Prop
noncomputable def zR(sp:rB):Sp:=λvs H Q E=>∃F ds Qd Ed,ag F H/\R F H ds vs []/\sp ds Qd Ed/\(∀d v F' H' A,Qd d->ag H H'->ag F F'->ag F' H'->(∀a ws,F' a=some (.lst ws)->F a=some (.lst ws)\/H a=none)->R F' H' [d] [v] A->A.Nodup->(∀a∈A,H a=none)->Q v H') /\
 ∀C H',Ed C->ag H H'->E (.ref C) none H'
section
variable{P:Program}{w:World}{K:PySem.W.Frag}{mg:Str->Option Value}{base:Heap}
theorem Uk{x qual:Str}{st:Stmt}{f:Addr}{fd:FuncData}{N ps:List Str}{k:Nat}{sp:rB}(F:bt K x qual st f fd)(S:bw N ps (aB st))(len:∀ds Q E,sp ds Q E->ds.length=ps.length)
  (iM:∀(aK:Value) (A:Around) (outer:List Env) (s:Shared) (H:Hp) (E:XK),cO k (A.deeper (envOfC qual (aB st) s.heap.objs.size f aK)) ->
   ∃t:cZ,PSs (jv (n8 P w) P w K mg base N qual (aB st) f aK A outer s H E) (br st) (lS (jv (n8 P w) P w K mg base N qual (aB st) f aK A outer s H E) t) /\
    ∀ds Q Ex,sp ds Q Ex->t { nx:=λ_=>Q .az,rt:=Q,xc:=λC _=>Ex C,xr:=λC _=>Ex C } (jW N ds)):aU P w K mg base (n8 P w) (k+1) f fd ps (zR sp):=by
 obtain⟨oc,od,kV,doc,pm,an,aK,ct,my,rfl,lk,dq⟩:=F.ex
 refine GB lk dq S (λvs H Q E ⟨F,ds,Qd,Ed,e,r,h,_⟩=>by rw[<-r.length];exact len ds Qd Ed h) λA outer s H vs Q E hr zz=>?_
 obtain⟨F,ds,Qd,Ed,e,r,h,k,kx⟩:=zz
 obtain⟨t,ht,hq⟩:=iM aK A outer s H E hr
 have fin:∀d v ak aO F' H',Qd d->ay ⟨H,F⟩ F' H' aO ak [(d,v)]->Q v H':=λd v ak aO F' H' hd c=>by
  obtain⟨A,C,r',s',nd,fr⟩:=c.own
  exact k d v F' H' A hd c.b1 c.b2 c.ext c.b3 r' (jV.mp nd).1 λa ha=>fr a (ig _ ha)
 have e1:L2.start N vs=vs.map some++bH (N.length-ds.length) none:=by unfold L2.start;rw[r.length]
 refine⟨_,ht,⟨H,F⟩,F,jW N ds,_,?_,hq ds Qd Ed h,λak aO F' H' hd c=>fin .az .az ak aO F' H' hd (c.pushS (.az .nil) rfl),fin,λ_ _ _ _ z=>z.elim,λ_ _ _ _ z=>z.elim,λC ak pins aO F' H' s' a T hx c I tr pa pT=>?_,λC ak pins aO F' H' s' h' e vs hx c I hm=>?_⟩
 ·rw[e1]
  exact ay.start e r _
 ·exact b05 I rfl rfl rfl tr pa pT λh' T' g=>⟨a,T',.ref C,H',rfl,I.os,I.bare,g.un,g.aR,g.zo,g.a0,g.a1,g.t0,g.t1,kx C H' hx c.b1⟩
 ·exact b86 I rfl rfl rfl hm λh' T' g=>⟨e,T',.ref C,H',rfl,I.os,I.bare,g.un,g.aR,g.zo,g.a0,g.a1,g.t0,g.t1,kx C H' hx c.b1⟩
end
section
variable{X:Cx}{n:Nat}{f:Addr}{fd:FuncData}{ps:List Str}{sp:rB}{x:Str}{p pos:Pos}{e:Expr}{es:List Expr}{t:cY}{tx:fi5}
noncomputable def rC(t:cZ):cZ:=λD δ=>t { D with xc:=λ_ _=>False,xr:=λ_ _=>False } δ
theorem cQ1{st:Stmt}{u:cZ}(h:PS X.gR st (lS X.gR u)):PS X st (lS X (rC u)):=by
 intro pins s σ H D I zz
 obtain⟨B,F,δ,Dd,c,q,k1,k2,k3,k4,xl⟩:=zz
 exact wpAny_mono (h pins s σ H D (I.kh _) ⟨B,F,δ,_,c,q,k1,k2,k3,k4,XL.none (λ_ _ z=>z) λ_ _ z=>z⟩) (λ_ _ q=>q.mr) λ_ _ z=>fV z
noncomputable def rD(C:Addr)(t:cY):cZ:=λD δ=>t δ λds ak=>ds.length<=9/\D.xr C ak
structure HD(K:PySem.W.Frag)(mg:Str->Option Value)(x:Str)(C:Addr):Prop where
 own:∀h:Heap,K.In h->h.Ns mainGlobals mg->∃newId Bn kE Ul B Um Uo CI,OwnCls x C CI newId mg h/\ExcBaseFacts Bn newId kE Ul/\CI.contains (.type Bn)=true/\ExcBaseFacts B Um Uo CI
theorem Up{C:Addr}{np cB:Pos}(hm:HD X.K X.mg x C)(hc:X.calm=true)(hg:Gl X x)(ha:PA X (e::es) (lA t))(fh:(x==("__debug__":Str))=false:=by decide)
  (he:starEach (e::es) X.env=(false,eval e X.env)::starEach es X.env:=by rfl) (bU:(backTo cB (starEach es X.env)).any (·.1)=false:=by rfl) :
  PS X (.Raise (some (.Call (.Name x np) (e::es) [] cB)) none pos) (lS X (rD C t)):=by
 intro pins s σ H D I zz
 obtain⟨B,F,δ,Dd,c,q,k1,k2,k3,k4,xl⟩:=zz
 obtain⟨newId,Bn,kE,Ul,B',Um,Uo,CI,O,Fn,hBn,FB⟩:=hm.own X.base I.ok.mod.nO I.ok.mod.glob
 obtain⟨tl,N,nm,qn,bs,hdct,sn,sub,ab,col,dd,k0,tO,vQ,k3',k5,mN,hC,hN,rE,T⟩:=O.obj
 refine wpAny_Raise_call_subU (k5:=k5) (k3:=k3') (k2:=vQ) (k1:=tO) (k0:=k0) (dd:=dd) (col:=col) (ab:=ab) (sub:=sub) (sn:=sn) (hdct:=hdct) (bs:=bs) (N:=N) (q:=qn) (nm:=nm) (C:=C) Fn hBn FB (mN:=mN) (T.hasType FB.hasBase) (I.ok.hd hc) (by rw[he];show(false||(backTo cB (starEach es X.env)).any (·.1))=false;rw[bU];rfl) rE (BV I hg O.bound ⟨rfl,?_⟩ fh)
 have CJ:=ha cB pins s σ H (λvs H1=>vs.length<=9/\∃ak F',Dd.xr C ak/\ay B F' H1 σ ak []) I ⟨B,F,δ,[],_,c,q,λds ax vs F1 H1 q1 f1 h1 c1 s1=>⟨by rw[<-s1.length];exact q1.1,ax,F1,q1.2,c1⟩⟩
 rw[he]at CJ ⊢
 refine Calls.evalArgs_plain (wpAny_mono CJ (λus s2 h2=>?_) λ_ _ y=>y)
 obtain⟨vs,H1,I1,r,hl,ak,F',hx,c'⟩:=h2
 exact⟨rfl,by rw[<-r.length];exact eP hl (by decide),I1.bk _ _ hC,hN.keeps I1.bk,T.keeps I1.bk,λh' e' hm'=>xl.2 C ak pins σ F' H1 s2 h' e' _ hx c' I1 hm'⟩
end
end L3
namespace L3
open PySem L2 PySem.Spec PyProof.Rows
section
variable{X:Cx}{pins FX:List (Addr × Obj)}{σ:L2.St}{H:Hp}{s:Shared}{a:Addr}
end
section
variable{X:Cx}{tb th:cZ}{body dC1:List Stmt}{dC2:Stmt}{K n:Str}{Kc:Addr}{i:Nat}{kp dC3 pos:Pos}
end
end L3
namespace L3
open PySem L2 PySem.Spec PyProof.Rows
section
variable{X:Cx}{F H:Hp}{v:V}{a:Expr}{ta:aY}{p pos:Pos}
end
section
variable{K:PySem.W.Frag}{mg:Str->Option Value}{x:Str}{C:Addr}
theorem cN3(hm:mg x=some (.ref C))(q:PySem.W.excIn K C [.type "ValueError",.type "Exception",.type "BaseException",.type "object"] "ValueError.__new__"=true):HD K mg x C:=by
 refine⟨λh X G=>⟨"ValueError.__new__","ValueError",_,_,"ValueError",_,_,[.type "ValueError",.type "Exception",.type "BaseException",.type "object"],?_,PySem.F.excBase_ValueError,rfl,PySem.F.excBase_ValueError⟩⟩
 refine⟨hm,?_⟩
 unfold PySem.W.excIn at q
 split at q
 ·rename_i dd cd sl ho
  split at q
  ·rename_i C' bm k0 k1 k2 k3 n k5 hm hs
   simp only[eQ,beq_iff_eq,Bool.not_eq_true']at q
   obtain⟨⟨⟨⟨⟨rfl,rfl⟩,Uq⟩,ht⟩,aR⟩,rE⟩:=q
   obtain⟨nm,bs,mro,ns,qn,hd,sn,sub,ab,col,del⟩:=cd
   dsimp only at hm Uq aR rE
   subst hm Uq
   have hsl:sl=#[k0,k1,k2,k3,some (.builtin "ValueError.__new__"),k5]:=by
    obtain⟨l⟩:=sl
    simp only at hs
    rw[hs]
   subst hsl
   exact⟨bm,ns,nm,qn,bs,hd,sn,sub,ab,col,dd,k0,k1,k2,k3,k5,_,X _ _ ho,.of_isNs (PySem.W.isNs_of_in X aR),PySem.W.nsMap_none_of_in X aR rE,PySem.W.tail_of_in X ht⟩
  ·cases q
 ·cases q
end
theorem HE{P:Program}{w:World}{X:Cx}:mx (n8 P w) X E0:=by
 rintro _ _ _ _ _ _ _ ⟨_,_,_,_,_,_,_,_,_,_,_,_,_,_,z⟩
 exact z.elim
theorem HF{P:Program}{w:World}{K:PySem.W.Frag}{mg:Str->Option Value}{base:Heap}{k:Nat}{f:Addr}{fd:FuncData}{ps:List Str}{sp:rB}(h:aU P w K mg base (n8 P w) k f fd ps (zR sp)) :
  aU P w K mg base (n8 P w) k f fd ps (bA λds Q=>sp ds Q λ_=>False) :=
 h.imp λvs H Q E ⟨F,ds,Qd,e,r,q,k⟩=>⟨F,ds,Qd,_,e,r,q,k,λ_ _ z=>z.elim⟩
end L3
namespace L3
open PySem L2 PySem.Spec PyProof.Rows
theorem uq{CX:fg}{P:Program}{w:World}{K:PySem.W.Frag}{mg:Str->Option Value}{base:Heap}{N:List Str}{q:Str}{sc:Scope}{f:Addr}{aK:Value}{A:Around}{outer:List Env}{s:Shared}{H:Hp}{E:XK}:(jv CX P w K mg base N q sc f aK A outer s H E).K=K:=rfl
theorem ur(φ:vH):(D.bM φ).pl=true:=rfl
theorem uu(φ:vH):(D.bM φ).sh=.bM φ:=rfl
end L3
namespace L3
open PySem L2 PySem.Spec PyProof.Rows
theorem uv{X:Cx}:X.gR.K=X.K:=rfl
end L3
namespace L3
open PySem L2 PySem.Spec PyProof.Rows
noncomputable def cR(xs ys:List D):List D:=dh (λx y=>D.tup [x,y]) xs ys
noncomputable def gu(xs:List D):List D:=xs.mapIdx λi x=>D.tup [.int i,x]
theorem HG(xs ys:List D):(cR xs ys).map D.sh=cR (xs.map D.sh) (ys.map D.sh):=by
 unfold cR
 rw[vd,yE]
 congr 1
theorem cB4{xs ys:List D}(h1:xs.all D.pl=true)(h2:ys.all D.pl=true):(cR xs ys).all D.pl=true:=by
 unfold cR
 rw[dw]at h1 h2 ⊢
 intro d hd
 obtain⟨i,hi,e⟩:=gj hd
 rw[c04]at e
 subst e
 rw[jT]
 simp only[dY,p9,kM,eQ]
 exact⟨h1 _ (cM _),h2 _ (cM _)⟩
theorem ce1(xs:List D):(gu xs).map D.sh=gu (xs.map D.sh):=by
 unfold gu
 apply FC
 intro i
 simp only[bQ,BH,Option.map_map]
 cases xs[i]? with
 | none=>rfl
 | some x =>
  show some (D.sh (.tup [.int i,x]))=some (D.tup [.int i,x.sh])
  rw[jU];rfl
theorem cf1{xs:List D}(h1:xs.all D.pl=true):(gu xs).all D.pl=true:=by
 unfold gu
 rw[dw]at h1 ⊢
 intro d hd
 obtain⟨i,hi,e⟩:=gj hd
 rw[List.getElem_mapIdx]at e
 subst e
 rw[jT]
 simp only[dY,p9,kM,eQ]
 exact⟨rfl,h1 _ (cM _)⟩
theorem uw(xs:List D):(gu xs).length=xs.length:=by simp[gu]
theorem HH(xs ys:List D):(cR xs ys).length=min xs.length ys.length:=by simp[cR]
section
variable{F H:Hp}{d:D}{v:V}{xs ys:List D}{ws us:List V}{p q:Addr}{K:PySem.W.Frag}
theorem HI(s:S F H [d] [v])(e2:ag F H)(e:iU d=some xs):∃p ws,v=.ref p/\Rd H p (.lst ws)/\R H H (xs.map D.sh) ws []/\(d.pl=true->xs.all D.pl=true/\Rd F p (.lst ws)/\R F H xs ws []):=by
 cases s with
 | @shr p ws ys _ _ hp r _ =>
  obtain rfl:=cX e
  refine⟨p,ws,rfl,.inl (e2 _ _ hp),?_,λ_=>⟨r.pl,.inl hp,r⟩⟩
  rw[mD r.pl]
  exact r.shared e2 (ag.refl _)
 | @own p ws ys _ _ hp r _ =>
  obtain rfl:=cX e
  exact⟨p,ws,rfl,.inl hp,r.frozen e2,λz=>by simp[fi]at z⟩
 | @fz p o ws ys _ _ hp r _ =>
  obtain rfl:=cX e
  refine⟨p,ws,rfl,.inr ⟨o,e2 _ _ hp⟩,?_,λ_=>⟨r.pl,.inr ⟨o,hp⟩,r⟩⟩
  rw[mD r.pl]
  exact r.shared e2 (ag.refl _)
 | az _=>cases e
 | bl _=>cases e
 | int _=>cases e
 | str _=>cases e
 | tup _ _ _=>cases e
 | obj _ _ _ _=>cases e
 | bM _ _=>cases e
theorem HJ(r:R F H xs ws []){i:Nat}(hi:i<xs.length){x:V}(hx:ws[i]?=some x):R F H [xs[i]] [x] []:=by
 obtain⟨v,A1,e2,r1,sub⟩:=r.get (aP hi)
 rw[hx]at e2;cases e2
 have:A1=[]:=c00.mpr λa ha=>by simpa using sub ha
 subst this
 exact r1
theorem Ur(hp:Rd F p (.lst ws))(r:R F H xs ws [])(hq:Rd F q (.lst us))(t:R F H ys us [])(hF:Full F H):JD (G1 K p q) F (cR xs ys) where
 go:=λi H' hs hi=>by
  rw[HH]at hi
  have l1:=r.length
  have l2:=t.length
  exact⟨ws,us,_,_,.inl (iQ hp hs),.inl (iQ hq hs),aP (show i<ws.length by omega),aP (show i<us.length by omega)⟩
 ki:=λi H' v H2 hs hi zz=>by
  obtain⟨T,x,y,e1,e2,e3,hx,hy⟩:=zz
  subst e1 e3
  have CK:=hi
  rw[HH]at CK
  have h1:=HJ (r.full hF hs rfl) (show i<xs.length by omega) (hx ws (.inl (iQ hp hs)))
  have h2:=HJ (t.full hF hs rfl) (show i<ys.length by omega) (hy us (.inl (iQ hq hs)))
  have sm:=ag.upd (o:=.tup [x,y]) e2
  refine⟨_,aP hi,sm,?_⟩
  have eg:(cR xs ys)[i]=.tup [xs[i]'(by omega),ys[i]'(by omega)]:=by simp[cR]
  rw[eg]
  exact R.tup (A:=[]) (B:=[]) cF ((h1.shared (ag.refl _) sm).cons (h2.shared (ag.refl _) sm)) .nil
 stop:=λi H' hs hi=>by
  rw[HH]at hi
  have l1:=r.length
  have l2:=t.length
  exact⟨ws,us,.inl (iQ hp hs),.inl (iQ hq hs),by omega⟩
theorem Us(hp:Rd F p (.lst ws))(r:R F H xs ws [])(hF:Full F H):JD (G6 K p) F (gu xs) where
 go:=λi H' hs hi=>by
  rw[uw]at hi
  have l1:=r.length
  exact⟨ws,_,.inl (iQ hp hs),aP (show i<ws.length by omega)⟩
 ki:=λi H' v H2 hs hi zz=>by
  obtain⟨T,x,e1,e2,e3,hx⟩:=zz
  subst e1 e3
  have CK:=hi
  rw[uw]at CK
  have h1:=HJ (r.full hF hs rfl) CK (hx ws (.inl (iQ hp hs)))
  have sm:=ag.upd (o:=.tup [.int i,x]) e2
  refine⟨_,aP hi,sm,?_⟩
  have eg:(gu xs)[i]=.tup [.int i,xs[i]]:=by simp[gu]
  rw[eg]
  exact R.tup (A:=[]) (B:=[]) cF (.int (h1.shared (ag.refl _) sm)) .nil
 stop:=λi H' hs hi=>by
  rw[uw]at hi
  have l1:=r.length
  exact⟨ws,.inl (iQ hp hs),by omega⟩
end
section
variable{X:Cx}{a b:Expr}{ta:cY}{p pos tu:Pos}{elts:List Expr}{x1:Nat}
noncomputable def rF(t:cY):jX:=λδ Q=>t δ λds ak=>match ds with
 | [d1,d2]=>∃xs ys,iU d1=some xs/\iU d2=some ys/\Q (d1.pl&&d2.pl) (cR xs ys) ak
 | _=>False
theorem mT(hg:Gl X "zip")(hm:X.mg "zip"=none)(ha:PA X [a,b] (lA ta))(hs:starEach [a,b] X.env=[(false,eval a X.env),(false,eval b X.env)]:=by rfl)(jt:starEach [b] X.env=[(false,eval b X.env)]:=by rfl) :
  PI X (.Tuple elts x1 tu) (.Call (.Name "zip" p) [a,b] [] pos) (lI (rF ta)) :=
 vK (cF8 hg hm ha hs jt) λσ H Q ⟨B,F,δ,ts,Qd,c,q,k⟩=>⟨B,F,δ,ts,_,c,q,λds ax vs F1 H1 hd f1 h1 c1 s=>by
  match ds,hd,s with
  | [d1,d2],⟨xs,ys,i1,i2,hq⟩,s =>
   obtain⟨v1,cU,rfl,s1,s2⟩:=s.dM
   obtain⟨v2,fi6,rfl,s2,s3⟩:=s2.dM
   cases s3
   have e2:=c1.ext
   have sn:=tK e2
   obtain⟨p1,w1,rfl,r1,t1,u1⟩:=HI s1 e2 i1
   obtain⟨p2,w2,rfl,r2,t2,u2⟩:=HI s2 e2 i2
   refine⟨p1,p2,rfl,⟨w1,.inl r1⟩,⟨w2,.inl r2⟩,k _ _ ax _ _ H1 hq (f1.trans sn) h1 c1.snap ?_ λz=>?_⟩
   ·rw[HG]
    exact Ur r1 t1 r2 t2 (Full.refl _)
   ·rw[eQ]at z
    obtain⟨a1,a2,a3⟩:=u1 z.1
    obtain⟨b1,b2,b3⟩:=u2 z.2
    exact⟨cB4 a1 b1,Ur (iQ a2 sn) (a3.shared sn (ag.refl _)) (iQ b2 sn) (b3.shared sn (ag.refl _)) vI⟩⟩
noncomputable def rG(t:cY):jX:=λδ Q=>t δ λds ak=>match ds with
 | [d1]=>∃xs,iU d1=some xs/\Q d1.pl (gu xs) ak
 | _=>False
theorem uz(hg:Gl X "enumerate")(hm:X.mg "enumerate"=none)(ha:PA X [a] (lA ta))(hs:starEach [a] X.env=[(false,eval a X.env)]:=by rfl) :
  PI X (.Tuple elts x1 tu) (.Call (.Name "enumerate" p) [a] [] pos) (lI (rG ta)) :=
 vK (cB9 hg hm ha hs) λσ H Q ⟨B,F,δ,ts,Qd,c,q,k⟩=>⟨B,F,δ,ts,_,c,q,λds ax vs F1 H1 hd f1 h1 c1 s=>by
  match ds,hd,s with
  | [d1],⟨xs,i1,hq⟩,s =>
   obtain⟨v1,cU,rfl,s1,s2⟩:=s.dM
   cases s2
   have e2:=c1.ext
   have sn:=tK e2
   obtain⟨p1,w1,rfl,r1,t1,u1⟩:=HI s1 e2 i1
   refine⟨p1,rfl,⟨w1,.inl r1⟩,k _ _ ax _ _ H1 hq (f1.trans sn) h1 c1.snap ?_ λz=>?_⟩
   ·rw[ce1]
    exact Us r1 t1 (Full.refl _)
   ·obtain⟨a1,a2,a3⟩:=u1 z
    exact⟨cf1 a1,Us (iQ a2 sn) (a3.shared sn (ag.refl _)) vI⟩⟩
end
end L3
namespace L3
open PySem L2 PySem.Spec PyProof.Rows
section
variable{X:Cx}{F H:Hp}{e b:Expr}{pos p p2 p3 pr apos cB HA:Pos}{t ti te:aY}{x y:Str}{i j:Nat}
theorem HK{α:Type}{xs:List α}{k:Nat}{v:α}(h:xs[k]?=some v):eK xs (k:Int)=some v:=by
 unfold eK iN
 have hk:k<xs.length:=(j9.mp h).1
 rw[if_pos (by omega),if_pos (by omega)]
 exact h
end
section
variable{X:Cx}{CX:fg}{k:Nat}{f:Addr}{fd:FuncData}{ps:List Str}{sp:bC}{E:XK}{fn x1 x2 y1 y2:Str}{i1 i2 j1 j2:Nat}{tk:Nat}
 {tp t1 t2 zp fi7 q1 q2 fp fi8 a1 a2 dC9 fi9 fj0 cp HA pr apos cB fj1 pos:Pos}
end
end L3
namespace L3
open PySem L2 PySem.Spec PyProof.Rows
theorem ay.dD0{B:Bs}{F H:Hp}{σ:L2.St}{δ:Dl}{ts:List (D × V)}{a b:D}{v:V}(c:ay B F H σ δ ((.tup [a,b],v)::ts)):∃p u w,v=.ref p/\H p=some (.tup [u,w])/\ay B F H σ δ ((a,u)::(b,w)::ts):=by
 obtain⟨A,C,r,s,nd,fr⟩:=c.own
 cases r with
 | @tup p ws xs A1 _ _ B1 hp r1 r2 =>
  obtain⟨u,gy,A2,A3,rfl,rfl,h1,h2⟩:=r1.dM
  obtain⟨w,fj2,A4,A5,rfl,rfl,h3,h4⟩:=h2.dM
  cases h4
  refine⟨p,u,w,rfl,hp,c.ext,c.b1,c.b2,c.b3,A2++(A4++B1),C,h1.cons (h3.cons r2),s,?_,?_⟩
  ·simpa using nd
  ·intro a ha;exact fr a (by simpa using ha)
section
variable{X:Cx}{y1 y2:Str}{i1 i2 tk m:Nat}{t1 t2 tp:Pos}
noncomputable def iZ(i1 i2:Nat):iT:=λd δ Q=>match d with
 | .tup [a,b]=>Q ((δ.set i1 (some a)).set i2 (some b))
 | _=>False
theorem gC(hc:X.calm=true)(Ut:X.N.Nodup)(m1:X.N[i1]?=some y1)(l1:Loc X.env.scope y1)(m2:X.N[i2]?=some y2)(l2:Loc X.env.scope y2)(hm1:m<=i1:=by decide)(Ua:m<=i2:=by decide)
  (f1:X.fn y1=true\/X.env.scope.names.lookup y1=some .local:=by first | exact .inl rfl | exact .inr rfl | assumption) (f2:X.fn y2=true\/X.env.scope.names.lookup y2=some .local:=by first | exact .inl rfl | exact .inr rfl | assumption)
  (hag:(assignEach [.Name y1 t1,.Name y2 t2] X.env).map (·.2)=assign (.Name y1 t1) X.env::(assignEach [.Name y2 t2] X.env).map (·.2):=by rfl) (dD2:(assignEach [.Name y2 t2] X.env).map (·.2)=assign (.Name y2 t2) X.env::(assignEach [] X.env).map (·.2):=by rfl)
  (hn:(assignEach [.Name y1 t1,.Name y2 t2] X.env).length=2:=by rfl) (dB:(assignEach [.Name y1 t1,.Name y2 t2] X.env).findIdx? (·.1)=none:=by rfl) :
  PG X (.Tuple [.Name y1 t1,.Name y2 t2] tk tp) (lG m (iZ i1 i2)) :=
 Tz (cI3 hc (R0 (B4 Ut m1 l1 f1) (R0 (B4 Ut m2 l2 f2) cx4 dD2) hag) hn dB) λv σ H Q zz=>by
  obtain⟨B,F,δ,ts,d,Qd,c,q,k⟩:=zz
  obtain⟨a,b,rfl,q⟩:∃a b,d=D.tup [a,b]/\Qd ((δ.set i1 (some a)).set i2 (some b)):=by
   unfold iZ at q
   split at q
   ·exact⟨_,_,rfl,q⟩
   ·exact q.elim
  obtain⟨p,u,w,rfl,hp,c2⟩:=c.dD0
  refine⟨p,[u,w],rfl,ik.of hp,rfl,u,[w],rfl,w,[],rfl,rfl,k _ _ q (by simp) (λj hj=>?_) ((c2.store i1).store i2)⟩
  rw[u5 (by omega),u5 (by omega)]
end
open Classical in
theorem eA{α:Type}{sh:Bool}{xs:List D}{aJ:List (Str × Nat)}{n m:Nat}{te:aY}{ax:Dl}{Q:D->Dl->Prop}(l:List α)(e g:α->D)(gD:xs.map D.sh=l.map e)(inj:∀a b,e a=e b->a=b)
  (hx:∀a∈l,te ((fR aJ n ax).set m (some (e a))) λd _=>d=g a) (eY:(sh&&aJ.all (iz ax))=true\/∀a∈l,(g a).fr=true) (hl:l.length<=sizeLine) (hq:Q (.lst true (l.map g)) ax):vL sh xs aJ n (gN m) kB te ax Q:=by
 let f:D->D:=λx=>if h:∃a∈l,e a=x then g h.choose else .az
 have hf:∀a∈l,f (e a)=g a:=λa ha=>by
  have h:∃b∈l,e b=e a:=⟨a,ha,rfl⟩
  show(if h:∃b∈l,e b=e a then g h.choose else .az)=g a
  rw[dif_pos h]
  exact congrArg g (inj _ _ h.choose_spec.2)
 refine ch6 f (λx h=>?_) (eY.imp id λh x hx=>?_) ?_ ?_
 ·rw[gD]at h
  obtain⟨a,ha,rfl⟩:=bE.mp h
  rw[hf a ha];exact hx a ha
 ·rw[gD]at hx
  obtain⟨a,ha,rfl⟩:=bE.mp hx
  rw[hf a ha];exact h a ha
 ·have:=congrArg Fg gD
  simp at this
  omega
 ·rw[gD,cm,show l.map (f ∘ e)=l.map g from qa λa ha=>hf a ha]
  exact hq
end L3
namespace L3
open PySem L2 PySem.Spec PyProof.Rows
end L3
namespace L2
open PySem PySem.Spec PyProof.Rows
section
variable{X:Cx}
end
end L2
namespace L3
open PySem L2 PySem.Spec PyProof.Rows
noncomputable abbrev tx(l:List Nat):D:=.str ⟨l.toArray⟩
section
variable{X:Cx}{F H:Hp}{e:Expr}{es:List Expr}{t:aY}{pos p p2 apos cB:Pos}
noncomputable def oU(x:D)(lo hi:Option Int)(Q:D->Prop):Prop:=match x with
 | .lst _ xs=>xs.all D.pl=true/\Q (.lst true (fk xs lo hi))
 | .fz xs=>Q (.lst true (fk xs lo hi))
 | .str z=>z.length<=sizeLine/\Q (tx (fk z.cps.toList lo hi))
 | _=>False
noncomputable def rH(t:aY)(tl th:vS):aY:=λδ Q=>t δ λx ax=>tl ax λl bo=>th bo λu iS=>oU x l u λd=>Q d iS
theorem rJ{lo hi:Option Expr}{tl th:vS}(he:PE X e (lB t))(hl:PO X lo (lP tl))(hu:PO X hi (lP th)):PE X (.Subscript e (.Slice lo hi none p2) pos) (lE (rH t tl th)) :=
 dN (ck3 (dn1.or cF5) he hl hu) λσ H Q ⟨B,F,δ,ts,Qd,c,q,k⟩=>⟨B,F,δ,ts,_,c,q,λx ax v F1 H1 q1 f1 h1 c1 s1=>⟨B,F1,ax,ts,_,c1,q1,λl bo F2 H2 q2 f2 h2 c2=>⟨B,F2,bo,ts,_,c2,q2,λu iS F3 H3 q3 f3 h3 c3=>by
  have oN:=s1.mono (f2.trans f3) (h2.trans h3)
  unfold oU at q3
  split at q3
  ·obtain⟨p,ws,rfl,h,t⟩:=mM oN c3.ext rfl
   exact .inl ⟨p,ws,rfl,lC h,λr hr=>k _ iS _ F3 _ q3.2 ((f1.trans f2).trans f3) (((h1.trans h2).trans h3).trans (ag.upd hr)) (c3.qt hr (t.cut _ _) (Uc q3.1 _ _))⟩
  ·obtain⟨p,ws,rfl,h,t⟩:=mM oN c3.ext rfl
   cases oN with
   | fz h' r _=>exact .inl ⟨_,_,rfl,lC (.inr ⟨_,c3.ext _ _ h'⟩),λr' hr=>k _ iS _ F3 _ q3 ((f1.trans f2).trans f3) (((h1.trans h2).trans h3).trans (ag.upd hr)) (c3.qt hr (r.s.cut _ _) (Uc r.pl _ _))⟩
  ·cases oN with
   | str _=>exact .inr ⟨_,rfl,q3.1,k _ iS _ F3 H3 q3.2 ((f1.trans f2).trans f3) ((h1.trans h2).trans h3) (c3.pushS (.str .nil) rfl)⟩
  ·exact q3.elim⟩⟩⟩
end
theorem uA(a:List Nat):(⟨a.toArray⟩:Str).length=a.length:=by show a.toArray.size=_;simp
end L3
namespace L3
open PySem L2 PySem.Spec PyProof.Rows
noncomputable def aq(l:List Nat):List D:=aL (l.map λ(n:Nat)=>(n:Int))
theorem e5(l:List Nat):(aq l).length=l.length:=by unfold aq;rw[lH,bB]
theorem cC(l:List Nat):aq l=l.map λ(n:Nat)=>D.int (n:Int):=by unfold aq aL;rw[cm];rfl
theorem mU(l:List Nat):(aq l).map D.sh=l.map λ(n:Nat)=>D.int (n:Int):=by unfold aq;rw[jE];exact cC l
theorem g5(a b:Nat)(h:D.int (a:Int)=D.int (b:Int)):a=b:=by injection h with h;omega
theorem kF(l:List Nat):(aq l).all D.pl=true:=lJ _
theorem mV(l:List Nat):(aq l).map D.sh=aq l:=jE _
theorem mW(a b:List Nat):aq a++aq b=aq (a++b):=by unfold aq;rw[oS,fM]
theorem uB(l:List Nat)(lo hi:Option Int):fk (aq l) lo hi=aq (fk l lo hi):=by
 unfold aq
 rw[rz]
 congr 1
 unfold fk
 rw[bB,Ro,Rn]
theorem Uu{α:Type}(xs:List α)(b:Nat):fk xs none (some (b:Int))=xs.take b:=by
 have:=Ug xs 0 b
 unfold fk at this ⊢
 simpa[HT.di]using this
theorem CL{α:Type}(xs:List α)(a:Nat):fk xs (some (a:Int)) none=xs.drop a:=by
 unfold fk
 rw[HT.GD]
 show(xs.drop (min a xs.length)).take (xs.length-min a xs.length)=_
 by_cases h:a<=xs.length
 ·rw[Nat.min_eq_left h,sO (by rw[iH];exact bN _)]
 ·rw[Nat.min_eq_right (by omega),List.drop_length,Rp (by omega)];simp
end L3
namespace L2
open PySem PySem.Spec PyProof.Rows
section
variable{X:Cx}{tg l o e:Expr}{tl to te:TE}{apos cB:Pos}
end
end L2
namespace L3
open PySem L2 PySem.Spec PyProof.Rows
section
variable{X:Cx}{F H:Hp}{tg l e:Expr}{te t tb:aY}{apos cB pos:Pos}
variable{o:Expr}
noncomputable def kE:cQ:=λx y Q=>match x,y with
 | .int i,.lst _ xs=>∃ns:List Int,xs=aL ns/\Q (.bl (decide (i∈ns)))
 | _,_=>False
theorem CM:∀{ns:List Int} {ws:List V},S F H (aL ns) ws->ws=ns.map V.int
 | [],_,s=>by cases s;rfl
 | n::ns,_,s=>by
  cases s with
  | int s=>rw[CM s];rfl
theorem cP5:bV X (compareOp .In) kE :=
 ⟨_,bW9,λ{B F H σ δ ts x y v w Q Qd} c sx sy h k=>by
  unfold kE at h
  split at h
  ·rename_i i o xs
   obtain⟨ns,rfl,q⟩:=h
   obtain⟨p,ws,rfl,e1,s1⟩:=iW sy c.ext
   have e:=CM s1
   subst e
   cases sx
   refine⟨p,_,rfl,.inl (bS.of e1),rfl,by simp[mB],?_⟩
   have ei:tF (.int i) (ns.map V.int)=decide (i∈ns):=by
    unfold tF
    rw[Ru,sM,Ft,decide_eq_true_iff]
    constructor
    ·rintro⟨x,hx,he⟩
     have:x=i:=by simpa[km]using he
     rw[<-this];exact hx
    ·intro hx
     exact⟨i,hx,by simp[km]⟩
   show Q (.bl (if false then _ else tF (.int i) (ns.map V.int))) H
   rw[if_neg (by decide),ei]
   exact k _ _ _ q (ag.refl _) (c.pushS (.bl .nil) rfl)
  ·exact h.elim⟩
end
end L3
namespace L3
open PySem L2 PySem.Spec PyProof.Rows
end L3
namespace L2
open PySem PySem.Spec PyProof.Rows
noncomputable def Tb(ts:List Addr)(H:Hp):Prop:=∀P∈ts,∃ps,H P=some (.dH ps)
structure vT(ts:List Addr)(H:Hp):Prop where
 any:∀b,H b=none\/(∃o xs,H b=some (.cq o (.lst xs)))\/(b∈ts/\H b=some (.dH #[]))
 tab:∀P∈ts,H P=some (.dH #[])
theorem vT.tb{ts:List Addr}{H:Hp}(h:vT ts H):Tb ts H:=λP hP=>⟨#[],h.tab P hP⟩
noncomputable def Bm(mg:Str->Option Value)(base:Heap):Prop:=∃bm o,mg "__builtins__"=some (.ref bm)/\bm≠builtinsNs/\bm≠mainGlobals/\base.get? bm=some o/\o.cls=.type "module"/\o.dict=some builtinsNs/\o.data=.plain
theorem b98{P:Program}{w:World}{K:PySem.W.Frag}{mg mb:Str->Option Value}{CX:fg}{k:Nat}{fa a:Addr}{fd:FuncData}{x:Str}{sp:Sp}{bL:Shared}{vs:List Value}{ns:List Int}{ts:List Addr}
  (KX:K.In bL.heap) (CN:bL.heap.Ns mainGlobals mg) (hb:bL.heap.Ns builtinsNs mb) (hbb:∀x:Str,x≠"__name__"->mb x=bootBuiltins x) (dD6:bL.heap.NoLimit) (hg:bL.gens=#[])
  (ht:∀P∈ts,bL.heap.get? P=some (PySem.W.tabObj #[])) (HL:∀P∈ts,isCodeTable bL.heap P) (hkt:∀P∈ts,K.lookup P=none)
  (ha:bL.heap.get? a=some { cls:=.type "list",data:=.seq vs.toArray }) (hi:IntsAre vs ns) (hl:ns.length<=sizeLine) (hr:cO k callerA)
  (zS:Bm mg bL.heap) (F:∀base:Heap,K.In base->base.Ns mainGlobals mg->Bm mg base->aU P w K mg base CX k fa fd [x] sp) (dD8:∀(s:Shared) (u:Value),BindsTo s fd ⟨[u],[]⟩ [(x,u)])
  (jw:∀H:Hp,vT ts H->bS K H a (ns.map V.int)->sp [.ref a] H (λv _=>v=.bl true) λ_ _ _=>False)
  (HM:∀H e s',CX [] H bL (λ_ _ _=>False) e s'->False) :
  codeAny (model P w) callerA (.call (.ref fa) ⟨[.ref a],[]⟩) (λr s'=>r=.ok (.ret (.bool true))/\OldK bL.heap s'.heap/\s'.os=bL.os/\AllBare s'.gens) bL:=by
 have rv:=SG hi
 have dD9:=hi.length
 have nat:a ∉ ts:=λz=>by
  have:=ht a z
  rw[ha]at this
  cases this
 have core:∀H:Hp,vT ts H->bS K H a (ns.map V.int)->cS P w H bL.heap->(∀b,H b≠none->b=a\/b∈ts)->(H a≠none->K.lookup a=none) ->
   codeAny (model P w) callerA (.call (.ref fa) ⟨[.ref a],[]⟩) (λr s'=>r=.ok (.ret (.bool true))/\OldK bL.heap s'.heap/\s'.os=bL.os/\AllBare s'.gens) bL:=by
  intro H hO hS aR hA hK
  have HN:∀{b:Addr} {o:Obj},bL.heap.get? b=some o->H b=none->(mn bL.heap H).get? b=some o:=λe n=>cm2 e n
  have y9:∀{b:Addr} {o:Obj} {es:Array DictEntry} {ep:Nat},bL.heap.get? b=some o->o.data=.dict es ep->H b=none:=λ{b o es ep} e d=>by
   cases q:H b with
   | none=>rfl
   | some u =>
    rcases hA b (by rw[q];simp)with e' | e'
    ·subst e'
     rw[ha]at e;cases e
     have d':Data.seq vs.toArray _=Data.dict es ep:=d
     cases d'
    ·rw[ht b e']at e;cases e
     have d':Data.fields #[]=Data.dict es ep:=d
     cases d'
  have CO:∀{b:Addr} {m:Str->Option Value},bL.heap.Ns b m->(mn bL.heap H).Ns b m:=λ{b m} ⟨o,es,ep,e,d,r⟩=>⟨o,es,ep,HN e (y9 e d),d,r⟩
  have Uv:K.In (mn bL.heap H):=λb o e=>HN (KX b o e) (by
   cases q:H b with
   | none=>rfl
   | some u =>
    rcases hA b (by rw[q];simp)with e' | e'
    ·subst e'
     rw[hK (by rw[q];simp)]at e;cases e
    ·rw[hkt b e']at e;cases e)
  have hBm:Bm mg (mn bL.heap H):=by
   obtain⟨bm,o,b1,b2,b3,b4,b5,b6,b7⟩:=zS
   refine⟨bm,o,b1,b2,b3,HN b4 ?_,b5,b6,b7⟩
   cases q:H bm with
   | none=>rfl
   | some u =>
    rcases hA bm (by rw[q];simp)with e' | e'
    ·rw[e',ha]at b4;cases b4
     have d':Data.seq vs.toArray _=Data.plain:=b7
     cases d'
    ·rw[ht bm e']at b4;cases b4
     have d':Data.fields #[]=Data.plain:=b7
     cases d'
  have hM:Mod K mg (mn bL.heap H):=⟨Uv,CO CN,⟨mb,CO hb,hbb⟩,let⟨mc,h1,h2⟩:=dD6;⟨mc,CO h1,h2⟩⟩
  have e0:ju P w K mg (mn bL.heap H) callerA [] bL H:=⟨rfl,hM,λb o e=>cA8 e,Bw (b80 _ _),trivial,λb hb=>absurd (show b∈([]:List Addr) from hb) (by simp),aR,.of_eq hg⟩
  refine codeAny_mono ((F _ Uv (CO CN) hBm).run callerA [] bL H ⟨[.ref a],[]⟩ [.ref a] [.ref a] _ _ hr e0 (dD8 bL (.ref a)) (.cons rfl .nil) (jw H hO hS)) λr s' h=>?_
  cases r with
  | error e=>exact(HM H e s' h).elim
  | ok fl =>
   cases fl with
   | next=>exact fV h
   | brk=>exact fV h
   | cont=>exact fV h
   | ret u =>
    obtain⟨v,H',os,bare,un,Uw,r',q⟩:=h
    have q':v=.bl true:=q
    subst q'
    obtain rfl:u=Fe true:=r'
    have each:∀b o,bL.heap.get? b=some o->asItWas bL.heap s'.heap b o/\∃o',s'.heap.get? b=some o':=λb o e=>by
     cases q:H b with
     | none =>
      have z:=un.keep b o e q (by intro z;exact absurd (show b∈([]:List Addr) from z) (by simp)) (by simp)
      exact⟨.inl z,o,z⟩
     | some u =>
      rcases hO.any b with z | ⟨ob,xs,z⟩ | ⟨jZ,z⟩
      ·rw[q]at z;cases z
      ·have z2:=un.jO b ob _ z
       obtain⟨e1,_⟩:=aR b _ z
       obtain⟨e2,_⟩:=Uw b _ z2
       rw[e]at e1;cases e1
       exact⟨.inl e2,_,e2⟩
      ·obtain⟨more,z2⟩:=un.iJ b _ z
       have e2:=(Uw b _ z2).1
       rw[ht b jZ]at e;cases e
       exact⟨.inr (.inl ⟨HL b jZ,rfl,#[],more,rfl,e2⟩),_,e2⟩
    exact⟨rfl,⟨λb o e=>(each b o e).1,λb o e=>(each b o e).2⟩,os,bare⟩
 have tok:∀(H:Hp) (b:Addr),b∈ts->eH P w H bL.heap b (.dH #[]):=λH b hb=>⟨ht b hb,trivial,λpos cv q=>by cases q⟩
 cases hk:K.lookup a with
 | some o =>
  have e:=KX a o hk
  rw[ha]at e
  cases e
  refine core (λb=>if b∈ts then some (.dH #[])else none) ⟨λb=>?_,λb hb=>if_pos hb⟩ (.inr ⟨_,vs.toArray,_,hk,rfl,rfl,rfl,by rw[dX,dD9];exact hl,by simpa using rv⟩) (λb u z=>?_) (λb z=>?_) λz=>absurd (if_neg nat) z
  ·by_cases hb:b∈ts
   ·exact .inr (.inr ⟨hb,if_pos hb⟩)
   ·exact .inl (if_neg hb)
  ·by_cases hb:b∈ts
   ·have z':=(if_pos hb).symm.trans z
    cases z'
    exact tok _ b hb
   ·have z':=(if_neg hb).symm.trans z
    cases z'
  ·by_cases hb:b∈ts
   ·exact .inr hb
   ·exact absurd (if_neg hb) z
 | none =>
  refine core (λb=>if b=a then some (.cq { cls:=.type "list",data:=.seq vs.toArray } (.lst (ns.map V.int)))else if b∈ts then some (.dH #[])else none) ⟨λb=>?_,λb hb=>?_⟩ (.inl (.inr ⟨{ cls:=.type "list",data:=.seq vs.toArray },if_pos rfl⟩)) (λb u z=>?_) (λb z=>?_) λ_=>hk
  ·by_cases hb:b=a
   ·exact .inr (.inl ⟨_,_,if_pos hb⟩)
   ·by_cases jZ:b∈ts
    ·exact .inr (.inr ⟨jZ,(if_neg hb).trans (if_pos jZ)⟩)
    ·exact .inl ((if_neg hb).trans (if_neg jZ))
  ·have tI:b≠a:=λz=>nat (z ▸ hb)
   exact(if_neg tI).trans (if_pos hb)
  ·by_cases hb:b=a
   ·have z':=(if_pos hb).symm.trans z
    cases z'
    subst hb
    exact⟨ha,by rw[bB];exact hl,vs,_,rv,ha⟩
   ·by_cases jZ:b∈ts
    ·have z':=((if_neg hb).trans (if_pos jZ)).symm.trans z
     cases z'
     exact tok _ b jZ
    ·have z':=((if_neg hb).trans (if_neg jZ)).symm.trans z
     cases z'
  ·by_cases hb:b=a
   ·exact .inl hb
   ·by_cases jZ:b∈ts
    ·exact .inr jZ
    ·exact absurd ((if_neg hb).trans (if_neg jZ)) z
theorem dE1{l:PySem.W.OpenLaw}{n k:Nat}{q:Program}{loose:List Str}{XP:(Str->Option Value)->Heap->Prop}{YP:World->Heap->Prop}{d:DefRec}{K:Params->PySem.W.Frag}{CX:World->fg}{sp:World->Sp}{x:Str}{ts:List Addr}
  (hn:l.most=some n) (B8:n<=sizeLine) (ze:d.params.defaults=[]) (hr:cO k callerA)
  (hY:∀(w:World) (h:Heap),YP w h->(K w.params).In h/\∀P∈ts,h.get? P=some (PySem.W.tabObj #[]))
  (hC:∀(w:World) (h:Heap),(K w.params).In h->∀P∈ts,(K w.params).lookup P=none/\∃c,PySem.W.CodeHd h c P)
  (F:∀(w:World) (mg:Str->Option Value) (fa:Addr) (h:Heap),(K w.params).In h->h.Ns mainGlobals mg->mg d.name=some (.ref fa) ->
   ∃fd:FuncData,(∀(s:Shared) (u:Value),BindsTo s fd ⟨[u],[]⟩ [(x,u)]) /\
    ∀base:Heap,(K w.params).In base->base.Ns mainGlobals mg->Bm mg base->aU l.prog w (K w.params) mg base (CX w) k fa fd [x] (sp w))
  (jw:∀(w:World) (H:Hp) (a:Addr) (ns:List Int),ns.length<=n->vT ts H->bS (K w.params) H a (ns.map V.int)->sp w [.ref a] H (λv _=>v=.bl true) λ_ _ _=>False)
  (HM:∀(w:World) (H:Hp) (s:Shared) (e:Value) (s':Shared),CX w [] H s (λ_ _ _=>False) e s'->False) :
  PySem.W.WalkO q loose XP YP l.row.toRowW d [] (λf vs=>PySem.call f vs):=by
 refine Att.dp7 hn ze λw cT bL mg mb fa o pm cd doc a vs ns G Y ho hd dq zf GL hints hlen hg=>?_
 obtain⟨KX,hT⟩:=hY w _ Y
 obtain⟨fd,hb,hF⟩:=F w mg fa _ KX G.T.g zf
 have HL:∀P∈ts,isCodeTable bL.heap P:=λP hP=>by
  obtain⟨_,c,C⟩:=hC w _ KX P hP
  exact(C.tab (hT P hP)).isCodeTable
 have zS:Bm mg bL.heap:=by
  obtain⟨bm,ob,b1,b2,b3,b4,b5,b6⟩:=G.T.bmain
  refine⟨bm,ob,b1,b2,λq=>?_,b3,b4,b5,b6⟩
  obtain⟨o,es,ep,e,hd,_⟩:=G.T.g
  rw[q,e]at b3;cases b3;rw[hd]at b6;cases b6
 exact b98 KX G.T.g G.T.b G.T.builtins G.T.nolimit hg hT HL (λP hP=>(hC w _ KX P hP).1) GL hints (eP hlen B8) hr zS hF hb (λH hO hS=>jw w H a ns hlen hO hS) λH e s'=>HM w H bL e s'
end L2
namespace L3
open PySem L2 PySem.Spec PyProof.Rows
noncomputable def zT(ts:List Addr)(sp:Sp):Sp:=λvs H Q E=>Tb ts H/\sp vs H Q E
theorem Ux{X:Cx}{pins:List (Addr × Obj)}{σ:L2.St}{H:Hp}{s:Shared}{ts:List Addr}(I:Inv X pins σ H s)(h:Tb ts X.kP):Tb ts H:=λP hP=>by
 obtain⟨ps,e⟩:=h P hP
 obtain⟨m,e2⟩:=I.base.iJ P ps e
 exact⟨_,e2⟩
noncomputable def CP(ts:List Addr)(K:PySem.W.Frag):Sp:=λvs H Q _=>∃(a:Addr) (ns:List Int),vs=[.ref a]/\vT ts H/\bS K H a (ns.map V.int)/\ns.length<=63/\∀H',Q (.bl true) H'
theorem cf8{ts:List Addr}{K:PySem.W.Frag}(nl:K.all (λp=>Hz p.2)=true){vs:List V}{H:Hp}{Q:VK}{E:XK}(h:CP ts K vs H Q E):zT ts (bA Ud) vs H Q E:=by
 obtain⟨a,ns,rfl,hO,hS,hl,q⟩:=h
 have hz:∃o,H a=some (.cq o (.lst (ns.map V.int))):=by
  rcases hS with (hS | hS) | ⟨o,its,n,hk,hc,_⟩
  ·rcases hO.any a with z | ⟨o,xs,z⟩ | ⟨_,z⟩
   ·rw[hS]at z;cases z
   ·rw[hS]at z;cases z
   ·rw[hS]at z;cases z
  ·exact hS
  ·have hm:=bO9 hk
   have:=dw.mp nl _ hm
   simp[Hz,hc]at this
 obtain⟨o,ho⟩:=hz
 refine⟨hO.tb,H,[.fz (aL ns)],λd=>d=.bl true,ag.refl _,.fz ho (lD ns) .nil,⟨ns,rfl,hl,rfl⟩,λd v F' H' A hd hs hf he h3 r nd fr=>?_⟩
 subst hd
 cases r
 exact q H'
end L3
namespace L2
open PySem PySem.Spec PyProof.Rows
noncomputable def rem(H:Hp)(f c:Addr):Hp:=λb=>if b=f\/b=c then none else H b
noncomputable def oV(H H':Hp)(f c:Addr):Hp:=λb=>if b=f\/b=c then H b else H' b
section
variable{P:Program}{w:World}{H H':Hp}{h:Heap}{a b f c:Addr}{o:HO}{of oc:Obj}
theorem Uy:rem H f c f=none:=if_pos (.inl rfl)
theorem CQ:rem H f c c=none:=if_pos (.inr rfl)
theorem iA(h1:b≠f)(h2:b≠c):rem H f c b=H b:=if_neg (by simp[h1,h2])
theorem vU(e:H b=none):rem H f c b=none:=by unfold rem;split;rfl;exact e
theorem Uz(e:rem H f c b=some o):b≠f/\b≠c/\H b=some o:=by
 unfold rem at e
 split at e
 ·cases e
 ·rename_i n
  exact⟨λz=>n (.inl z),λz=>n (.inr z),e⟩
theorem rK(h1:b≠f)(h2:b≠c):oV H H' f c b=H' b:=if_neg (by simp[h1,h2])
theorem UA:oV H H' f c f=H f:=if_pos (.inl rfl)
theorem HP:oV H H' f c c=H c:=if_pos (.inr rfl)
theorem eH.rem{φ:Heap->Prop}(x:eH P w H h a o)(ha:a≠f)(hf:H f=some (.ext φ))(hc:H c=some (.own f)\/H c=none)(HQ:¬ ∀h',φ h'->∃q,h'.CodeRec (.ref f) q):eH P w (rem H f c) h a o:=by
 have own:∀b,H b=some (.own a)->L2.rem H f c b=some (.own a):=λb e=>by
  rw[iA (λz=>by subst z;rw[hf]at e;cases e) (λz=>by subst z;rcases hc with hc | hc<;>(rw[hc]at e;cases e);exact ha rfl)];exact e
 have tup:∀b xs,H b=some (.tup xs)->L2.rem H f c b=some (.tup xs):=λb xs e=>by
  rw[iA (λz=>by subst z;rw[hf]at e;cases e) (λz=>by subst z;rcases hc with hc | hc<;>(rw[hc]at e;cases e))];exact e
 induction o with
 | lst xs=>exact x
 | tup xs=>exact x
 | dK dR=>exact x
 | dT dR =>
  obtain⟨z,y,xs,r,ob⟩:=x
  exact⟨z,y,xs,Paired.FT r λp q z=>⟨z.1,tup _ _ z.2.1,z.2.2⟩,ob⟩
 | set S n=>exact x
 | ins C dx fs =>
  obtain⟨d,r⟩:=x
  exact⟨own _ d,r⟩
 | own y=>exact x
 | xd fs=>exact x
 | yO lo hi=>exact x
 | cq ob u ih=>obtain⟨e,q⟩:=x;exact⟨e,ih q⟩
 | dH ps =>
  obtain⟨e,t,cc⟩:=x
  refine⟨e,t,λpos cv q=>?_⟩
  obtain⟨d,φ,e1,e2,e3⟩:=cc pos cv q
  refine⟨d,φ,e1,?_,e3⟩
  rw[iA (λz=>?_) (λz=>by subst z;rcases hc with hc | hc<;>(rw[hc]at e2;cases e2))]
  ·exact e2
  ·subst z
   rw[hf]at e2;cases e2
   exact HQ e3
 | met f y=>exact x
 | ext φ=>obtain⟨p,r,st⟩:=x;exact⟨p,r,λh1 h2 p1 kk=>st h1 h2 p1 λb o hb q=>kk b o (hb.imp id (own b)) q⟩
theorem UB{φ:Heap->Prop}{fd:FuncData}(p:φ h)(g:∀h',φ h'->h'.get? f=some of)(hd:of.data=.func fd):¬ ∀h',φ h'->∃q,h'.CodeRec (.ref f) q:=λz=>by
 obtain⟨q,k,ok,vs,t,q1,q2,q3,_⟩:=z h p
 cases q1
 rw[g h p]at q2;cases q2
 rw[hd]at q3;cases q3
theorem cS.lam(ok:cS P w H h)(hf:H f=some (.ext (L3.jS of oc c f))):L3.jS of oc c f h:=(ok f _ hf).1
theorem cS.rem{fd:FuncData}(ok:cS P w H h)(hf:H f=some (.ext (L3.jS of oc c f)))(hc:H c=some (.own f))(hd:of.data=.func fd):cS P w (rem H f c) h:=λb o e =>
 let⟨h1,_,h3⟩:=Uz e;(ok b o h3).rem h1 hf (.inl hc) (UB (ok.lam hf) (λ_ p=>p.1) hd)
end
theorem ju.rem{P:Program}{w:World}{K:PySem.W.Frag}{mg:Str->Option Value}{base:Heap}{A:Around}{outer:List Env}{s:Shared}{H:Hp}{f c:Addr}{of oc:Obj}{fd:FuncData}(e:ju P w K mg base A outer s H)
  (hf:H f=some (.ext (L3.jS of oc c f))) (hc:H c=some (.own f)) (hd:of.data=.func fd):ju P w K mg base A outer s (rem H f c) :=
 ⟨e.frames,e.mod,λb o q=>⟨(e.bs b o q).1,vU (e.bs b o q).2⟩,e.ke,e.gQ,λb hb=>vU (e.kg b hb),e.aR.rem hf hc hd,e.bare⟩
theorem CE.add{P:Program}{w:World}{K:PySem.W.Frag}{mg:Str->Option Value}{base:Heap}{A:Around}{outer:List Env}{s s':Shared}{H:Hp}{f c:Addr}{of oc:Obj}{Q Q':VK}{u:Value}(e0:ju P w K mg base A outer s H)
  (hf:H f=some (.ext (L3.jS of oc c f))) (hc:H c=some (.own f)) (h:CE outer P w (rem H f c) s Q u s') (hQ:∀v H',Q v H'->H' f=none->H' c=none->Q' v (oV H H' f c)):CE outer P w H s Q' u s':=by
 obtain⟨v,H',os,bare,un,aR,r,q⟩:=h
 obtain⟨gf,gc⟩:=e0.aR.lam hf
 have UC:∀{b o},H b=some o->b ∉ eI outer:=λ{b o} e z=>by rw[e0.kg b z]at e;cases e
 have nf:H' f=none:=un.free f _ gf Uy (by simp)
 have nc:H' c=none:=un.free c _ gc CQ (by simp)
 have kf:=un.keep f _ gf Uy (UC hf) (by simp)
 have kc:=un.keep c _ gc CQ (UC hc) (by simp)
 refine⟨v,oV H H' f c,os,bare,⟨λb o e n=>un.keep b o e (vU n),λb o e n=>un.slot b o e (vU n),λb o e n x=>?_,un.there,λb xs e=>?_,λb ob xs e=>?_,λb ps e=>?_⟩,λb o e=>?_,r,hQ v H' q nf nc⟩
 ·rw[rK (λz=>by subst z;rw[hf]at n;cases n) (λz=>by subst z;rw[hc]at n;cases n)]
  exact un.free b o e (vU n) x
 ·have n1:b≠f:=λz=>by subst z;rw[hf]at e;cases e
  have n2:b≠c:=λz=>by subst z;rw[hc]at e;cases e
  rw[rK n1 n2]
  exact un.kb b xs (by rw[iA n1 n2];exact e)
 ·have n1:b≠f:=λz=>by subst z;rw[hf]at e;cases e
  have n2:b≠c:=λz=>by subst z;rw[hc]at e;cases e
  rw[rK n1 n2]
  exact un.jO b ob xs (by rw[iA n1 n2];exact e)
 ·have n1:b≠f:=λz=>by subst z;rw[hf]at e;cases e
  have n2:b≠c:=λz=>by subst z;rw[hc]at e;cases e
  rw[rK n1 n2]
  exact un.iJ b ps (by rw[iA n1 n2];exact e)
 ·by_cases z:b=f
  ·subst z
   rw[UA,hf]at e;cases e
   refine⟨⟨kf,kc⟩,⟨_,kf⟩,λh1 h2 p kk=>⟨kk b _ (.inl rfl) p.1,kk c _ (.inr ?_) p.2⟩⟩
   rw[HP];exact hc
  ·by_cases z2:b=c
   ·subst z2
    rw[HP,hc]at e;cases e
    exact⟨_,kc⟩
   ·rw[rK z z2]at e
    have up:∀{b' o'},H' b'=some o'->oV H H' f c b'=some o':=λ{b' o'} q=>by
     rw[rK (λz=>by subst z;rw[nf]at q;cases q) (λz=>by subst z;rw[nc]at q;cases q)];exact q
    exact(aR b o e).kO (λ_ _ _ q=>q) (λ_ q=>up q) (λ_ _ q=>up q) λ_ _ q=>up q
theorem cm9{prog:Program}{w:World}{A:Around}{R:Result->Shared->Prop}{s:Shared}{a:Addr}{args:Args}{o:Obj}{fd:FuncData}{body:Expr}{q:Str}(dE4:A.depth<recursionLimit)
  (ho:s.heap.get? a=some o)
  (yR:o.data=.func fd) (hco:fd.scope.isCoroutine=false) (dE6:fd.scope.isGenerator=false) (iM:fd.body=.expr body) (dq:s.heap.CodeRec fd.code q)
  (h:wpAny (model prog w) A.in1 (bindArgs fd args) (λbinds bL =>
   wpAny (model prog w) A.in1 (newFunctionEnv fd.scope fd.globals fd.closure binds (q++".<locals>.") (some a) fd.code none fd.builtins)
    (λenv kS=>kS.heap.NoLimit/\codeAny (model prog w) A (.expr body env) R kS) (λe s'=>R (.error e) s') bL) (λe s'=>R (.error e) s') s) :
  codeAny (model prog w) A (.call (.ref a) args) R s:=by
 refine codeAny_of_tree ?_
 show wpAny _ A.in1 (callAny (.ref a) args) _ _ s
 simp only[callAny]
 refine wpAny_bind (wpAny_load ho ?_)
 obtain⟨c,oc,vs,tq,hc,jr,HR,hq⟩:=dq
 simp only[yR,callFunction,hco,dE6,iM,hc]
 rw[hc]at h
 refine wpAny_bind (m:=field (.ref c) 1) (wpAny_field jr HR hq (wpAny_bind (wpAny_pure ?_)))
 exact wpAny_bind (wpAny_mono h (λbinds bL CS=>wpAny_bind (wpAny_mono CS (λenv kS UD=>wpAny_bind (wpAny_enterFrame UD.1 dE4
  (wpAny_pure (And.intro rfl UD.2)))) λ_ _ h'=>h')) λ_ _ h'=>h')
structure UE(p1 p2 x:Str)(sc:Scope):Prop where
 kind:sc.kind=.function
 co:sc.isCoroutine=false
 gen:sc.isGenerator=false
 nd:[p1,p2,x].Nodup
 l1:sc.names.lookup p1=some .local
 l2:sc.names.lookup p2=some .local
 UG:∀y∈sc.names,y.2≠.cell
 only:∀y∈sc.names,y.2=.free->y.1=x
 lx:sc.names.lookup x=some .free
noncomputable def uC(CX:fg)(P:Program)(w:World)(K:PySem.W.Frag)(mg:Str->Option Value)(base:Heap)(N:List Str)(qual:Str)(scope:Scope)(f:Addr)(cd:Value)(cl:List (Str × Addr))(A:Around)(outer:List Env)(s:Shared)(H:Hp)(E:XK):Cx where
 prog:=P
 w:=w
 K:=K
 mg:=mg
 base:=base
 A:=A.deeper (PySem.W.envX qual scope s.heap.objs.size f cd cl)
 N:=N
 cT:=s
 kP:=H
 env:=PySem.W.envX qual scope s.heap.objs.size f cd cl
 outer:=outer
 stack:=PySem.W.envX qual scope s.heap.objs.size f cd cl::outer
 ex:=[]
 calm:=true
 fn:=λ_=>false
 pn:=[]
 xe:=λe s'=>wpAny (model P w) (A.deeper (PySem.W.envX qual scope s.heap.objs.size f cd cl)) (leaving (PySem.W.envX qual scope s.heap.objs.size f cd cl) e) (λ_ tD=>CX outer H s E e tD) (λe' tD=>CX outer H s E e' tD) s'
theorem cC3{CX:fg}{P:Program}{w:World}{K:PySem.W.Frag}{mg:Str->Option Value}{base:Heap}{p1 p2 x qn q:Str}{params:Arguments}{body:Expr}{scope:Scope}{pm jF:Value}{f c c':Addr}{k:Nat}{A:Around}{outer:List Env}{s:Shared}{H:Hp}{E:XK}
  {u1 u2 uc:Value} {v1 v2 vc:V} {Q:VK} {t:TE} {args:Args} (S:UE p1 p2 x scope) (e0:ju P w K mg base A outer s H) (hr:cO (k+1) A)
  (hf:s.heap.get? f=some (PySem.W.kla_obj "<lambda>" qn params body scope [(x,c)] pm c' jF)) (hc:s.heap.IsCell c (some uc)) (rc:RelV vc uc) (hH:H c=none) (dq:s.heap.CodeRec (.ref c') q)
  (hb:bindArgs (PySem.W.kla_fn "<lambda>" qn params body scope [(x,c)] pm (.ref c') jF) args=pure [(p1,u1),(p2,u2)]) (r1:RelV v1 u1) (r2:RelV v2 u2)
  (ht:PE (uC CX P w K mg base [p1,p2,x] q scope f (.ref c') [(x,c)] A outer s H E) body t) (h:t [some v1,some v2,some vc] H Q) :
  codeAny (model P w) A (.call (.ref f) args) (CR CX outer P w H s Q E) s:=by
 have lim:s.heap.NoLimit:=e0.mod.nolimit.keeps λb o e=>(e0.bs b o e).1
 refine cm9 hr.depth hf rfl S.co S.gen rfl dq ?_
 rw[hb]
 have dE8:∀y∈[(p1,u1),(p2,u2)],scope.names.lookup y.1=some .local:=λy hy=>by
  simp at hy
  rcases hy with rfl | rfl
  ·exact S.l1
  ·exact S.l2
 refine wpAny_pure (wpAny_newFunctionEnv S.UG dE8 (λCS CN UH=>⟨lim.fresh _ UH,?_⟩) S.kind)
 show codeAny _ _ (.expr body (PySem.W.envX q scope s.heap.objs.size f (.ref c') [(x,c)])) _ _
 have hk:∀b o,s.heap.get? b=some o->CS.get? b=some o:=λb o e=>UH.extBut b o (fo (bW e)) (fL _ e)
 have e7:p1≠p2/\p1≠x/\p2≠x:=by have:=S.nd;simp at this;exact⟨this.1.1,this.1.2,this.2⟩
 have look:∀y d,([(x,c)]:List (Str × Addr)).lookup y=some d->y=x/\d=c:=λy d e=>by
  rw[gx]at e
  split at e
  ·rename_i z;exact⟨beq_iff_eq.mp z,(cX e).symm⟩
  ·cases e
 have I:Inv (uC CX P w K mg base [p1,p2,x] q scope f (.ref c') [(x,c)] A outer s H E) [] [some v1,some v2,some vc] H { s with heap:=CS,toks:=s.toks+[(p1,u1),(p2,u2)].length }:=by
  refine⟨⟨e0.mod,S.kind,rfl,rfl,bN _,λy z d h1 h2=>?_,λy hy=>?_,λy d z _=>absurd z (by simp[uC]),λ_=>hr.hd,Around.frames_deeper e0.frames,.inr ⟨rfl,rfl⟩,λb z=>absurd z (by simp[uC]),e0.bs,e0.ke,λb _ _=>by simp[uC],λb z=>absurd z (by simp[uC]),e0.gQ,e0.kg⟩,
   rfl,e0.bare,Un.kept hk,⟨_,CN,λi y v h1 h2 h3=>?_⟩,λy d h=>?_,e0.aR.fresh (bN _),λy d h=>?_,λp hp=>absurd (show p∈([]:List (Addr × Obj)) from hp) (by simp),e0.aR.kept hk,rfl⟩
  ·exact(look y d h1).1.trans (look z d h2).1.symm
  ·have hy:scope.names.lookup y=some .cell\/scope.names.lookup y=some .free:=hy
   rcases hy with hy | hy
   ·exact absurd rfl (S.UG _ (PySem.mem_of_lookup hy))
   ·obtain rfl:y=x:=S.only _ (PySem.mem_of_lookup hy) rfl
    exact⟨c,by show([(y,c)]:List (Str × Addr)).lookup y=_;rw[gx,beq_self_eq_true]⟩
  ·match i,h1,h2 with
   | 0,h1,h2 =>
    cases h1;cases h2
    exact⟨u1,r1,.inl ⟨S.l1,by
     show([(p1,u1),(p2,u2)]:List (Str × Value)).reverse.lookup p1=_
     simp[gx,beq_eq_false_iff_ne.mpr e7.1]⟩⟩
   | 1,h1,h2 =>
    cases h1;cases h2
    exact⟨u2,r2,.inl ⟨S.l2,by
     show([(p1,u1),(p2,u2)]:List (Str × Value)).reverse.lookup p2=_
     simp[gx]⟩⟩
   | 2,h1,h2 =>
    cases h1;cases h2
    exact⟨uc,rc,.inr ⟨.inr S.lx,c,by show([(x,c)]:List (Str × Addr)).lookup x=_;rw[gx,beq_self_eq_true],hc.keeps hk⟩⟩
   | n+3,h1,h2=>cases h2
  ·obtain⟨rfl,rfl⟩:=look y d h
   exact⟨_,hc.keeps hk⟩
  ·obtain⟨rfl,rfl⟩:=look y d h
   exact hH
 refine PySem.W.kla_codeExpr (wpAny_mono (ht [] _ _ H _ I h) (λu s' hs=>?_) λe s' hs=>hs)
 obtain⟨v,H',J,rv,q⟩:=hs
 exact⟨v,H',J.os,J.bare,J.base,J.aR,rv,q⟩
end L2
namespace L3
open PySem L2 PySem.Spec PyProof.Rows
theorem ag.oV{H H':Hp}{f c:Addr}{o1 o2:HO}(h:ag (rem H f c) H')(h1:H f=some o1)(n1:jA o1=true)(h2:H c=some o2)(n2:jA o2=true):ag H (oV H H' f c) where
 get b o e n:=by
  by_cases z:b=f
  ·rw[z,UA,<- z];exact e
  ·by_cases z2:b=c
   ·rw[z2,HP,<- z2];exact e
   ·rw[rK z z2];exact h.get b o (by rw[iA z z2];exact e) n
 tb b ps e:=by
  have z:b≠f:=λz=>by subst z;rw[h1]at e;cases e;cases n1
  have z2:b≠c:=λz=>by subst z;rw[h2]at e;cases e;cases n2
  rw[rK z z2]
  exact h.tb b ps (by rw[iA z z2];exact e)
noncomputable abbrev vV:=Int->Int->(Int->Prop)->Prop
structure zU(P:Program)(w:World)(K:PySem.W.Frag)(mg:Str->Option Value)(base:Heap)(n:Nat)(of oc:Obj)(c k:Addr)(sp:vV):Prop where
 fn:∃o1 od fd sl,of=⟨o1,od,.func fd,sl⟩
 run:∀(A:Around) (outer:List Env) (s:Shared) (H:Hp) (f:Addr) (t u:Tok) (i j:Int) (Qd:Int->Prop),cO n A->ju P w K mg base A outer s H->s.heap.get? f=some of->s.heap.get? c=some oc->H c=none->(∃q,s.heap.CodeRec (.ref k) q)->sp i j Qd ->
  codeAny (model P w) A (.call (.ref f) ⟨[.int i t,.int j u],[]⟩) (CR bf outer P w H s (λv H'=>∃r,v=.int r/\Qd r/\ag H H') (λ_ _ _=>False)) s
noncomputable def rL(L:Obj->Obj->Addr->Addr->vV->Prop)(i:Nat)(ta:cY):aY:=λδ Q=>∃of oc c k sp,δ[i]?=some (some (.bM (.lam of oc c k)))/\L of oc c k sp/\ta δ λds ak=>∃a b,ds=[.int a,.int b]/\sp a b λr=>Q (.int r) ak
theorem UI{X:Cx}{n i:Nat}{x:Str}{p pos:Pos}{e1 e2:Expr}{ta:cY}(hN:X.N[i]?=some x)(hv:nQ X.env.scope x)(hr:cO n X.A)(ha:PA X [e1,e2] (lA ta))
  (hd:(x==("__debug__":Str))=false:=by decide) (dq:(x==("__classdict__":Str))=false:=by decide) (he:starEach [e1,e2] X.env=(false,eval e1 X.env)::starEach [e2] X.env:=by rfl) (bU:(backTo pos (starEach [e2] X.env)).any (·.1)=false:=by rfl) :
  PE X (.Call (.Name x p) [e1,e2] [] pos) (lE (rL (zU X.prog X.w X.K X.mg X.base n) i ta)):=by
 intro pins s σ H Q I zz
 obtain⟨B,F,δ,ts,Qd,c,⟨of,oc,cc,k,sp,ed,L,q⟩,kk⟩:=zz
 obtain⟨v,ev,sv⟩:=c.look ed
 obtain⟨f,rfl,lam⟩:∃f,v=.ref f/\kr H f of oc cc k:=by
  cases sv with
  | bM h _=>exact⟨_,rfl,h⟩
 refine wpAny_Call_Name_kw (bc (vw hN hv hd dq pins s σ H (λv' H'=>v'=.ref f/\H'=H) I ⟨_,ev,rfl,rfl⟩) λu s1 zz=>?_)
 obtain⟨v',H',I1,r1,e1,e2⟩:=zz
 subst e1 e2
 obtain rfl:u=.ref f:=r1
 have fnAt:∀{H1:Hp} {s2:Shared},Inv X pins σ H1 s2->kr H1 f of oc cc k->PySem.W.FnAt f s2.heap:=λ{H1 s2} J l=>by
  obtain⟨o1,od,fd,sl,e⟩:=L.fn
  exact⟨o1,od,fd,sl,by rw[<-e];exact(J.aR.lam l.fn).1⟩
 refine PySem.W.callWith_F (fnAt I1 lam) (bc (ha pos pins s1 σ H' (λvs H2=>∃a b ak F',vs=[.int a,.int b]/\(sp a b λr=>Qd (.int r) ak)/\ag F F'/\ag H' H2/\ay B F' H2 σ ak ts) I1
  ⟨B,F,δ,ts,_,c,q,λds ak vs F' H2 ⟨a,b,eds,q2⟩ f1 h1 c1 s1=>?_⟩) λus s2 ⟨vs,H2,I2,r2,a,b,ak,F',evs,q2,f1,h1,c1⟩=>⟨fnAt I2 ((show tJ H' f (.lam of oc cc k) from lam).mono λa o e _ t=>h1.get a o e t),?_⟩) he bU
 ·subst eds
  refine⟨a,b,ak,F',?_,q2,f1,h1,c1⟩
  cases s1 with
  | int s1=>cases s1 with
   | int s1=>cases s1;rfl
 ·subst evs
  have rM:kr H2 f of oc cc k:=(show tJ H' f (.lam of oc cc k) from lam).mono λa o e _ t=>h1.get a o e t
  obtain⟨o1,od,fd,sl,eof⟩:=L.fn
  have dF1:of.data=.func fd:=by rw[eof]
  obtain⟨gf,gc⟩:=I2.aR.lam rM.fn
  obtain⟨ψ,eψ,zV⟩:=rM.G9
  obtain⟨u1,u2,t1,t2,rfl⟩:∃(u1 u2:Unit) (t1 t2:Tok),us=[.int a t1,.int b t2]:=by
   cases r2 with
   | cons ra r2=>cases r2 with
    | cons rb r2 =>
     cases r2
     obtain⟨t1,rfl⟩:=ra
     obtain⟨t2,rfl⟩:=rb
     exact⟨(),(),t1,t2,rfl⟩
  refine wpAny_call (codeAny_mono (L.run X.A X.stack s2 (rem H2 f cc) f t1 t2 a b _ hr (I2.y8.rem rM.fn rM.cell dF1) gf gc CQ (zV _ (I2.aR k _ eψ).1) q2) λr s' hq=>?_)
  cases r with
  | error e=>exact hq.elim
  | ok fl =>
   cases fl with
   | ret u =>
    refine I2.after (CE.add I2.y8 rM.fn rM.cell hq (Q':=Q) ?_)
    rintro v H3 ⟨r,rfl,hqd,hs⟩ nf nc
    have sm:=hs.oV rM.fn rfl rM.cell rfl
    exact kk _ ak _ F' _ hqd f1 (h1.trans sm) ((c1.grow sm).pushS (.int .nil) rfl)
   | next=>exact fV hq
   | brk=>exact fV hq
   | cont=>exact fV hq
end L3
namespace L2
open PySem PySem.Spec PyProof.Rows
theorem bJ3{p:Pos}{c:Value}(l:List Value)(h:TriplesOk l):TriplesOk (l++[rawInt p.line,rawInt p.col,c]):=by
 fun_induction TriplesOk l with
 | case1=>simp[TriplesOk,rawInt]
 | case2 a b d e f rest ih=>exact ih h
 | case3=>exact h.elim
theorem bV3{p q:Pos}{c cv:Value}(l:List Value)(h:TriplesOk l)(e:codeAmong q (l++[rawInt p.line,rawInt p.col,c])=some cv):codeAmong q l=some cv\/cv=c:=by
 fun_induction TriplesOk l with
 | case1 =>
  simp only[nC,rawInt,codeAmong]at e
  split at e
  ·exact .inr (cX e).symm
  ·cases e
 | case2 a b d e' f rest ih =>
  simp only[nK,codeAmong]at e ⊢
  split at e
  ·rename_i z;rw[if_pos z];exact .inl e
  ·rename_i z;rw[if_neg z];exact ih h e
 | case3=>exact h.elim
noncomputable def oW(f:Addr)(o:Obj):Heap->Prop:=λh=>h.get? f=some o
noncomputable def cV1(P c:Addr)(x:Str)(params:Arguments)(body:Expr)(scope:Scope):TE:=λ_ H Q=>(∃ps,H P=some (.dH ps)) /\
 ∀f k qn pm jF H',H f=none->H' f=some (.ext (oW f (PySem.W.kla_obj "<lambda>" qn params body scope [(x,c)] pm k jF)))->L3.G8 H' k->k≠f->L3.ag H H'->(∀a ws,H' a=some (.lst ws)->H a=some (.lst ws))->Q (.ref f) H'
theorem UJ{X:Cx}{P c cc:Addr}{x:Str}{params:Arguments}{body:Expr}{scope:Scope}{pos:Pos}(gh:closureFor scope X.env=pure [(x,c)])(CT:X.env.code=.ref cc)(hK:PySem.W.codeHdIn X.K cc P=true)(zS:Bm X.mg X.base)
  (dF7:defaultsOf params X.env=([],[]):=by rfl):PE X (.Lambda params body scope pos) (cV1 P c x params body scope):=by
 intro pins s σ H Q I zz
 obtain⟨⟨ps,hP⟩,q⟩:=zz
 obtain⟨bm,ob,b1,b2,b3,b4,b5,b6,b7⟩:=zS
 have C:=PySem.W.codeHd_of_K I.dA hK
 obtain⟨oP,CU,codes⟩:=I.aR P _ hP
 have hg:=I.mod.glob.keeps I.bk
 have UK:∀{b o},X.base.get? b=some o->b≠P:=λ{b o} e z=>by
  have:=(I.bs b o e).2
  rw[z,hP]at this;cases this
 have hgP:mainGlobals≠P:=by
  obtain⟨o,es,ep,e,_⟩:=I.mod.glob
  exact UK e
 have UL:s.heap.BuiltinsAt X.mg P:=⟨bm,ob,b1,b2,b3,UK b4,I.bk _ _ b4,b5,b6,b7⟩
 refine PySem.W.kla_eval dF7 ?_
 have fresh:∀{b:Addr},s.heap.objs.size<=b->H b=none:=λ{b} h=>I.aR.fresh h
 cases HS:codeAmong pos ps.toList with
 | none =>
  refine PySem.W.kla_makeFunction (mg:=X.mg) gh I.ok.glob hg CT C oP CU HS hgP UL λk jF h' tk hx zW gr dF9 UM=>?_
  have HU:P<s.heap.objs.size:=bW oP
  have hPk:k≠P:=λz=>by rw[z]at zW;exact absurd HU (yF.mpr zW)
  have uD:s.heap.objs.size<=h'.objs.size:=eP zW (Br gr)
  have hPf:h'.objs.size≠P:=λz=>by rw[<-z]at HU;exact absurd HU (yF.mpr uD)
  have UN:k≠h'.objs.size:=fo gr
  generalize UO:PySem.W.kla_obj "<lambda>" (X.env.qual++"<lambda>") params body scope [(x,c)] ((X.mg "__name__").getD .none) k jF=obj
  have eY:obj.isFreed=false:=by rw[<-UO];rfl
  have zX:∀b,b≠P->b≠k->b≠h'.objs.size->upd (upd (upd H P (.dH (ps++#[rawInt pos.line,rawInt pos.col,.ref k]))) k (.ext λh=>∃q,h.CodeRec (.ref k) q)) h'.objs.size (.ext (oW h'.objs.size obj)) b=H b:=λb n1 n2 n3=>by
   rw[bu n3,bu n2,bu n1]
  have CV:upd (upd (upd H P (.dH (ps++#[rawInt pos.line,rawInt pos.col,.ref k]))) k (.ext λh=>∃q,h.CodeRec (.ref k) q)) h'.objs.size (.ext (oW h'.objs.size obj)) h'.objs.size=some (.ext (oW h'.objs.size obj)):=cF
  have atK:upd (upd (upd H P (.dH (ps++#[rawInt pos.line,rawInt pos.col,.ref k]))) k (.ext λh=>∃q,h.CodeRec (.ref k) q)) h'.objs.size (.ext (oW h'.objs.size obj)) k=some (.ext λh=>∃q,h.CodeRec (.ref k) q):=by rw[bu UN,cF]
  have CW:upd (upd (upd H P (.dH (ps++#[rawInt pos.line,rawInt pos.col,.ref k]))) k (.ext λh=>∃q,h.CodeRec (.ref k) q)) h'.objs.size (.ext (oW h'.objs.size obj)) P=some (.dH (ps++#[rawInt pos.line,rawInt pos.col,.ref k])):=by rw[bu hPf.symm,bu hPk.symm,cF]
  generalize hHn:upd (upd (upd H P (.dH (ps++#[rawInt pos.line,rawInt pos.col,.ref k]))) k (.ext λh=>∃q,h.CodeRec (.ref k) q)) h'.objs.size (.ext (oW h'.objs.size obj))=Hn at zX CV atK CW
  have old:∀{b o},H b=some o->b≠P->Hn b=some o:=λ{b o} e n=>by
   have hb:b<s.heap.objs.size:=I.aR.lt e
   rw[zX b n (λz=>absurd hb (yF.mpr (z ▸ zW))) (λz=>absurd hb (yF.mpr (z ▸ uD)))];exact e
  have kept:∀b o,b≠P->s.heap.get? b=some o->(h'.push obj).get? b=some o:=λb o n e=>fL _ (hx b o n e)
  have un:Un X.fs [] H Hn s.heap (h'.push obj):=by
   refine⟨λb o e n _ _=>kept b o (λz=>by rw[z,hP]at n;cases n) e,λb o e n _ _=>⟨o.slots,kept b o (λz=>by rw[z,hP]at n;cases n) e⟩,λb o e n _=>?_,λb o e _=>?_,λb xs e=>old e (λz=>by rw[z,hP]at e;cases e),λb ob xs e=>old e (λz=>by rw[z,hP]at e;cases e),λb UP e=>?_⟩
   ·have hb:=bW e
    rw[zX b (λz=>by rw[z,hP]at n;cases n) (λz=>absurd hb (yF.mpr (z ▸ zW))) (λz=>absurd hb (yF.mpr (z ▸ uD)))];exact n
   ·by_cases z:b=P
    ·rw[z];exact⟨_,fL _ UM⟩
    ·exact⟨o,kept b o z e⟩
   ·by_cases z:b=P
    ·subst z
     rw[hP]at e;cases e
     exact⟨_,CW⟩
    ·exact⟨#[],by rw[old e z];simp⟩
  have aR:cS X.prog X.w Hn (h'.push obj):=λb o e=>by
   by_cases z1:b=h'.objs.size
   ·subst z1
    rw[CV]at e;cases e
    exact⟨gJ _ eY,⟨_,gJ _ eY⟩,λh1 h2 p kk=>kk _ _ (.inl rfl) p⟩
   ·by_cases z2:b=k
    ·subst z2
     rw[atK]at e;cases e
     have hr:=dF9.push obj
     refine⟨⟨_,hr⟩,?_,λh1 h2 ⟨q,c1,o1,vs,t,e1,e2,r⟩ kk=>?_⟩
     ·obtain⟨c1,o1,vs,t,e1,e2,_⟩:=hr
      cases e1
      exact⟨o1,e2⟩
     ·cases e1
      exact⟨q,_,o1,vs,t,rfl,kk _ _ (.inl rfl) e2,r⟩
    ·by_cases z3:b=P
     ·subst z3
      rw[CW]at e;cases e
      refine⟨fL _ UM,by rw[c05];exact bJ3 _ CU,λp' cv e'=>?_⟩
      rw[c05]at e'
      rcases bV3 _ CU e' with e' | e'
      ·obtain⟨d,φ,e1,e2,e3⟩:=codes p' cv e'
       exact⟨d,φ,e1,old e2 (λz=>by rw[z,hP]at e2;cases e2),e3⟩
      ·exact⟨k,_,e',atK,λh' p=>p⟩
     ·rw[zX b z3 z2 z1]at e
      have nP:∀{b' o'},H b'=some o'->(∀ps,o'≠.dH ps)->b'≠P:=λ{b' o'} e n z=>by rw[z,hP]at e;cases e;exact n _ rfl
      refine(I.aR b o e).kO (λb' u zY e'=>kept b' u ?_ e') (λb' e'=>old e' (nP e' (λps z=>by cases z))) (λb' xs e'=>old e' (nP e' (λps z=>by cases z))) λb' φ e'=>old e' (nP e' (λps z=>by cases z))
      rcases zY with rfl | zY
      ·exact z3
      ·exact nP zY (λps z=>by cases z)
  refine⟨.ref h'.objs.size,Hn,I.un un aR,rfl,q _ k _ _ _ _ (fresh uD) (by rw[UO];exact CV) ⟨_,atK,λh p=>p⟩ UN ⟨λb o e n=>old e (λz=>by rw[z,hP]at e;cases e;cases n),λb UP e=>?_⟩ λa ws e=>?_⟩
  ·exact un.iJ b UP e
  ·by_cases z1:a=h'.objs.size
   ·subst z1;rw[CV]at e;cases e
   ·by_cases z2:a=k
    ·subst z2;rw[atK]at e;cases e
    ·by_cases z3:a=P
     ·subst z3;rw[CW]at e;cases e
     ·rw[zX a z3 z2 z1]at e;exact e
 | some cv =>
  obtain⟨k,φ,rfl,hk,HQ⟩:=codes pos cv HS
  refine PySem.W.kla_makeFunctionHit (mg:=X.mg) gh I.ok.glob hg CT C oP CU HS UL λjF h' tk hx uD=>?_
  have hf:=fresh uD
  refine⟨.ref h'.objs.size,upd H h'.objs.size (.ext (oW h'.objs.size (PySem.W.kla_obj "<lambda>" (X.env.qual++"<lambda>") params body scope [(x,c)] ((X.mg "__name__").getD .none) k jF))),I.laid (λb u e=>fL _ (hx b u e)) uD ?_,rfl,q _ k (X.env.qual++"<lambda>") ((X.mg "__name__").getD .none) jF _ hf cF ⟨φ,?_,HQ⟩ (fA hk hf) (L3.ag.of λb o e=>?_) λa ws e=>?_⟩
  ·exact⟨gJ _ rfl,⟨_,gJ _ rfl⟩,λh1 h2 p kk=>kk _ _ (.inl rfl) p⟩
  ·rw[bu (fA hk hf)];exact hk
  ·rw[bu (fA e hf)];exact e
  ·by_cases z:a=h'.objs.size
   ·subst z;rw[cF]at e;cases e
   ·rw[bu z]at e;exact e
end L2
namespace L2
open PySem PySem.Spec PyProof.Rows
structure CY(K:PySem.W.Frag)(C:Addr)(m:Str)(f:Addr):Prop where
 ga:PySem.W.specialIn K (.ref C) "__getattribute__"=some (some (.builtin "type.__getattribute__"))
 rd:PySem.W.readsIn K C (.type "type")=true
 at_:PySem.W.findCls K (.ref C) (.type "type") m=some (.val (.ref f))
 kp:PySem.W.keepIn K (.ref f)=true
section
variable{X:Cx}{CX:fg}{k:Nat}{f C:Addr}{fd:FuncData}{ps:List Str}{sp:Sp}{E:XK}{x m:Str}{p pos apos:Pos}{e o:Expr}{es:List Expr}{ta:TE}{t:TA}
theorem cj1{pins:List (Addr × Obj)}{σ:St}{H:Hp}{s:Shared}{pl:Sem Bool}{A:Around}{E':Value->Shared->Prop}{Q:Value × List Value->Shared->Prop}(I:Inv X pins σ H s)(M:CY X.K C m f)(h:∀s',Inv X pins σ H s'->Q (.ref f,[]) s') :
  wpAny (model X.prog X.w) A (getMethod (.ref C) m pl) Q E' s :=
 PySem.W.method_cls I.dA M.ga (PySem.W.cls_value (mc:=.type "type") I.dA M.rd M.at_ rfl (h _ (I.tok _)))
theorem cC6{pins:List (Addr × Obj)}{σ:St}{H:Hp}{s:Shared}{pl:Sem Bool}{Q:Value->Shared->Prop}{QA:List V->Hp->Prop}(I:Inv X pins σ H s)(M:CY X.K C m f)(hg:Gl X x)(hm:X.mg x=some (.ref C))(ha:PA X (e::es) t)(h:t σ H QA)
  (hq:∀us s1 vs H1,Inv X pins σ H1 s1->Vals vs us->QA vs H1->wpAny (model X.prog X.w) X.A (call (.ref f) us) Q X.xe s1)
  (fh:(x==("__debug__":Str))=false:=by decide) (dB:starEach (e::es) X.env=(false,eval e X.env)::starEach es X.env:=by rfl) (bU:(backTo pos (starEach es X.env)).any (·.1)=false:=by rfl)
  (ht:eval (.Call (.Attribute (.Name x p) m apos) (e::es) [] pos) X.env=(do
   let ov<-eval (.Name x p) X.env
   standAt apos.atName
   let (f,first)<-holding [ov] (getMethod ov m pl)
   callWith pos f first (backTo pos (starEach (e::es) X.env)) (backToKw pos (keywordEach [] X.env))):=by rfl) :
  wpAny (model X.prog X.w) X.A (eval (.Call (.Attribute (.Name x p) m apos) (e::es) [] pos) X.env) Q X.xe s:=by
 refine PySem.W.methodCall_KW (pl:=pl) (BV I hg hm ?_ fh) ht
 refine cj1 I M λs1 I1=>?_
 refine PySem.W.callWith_K (first:=[]) (h₀:=X.base) I.ok.mod.nO M.kp (bc (ha pos pins s1 σ H _ I1 h) λus s2 ⟨vs,H2,I2,r,q2⟩=>⟨I2.dA,?_⟩) dB bU
 exact hq us s2 vs H2 I2 r q2
noncomputable def cP0(sp:Sp)(E:XK)(c:Addr)(i:Nat)(t:TA):TE:=λσ H Q=>t σ H λvs H1=>∃f of fd v,H1 f=some (.ext (oW f of))/\of.data=.func fd/\σ[i]?=some (some v) /\
 ∀oc u,oc.data=.cell (some u)->RelV v u->H1 c=none->c≠f->sp vs (upd (upd H1 f (.ext (L3.jS of oc c f))) c (.own f)) (λr H2=>H2 f=some (.ext (L3.jS of oc c f))/\H2 c=some (.own f)/\Q r (rem H2 f c)) E
theorem UQ{pl:Sem Bool}{y:Str}{c:Addr}{i:Nat}(M:CY X.K C m f)(F:aU X.prog X.w X.K X.mg X.base bf k f fd ps sp)(hr:cO k X.A)(hb:Binds X.K fd ps [])(hg:Gl X x)(hm:X.mg x=some (.ref C))
  (hN:X.N[i]?=some y) (hy:X.env.scope.names.lookup y=some .cell) (gh:X.env.cells.lookup y=some c) (yT:X.fn y=true) (ha:PA X (e::es) t)
  (fh:(x==("__debug__":Str))=false:=by decide) (dB:starEach (e::es) X.env=(false,eval e X.env)::starEach es X.env:=by rfl) (bU:(backTo pos (starEach es X.env)).any (·.1)=false:=by rfl)
  (ht:eval (.Call (.Attribute (.Name x p) m apos) (e::es) [] pos) X.env=(do
   let ov<-eval (.Name x p) X.env
   standAt apos.atName
   let (f,first)<-holding [ov] (getMethod ov m pl)
   callWith pos f first (backTo pos (starEach (e::es) X.env)) (backToKw pos (keywordEach [] X.env))):=by rfl) :
  PE X (.Call (.Attribute (.Name x p) m apos) (e::es) [] pos) (cP0 sp E c i t):=by
 intro pins s σ H Q I h
 refine cC6 (pl:=pl) I M hg hm ha h (λus s1 vs H1 I1 r ⟨fa,of,fdd,v,hf,hd,hv,hq⟩=>?_) fh dB bU ht
 obtain⟨ml,_,hl⟩:=I1.loc
 obtain⟨u,rv,lk⟩:=hl i y v hN hv (.inr (.inl hy))
 obtain⟨oc,gc,jr⟩:∃oc,s1.heap.get? c=some oc/\oc.data=.cell (some u):=by
  rcases lk with⟨hk,_⟩ | ⟨_,c',yU,ic⟩
  ·rw[show X.env.kindOf y=some .cell from hy]at hk;cases hk
  ·rw[gh]at yU;cases yU;exact ic
 have nc:H1 c=none:=I1.jP y c gh
 have rN:c≠fa:=λz=>by rw[z,hf]at nc;cases nc
 have gf:s1.heap.get? fa=some of:=(I1.aR fa _ hf).1
 have nR:=hq oc u jr rv nc rN
 have UR:=I1.ok.sX y c yT gh
 generalize hH:upd (upd H1 fa (.ext (L3.jS of oc c fa))) c (.own fa)=Hp at nR
 have US:Hp c=some (.own fa):=by rw[<-hH,cF]
 have atf:Hp fa=some (.ext (L3.jS of oc c fa)):=by rw[<-hH,bu rN.symm,cF]
 have mX:∀b,b≠fa->b≠c->Hp b=H1 b:=λb n1 n2=>by rw[<-hH,bu n2,bu n1]
 have nfs:c ∉ X.fs:=λhb=>by
  obtain⟨_,o,ho,_⟩:=I1.ok.gQ.mem hb
  exact absurd (dv (bW ho) UR) (fK _)
 have nst:∀b∈eI X.stack,b≠c:=λb hb z=>by
  rcases cA.mp (I1.BR b hb)with e | hb
  ·exact I1.qg y c gh (z ▸ e)
  ·exact nfs (z ▸ hb)
 have dG8:cS X.prog X.w Hp s1.heap:=λb ob q=>by
  by_cases z1:b=c
  ·subst z1;rw[US]at q;cases q;exact⟨_,gc⟩
  ·by_cases z2:b=fa
   ·subst z2;rw[atf]at q;cases q
    exact⟨⟨gf,gc⟩,⟨_,gf⟩,λh1 h2 p kk=>⟨kk _ _ (.inl rfl) p.1,kk _ _ (.inr US) p.2⟩⟩
   ·rw[mX b z2 z1]at q
    have x1:=(I1.aR b ob q).rem (f:=fa) (c:=c) z2 hf (.inr nc) (UB gf (λ_ p=>p) hd)
    have up:∀{b' o'},rem H1 fa c b'=some o'->Hp b'=some o':=λ{b' o'} q=>by
     obtain⟨n1,n2,q'⟩:=Uz q
     rw[mX b' n1 n2];exact q'
    exact x1.kO (λ_ _ _ q=>q) (λ_ q=>up q) (λ_ _ q=>up q) λ_ _ q=>up q
 have e0:ju X.prog X.w X.K X.mg X.base X.A X.stack s1 Hp:=by
  have e1:=I1.y8
  refine⟨e1.frames,e1.mod,λb ob q=>⟨(e1.bs b ob q).1,?_⟩,e1.ke,e1.gQ,λb hb=>?_,dG8,e1.bare⟩
  ·have HV:=(I1.ok.bs b ob q).1
   rw[mX b (λz=>by have:=(e1.bs b ob q).2;rw[z,hf]at this;cases this) (λz=>absurd (dv (bW HV) (z ▸ UR)) (fK _))]
   exact(e1.bs b ob q).2
  ·have nb:=e1.kg b hb
   rw[mX b (λz=>by rw[z,hf]at nb;cases nb) (nst b hb)];exact nb
 have hlen:us.length=ps.length:=by rw[<-r.length];exact F.len _ _ _ _ nR
 refine wpAny_call (codeAny_mono (F.run X.A X.stack s1 Hp ⟨us,[]⟩ us vs _ E hr e0 (by have:=hb s1 us I1.dA (by rw[lZ];exact hlen);rwa [lZ]at this) r nR) λrr s' hz=>?_)
 cases rr with
 | error e=>exact hz.elim
 | ok fl =>
  cases fl with
  | next=>exact fV hz
  | brk=>exact fV hz
  | cont=>exact fV hz
  | ret u' =>
   obtain⟨v',H2,os,bare,un,UT,rv',q1,q2,q3⟩:=hz
   obtain⟨_,UU⟩:=UT.lam q1
   refine I1.after ⟨v',rem H2 fa c,os,bare,⟨λb ob g n hb hx=>?_,λb ob g n hb hx=>?_,λb ob g n hx=>?_,un.there,λb xs g=>?_,λb ob xs g=>?_,λb ps g=>?_⟩,UT.rem q1 q2 hd,rv',q3⟩
   ·by_cases z:b=c
    ·rw[z,gc]at g;cases g;rw[z];exact UU
    ·exact un.keep b ob g (by rw[mX b (λz=>by rw[z,hf]at n;cases n) z];exact n) hb hx
   ·by_cases z:b=c
    ·rw[z,gc]at g;cases g;rw[z];exact⟨_,UU⟩
    ·exact un.slot b ob g (by rw[mX b (λz=>by rw[z,hf]at n;cases n) z];exact n) hb hx
   ·by_cases z:b=c
    ·rw[z];exact CQ
    ·exact vU (un.free b ob g (by rw[mX b (λz=>by rw[z,hf]at n;cases n) z];exact n) hx)
   ·have n1:b≠fa:=λz=>by rw[z,hf]at g;cases g
    have n2:b≠c:=λz=>by rw[z,nc]at g;cases g
    rw[iA n1 n2]
    exact un.kb b xs (by rw[mX b n1 n2];exact g)
   ·have n1:b≠fa:=λz=>by rw[z,hf]at g;cases g
    have n2:b≠c:=λz=>by rw[z,nc]at g;cases g
    rw[iA n1 n2]
    exact un.jO b ob xs (by rw[mX b n1 n2];exact g)
   ·have n1:b≠fa:=λz=>by rw[z,hf]at g;cases g
    have n2:b≠c:=λz=>by rw[z,nc]at g;cases g
    rw[iA n1 n2]
    exact un.iJ b ps (by rw[mX b n1 n2];exact g)
end
end L2
namespace L3
open PySem L2 PySem.Spec PyProof.Rows
theorem HW{ts:List Addr}{H H':Hp}(h:Tb ts H)(s:ag H H'):Tb ts H':=λP hP=>by
 obtain⟨ps,e⟩:=h P hP
 obtain⟨m,e2⟩:=s.tb P ps e
 exact⟨_,e2⟩
theorem UW{P:Program}{w:World}{K:PySem.W.Frag}{mg:Str->Option Value}{base:Heap}{n:Nat}{p1 p2 x qn:Str}{params:Arguments}{body:Expr}{scope:Scope}{pm jF:Value}{oc:Obj}{c k:Addr}{m:Int}{tm:Tok}{sp:vV}(S:UE p1 p2 x scope)
  (jr:oc.data=.cell (some (.int m tm))) (hb:∀u1 u2:Value,bindArgs (PySem.W.kla_fn "<lambda>" qn params body scope [(x,c)] pm (.ref k) jF) ⟨[u1,u2],[]⟩=pure [(p1,u1),(p2,u2)])
  (iM:∀(q:Str) (f:Addr) (A:Around) (outer:List Env) (s:Shared) (H:Hp) (E:XK),cO n (A.deeper (PySem.W.envX q scope s.heap.objs.size f (.ref k) [(x,c)])) ->
   ∃t:aY,PE (uC bf P w K mg base [p1,p2,x] q scope f (.ref k) [(x,c)] A outer s H E).gR body (lE t)/\∀i j Qd,sp i j Qd->t [some (.int i),some (.int j),some (.int m)] λd _=>∃r,d=.int r/\Qd r) :
  zU P w K mg base (n+1) (PySem.W.kla_obj "<lambda>" qn params body scope [(x,c)] pm k jF) oc c k sp where
 fn:=⟨_,_,_,_,rfl⟩
 run A outer s H f t u i j Qd hr e0 gf gc hH dq h:=by
  obtain⟨q,dq⟩:=dq
  obtain⟨tt,ht,hq⟩:=iM q f A outer s H (λ_ _ _=>False) (hr.deeper _)
  refine cC3 (v1:=.int i) (v2:=.int j) (vc:=.int m) (E:=λ_ _ _=>False) S e0 hr gf ⟨oc,gc,jr⟩ ⟨tm,rfl⟩ hH dq (hb _ _) ⟨t,rfl⟩ ⟨u,rfl⟩ ht.gR ?_
  refine⟨⟨H,H⟩,H,_,[],_,?_,hq i j Qd h,λd ak v F' H' hd f1 h1 c1=>?_⟩
  ·exact ay.start (ds:=[.int i,.int j,.int m]) (vs:=[.int i,.int j,.int m]) (ag.refl H) (.int (.int (.int .nil))) 0
  ·obtain⟨r,rfl,hd⟩:=hd
   have s1:=c1.top
   cases s1
   exact⟨r,rfl,hd,h1⟩
section
variable{X:Cx}{CX:fg}{n:Nat}{f:Addr}{fd:FuncData}{ps:List Str}{sp:bC}{E:XK}{x:Str}{p pos:Pos}{e:Expr}{es:List Expr}{t:cY}{tl:List Addr}
theorem cx7(hT:Tb tl X.kP)(F:aU X.prog X.w X.K X.mg X.base CX n f fd ps (zT tl (bA sp)))(hr:cO n X.A)(hg:Gl X x)(hm:X.mg x=some (.ref f))(hk:PySem.W.keepIn X.K (.ref f)=true)(hb:Binds X.K fd ps [])(hx:mx CX X E)
  (ha:PA X (e::es) (lA t)) (fh:(x==("__debug__":Str))=false:=by decide) (he:starEach (e::es) X.env=(false,eval e X.env)::starEach es X.env:=by rfl) (bU:(backTo pos (starEach es X.env)).any (·.1)=false:=by rfl) :
  PE X (.Call (.Name x p) (e::es) [] pos) (lE (mH sp t)):=by
 intro pins s σ H Q I zz
 obtain⟨B,F',δ,ts,Qd,c,q,k⟩:=zz
 have tb:=Ux I hT
 refine tw F hr hg hm hk hb .nil hx ha fh he bU pins s σ H Q I ⟨B,F',δ,ts,_,c,q,λds ax vs F1 H1 q1 f1 h1 c1 s1=>?_⟩
 refine⟨HW tb h1,?_⟩
 rw[lZ]
 exact Ct c1 s1 q1 λd v F' H' hd hf hs c'=>k d ax v F' H' hd (f1.trans hf) (h1.trans hs) c'
end
section
variable{P:Program}{w:World}{K:PySem.W.Frag}{mg:Str->Option Value}{base:Heap}
theorem UX{x qual:Str}{st:Stmt}{f:Addr}{fd:FuncData}{N ps:List Str}{k:Nat}{sp:bC}{tl:List Addr}(F:bt K x qual st f fd)(S:bw N ps (aB st))(len:∀ds Q,sp ds Q->ds.length=ps.length)
  (iM:∀(aK:Value) (A:Around) (outer:List Env) (s:Shared) (H:Hp) (E:XK),Tb tl H->cO k (A.deeper (envOfC qual (aB st) s.heap.objs.size f aK)) ->
   ∃t:cZ,PSs (jv bf P w K mg base N qual (aB st) f aK A outer s H E).gR (br st) (lS (jv bf P w K mg base N qual (aB st) f aK A outer s H E).gR t)/\∀ds Q,sp ds Q->t { nx:=λ_=>Q .az,rt:=Q } (jW N ds)):aU P w K mg base bf (k+1) f fd ps (zT tl (bA sp)):=by
 refine F.ok S (λvs H Q E ⟨_,F,ds,Qd,e,r,h,_⟩=>by rw[<-r.length];exact len ds Qd h) λaK A outer s H vs Q E hr zz=>?_
 obtain⟨tb,F,ds,Qd,e,r,h,k⟩:=zz
 obtain⟨t,ht,hq⟩:=iM aK A outer s H E tb hr
 have fin:∀d v ak aO F' H',Qd d->ay ⟨H,F⟩ F' H' aO ak [(d,v)]->Q v H':=λd v ak aO F' H' hd c=>by
  obtain⟨A,C,r',s',nd,fr⟩:=c.own
  exact k d v F' H' A hd c.b1 c.b2 c.ext c.b3 r' (jV.mp nd).1 λa ha=>fr a (ig _ ha)
 have e1:L2.start N vs=vs.map some++bH (N.length-ds.length) none:=by unfold L2.start;rw[r.length]
 refine⟨_,ht,⟨H,F⟩,F,jW N ds,_,?_,hq ds Qd h,λak aO F' H' hd c=>fin .az .az ak aO F' H' hd (c.pushS (.az .nil) rfl),fin,λ_ _ _ _ z=>z.elim,λ_ _ _ _ z=>z.elim,XL.none (λ_ _ z=>z) λ_ _ z=>z⟩
 rw[e1]
 exact ay.start e r _
theorem UY{x qual:Str}{st:Stmt}{f cc:Addr}{fd:FuncData}{N ps:List Str}{k:Nat}{sp:Sp}(F:bt K x qual st f fd)(CT:fd.code=.ref cc)(S:bw N ps (aB st))(len:∀vs H Q E,sp vs H Q E->vs.length=ps.length)
  (iM:∀(A:Around) (outer:List Env) (s:Shared) (H:Hp) (vs:List V) (Q:VK) (E:XK),cO k (A.deeper (envOfC qual (aB st) s.heap.objs.size f (.ref cc)))->sp vs H Q E ->
   ∃t,PSs (jv bf P w K mg base N qual (aB st) f (.ref cc) A outer s H E).gR (br st) t/\t { nx:=λ_ H'=>Q .az H',rt:=Q } (L2.start N vs) H):aU P w K mg base bf (k+1) f fd ps sp:=by
 obtain⟨oc,od,kV,doc,pm,an,aK,ct,my,rfl,lk,dq⟩:=F.ex
 obtain rfl:aK=.ref cc:=CT
 refine GB lk dq S len λA outer s H vs Q E hr jw=>?_
 obtain⟨t,h,q⟩:=iM A outer s H vs Q E hr jw
 exact⟨t,h.gR,q⟩
end
end L3
namespace L3
open PySem L2 PySem.Spec PyProof.Rows
theorem bU7{ns:List Str}{xs:List D}{ws:List V}{F H:Hp}{f:Str}{d:D}(r:R F H xs ws [])(h:(ns.zip xs).lookup f=some d):∃w,(ns.zip ws).lookup f=some w/\R F H [d] [w] []:=by
 generalize e:([]:List Addr)=A at r
 induction ns generalizing xs ws A with
 | nil=>simp at h
 | cons n ns ih =>
  cases xs with
  | nil=>simp at h
  | cons x xs =>
   obtain⟨v,cU,A1,A2,rfl,rfl,h1,h2⟩:=R.dM r
   obtain⟨rfl,rfl⟩:=Fx.mp e.symm
   rw[c06]at h ⊢
   by_cases z:f=n
   ·subst z
    rw[gx,beq_self_eq_true]at h
    cases h
    refine⟨v,?_,h1⟩
    rw[gx,beq_self_eq_true]
   ·have z':(f==n)=false:=beq_eq_false_iff_ne.mpr z
    rw[gx,z']at h
    obtain⟨w,e1,e2⟩:=ih h [] rfl h2
    refine⟨w,?_,e2⟩
    rw[gx,z']
    exact e1
theorem UZ{ns:List Str}{ws:List V}{f:Str}(h:f ∉ ns):(ns.zip ws).lookup f=none:=by
 induction ns generalizing ws with
 | nil=>simp
 | cons n ns ih =>
  cases ws with
  | nil=>simp
  | cons w ws =>
   rw[c06,gx]
   have hn:(f==n)=false:=beq_eq_false_iff_ne.mpr λz=>h (by rw[z];simp)
   simp only[hn]
   exact ih λz=>h (by simp[z])
theorem HX{F H:Hp}{C:Addr}{ns:List Str}{xs:List D}{v:V}(s:S F H [.obj C ns xs] [v]):∃p dx ws,v=.ref p/\H p=some (.ins C dx (ns.zip ws))/\ns.length=ws.length/\R F H xs ws []:=by
 cases s with
 | obj h l r _=>exact⟨_,_,_,rfl,h,l,r⟩
section
variable{X:Cx}{e o:Expr}{es:List Expr}{f m x:Str}{pos p apos:Pos}{t to:aY}{ta:cY}{n:Nat}
noncomputable def oX(K:PySem.W.Frag)(t:aY)(f:Str):aY:=λδ Q=>t δ λd ak=>∃C ns xs v,d=.obj C ns xs/\eJ K C/\cG K C f/\(ns.zip xs).lookup f=some v/\Q v ak
theorem cO9(he:PE X e (lB t))(hb:attributeBase e f X.env (eval e X.env)=eval e X.env:=by rfl):PE X (.Attribute e f pos) (lB (oX X.K t f)) :=
 dN (Ca he hb) λσ H Q ⟨B,F,δ,ts,Qd,c,q,k⟩=>⟨B,F,δ,ts,_,c,q,λd ak v F' H' ⟨C,ns,xs,w,ed,hc,hn,hl,hq⟩ f1 h1 c1 s1=>by
  subst ed
  obtain⟨p,dx,ws,rfl,hp,_,r⟩:=HX s1
  obtain⟨u,hu,ru⟩:=bU7 r hl
  exact⟨p,C,dx,_,u,rfl,hp,hc,hn,hu,k w ak u F' H' hq f1 h1 c1 ru.s⟩⟩
structure rO(P:Program)(w:World)(K:PySem.W.Frag)(mg:Str->Option Value)(base:Heap)(n:Nat)(m:Str)(C:Addr)(sp:bC):Prop where
 cls:eJ K C
 ex:∃f fd ps,Meth K C m f/\aU P w K mg base bf n f fd ps (bA sp)/\Binds K fd ps []
noncomputable def oY(MO:Addr->bC->Prop)(m:Str)(to:aY)(ta:cY):aY:=λδ Q=>to δ λd ax=>∃C ns xs sp,d=.obj C ns xs/\MO C sp/\m ∉ ns/\ta ax λds bo=>sp ((D.obj C ns xs::ds).map D.sh) λr=>((D.obj C ns xs::ds).all D.pl||r.fr)=true/\Q r bo
theorem cE3{pl:Sem Bool}(ho:PE X o (lB to))(hr:cO n X.A)(ha:PA X (e::es) (lA ta))
  (dB:starEach (e::es) X.env=(false,eval e X.env)::starEach es X.env:=by rfl) (bU:(backTo pos (starEach es X.env)).any (·.1)=false:=by rfl)
  (ht:eval (.Call (.Attribute o m apos) (e::es) [] pos) X.env=(do
   let ov<-eval o X.env
   standAt apos.atName
   let (f,first)<-holding [ov] (getMethod ov m pl)
   callWith pos f first (backTo pos (starEach (e::es) X.env)) (backToKw pos (keywordEach [] X.env))):=by rfl) :
  PE X (.Call (.Attribute o m apos) (e::es) [] pos) (lE (oY (rO X.prog X.w X.K X.mg X.base n m) m to ta)):=by
 intro pins s σ H Q I zz
 obtain⟨B,F,δ,ts,Qd,c,q,k⟩:=zz
 refine PySem.W.methodCall_KW (pl:=pl) (bc (ho pins s σ H (λx H1=>∃d ax F1,S F1 H1 [d] [x]/\ay B F1 H1 σ ax ts/\ag F F1/\ag H H1/\∃C ns xs sp,d=.obj C ns xs/\rO X.prog X.w X.K X.mg X.base n m C sp/\m ∉ ns/\ta ax λds bo=>sp ((D.obj C ns xs::ds).map D.sh) λr=>((D.obj C ns xs::ds).all D.pl||r.fr)=true/\Qd r bo) I
  ⟨B,F,δ,ts,_,c,q,λd ax v F1 H1 hq f1 h1 c1 s1=>⟨d,ax,F1,s1,c1,f1,h1,hq⟩⟩) λu s1 ⟨x,H1,I1,rx,d,ax,F1,sd,c1,f1,h1,C,ns,xs,sp,ed,M,hm,hq⟩=>?_) ht
 subst ed
 obtain⟨a,dx,ws,rfl,ea,hl,r0⟩:=HX sd
 obtain rfl:u=fJ a:=rx
 obtain⟨f,fd,ps,zZ,FO,hb⟩:=M.ex
 refine Gz I1 ea M.cls zZ (UZ hm) ?_
 refine PySem.W.callWith_K (first:=[.ref a]) (h₀:=X.base) I.ok.mod.nO zZ.kp (bc (ha pos pins s1 σ H1 (λvs H2=>∃ds bo F2,S F2 H2 ds vs/\ay B F2 H2 σ bo ts/\ag F1 F2/\ag H1 H2/\sp ((D.obj C ns xs::ds).map D.sh) λr=>((D.obj C ns xs::ds).all D.pl||r.fr)=true/\Qd r bo) I1
  ⟨B,F1,ax,ts,_,c1,hq,λds bo vs F2 H2 hq f2 h2 c2 s2=>⟨ds,bo,F2,s2,c2,f2,h2,hq⟩⟩) λus s2 ⟨vs,H2,I2,r,ds,bo,F2,HY,c2,f2,h2,jw⟩=>⟨I2.dA,?_⟩) dB bU
 refine Cb (us:=.ref a::us) (vs:=.ref a::vs) (fN:=[]) FO hr hb .nil aN I2 (.cons rfl r) ?_
 rw[lZ]
 exact Ct c2 (.obj (h2 _ _ ea) hl (r0.shared f2 h2) HY) jw λd v F' H' hd hf hs c'=>k d bo v F' H' hd (f1.trans (f2.trans hf)) (h1.trans (h2.trans hs)) c'
end
structure eD(x:Addr)(H H':Hp):Prop where
 get:∀b o,b≠x->H b=some o->jA o=true->H' b=some o
 tb:∀b ps,H b=some (.dH ps)->∃more,H' b=some (.dH (ps++more))
theorem eD.trans{x:Addr}{H H1 H2:Hp}(a:eD x H H1)(b:eD x H1 H2):eD x H H2 :=
 ⟨λc o n h t=>b.get c o n (a.get c o n h t) t,λc ps h=>by
  obtain⟨m1,e1⟩:=a.tb c ps h
  obtain⟨m2,e2⟩:=b.tb c _ e1
  exact⟨m1++m2,by rw[e2,Bu]⟩⟩
theorem ag.x{x:Addr}{H H':Hp}(h:ag H H'):eD x H H':=⟨λb o _ e n=>h.get b o e n,h.tb⟩
theorem eD.upd{x C dx:Addr}{H:Hp}{o o':HO}(h:H x=some o)(n:jA o=true):eD x H (upd H x o') :=
 ⟨λb o z e _=>by rw[bu z];exact e,λb ps e=>⟨#[],by rw[bu (λz=>by rw[z,h]at e;cases e;cases n),e];simp⟩⟩
noncomputable def HZ(tl:List Addr)(C:Addr)(vW:List D->List Str->List D->Prop):Sp:=λvs H Q _=>∃x dx cU ds ns xs,vs=.ref x::cU/\Tb tl H/\H x=some (.ins C dx [])/\R H H ds cU []/\vW ds ns xs /\
 ∀H' ws A,eD x H H'->H' x=some (.ins C dx (ns.zip ws))->ns.length=ws.length->R (λ_=>none) H' xs ws A->A.Nodup->(∀a∈A,H a=none)->Q .az H'
noncomputable def rP(C:Addr)(vW:List D->List Str->List D->Prop)(ta:cY):aY:=λδ Q=>ta δ λds ak=>∃ns xs,vW (ds.map D.sh) ns xs/\Q (.obj C ns (xs.map D.sh)) ak
theorem ay.made{B:Bs}{F H H':Hp}{σ:L2.St}{δ:Dl}{ts:List (D × V)}{C dx x:Addr}{ns:List Str}{xs:List D}{ws:List V}{A:List Addr}(c:ay B F H σ δ ts)(hs:ag H H')(hx:H' x=some (.ins C dx (ns.zip ws)))(hl:ns.length=ws.length)
  (r:R (λ_=>none) H' xs ws A) (fr:∀a∈A,H a=none):ag F (L3.cq F H' A)/\ay B (L3.cq F H' A) H' σ δ ((.obj C ns (xs.map D.sh),.ref x)::ts):=by
 have c1:=c.grow hs
 have hF:∀a∈A,F a=none:=λa ha=>c.ext.free (fr a ha)
 have r1:R F H' xs ws A:=r.keep (ag.of λb o e=>by cases e) (iy.same (ag.refl _)) jB.nil hF (by simp)
 have r2:=r1.cq c1.ext A (λ_ h=>h)
 have fs:ag F (L3.cq F H' A):=mE c1.ext
 obtain⟨A',C',r',s',nd,CZ⟩:=c.own
 have out:∀a,(∃ws,H a=some (.lst ws))/\F a=none->L3.cq F H' A a=none:=λa zz=>by
  obtain⟨⟨ws,h⟩,hf⟩:=zz
  rw[Cm (λz=>by rw[fr a z]at h;cases h)];exact hf
 have g1:=r'.grow fs hs λa ha=>out a (r'.lists a ha)
 have g2:=s'.keep fs (iy.same hs) jB.nil (λa ha=>out a (s'.lists a ha)) (by simp)
 refine⟨fs,Tr c1.ext,c1.b1,c1.b2.trans fs,λa ws h=>?_,A',C',?_,g2,nd,CZ⟩
 ·by_cases z:a∈A
  ·exact .inr (c.b1.free (fr a z))
  ·rw[Cm z]at h;exact c.b3 a ws h
 ·exact R.obj hx hl r2 g1
section
variable{X:Cx}{CX:fg}{n:Nat}{f C:Addr}{fd:FuncData}{ps:List Str}{vW:List D->List Str->List D->Prop}{E:XK}{x:Str}{p pos:Pos}{e:Expr}{es:List Expr}{t:cY}{tl:List Addr}
theorem U0(hT:Tb tl X.kP)(M:Mk X.K C f)(F:aU X.prog X.w X.K X.mg X.base CX n f fd ps (HZ tl C vW))(hr:cO (n+1) X.A)(hg:Gl X x)(hm:X.mg x=some (.ref C))(hb:Binds X.K fd ps [])(hx:mx CX X E)
  (ha:PA X (e::es) (lA t)) (fh:(x==("__debug__":Str))=false:=by decide) (he:starEach (e::es) X.env=(false,eval e X.env)::starEach es X.env:=by rfl) (bU:(backTo pos (starEach es X.env)).any (·.1)=false:=by rfl) :
  PE X (.Call (.Name x p) (e::es) [] pos) (lE (rP C vW t)):=by
 intro pins s σ H Q I zz
 obtain⟨B,F',δ,ts,Qd,c,q,k⟩:=zz
 have tb:=Ux I hT
 refine cv8 M F hr hg hm hb .nil hx ha fh he bU pins s σ H Q I ⟨B,F',δ,ts,_,c,q,λds ax vs F1 H1 q1 f1 h1 c1 s1=>?_⟩
 intro x dx e7 i8 tI
 obtain⟨ns,xs,hI,hq⟩:=q1
 have sm:ag H1 (upd (upd H1 dx (.own x)) x (.ins C dx [])):=.of λb o e=>by rw[bu (fA e e7),bu (fA e i8)];exact e
 refine⟨x,dx,vs,ds.map D.sh,ns,xs,by rw[lZ],HW (HW tb h1) sm,cF,(s1.frozen c1.ext).shared sm sm,hI,λH' ws A U1 eo hl r nd fr=>⟨rfl,?_⟩⟩
 have s2:ag H1 H':=⟨λb o e n=>U1.get b o (fA e e7) (sm.get b o e n) n,λb ps e=>by
  obtain⟨m1,e1⟩:=sm.tb b ps e
  obtain⟨m2,e2⟩:=U1.tb b _ e1
  exact⟨m1++m2,by rw[e2,Bu]⟩⟩
 obtain⟨fs,c2⟩:=c1.made s2 eo hl r λa ha=>sm.free (fr a ha)
 exact k _ ax _ _ H' hq (f1.trans fs) (h1.trans s2) c2
end
end L3
namespace Mf
open PySem L2 L3
noncomputable def gm(m:Bool × Nat)(a b:Nat):Nat:=if m.1 then md (cl a b) m.2 else a*b%m.2
noncomputable def aa(m:Bool × Nat):Nat:=if m.1 then 2 ^ (bl m.2-1)else m.2
noncomputable def C2(g:Nat->Nat->Nat)(a:Nat):Nat->Nat->List Int->Option (List Int)
 | 0,_,_=>none
 | f+1,p,acc=>if p=1 then some acc else if p<64 then C2 g a f (g p a) (acc++[(p:Int)])else none
noncomputable def Ia(g:Nat->Nat->Nat)(a:Nat):Option (List Int):=C2 g a 64 (g 1 a) [1]
noncomputable def C3(g:Nat->Nat->Nat)(many:Nat):Nat->Nat->List Int->Option (List Int)
 | 0,_,_=>none
 | f+1,st,l=>if l.length+1<many then(match Ia g (st+1)with | some l'=>C3 g many f (st+1) l' | none=>none)else some l
noncomputable def z4(g:Nat->Nat->Nat)(many:Nat):Option (List Int):=match Ia g 1 with | some l=>C3 g many 62 1 l | none=>none
noncomputable def bD(g:Nat->Nat->Nat):vV:=λi j Q=>∃a b:Nat,i=a/\j=b/\a<64/\b<64/\Q (g a b:Nat)
noncomputable def gE:List Nat:=[7,11,13,19,25,31,37,41,47,55,59,61,67,73,87,91,97,103,109,115,117]
noncomputable def oZ:List Nat:=[2,3,5,7,11,13,17,19,23,29,31,37,41,43,47,53,59,61]
noncomputable def aD:List (Bool × Nat):=gE.map (λn=>(true,n))++oZ.map λn=>(false,n)
noncomputable def pd(l:List Int):Nat->List Int
 | 0=>bH (l.length+1) 0
 | i+1=>(pd l i).set (l.getD i 0).toNat (i:Int)
noncomputable def eN(l:List Int):List Int:=pd l l.length
theorem z5(l:List Int):∀i,(pd l i).length=l.length+1
 | 0=>by simp[pd]
 | i+1=>by simp[pd,z5 l i]
noncomputable def rQ(l g:List Int)(a:Nat):List Int:=if a=0 then bH (l.length+1) 0 else 0::(bg l.length).map λ(b:Nat)=>l.getD ((g.getD a 0+g.getD (b+1) 0)%(l.length:Int)).toNat 0
noncomputable def vX(l g:List Int)(n:Nat):List D:=(bg n).map λa=>D.lst true (aL (rQ l g a))
noncomputable def rR(l g:List Int):List D:=vX l g (l.length+1)
end Mf
namespace L3
open PySem L2 Mf
noncomputable def LI(H:Hp)(p:Addr)(ns:List Int):Prop:=H p=some (.lst (ns.map V.int))
theorem LI.same{H H':Hp}{p:Addr}{ns:List Int}(h:LI H p ns)(s:ag H H'):LI H' p ns:=s.get _ _ h
theorem LI.upd{H:Hp}{p x:Addr}{ns:List Int}{o o':HO}(h:LI H p ns)(hx:H x=some o)(n:∀ws,o≠.lst ws):LI (upd H x o') p ns:=by
 unfold LI
 rw[bu (λz=>by rw[z]at h;unfold LI at h;rw[hx]at h;cases h;exact n _ rfl)];exact h
theorem U2{F' H' H:Hp}{v:V}{A:List Addr}{ns:List Int}(r:R F' H' [.lst true (aL ns)] [v] A)(fr:∀a∈A,H a=none):∃p,v=.ref p/\LI H' p ns/\H p=none:=by
 cases r with
 | @own p ws xs A1 _ _ B1 hp hf r1 r2 =>
  have:=HB r1.s
  subst this
  exact⟨p,rfl,hp,fr p (by simp)⟩
structure dH4(K:PySem.W.Frag)(C f:Addr):Prop where
 cls:eJ K C
 many:cG K C "many"
 wide:cG K C "wide"
 Ib:cG K C "powers"
 dH5:cG K C "logs"
 step:cG K C "step"
 sp:Meth K C "step_power" f
structure U3(g:Nat->Nat->Nat)(many:Nat)(l:List Int)(st:Int):Prop where
 lo:2<=many
 hi:many<=64
 step:z4 g many=some l
 len:l.length+1=many
 ins:∀x∈l,0<=x/\x.toNat<=l.length
 st:l[((1:Int)%((many:Int)-1)).toNat]?=some st
noncomputable def iB(b:Str):List Str:=[b,"many","wide","powers","logs","step"]
noncomputable def C4(n0:Int)(many:Nat)(p1 p2:Addr)(st:Int):List V:=[.int n0,.int many,.int ((bl many:Nat)-1),.ref p1,.ref p2,.int st]
theorem vY{f:Str}{v:V}:∀{fs:List (Str × V)},(∀p∈fs,p.1≠f)->fZ f v fs=fs++[(f,v)]
 | [],_=>rfl
 | (g,x)::r,h=>by
  unfold fZ
  rw[if_neg (h (g,x) (by simp)),vY λp hp=>h p (by simp[hp])];rfl
theorem kr.z6{H:Hp}{x C dx f c k:Addr}{fs:List (Str × V)}{o':HO}{of oc:Obj}(h:kr H f of oc c k)(hx:H x=some (.ins C dx fs)):kr (L2.upd H x o') f of oc c k:=by
 obtain⟨ψ,e,zV⟩:=h.G9
 exact⟨by rw[bu (λz=>by rw[<-z,h.fn]at hx;cases hx)];exact h.fn,by rw[bu (λz=>by rw[<-z,h.cell]at hx;cases hx)];exact h.cell,ψ,by rw[bu (λz=>by rw[<-z,e]at hx;cases hx)];exact e,zV⟩
theorem z7{H:Hp}{x p:Addr}{o o':HO}(hx:H x=some o)(h:L2.upd H x o' p=none):H p=none:=by
 by_cases z:p=x
 ·subst z;rw[cF]at h;cases h
 ·rw[bu z]at h;exact h
theorem C5{α:Type}{b f:Str}{v:α}{r:List (Str × α)}(h:b≠f):((b,v)::r).lookup f=r.lookup f:=by
 rw[gx,beq_eq_false_iff_ne.mpr (fq h)]
section
variable{H2 H3 H':Hp}{x f c p:Addr}{o1 o2:HO}
theorem z8{b:Addr}{o:HO}(e:H3 b=some o)(nb:b≠f)(nc:H3 c=none):L2.upd (L2.upd H3 f o1) c o2 b=some o:=by
 rw[bu (fA e nc),bu nb];exact e
theorem U4(hs:ag H2 H3)(nf:H2 f=none)(nc:H3 c=none)(s:eD x (L2.upd (L2.upd H3 f o1) c o2) H'):eD x H2 (rem H' f c) where
 get b o n e t:=by
  have z1:=fA e nf
  have e3:=hs.get b o e t
  rw[iA z1 (fA e3 nc)]
  exact s.get b o n (z8 e3 z1 nc) t
 tb b ps e:=by
  have z1:=fA e nf
  obtain⟨m,e3⟩:=hs.tb b ps e
  obtain⟨m2,e4⟩:=s.tb b _ (z8 e3 z1 nc)
  exact⟨m++m2,by rw[iA z1 (fA e3 nc),e4,Bu]⟩
theorem C6(hs:ag H2 H3)(h:L2.upd (L2.upd H3 f o1) c o2 p=none):H2 p=none:=by
 refine hs.free ?_
 by_cases z:p=c
 ·subst z;rw[cF]at h;cases h
 ·rw[bu z]at h
  by_cases z2:p=f
  ·subst z2;rw[cF]at h;cases h
  ·rw[bu z2]at h;exact h
theorem LI.rem{l:List Int}{φ:Heap->Prop}{y:Addr}(h:LI H' p l)(hf:H' f=some (.ext φ))(hc:H' c=some (.own y)):LI (rem H' f c) p l:=by
 unfold LI at h ⊢
 rw[iA (λz=>by rw[z,hf]at h;cases h) (λz=>by rw[z,hc]at h;cases h)];exact h
theorem U5{of oc:Obj}{k:Addr}(tI:c≠f)(nc:H3 c=none)(hk:G8 H3 k)(kf:k≠f):kr (L2.upd (L2.upd H3 f (.ext (jS of oc c f))) c (.own f)) f of oc c k:=by
 obtain⟨ψ,e,zV⟩:=hk
 exact⟨by rw[bu tI.symm,cF],cF,ψ,z8 e kf nc,zV⟩
end
noncomputable def fl(m:Bool × Nat):List Int:=(z4 (gm m) (aa m)).getD []
noncomputable def fst(m:Bool × Nat):Int:=(fl m).getD ((1:Int)%((aa m:Int)-1)).toNat 0
noncomputable def U6(m:Bool × Nat):Bool:=decide (2<=aa m)&&decide (aa m<=64)&&(z4 (gm m) (aa m)).isSome&&decide ((fl m).length+1=aa m)&&(fl m).all (λx=>decide (0<=x)&&decide (x.toNat<=(fl m).length))&&decide (((1:Int)%((aa m:Int)-1)).toNat<(fl m).length)
theorem cw4:aD.all U6=true:=by decide +kernel
theorem cJ{m:Bool × Nat}(h:m∈aD):U3 (gm m) (aa m) (fl m) (fst m):=by
 have h:=dw.mp cw4 m h
 simp only[U6,eQ,decide_eq_true_eq,dw]at h
 obtain⟨⟨⟨⟨⟨h1,h2⟩,h3⟩,h4⟩,h5⟩,h6⟩:=h
 obtain⟨l,e⟩:=cZ2.mp h3
 have el:fl m=l:=by unfold fl;rw[e];rfl
 refine⟨h1,h2,by rw[e,el],h4,λx hx=>h5 x hx,?_⟩
 unfold fst
 rw[aQ,aP h6];rfl
theorem ck5:∀p∈oZ,(decide (2<=(p:Int))&&decide ((p:Int)<=61)&&(bg ((p:Int).toNat-2)).all λi=>(p:Int)%(2+(i:Int)) != 0)=true:=by decide +kernel
theorem cA5:∀p∈gE,(decide (4<=(p:Int))&&decide ((p:Int)<=127)&&al (p:Int).toNat)=true:=by decide +kernel
theorem R.z6{F H:Hp}{x C dx:Addr}{fs:List (Str × V)}{o':HO}{ds:List D}{vs:List V}{A:List Addr}(r:R F H ds vs A)(hx:H x=some (.ins C dx fs))(hd:ds.all D.fr=true):R F (L2.upd H x o') ds vs A:=by
 have up:∀{a o},H a=some o->(∀C dx fs,o≠.ins C dx fs)->L2.upd H x o' a=some o:=λ{a o} e n=>by
  rw[bu (λz=>by rw[z,hx]at e;cases e;exact n _ _ _ rfl)];exact e
 induction r with
 | nil=>exact .nil
 | az _ ih=>exact .az (ih (by simpa[D.fr]using hd))
 | bl _ ih=>exact .bl (ih (by simpa[D.fr]using hd))
 | int _ ih=>exact .int (ih (by simpa[D.fr]using hd))
 | str _ ih=>exact .str (ih (by simpa[D.fr]using hd))
 | shr h x _ i1 ih=>simp[eT]at hd
 | own h f _ _ i1 i2 =>
  rw[dY,eT,eQ,ka]at hd
  exact .own (up h λ_ _ _ z=>by cases z) f (i1 hd.1) (i2 hd.2)
 | tup h _ _ i1 i2 =>
  rw[dY,n9,eQ]at hd
  exact .tup (up h λ_ _ _ z=>by cases z) (i1 hd.1) (i2 hd.2)
 | obj h l x _ i1 ih=>simp[D.fr]at hd
 | fz h x _ i1 ih=>simp[D.fr]at hd
 | @bM p z _ _ _ h r ih =>
  refine .bM ?_ (ih (by simpa[D.fr]using hd))
  cases z with
  | ext φ=>exact up h λ_ _ _ z=>by cases z
  | lam of oc c k=>exact kr.z6 h hx
theorem U7(l g:List Int):(rR l g).all D.fr=true:=by
 unfold rR vX
 rw[mh,dw]
 intro a _
 show(D.lst true (aL _)).fr=true
 rw[eT,oR];rfl
theorem eD.free{x a:Addr}{H H':Hp}(s:eD x H H')(hx:H' x≠none)(h:H' a=none):H a=none:=by
 cases q:H a with
 | none=>rfl
 | some o =>
  by_cases z:a=x
  ·subst z;exact absurd h hx
  ·cases n:jA o with
   | true=>rw[s.get a o z q n]at h;cases h
   | false =>
    obtain⟨ps,rfl⟩:=G7 n
    obtain⟨m,e⟩:=s.tb a ps q
    rw[e]at h;cases h
theorem U8(l:List Int):∀i,∀x∈pd l i,0<=x
 | 0=>λx hx=>by rw[(Fz.mp hx).2];exact Int.le_refl _
 | i+1=>λx hx=>by
  unfold pd at hx
  rcases yG hx with h | h
  ·exact U8 l i x h
  ·rw[h];exact Q7 _
theorem U9:∀p∈gE,bl p<=7:=by decide +kernel
theorem Va:∀p∈gE,1<=bl p:=by decide +kernel
theorem ck9(a b:Nat):bl (cl a b)<=bl a+bl b:=by
 by_cases ha:a=0
 ·subst ha;rw[qp];exact jM _
 ·by_cases hb:b=0
  ·subst hb
   have:cl a 0=0:=rfl
   rw[this];exact jM _
  ·rw[SY ha hb];omega
noncomputable def pe(l g:List Int):List D:=(bg (l.length+1)).map λa=>D.lst false (aL (rQ l g a))
theorem ci6(l g:List Int):(D.lst true (rR l g)).sh=.lst false (pe l g):=by
 rw[dj]
 unfold rR vX pe
 rw[cm]
 congr 1
 apply qa
 intro a _
 show D.sh (.lst true (aL _))=_
 rw[dj,jE]
theorem ca9(l g:List Int):(pe l g).all D.pl=true:=by
 unfold pe
 rw[mh,dw]
 intro a _
 show(D.lst false (aL _)).pl=true
 rw[fi,lJ];rfl
noncomputable abbrev pD(m:Bool × Nat):List D:=[.int m.2,.int (aa m),.int ((bl (aa m):Nat)-1),.lst false (aL (fl m)),.lst false (aL (eN (fl m))),.int (fst m)]
noncomputable def uE(C:Addr)(p:Nat):D:=.obj C (iB "prime") (pD (false,p))
noncomputable def uF(C:Addr)(p:Nat):D:=.obj C (iB "bits"++[("products":Str)]) (pD (true,p)++[.lst false (pe (fl (true,p)) (eN (fl (true,p))))])
noncomputable def fD(cb cp:Addr)(m:Bool × Nat):D:=if m.1 then uF cb m.2 else uE cp m.2
end L3
namespace L3
open PySem L2 Mf
theorem z9{u p:Nat}(h:bl u<bl p):md u p=u:=zk (q:=0) (by rw[qp,p5]) h
theorem bY9{u v n:Nat}(hu:bl u<n)(hv:bl v<n):bl (u ^^^ v)<n:=by
 have h1:u<2 ^ (n-1):=eX.mp (by omega)
 have h2:v<2 ^ (n-1):=eX.mp (by omega)
 have:=eX.mpr (vD h1 h2)
 omega
theorem C7{p:Nat}(hp:p≠0)(u v:Nat):md (u ^^^ v) p=md u p ^^^ md v p:=by
 obtain⟨⟨q1,e1⟩,l1⟩:=zj hp u
 obtain⟨⟨q2,e2⟩,l2⟩:=zj hp v
 refine zk (q:=q1 ^^^ q2) ?_ (bY9 l1 l2)
 rw[qo,<- SM,<- e1,<- e2]
theorem Vb{p:Nat}(hp:p≠0)(w:Nat):md (cl p w) p=0:=by rw[zi];exact cR1 w hp
theorem bX:∀m∈aD,0<m.2:=by decide +kernel
theorem iC(m:Bool × Nat)(a b:Nat):gm m a b=gm m b a:=by
 unfold gm
 split
 ·rw[zi]
 ·rw[nD]
theorem Vc{n:Nat}(hn:n≠0)(u c:Nat):md (cl (md u n) c) n=md (cl u c) n:=by
 obtain⟨⟨q,e⟩,_⟩:=zj hn u
 have h:cl u c=cl n (cl q c) ^^^ cl (md u n) c:=by
  conv=>lhs;rw[e]
  rw[qo,zi n q,S4]
 rw[h,C7 hn,Vb hn,p5]
theorem i9{m:Bool × Nat}(h:0<m.2)(a b c:Nat):gm m (gm m a b) c=gm m a (gm m b c):=by
 unfold gm
 split
 ·rw[Vc (by omega),zi (md (cl b c) m.2) a,Vc (by omega),S4 a b c,zi (cl b c) a]
 ·rw[yH,Rv,<- yH,yH a (b*c%m.2),Rv,<- yH,vb]
theorem Vd{m:Bool × Nat}(h:m.1=true){a:Nat}:a<aa m↔bl a<=bl m.2-1:=by
 unfold aa
 rw[if_pos h];exact eX.symm
theorem j4{m:Bool × Nat}{a:Nat}(ha:a<aa m):gm m 1 a=a:=by
 obtain⟨k,n⟩:=m
 cases k with
 | true =>
  show md (cl 1 a) n=a
  rw[GP]
  have h1:=(Vd (m:=(true,n)) rfl).mp ha
  have h1:bl a<=bl n-1:=h1
  by_cases z:bl n=0
  ·have a0:a=0:=by
    have:=eX (n:=a) (m:=0)
    have:=this.mp (by omega)
    omega
   subst a0
   have n0:n=0:=by
    have:=(eX (n:=n) (m:=0)).mp (by omega)
    omega
   subst n0
   decide
  ·exact z9 (by omega)
 | false=>show 1*a%n=a;rw[Nat.one_mul];exact yI ha
theorem uG{m:Bool × Nat}{a:Nat}(ha:a<aa m):gm m a 1=a:=by rw[iC];exact j4 ha
noncomputable def lg(m:Bool × Nat)(a:Nat):Int:=(eN (fl m)).getD a 0
noncomputable def pw(m:Bool × Nat)(k:Nat):Int:=(fl m).getD k 0
noncomputable def Ic(m:Bool × Nat):Bool:=((bg (aa m-1)).all λk=>decide (1<=pw m k)&&decide (pw m k<aa m)&&decide (lg m (pw m k).toNat=k))&&((bg (aa m-1)).all λa=>decide (0<=lg m (a+1))&&decide (lg m (a+1)<(aa m:Int)-1)&&decide (pw m (lg m (a+1)).toNat=((a+1:Nat):Int)))
theorem Ve:aD.all Ic=true:=by decide +kernel
theorem C8{m:Bool × Nat}(hm:m∈aD){k:Nat}(hk:k<aa m-1):1<=pw m k/\pw m k<aa m/\lg m (pw m k).toNat=k:=by
 have h:=dw.mp Ve m hm
 simp only[Ic,eQ,dw,decide_eq_true_eq,cL]at h
 have:=h.1 k hk
 exact⟨this.1.1,this.1.2,this.2⟩
theorem C9{m:Bool × Nat}(hm:m∈aD){a:Nat}(h1:1<=a)(h2:a<aa m):0<=lg m a/\lg m a<(aa m:Int)-1/\pw m (lg m a).toNat=a:=by
 have h:=dw.mp Ve m hm
 simp only[Ic,eQ,dw,decide_eq_true_eq,cL]at h
 have:=h.2 (a-1) (by omega)
 rw[show a-1+1=a by omega]at this
 exact⟨this.1.1,this.1.2,this.2⟩
theorem fm(m:Bool × Nat)(b:Nat)(h:0<m.2):gm m 0 b=0:=by
 unfold gm
 split
 ·rw[qp];exact z9 (by rw[nW];exact ir (by omega))
 ·rw[Nat.zero_mul,Nat.zero_mod]
theorem gi(m:Bool × Nat)(b:Nat)(h:0<m.2):gm m b 0=0:=by rw[iC];exact fm m b h
noncomputable def stC(m:Bool × Nat):Bool:=decide (pw m 0=1)&&(bg (aa m-1)).all λk=>decide (gm m (pw m k).toNat (pw m (1%(aa m-1))).toNat=(pw m ((k+1)%(aa m-1))).toNat)
theorem Vf:aD.all stC=true:=by decide +kernel
theorem cy0(m:Bool × Nat)(hm:m∈aD):pw m 0=1:=by
 have h:=dw.mp Vf m hm
 simp only[stC,eQ,decide_eq_true_eq]at h
 exact h.1
noncomputable def pN(m:Bool × Nat)(k:Nat):Nat:=(pw m (k%(aa m-1))).toNat
theorem cQ9{m:Bool × Nat}(hm:m∈aD)(k:Nat):pN m k<aa m:=by
 have dJ:=(cJ hm).lo
 have:=C8 hm (ve k (show 0<aa m-1 by omega))
 unfold pN
 omega
theorem Vg{m:Bool × Nat}(hm:m∈aD)(k:Nat):gm m (pN m k) (pN m 1)=pN m (k+1):=by
 have dJ:=(cJ hm).lo
 have h:=dw.mp Vf m hm
 simp only[stC,eQ,decide_eq_true_eq,dw,cL]at h
 have h2:=h.2 (k%(aa m-1)) (ve k (by omega))
 rw[yJ]at h2
 exact h2
theorem Vh{m:Bool × Nat}(hm:m∈aD)(i:Nat):∀j,gm m (pN m i) (pN m j)=pN m (i+j)
 | 0=>by
  have e:pN m 0=1:=by unfold pN;rw[Nat.zero_mod,cy0 m hm];rfl
  rw[e,uG (cQ9 hm i)];rfl
 | j+1=>by rw[<-Vg hm j,<- i9 (bX m hm),Vh hm i j,Vg hm];rfl
theorem Ie{m:Bool × Nat}(hm:m∈aD){a b:Nat}(a1:1<=a)(a2:a<aa m)(b1:1<=b)(b2:b<aa m):((gm m a b:Nat):Int)=pw m ((lg m a+lg m b)%((aa m:Int)-1)).toNat:=by
 have dJ:=(cJ hm).lo
 obtain⟨g0,g1,g2⟩:=C9 hm a1 a2
 obtain⟨f0,f1,f2⟩:=C9 hm b1 b2
 have ea:pN m (lg m a).toNat=a:=by unfold pN;rw[yI (by omega),g2];rfl
 have eb:pN m (lg m b).toNat=b:=by unfold pN;rw[yI (by omega),f2];rfl
 have e:=Vh hm (lg m a).toNat (lg m b).toNat
 rw[ea,eb]at e
 rw[e]
 have ei:((lg m a+lg m b)%((aa m:Int)-1)).toNat=((lg m a).toNat+(lg m b).toNat)%(aa m-1):=by
  have:(((lg m a).toNat+(lg m b).toNat)%(aa m-1):Nat)=((lg m a+lg m b)%((aa m:Int)-1)):=by
   rw[qe,BI,vf g0,vf f0,Int.natCast_sub (by omega)];rfl
  omega
 rw[ei]
 have:=C8 hm (ve ((lg m a).toNat+(lg m b).toNat) (show 0<aa m-1 by omega))
 unfold pN
 omega
theorem cD4{p a:Nat}(hp:p∈gE)(ha:a<aa (true,p)):rQ (fl (true,p)) (eN (fl (true,p))) a=(bg (aa (true,p))).map λb=>((gm (true,p) a b:Nat):Int):=by
 have hm:(true,p)∈aD:=ig _ (FF hp)
 have h0:=bX _ hm
 have hF:=cJ hm
 have hlen:=hF.len
 unfold rQ
 split
 ·rename_i h
  subst h
  rw[hlen]
  refine Rw (by simp) λi h1 h2=>?_
  simp[fm _ _ h0]
 ·rename_i h
  rw[<-hlen,c02,dz,cm,gi _ _ h0]
  congr 1
  apply qa
  intro b hb
  have hb:=cL.mp hb
  show(fl (true,p)).getD (((eN (fl (true,p))).getD a 0+(eN (fl (true,p))).getD (b+1) 0)%((fl (true,p)).length:Int)).toNat 0=((gm (true,p) a (b+1):Nat):Int)
  rw[Ie hm (by omega) ha (by omega) (by omega),show(((fl (true,p)).length:Nat):Int)=(aa (true,p):Int)-1 by omega]
  rfl
theorem Dc{p a b:Nat}(hp:p∈gE)(ha:a<aa (true,p))(hb:b<aa (true,p)):eK (aL (rQ (fl (true,p)) (eN (fl (true,p))) a)) (b:Int)=some (.int (gm (true,p) a b:Nat)):=by
 refine ql (by omega) ?_
 rw[cD4 hp ha]
 unfold aL
 rw[fX,bQ,bQ,kL hb];rfl
theorem De{p a:Nat}(hp:p∈gE)(ha:a<aa (true,p)):eK (pe (fl (true,p)) (eN (fl (true,p)))) (a:Int)=some (.lst false (aL (rQ (fl (true,p)) (eN (fl (true,p))) a))):=by
 have hF:=cJ (m:=(true,p)) (ig _ (FF hp))
 refine ql (by omega) ?_
 unfold pe
 rw[fX,bQ,kL (by rw[hF.len];exact ha)];rfl
end L3
namespace L3
open PySem L2 Mf
theorem cK4(C:Addr)(p:Nat):D.obj C (iB "bits"++[("products":Str)]) (FE D.sh [.int p,.int (aa (true,p)),.int ((bl (aa (true,p)):Nat)-1),.lst true (aL (fl (true,p))),.lst true (aL (eN (fl (true,p)))),.int (fst (true,p)),.lst true (rR (fl (true,p)) (eN (fl (true,p))))])=uF C p:=by
 simp only[dz,jN]
 rw[ci6]
 simp only[dj,gB,jE];rfl
theorem cf0(C:Addr)(p:Nat):D.obj C (iB "prime") (FE D.sh [.int p,.int p,.int ((bl p:Nat)-1),.lst true (aL (fl (false,p))),.lst true (aL (eN (fl (false,p)))),.int (fst (false,p))])=uE C p:=by
 simp only[dz,jN,dj,gB,jE];rfl
theorem vZ{n:Nat}(h:(true,n)∈aD):n∈gE:=by
 rcases cg.mp h with h | h
 ·obtain⟨x,hx,e⟩:=bE.mp h
  cases e;exact hx
 ·obtain⟨x,hx,e⟩:=bE.mp h
  cases e
theorem bL8{n:Nat}(h:(false,n)∈aD):n∈oZ:=by
 rcases cg.mp h with h | h
 ·obtain⟨x,hx,e⟩:=bE.mp h
  cases e
 ·obtain⟨x,hx,e⟩:=bE.mp h
  cases e;exact hx
open Classical in
theorem Ig{α:Type}{sh:Bool}{xs:List D}{aJ:List (Str × Nat)}{n:Nat}{g0:iT}{te:aY}{ax:Dl}{Q:D->Dl->Prop}(l:List α)(e g:α->D)(gD:xs.map D.sh=l.map e)(inj:∀a b,e a=e b->a=b)
  (hx:∀a∈l,g0 (e a) (fR aJ n ax) λbo=>te bo λd _=>d=g a) (hg:∀d δ (P P':Dl->Prop),(∀ak,P ak->P' ak)->g0 d δ P->g0 d δ P') (eY:(sh&&aJ.all (iz ax))=true\/∀a∈l,(g a).fr=true) (hl:l.length<=sizeLine) (hq:Q (.lst true (l.map g)) ax):vL sh xs aJ n g0 kB te ax Q:=by
 let f:D->D:=λx=>if h:∃a∈l,e a=x then g h.choose else .az
 have hf:∀a∈l,f (e a)=g a:=λa ha=>by
  have h:∃b∈l,e b=e a:=⟨a,ha,rfl⟩
  show(if h:∃b∈l,e b=e a then g h.choose else .az)=g a
  rw[dif_pos h]
  exact congrArg g (inj _ _ h.choose_spec.2)
 refine⟨λ_=>true,f,λx h=>?_,eY.imp id λh x hx _=>?_,?_,?_⟩
 ·rw[gD]at h
  obtain⟨a,ha,rfl⟩:=bE.mp h
  rw[hf a ha]
  exact hg _ _ _ _ (λak h=>⟨rfl,λ_=>h⟩) (hx a ha)
 ·rw[gD]at hx
  obtain⟨a,ha,rfl⟩:=bE.mp hx
  rw[hf a ha];exact h a ha
 ·have:=congrArg Fg gD
  simp at this
  omega
 ·rw[gD,c01.mpr (λ_ _=>rfl),cm,show l.map (f ∘ e)=l.map g from qa λa ha=>hf a ha]
  exact hq
theorem Ih{i1 i2:Nat}(d:D)(δ:Dl)(P P':Dl->Prop)(h:∀ak,P ak->P' ak)(q:iZ i1 i2 d δ P):iZ i1 i2 d δ P':=by
 unfold iZ at q ⊢
 split at q
 ·exact h _ q
 ·exact q
theorem Vi(xs ys:List Int):(cR (aL xs) (aL ys)).map D.sh=(xs.zip ys).map λz=>D.tup [.int z.1,.int z.2]:=by
 rw[HG,jE,jE]
 unfold cR aL
 rw[yE,yK,vd]
theorem cD0{p x y:Nat}(hp:p≠0)(hx:bl x<bl p):md (cl x y) p=(if y%2=1 then x else 0) ^^^ md (cl (if bl (2*x)=bl p then 2*x ^^^ p else 2*x) (y/2)) p:=by
 have e0:md (if y%2=1 then x else 0) p=(if y%2=1 then x else 0):=by
  split
  ·exact z9 hx
  ·exact z9 (by rw[nW];exact ir hp)
 rw[SV,C7 hp,e0]
 congr 1
 split
 ·rw[qo,C7 hp,Vb hp,me]
 ·rfl
theorem cD6{p x:Nat}(hp:p≠0)(hx:bl x<bl p):bl (if bl (2*x)=bl p then 2*x ^^^ p else 2*x)<bl p:=by
 have h2:=cH1 x
 have h0:=ir hp
 split
 ·rename_i h
  have n0:2*x≠0:=λz=>by rw[z,nW]at h;omega
  have a1:=jy (2*x)
  have a2:=jy p
  have b1:=vB n0
  have b2:=vB hp
  rw[h]at a1 b1
  obtain⟨k,hk⟩:∃k,bl p=k+1:=⟨bl p-1,by omega⟩
  rw[hk]at a1 a2 b1 b2 ⊢
  have:=eX.mpr (SJ a1 a2 b1 b2)
  omega
 ·omega
end L3
namespace L3
open PySem L2 PySem.Spec PyProof.Rows
structure Df(P:Program)(w:World)(K:PySem.W.Frag)(mg:Str->Option Value)(base:Heap)(n:Nat)(m:Str)(C:Addr)(sp:rB):Prop where
 cls:eJ K C
 ex:∃f fd ps,Meth K C m f/\aU P w K mg base (n8 P w) n f fd ps (zR sp)/\Binds K fd ps []
section
variable{X:Cx}{e o:Expr}{es:List Expr}{f m x:Str}{pos p apos:Pos}{to:aY}{ta:cY}{n:Nat}
noncomputable def pf(MO:Addr->rB->Prop)(m:Str)(to:aY)(ta:cY):aY:=λδ Q=>to δ λd ax=>∃C ns xs sp,d=.obj C ns xs/\MO C sp/\m ∉ ns/\ta ax λds bo=>sp ((D.obj C ns xs::ds).map D.sh) (λr=>((D.obj C ns xs::ds).all D.pl||r.fr)=true/\Q r bo) λ_=>False
theorem cA3{pl:Sem Bool}(ho:PE X o (lB to))(hr:cO n X.A)(ha:PA X (e::es) (lA ta))
  (dB:starEach (e::es) X.env=(false,eval e X.env)::starEach es X.env:=by rfl) (bU:(backTo pos (starEach es X.env)).any (·.1)=false:=by rfl)
  (ht:eval (.Call (.Attribute o m apos) (e::es) [] pos) X.env=(do
   let ov<-eval o X.env
   standAt apos.atName
   let (f,first)<-holding [ov] (getMethod ov m pl)
   callWith pos f first (backTo pos (starEach (e::es) X.env)) (backToKw pos (keywordEach [] X.env))):=by rfl) :
  PE X (.Call (.Attribute o m apos) (e::es) [] pos) (lE (pf (Df X.prog X.w X.K X.mg X.base n m) m to ta)):=by
 intro pins s σ H Q I zz
 obtain⟨B,F,δ,ts,Qd,c,q,k⟩:=zz
 refine PySem.W.methodCall_KW (pl:=pl) (bc (ho pins s σ H (λx H1=>∃d ax F1,S F1 H1 [d] [x]/\ay B F1 H1 σ ax ts/\ag F F1/\ag H H1/\∃C ns xs sp,d=.obj C ns xs/\Df X.prog X.w X.K X.mg X.base n m C sp/\m ∉ ns/\ta ax λds bo=>sp ((D.obj C ns xs::ds).map D.sh) (λr=>((D.obj C ns xs::ds).all D.pl||r.fr)=true/\Qd r bo) λ_=>False) I
  ⟨B,F,δ,ts,_,c,q,λd ax v F1 H1 hq f1 h1 c1 s1=>⟨d,ax,F1,s1,c1,f1,h1,hq⟩⟩) λu s1 ⟨x,H1,I1,rx,d,ax,F1,sd,c1,f1,h1,C,ns,xs,sp,ed,M,hm,hq⟩=>?_) ht
 subst ed
 obtain⟨a,dx,ws,rfl,ea,hl,r0⟩:=HX sd
 obtain rfl:u=fJ a:=rx
 obtain⟨f,fd,ps,zZ,FO,hb⟩:=M.ex
 refine Gz I1 ea M.cls zZ (UZ hm) ?_
 refine PySem.W.callWith_K (first:=[.ref a]) (h₀:=X.base) I.ok.mod.nO zZ.kp (bc (ha pos pins s1 σ H1 (λvs H2=>∃ds bo F2,S F2 H2 ds vs/\ay B F2 H2 σ bo ts/\ag F1 F2/\ag H1 H2/\sp ((D.obj C ns xs::ds).map D.sh) (λr=>((D.obj C ns xs::ds).all D.pl||r.fr)=true/\Qd r bo) λ_=>False) I1
  ⟨B,F1,ax,ts,_,c1,hq,λds bo vs F2 H2 hq f2 h2 c2 s2=>⟨ds,bo,F2,s2,c2,f2,h2,hq⟩⟩) λus s2 ⟨vs,H2,I2,r,ds,bo,F2,HY,c2,f2,h2,jw⟩=>⟨I2.dA,?_⟩) dB bU
 refine Cb (us:=.ref a::us) (vs:=.ref a::vs) (fN:=[]) (HF FO) hr hb .nil HE I2 (.cons rfl r) ?_
 rw[lZ]
 exact Ct (sp:=λds Q=>sp ds Q λ_=>False) c2 (.obj (h2 _ _ ea) hl (r0.shared f2 h2) HY) jw λd v F' H' hd hf hs c'=>k d bo v F' H' hd (f1.trans (f2.trans hf)) (h1.trans (h2.trans hs)) c'
end
section
variable{X:Cx}{tb th:cZ}{body dC1:List Stmt}{dC2:Stmt}{K:Str}{Kc:Addr}{kp dC3 pos:Pos}
end
structure Vj(K:PySem.W.Frag)(C:Addr):Prop where
 cls:eJ K C
 ha:PySem.W.findIn K (.ref C) "__class__"=some (some (.builtin "object.__class__"))
 hn:PySem.W.specialIn K (.builtin "object.__class__") "__get__"=some (some (.builtin "getset_descriptor.__get__"))
 GA:PySem.W.takesIn K (.builtin "object.__class__")=some true
 hm:PySem.W.mroIn K C (.type "object")=some true
end L3
namespace L3
open PySem L2 Mf
theorem Vk{m:Bool × Nat}(hm:m∈aD){a b:Nat}(a1:1<=a)(a2:a<aa m)(b1:1<=b)(b2:b<aa m):∃r:Nat,pw m ((lg m a-lg m b)%((aa m:Int)-1)).toNat=r/\r<aa m/\gm m r b=a:=by
 have hF:=cJ hm
 have dJ:=hF.lo
 have n0:=jn (lg m a-lg m b) (show(aa m:Int)-1≠0 by omega)
 have n1:=jo (lg m a-lg m b) (show(0:Int)<(aa m:Int)-1 by omega)
 obtain⟨p1,p2,p3⟩:=C8 hm (k:=((lg m a-lg m b)%((aa m:Int)-1)).toNat) (by omega)
 obtain⟨g0,g1,g2⟩:=C9 hm a1 a2
 refine⟨(pw m ((lg m a-lg m b)%((aa m:Int)-1)).toNat).toNat,by omega,by omega,?_⟩
 have e:=Ie hm (a:=(pw m ((lg m a-lg m b)%((aa m:Int)-1)).toNat).toNat) (by omega) (by omega) b1 b2
 rw[p3,vf n0,Int.emod_add_emod,Int.sub_add_cancel,Int.emod_eq_of_lt g0 g1,g2]at e
 omega
end L3
namespace L3
open PySem L2 PySem.Spec PyProof.Rows
section
variable{X:Cx}{e o a:Expr}{es:List Expr}{f m y:Str}{pos p apos q:Pos}{t to ta':aY}{ta:cY}{n:Nat}{P:Program}{w:World}{K:PySem.W.Frag}{mg:Str->Option Value}{base:Heap}
theorem j5(he:PE X e (lB t))(hK:K=X.K:=by rfl)(hb:attributeBase e f X.env (eval e X.env)=eval e X.env:=by rfl):PE X (.Attribute e f pos) (lB (oX K t f)):=by
 subst hK;exact cO9 he hb
theorem rS{pl:Sem Bool}(ho:PE X o (lB to))(hr:cO n X.A)(ha:PA X (e::es) (lA ta))(hP:P=X.prog:=by rfl)(hw:w=X.w:=by rfl)(hK:K=X.K:=by rfl)(hm:mg=X.mg:=by rfl)(hb:base=X.base:=by rfl)
  (dB:starEach (e::es) X.env=(false,eval e X.env)::starEach es X.env:=by rfl) (bU:(backTo pos (starEach es X.env)).any (·.1)=false:=by rfl)
  (ht:eval (.Call (.Attribute o m apos) (e::es) [] pos) X.env=(do
   let ov<-eval o X.env
   standAt apos.atName
   let (f,first)<-holding [ov] (getMethod ov m pl)
   callWith pos f first (backTo pos (starEach (e::es) X.env)) (backToKw pos (keywordEach [] X.env))):=by rfl) :
  PE X (.Call (.Attribute o m apos) (e::es) [] pos) (lE (oY (rO P w K mg base n m) m to ta)):=by
 subst hP hw hK hm hb;exact cE3 ho hr ha dB bU ht
theorem Vl{pl:Sem Bool}(ho:PE X o (lB to))(hr:cO n X.A)(ha:PA X (e::es) (lA ta))(hP:P=X.prog:=by rfl)(hw:w=X.w:=by rfl)(hK:K=X.K:=by rfl)(hm:mg=X.mg:=by rfl)(hb:base=X.base:=by rfl)
  (dB:starEach (e::es) X.env=(false,eval e X.env)::starEach es X.env:=by rfl) (bU:(backTo pos (starEach es X.env)).any (·.1)=false:=by rfl)
  (ht:eval (.Call (.Attribute o m apos) (e::es) [] pos) X.env=(do
   let ov<-eval o X.env
   standAt apos.atName
   let (f,first)<-holding [ov] (getMethod ov m pl)
   callWith pos f first (backTo pos (starEach (e::es) X.env)) (backToKw pos (keywordEach [] X.env))):=by rfl) :
  PE X (.Call (.Attribute o m apos) (e::es) [] pos) (lE (pf (Df P w K mg base n m) m to ta)):=by
 subst hP hw hK hm hb;exact cA3 ho hr ha dB bU ht
end
theorem Aa:∀m∈Mf.aD,1<=Mf.bl m.2/\Mf.bl m.2<=7:=by decide +kernel
end L3
namespace L3
open PySem L2 Mf
noncomputable def gp(m:Bool × Nat)(a b:Nat):Nat:=if m.1 then a ^^^ b else(a+b)%m.2
noncomputable def gl(m:Bool × Nat)(a b:Nat):Int:=if m.1 then(a ^^^ b:Nat)else((a:Int)-b)%m.2
noncomputable def gd(m:Bool × Nat)(xs ys:List Nat):Nat:=(dh (gm m) xs ys).foldl (gp m) 0
noncomputable def rT(c:Int):Bool × Nat:=if c%2=0 then(true,gE.getD (c/2%21).toNat 0)else(false,oZ.getD (c/2%18).toNat 0)
theorem cl3(c:Int):rT c∈aD:=by
 unfold rT
 split
 ·refine ig _ (bE.mpr ⟨_,?_,rfl⟩)
  have h:(c/2%21).toNat<gE.length:=by
   have:=jo (c/2) (show(0:Int)<21 by decide)
   show _<21
   omega
  rw[aQ,aP h]
  exact cM _
 ·refine fc _ (bE.mpr ⟨_,?_,rfl⟩)
  have h:(c/2%18).toNat<oZ.length:=by
   have:=jo (c/2) (show(0:Int)<18 by decide)
   show _<18
   omega
  rw[aQ,aP h]
  exact cM _
noncomputable def da(m:Bool × Nat):D:=.tup [.bl m.1,.int m.2]
theorem v3(cb cp:Addr)(m:Bool × Nat):fD cb cp m=.obj (if m.1 then cb else cp) (if m.1 then iB "bits"++[("products":Str)]else iB "prime") (if m.1 then pD (true,m.2)++[.lst false (pe (fl (true,m.2)) (eN (fl (true,m.2))))]else pD (false,m.2)):=by
 obtain⟨k,n⟩:=m
 cases k<;>rfl
theorem Vm(m:Bool × Nat)(x:Str)(h:x ∉ (["bits","prime","many","wide","powers","logs","step","products"]:List Str)):x ∉ (if m.1 then iB "bits"++[("products":Str)]else iB "prime"):=by
 obtain⟨k,n⟩:=m
 intro z
 apply h
 cases k
 ·have z:x∈iB "prime":=z
  simp[iB]at z
  simp only[cA]
  rcases z with z | z | z | z | z | z<;>simp[z]
 ·have z:x∈iB "bits"++[("products":Str)]:=z
  simp[iB]at z
  simp only[cA]
  rcases z with z | z | z | z | z | z | z<;>simp[z]
theorem cS1(cb cp:Addr)(m:Bool × Nat):(fD cb cp m).sh=fD cb cp m:=by rw[v3];rfl
theorem cO6(cb cp:Addr)(m:Bool × Nat):(fD cb cp m).pl=true:=by rw[v3];rfl
theorem cx9(m:Bool × Nat):(da m).sh=da m:=rfl
theorem cA6(m:Bool × Nat):(da m).pl=true:=rfl
theorem Vn{p:Nat}(hp:0<p):∀(l:List Nat) (acc:Nat),acc<p->l.foldl (gp (false,p)) acc=(acc+l.sum)%p
 | [],acc,h=>by simp[yI h]
 | x::l,acc,h=>by
  rw[sI,show gp (false,p) acc x=(acc+x)%p from rfl,Vn hp l _ (ve _ hp),Rx]
  show((acc+x)%p+l.sum)%p=_
  rw[yJ,FA]
theorem Vo(p:Nat):∀xs ys:List Nat,(dh (gm (false,p)) xs ys).sum%p=(dh (· * ·) xs ys).sum%p
 | [],_=>by simp
 | _::_,[]=>by simp
 | x::xs,y::ys=>by
  simp only[Ry,Rx]
  show(x*y%p+_)%p=_
  rw[yJ,Nat.add_mod,Vo p xs ys,<- Nat.add_mod]
theorem Vp:∀xs ys:List Nat,(dh (· * ·) (xs.map λ(n:Nat)=>(n:Int)) (ys.map λ(n:Nat)=>(n:Int))).sum=(((dh (· * ·) xs ys).sum:Nat):Int)
 | [],_=>by simp
 | _::_,[]=>by simp
 | x::xs,y::ys=>by
  simp only[dz,Ry,Rx]
  rw[Vp xs ys,BI,qf]
theorem j6(m:Bool × Nat)(a b:Nat):gp m a b=gp m b a:=by
 unfold gp
 split
 ·rw[Ra]
 ·rw[BC]
theorem Ii(m:Bool × Nat)(a b c:Nat):gp m (gp m a b) c=gp m a (gp m b c):=by
 unfold gp
 split
 ·rw[sJ]
 ·rw[yJ,Nat.add_mod_mod,FA]
theorem Dg{m:Bool × Nat}(h:0<m.2)(a b c:Nat):gm m (gp m a b) c=gp m (gm m a c) (gm m b c):=by
 unfold gm gp
 split
 ·rw[qo,C7 (by omega)]
 ·rw[yH,Rv,<- yH,Nat.add_mul,yJ,Nat.add_mod_mod]
theorem v7{m:Bool × Nat}(h:0<m.2)(a b c:Nat):gm m c (gp m a b)=gp m (gm m c a) (gm m c b):=by rw[iC,Dg h,iC m a,iC m b]
theorem ch4:∀m∈aD,m.1=true->2<=bl m.2:=by decide +kernel
theorem v9{m:Bool × Nat}(hm:m∈aD){a b:Nat}(ha:a<aa m)(hb:b<aa m):gp m a b<aa m:=by
 have h0:=bX m hm
 obtain⟨k,n⟩:=m
 cases k with
 | true=>exact vD ha hb
 | false=>exact ve _ h0
theorem cj{m:Bool × Nat}(hm:m∈aD)(a b:Nat):gm m a b<aa m:=by
 have h0:=bX m hm
 obtain⟨k,n⟩:=m
 cases k with
 | true =>
  have h2:=ch4 (true,n) hm rfl
  have:=(zj (show n≠0 by have:0<n:=h0;omega) (cl a b)).2
  refine(Vd rfl).mpr ?_
  show bl (md (cl a b) n)<=bl n-1
  omega
 | false=>exact ve _ h0
theorem wa{m:Bool × Nat}{a:Nat}(ha:a<aa m):gp m 0 a=a:=by
 obtain⟨k,n⟩:=m
 cases k with
 | true=>exact p5 a
 | false=>show(0+a)%n=a;rw[Rz];exact yI ha
theorem uH{m:Bool × Nat}{a:Nat}(ha:a<aa m):gp m a 0=a:=by rw[j6];exact wa ha
theorem cO2{m:Bool × Nat}(hm:m∈aD){a b:Nat}(ha:a<aa m)(hb:b<aa m):∃r:Nat,gl m a b=r/\r<aa m/\gp m r b=a:=by
 have h0:=bX m hm
 obtain⟨k,n⟩:=m
 cases k with
 | true=>exact⟨a ^^^ b,rfl,vD ha hb,by show a ^^^ b ^^^ b=a;rw[sJ,BG,me]⟩
 | false =>
  have h0:0<n:=h0
  have ha:a<n:=ha
  have hb:b<n:=hb
  refine⟨(a+(n-b))%n,?_,ve _ h0,?_⟩
  ·show((a:Int)-b)%n=_
   rw[qe,BI,Int.natCast_sub (by omega),show((a:Int)+((n:Int)-b))=((a:Int)-b)+n by omega,Int.add_emod_right]
  ·show((a+(n-b))%n+b)%n=a
   rw[yJ,show a+(n-b)+b=a+n by omega,Nat.add_mod_right,yI ha]
noncomputable def eS(m:Bool × Nat)(n:Int):Nat:=(pw m (n%((aa m:Int)-1)).toNat).toNat
theorem Dh{m:Bool × Nat}(hm:m∈aD)(n:Int):1<=eS m n/\eS m n<aa m/\lg m (eS m n)=n%((aa m:Int)-1)/\pw m (n%((aa m:Int)-1)).toNat=eS m n:=by
 have dJ:=(cJ hm).lo
 have n0:=jn n (show(aa m:Int)-1≠0 by omega)
 have n1:=jo n (show(0:Int)<(aa m:Int)-1 by omega)
 obtain⟨p1,p2,p3⟩:=C8 hm (k:=(n%((aa m:Int)-1)).toNat) (by omega)
 unfold eS
 rw[p3]
 omega
theorem cS2{m:Bool × Nat}(hm:m∈aD)(a b:Int):gm m (eS m a) (eS m b)=eS m (a+b):=by
 obtain⟨a1,a2,a3,_⟩:=Dh hm a
 obtain⟨b1,b2,b3,_⟩:=Dh hm b
 have e:=Ie hm a1 a2 b1 b2
 rw[a3,b3,<- Int.add_emod]at e
 have c:=(Dh hm (a+b)).2.2.2
 rw[c]at e
 omega
theorem Vq{m:Bool × Nat}(hm:m∈aD){a:Nat}(h1:1<=a)(h2:a<aa m):eS m (lg m a)=a:=by
 obtain⟨g0,g1,g2⟩:=C9 hm h1 h2
 unfold eS
 rw[Int.emod_eq_of_lt g0 g1,g2];rfl
theorem cR9{m:Bool × Nat}(hm:m∈aD){a b:Nat}(a1:1<=a)(a2:a<aa m)(b1:1<=b)(b2:b<aa m):gm m a b≠0:=by
 rw[<-Vq hm a1 a2,<- Vq hm b1 b2,cS2 hm]
 have:=(Dh hm (lg m a+lg m b)).1
 omega
end L3
namespace L2
open PySem PySem.Spec PyProof.Rows
section
variable{X:Cx}{a:Expr}{ta:TA}{p pos:Pos}{tg:Expr}
end
end L2
namespace L3
open PySem L2 PySem.Spec PyProof.Rows
section
variable{F H:Hp}{K:PySem.W.Frag}{p:Addr}{ws:List V}{xs:List D}
end
section
variable{X:Cx}{a:Expr}{ta:cY}{p pos:Pos}{tg:Expr}
end
end L3
namespace L3
open PySem L2 Mf
noncomputable def AllLt(n:Nat)(l:List Nat):Prop:=∀a∈l,a<n
theorem AllLt.getD{n:Nat}{l:List Nat}(h:AllLt n l)(h0:0<n)(k:Nat):l.getD k 0<n:=by
 rw[aQ]
 cases e:l[k]? with
 | none=>exact h0
 | some v=>exact h v (u9 e)
end L3
namespace L3
open PySem L2 PySem.Spec PyProof.Rows
theorem ca2(n:Nat)(l:List Nat):(aq l).all (dS n)=true:=by
 rw[cC,mh,dw]
 intro a _
 exact rp n _
theorem Ab(n:Nat)(o:Bool)(l:List Nat):dS (n+1) (.lst o (aq l))=true:=ca2 n l
theorem uI(o o':Bool)(a b:List Nat):bP (.lst o (aq a)) (.lst o' (aq b))=decide (a=b):=by
 unfold aq
 rw[rq]
 congr 1
 apply propext
 constructor
 ·intro h
  have:=congrArg (FE Int.toNat) h
  have e:(Int.toNat ∘ λ(n:Nat)=>(n:Int))=id:=by funext x;rfl
  rw[cm,cm,e,List.map_id,List.map_id]at this
  exact this
 ·intro h;rw[h]
theorem jG{l:List Nat}{k:Int}(h0:0<=k)(h:k.toNat<l.length):eK (aq l) k=some (.int ((l.getD k.toNat 0:Nat):Int)):=by
 refine ql h0 ?_
 rw[cC,bQ,aP h,aQ,aP h];rfl
theorem Di{n:Nat}{k:Int}(h0:0<=k)(h:k.toNat<n):iN n k=some k.toNat:=by
 unfold iN
 rw[if_pos h0,if_pos (by omega)]
theorem uJ{n:Nat}(k:Int)(h:k=n):(((bg k.toNat).map λ(k:Nat)=>D.int (0+(k:Int))).map D.sh)=(bg n).map λ(i:Nat)=>D.int (i:Int):=by
 subst h
 rw[zE,fX]
 simp
theorem Dj(l:List Nat)(k v:Nat):(aq l).set k (.int (v:Nat))=aq (l.set k v):=by
 rw[cC,cC,List.map_set]
theorem cm6(l:List Nat):(aq l).all D.fr=true:=oR _
theorem jH(o:Bool)(l:List Nat):(D.lst o (aq l)).sh=.lst false (aq l):=by rw[dj,mV]
theorem fC(l:List Nat):(D.lst true (aq l)).fr=true:=by rw[eT,cm6];rfl
theorem cf2{l:List Nat}{i:Nat}{d:D}(h:(aq l)[i]?=some d):∃hi:i<l.length,d=.int (l[i]:Nat):=by
 have hi:i<l.length:=by
  have:=(j9.mp h).1
  rw[e5]at this;exact this
 refine⟨hi,?_⟩
 rw[cC,bQ,aP hi]at h
 exact(cX h).symm
section
variable{X:Cx}
end
end L3
namespace L3
open PySem L2 Mf
noncomputable def bG(m:Bool × Nat)(a b:Nat):Nat:=(gl m a b).toNat
theorem fE{m:Bool × Nat}(hm:m∈aD){a b:Nat}(ha:a<aa m)(hb:b<aa m):gl m a b=(bG m a b:Nat)/\bG m a b<aa m/\gp m (bG m a b) b=a:=by
 obtain⟨r,e,h1,h2⟩:=cO2 hm ha hb
 have:bG m a b=r:=by unfold bG;rw[e];rfl
 rw[this]
 exact⟨e,h1,h2⟩
theorem Dk{n:Nat}{f:Nat->Nat->Nat}:∀{a b:List Nat},(∀x∈a,∀y∈b,f x y<n)->AllLt n (dh f a b)
 | [],_,_=>by intro x hx;simp at hx
 | _::_,[],_=>by intro x hx;simp at hx
 | x::a,y::b,h=>by
  intro z hz
  rw[Ry]at hz
  rcases cA.mp hz with rfl | hz
  ·exact h x (by simp) y (by simp)
  ·exact Dk (λx hx y hy=>h x (by simp[hx]) y (by simp[hy])) z hz
theorem bV6(xs ys:List Nat):(cR (aq xs) (aq ys)).map D.sh=(xs.zip ys).map λz=>D.tup [.int (z.1:Int),.int (z.2:Int)]:=by
 unfold aq
 rw[Vi,List.zip_map,cm];rfl
theorem Vr{sh:Bool}{aJ:List (Str × Nat)}{n i1 i2:Nat}{te:aY}{ax:Dl}{Q:D->Dl->Prop}(f:Nat->Nat->Nat){A B:List Nat}(hx:∀x∈A,∀y∈B,iZ i1 i2 (.tup [.int (x:Int),.int (y:Int)]) (fR aJ n ax) λbo=>te bo λd _=>d=.int ((f x y:Nat):Int))
  (hl:A.length<=100000) (hq:Q (.lst true (aq (dh f A B))) ax):vL sh (cR (aq A) (aq B)) aJ n (iZ i1 i2) kB te ax Q:=by
 refine Ig (A.zip B) (λz=>D.tup [.int (z.1:Int),.int (z.2:Int)]) (λz=>D.int ((f z.1 z.2:Nat):Int)) (bV6 A B) (λa b h=>?_) (λz hz=>hx z.1 (sC hz).1 z.2 (sC hz).2) Ih (.inr λ_ _=>rfl) (by rw[vg,sL];omega) ?_
 ·injection h with h
  simp at h
  exact BJ (by omega) (by omega)
 ·rw[show((A.zip B).map λz=>D.int ((f z.1 z.2:Nat):Int))=aq (dh f A B) by rw[cC,yK,vd,vd]]
  exact hq
end L3
namespace L3
open PySem L2 PySem.Spec PyProof.Rows
theorem ay.dK5{B:Bs}{F H:Hp}{σ:L2.St}{δ:Dl}{ps ts:List (D × V)}{p:Addr}{o:HO}{A1:List Addr}(c:ay B F H σ δ (ps++ts))(hp:H p=none)(r:R F (upd H p o) (ps.map (·.1)) (ps.map (·.2)) A1):p ∉ A1:=λh=>by
 obtain⟨A,C,r0,_,_,_⟩:=c.own
 rw[fM,fM]at r0
 obtain⟨v1,v2,B1,B2,e,rfl,h1,h2⟩:=R.split r0
 have l1:(ps.map (·.2)).length=v1.length:=by rw[<-h1.length];simp
 obtain⟨rfl,rfl⟩:=Fy e l1
 have g1:=h1.grow (ag.refl F) (ag.upd (o:=o) hp) λa ha=>(h1.lists a ha).2
 have:A1=B1:=R.inj r g1
 subst this
 obtain⟨ws,e⟩:=(h1.lists p h).1
 rw[hp]at e;cases e
theorem ay.join{B:Bs}{F H:Hp}{σ:L2.St}{δ:Dl}{ts:List (D × V)}{p p' r:Addr}{xs ys:List D}{ws gy:List V}(c:ay B F H σ δ ((.lst true ys,.ref p')::(.lst true xs,.ref p)::ts))(e1:H p=some (.lst ws))(e2:H p'=some (.lst gy))(hr:H r=none) :
  ay B F (upd H r (.lst (ws++gy))) σ δ ((.lst true (xs++ys),.ref r)::ts):=by
 refine ay.pack (ps:=[(.lst true ys,.ref p'),(.lst true xs,.ref p)]) c (ag.upd hr) λA1 r1 nd=>?_
 have nin:=ay.dK5 (ps:=[(.lst true ys,.ref p'),(.lst true xs,.ref p)]) (ts:=ts) c hr r1
 have n1:p≠r:=λz=>by rw[z,hr]at e1;cases e1
 have n2:p'≠r:=λz=>by rw[z,hr]at e2;cases e2
 have r1:R F (upd H r (.lst (ws++gy))) [.lst true ys,.lst true xs] [.ref p',.ref p] A1:=r1
 cases r1 with
 | @own _ wy _ Ay _ _ By hy fy ry rb =>
  cases rb with
  | @own _ wx _ Ax _ _ Bx hx fx rx rc =>
   cases rc
   rw[bu n2,e2]at hy;cases hy
   rw[bu n1,e1]at hx;cases hx
   refine⟨r::(Ax++Ay),by simpa using R.own cF (c.ext.free hr) (rx.append ry) .nil,?_,λa ha=>?_⟩
   ·refine jm.mpr ⟨λz=>nin ?_,?_⟩
    ·rcases cg.mp z with z | z<;>simp[z]
    ·have sl:(Ay++Ax).Sublist (p'::Ay++(p::Ax++[])):=by
      rw[lZ]
      exact(((c07 p Ax).append_left Ay).trans (c07 p' _))
     exact p8.nodup_iff.mp (nd.sublist sl)
   ·simp only[cA,cg]at ha ⊢
    rcases ha with rfl | ha | ha
    ·exact .inr hr
    ·simp[ha]
    ·simp[ha]
section
variable{X:Cx}{a b:Expr}{ta tb:aY}{pos:Pos}
noncomputable def rV(ta tb:aY):aY:=λδ Q=>ta δ λx ax=>tb ax λy bo=>∃xs ys,x=.lst true xs/\y=.lst true ys/\xs.length+ys.length<=sizeLine/\Q (.lst true (xs++ys)) bo
theorem Vs(ha:PE X a (lE ta))(hb:PE X b (lE tb)):PE X (.BinOp a .Add b pos) (lE (rV ta tb)) :=
 dN (y6 SE ha hb) λσ H Q ⟨B,F,δ,ts,Qd,c,q,k⟩ =>
  ⟨B,F,δ,ts,_,c,q,λx ax v F1 H1 q1 f1 h1 c1=>⟨B,F1,ax,(x,v)::ts,_,c1,q1,λy bo w F2 H2 q2 f2 h2 c2=>by
   obtain⟨xs,ys,rfl,rfl,hz,hq⟩:=q2
   obtain⟨p',gy,rfl,e2,s2⟩:=iW c2.top c2.ext
   obtain⟨p,ws,rfl,e1,s1⟩:=iW c2.pop.top c2.ext
   refine⟨p,p',ws,gy,rfl,rfl,e1,e2,by rw[<-s1.length,<- s2.length];exact hz,λr hr=>?_⟩
   exact k _ bo _ F2 _ hq (f1.trans f2) ((h1.trans h2).trans (ag.upd hr)) (c2.join e1 e2 hr)⟩⟩
end
theorem Vt{a b:List Nat}(h:aq a=aq b):a=b:=by
 have:=uI true true a b
 rw[h,show bP (D.lst true (aq b)) (D.lst true (aq b))=true from(uI _ _ _ _).trans (decide_eq_true rfl)]at this
 exact of_decide_eq_true this.symm
theorem ph{o:Bool}(a b:List Nat)(h:D.lst o (aq a)=D.lst o (aq b)):a=b:=Vt (by injection h)
end L3
namespace L3
open PySem L2 Mf
end L3
namespace L2
open PySem PySem.Spec PyProof.Rows
end L2
namespace L3
open PySem L2 PySem.Spec PyProof.Rows Mf
theorem wb{m:Bool × Nat}(hm:m∈aD)(xs ys:List Nat):gd m xs ys<aa m:=by
 have dJ:=(cJ hm).lo
 unfold gd
 have:∀(l:List Nat) (a:Nat),a<aa m->AllLt (aa m) l->l.foldl (gp m) a<aa m:=by
  intro l
  induction l with
  | nil=>exact λa ha _=>ha
  | cons x l ih=>exact λa ha h=>ih _ (v9 hm ha (h x (by simp))) λy hy=>h y (by simp[hy])
 exact this _ _ (by omega) (Dk λx _ y _=>cj hm x y)
end L3
namespace L3
open PySem L2 Mf
noncomputable def cf(l:List Nat)(k:Nat):Nat:=l.getD k 0
theorem rW{l:List Nat}{k:Nat}(h:l.length<=k):cf l k=0:=by
 unfold cf;rw[aQ,fY h];rfl
theorem bY{m:Bool × Nat}(hm:m∈aD){l:List Nat}(h:AllLt (aa m) l)(k:Nat):cf l k<aa m:=h.getD (by have:=(cJ hm).lo;omega) k
theorem Dm(m:Bool × Nat)(x:Nat):bG m x x=0:=by
 obtain⟨k,n⟩:=m
 cases k with
 | true=>show(((x ^^^ x:Nat):Int)).toNat=0;rw[BG];rfl
 | false=>show(((x:Int)-(x:Int))%(n:Int)).toNat=0;rw[Int.sub_self,Int.zero_emod];rfl
end L3
namespace L3
open PySem L2 PySem.Spec PyProof.Rows
section
variable{B:Bs}{F H:Hp}{σ:L2.St}{δ:Dl}{ts ps:List (D × V)}{i k:Nat}{p q:Addr}{l1 l2 ys Tn:List D}{ws vP:List V}
end
section
variable{X:Cx}{F H:Hp}{e b:Expr}{pos p p2 p3 pr apos cB HA:Pos}{t ti te:aY}{x y:Str}{i j:Nat}
end
end L3
namespace L3
structure Rg(N:Nat)(p q:Nat->Nat->Nat):Prop where
 pc:∀a b,p a b=p b a
 pa:∀a b c,p (p a b) c=p a (p b c)
 mc:∀a b,q a b=q b a
 ma:∀{a b c},a<N->b<N->c<N->q (q a b) c=q a (q b c)
 dl:∀a b c,q a (p b c)=p (q a b) (q a c)
 z:∀{a},a<N->p 0 a=a
 qz:∀a,q a 0=0
 one:∀{a},a<N->q 1 a=a
 lp:∀{a b},a<N->b<N->p a b<N
 lq:∀a b,q a b<N
 ng:∀{a},a<N->∃b,b<N/\p a b=0
section
variable{N:Nat}{p q:Nat->Nat->Nat}
noncomputable def sm(p:Nat->Nat->Nat):Nat->(Nat->Nat)->Nat
 | 0,_=>0
 | n+1,f=>p (sm p n f) (f n)
theorem Rg.pos(r:Rg N p q):0<N:=nG (jM _) (r.lq 0 0)
theorem Rg.z'(r:Rg N p q){a:Nat}(h:a<N):p a 0=a:=by rw[r.pc];exact r.z h
theorem Rg.Ac(r:Rg N p q){a b c:Nat}(ha:a<N)(hb:b<N)(hc:c<N)(h:p a c=p b c):a=b:=by
 obtain⟨d,_,e⟩:=r.ng hc
 have:=congrArg (λx=>p x d) h
 simp only[r.pa,e]at this
 rw[r.z' ha,r.z' hb]at this
 exact this
theorem Rg.cn(r:Rg N p q){a b:Nat}(ha:a<N)(hb:b<N)(h:p a b=b):a=0:=r.Ac ha r.pos hb (by rw[h,r.z hb])
theorem cw{f g:Nat->Nat}:∀{n:Nat},(∀j,j<n->f j=g j)->sm p n f=sm p n g
 | 0,_=>rfl
 | n+1,h=>by rw[sm,sm,cw λj hj=>h j (by omega),h n (by omega)]
theorem kG(r:Rg N p q){f:Nat->Nat}:∀{n:Nat},(∀j,j<n->f j<N)->sm p n f<N
 | 0,_=>r.pos
 | n+1,h=>r.lp (kG r λj hj=>h j (by omega)) (h n (by omega))
theorem g7(r:Rg N p q){f:Nat->Nat}:∀{n:Nat},(∀j,j<n->f j=0)->sm p n f=0
 | 0,_=>rfl
 | n+1,h=>by rw[sm,g7 r λj hj=>h j (by omega),h n (by omega)];exact r.z r.pos
theorem Rg.four(r:Rg N p q)(a b c d:Nat):p (p a b) (p c d)=p (p a c) (p b d):=by
 rw[r.pa,r.pa,<- r.pa b,<- r.pa c,r.pc b c]
theorem mY(r:Rg N p q)(f g:Nat->Nat):∀n,sm p n (λj=>p (f j) (g j))=p (sm p n f) (sm p n g)
 | 0=>(r.z r.pos).symm
 | n+1=>by rw[sm,mY r f g n,sm,sm,r.four]
theorem Ad(r:Rg N p q)(c:Nat)(f:Nat->Nat):∀n,sm p n (λj=>q c (f j))=q c (sm p n f)
 | 0=>(r.qz c).symm
 | n+1=>by rw[sm,Ad r c f n,sm,r.dl]
theorem Ij(r:Rg N p q){f:Nat->Nat}(n:Nat):∀k,(∀j,j<n+k->f j<N)->sm p (n+k) f=p (sm p n f) (sm p k λj=>f (n+j))
 | 0,h=>(r.z' (kG r λj hj=>h j (by omega))).symm
 | k+1,h=>by
  rw[<-FA,sm,Ij r n k λj hj=>h j (by omega),sm,r.pa]
theorem cl5(r:Rg N p q){f:Nat->Nat}(n:Nat)(h:∀j,j<n+1->f j<N):sm p (n+1) f=p (f 0) (sm p n λj=>f (j+1)):=by
 rw[BC n 1,Ij r 1 n λj hj=>h j (by omega)]
 show p (p 0 (f 0)) _=_
 rw[r.z (h 0 (by omega))]
 congr 1
 exact cw λj _=>by rw[BC]
end
end L3
namespace L3
section
variable{N:Nat}{p q:Nat->Nat->Nat}
end
end L3
namespace L3
open PySem L2 Mf
theorem rg{m:Bool × Nat}(hm:m∈aD):Rg (aa m) (gp m) (gm m) where
 pc:=j6 m
 pa:=Ii m
 mc:=iC m
 ma:=λ_ _ _=>i9 (bX m hm) _ _ _
 dl:=λa b c=>v7 (bX m hm) b c a
 z:=wa
 qz:=λa=>gi m a (bX m hm)
 one:=j4
 lp:=v9 hm
 lq:=cj hm
 ng:=λ{a} ha=>by
  have g:=fE hm (a:=0) (b:=a) (by omega) ha
  exact⟨_,g.2.1,(j6 m _ _).trans g.2.2⟩
theorem cj9(p:Nat->Nat->Nat)(l:List Nat):l.foldl p 0=sm p l.length λj=>l.getD j 0:=by
 have key:∀n,n<=l.length->(l.take n).foldl p 0=sm p n λj=>l.getD j 0:=by
  intro n
  induction n with
  | zero=>intro _;rfl
  | succ n ih =>
   intro h
   rw[mf,aP (by omega),yL,ih (by omega),sm,aQ,aP (show n<l.length by omega)]
   rfl
 have:=key l.length (bN _)
 rw[sN]at this
 exact this
theorem cF6{m:Bool × Nat}(hm:m∈aD)(f:Nat)(b:List Nat)(j:Nat):cf (b.map (gm m f)) j=gm m f (cf b j):=by
 unfold cf
 rw[aQ,bQ,aQ]
 cases b[j]? with
 | none=>exact(gi m f (bX m hm)).symm
 | some x=>rfl
theorem Ae{m:Bool × Nat}(hm:m∈aD){a b:Nat}(ha:a<aa m)(hb:b<aa m)(h0:b≠0):∃r,r<aa m/\gm m r b=a:=by
 by_cases a0:a=0
 ·exact⟨0,by have:=(cJ hm).lo;omega,by rw[a0];exact fm m b (bX m hm)⟩
 ·obtain⟨r,_,h1,h2⟩:=Vk hm (show 1<=a by omega) ha (show 1<=b by omega) hb
  exact⟨r,h1,h2⟩
end L3
namespace L3
open PySem L2 PySem.Spec PyProof.Rows
section
variable{X:Cx}{i j:Nat}{x y:Str}{p pos pos' apos cB:Pos}
end
section
variable{X:Cx}{e:Expr}{t:aY}{p pos:Pos}
end
section
variable{X:Cx}
theorem cm4(i:Int)(ns:List Int):tF (.int i) (ns.map V.int)=decide (i∈ns):=by
 unfold tF
 rw[Ru,sM,Ft,decide_eq_true_iff]
 exact⟨λ⟨x,hx,he⟩=>(show x=i by simpa[km]using he) ▸ hx,λhx=>⟨i,hx,by simp[km]⟩⟩
noncomputable def pj:cQ:=λx y Q=>match x,y with
 | .int i,.lst _ xs=>∃ns:List Int,xs=aL ns/\Q (.bl (!decide (i∈ns)))
 | _,_=>False
theorem Vu:bV X (compareOp .NotIn) pj :=
 ⟨_,bJ0,λ{B F H σ δ ts x y v w Q Qd} c sx sy h k=>by
  unfold pj at h
  split at h
  ·rename_i i o xs
   obtain⟨ns,rfl,q⟩:=h
   obtain⟨p,ws,rfl,e1,s1⟩:=iW sy c.ext
   have e:=CM s1
   subst e
   cases sx
   refine⟨p,_,rfl,.inl (bS.of e1),rfl,by simp[mB],?_⟩
   rw[if_pos rfl,cm4]
   exact k _ _ _ q (ag.refl _) (c.pushS (.bl .nil) rfl)
  ·exact h.elim⟩
end
end L3
namespace L3
open PySem L2 Mf
noncomputable def aH(o:Bool)(T:List (List Nat)):List D:=T.map λr=>.lst o (aq r)
theorem jc(o:Bool)(T:List (List Nat)):(aH o T).length=T.length:=by unfold aH;rw[bB]
theorem dm(o:Bool)(T:List (List Nat)):(aH o T).map D.sh=aH false T:=by
 unfold aH
 rw[cm]
 exact qa λr _=>jH o r
theorem mZ(T:List (List Nat)):(aH false T).all D.pl=true:=by
 unfold aH
 rw[mh,dw]
 intro r _
 show(D.lst false (aq r)).pl=true
 rw[fi,kF];rfl
theorem pk(T:List (List Nat)):(aH true T).all D.fr=true:=by
 unfold aH
 rw[mh,dw]
 intro r _
 exact fC r
theorem uK(o:Bool)(S T:List (List Nat)):aH o S++aH o T=aH o (S++T):=by unfold aH;rw[fM]
theorem uL(o:Bool)(T:List (List Nat))(lo hi:Option Int):fk (aH o T) lo hi=aH o (fk T lo hi):=by
 unfold aH fk
 rw[bB,Ro,Rn]
theorem uM(o:Bool){T:List (List Nat)}{i:Nat}(h:i<T.length):eK (aH o T) (i:Int)=some (.lst o (aq T[i])):=by
 refine L3.HK ?_
 unfold aH
 rw[bQ,aP h];rfl
theorem cc1(n:Nat)(o:Bool)(T:List (List Nat)):(aH o T).all (dS (n+1))=true:=by
 unfold aH
 rw[mh,dw]
 intro r _
 exact Ab _ _ _
theorem Vv(n:Nat)(o o':Bool)(T:List (List Nat)):dS (n+2) (.lst o (aH o' T))=true:=cc1 n o' T
theorem Vw(o o':Bool):∀(a b:List (List Nat)),bP.gg (aH o a) (aH o' b)=decide (a=b)
 | [],[]=>rfl
 | [],_::_=>by simp[aH,bP.gg]
 | _::_,[]=>by simp[aH,bP.gg]
 | x::xs,y::ys=>by
  show(bP (.lst o (aq x)) (.lst o' (aq y))&&bP.gg (aH o xs) (aH o' ys))=_
  rw[Vw o o' xs ys,uI,sM];simp
theorem cz2(o o' o1 o2:Bool)(a b:List (List Nat)):bP (.lst o (aH o1 a)) (.lst o' (aH o2 b))=decide (a=b):=Vw o1 o2 a b
open Classical in
theorem Af{α:Type}{sh:Bool}{xs:List D}{aJ:List (Str × Nat)}{n:Nat}{g0:iT}{tt:fO}{te:aY}{ax:Dl}{Q:D->Dl->Prop}(l:List α)(e g:α->D)(kp:α->Bool)(gD:xs.map D.sh=l.map e)(inj:∀a b,e a=e b->a=b)
  (hx:∀a∈l,g0 (e a) (fR aJ n ax) λbo=>tt bo λb iS=>b=kp a/\(kp a=true->te iS λd _=>d=g a)) (eY:(sh&&aJ.all (iz ax))=true\/∀a∈l,kp a=true->(g a).fr=true) (hl:l.length<=sizeLine) (hq:Q (.lst true ((l.filter kp).map g)) ax):vL sh xs aJ n g0 tt te ax Q:=by
 have pick:∀{β:Type} (h:α->β) (z:β),∃f:D->β,∀a∈l,f (e a)=h a:=λh z=>⟨λx=>if w:∃a∈l,e a=x then h w.choose else z,λa ha=>by
  have w:∃b∈l,e b=e a:=⟨a,ha,rfl⟩
  show(if w:∃b∈l,e b=e a then h w.choose else z)=h a
  rw[dif_pos w]
  exact congrArg h (inj _ _ w.choose_spec.2)⟩
 obtain⟨f,hf⟩:=pick g .az
 obtain⟨p,hp⟩:=pick kp false
 refine⟨p,f,λx h=>?_,eY.imp id λh x eo=>?_,?_,?_⟩
 ·rw[gD]at h
  obtain⟨a,ha,rfl⟩:=bE.mp h
  rw[hp a ha,hf a ha]
  exact hx a ha
 ·rw[gD]at eo
  obtain⟨a,ha,rfl⟩:=bE.mp eo
  rw[hp a ha,hf a ha];exact h a ha
 ·have:=congrArg Fg gD
  simp at this
  omega
 ·rw[gD,List.filter_map,cm,show l.filter (p ∘ e)=l.filter kp from RA λa ha=>hp a ha,show(l.filter kp).map (f ∘ e)=(l.filter kp).map g from qa λa ha=>hf a (nt.mp ha).1]
  exact hq
theorem Ik{o:Bool}{G:List (List Nat)}{i:Nat}{d:D}(h:(gu (aH o G))[i]?=some d):∃hi:i<G.length,d=.tup [.int i,.lst o (aq G[i])]:=by
 unfold gu aH at h
 rw[BH,bQ]at h
 by_cases hi:i<G.length
 ·rw[aP hi]at h
  exact⟨hi,(cX h).symm⟩
 ·rw[fY (by omega)]at h;cases h
theorem Vx(r:List Nat):(gu (aq r)).map D.sh=(bg r.length).map λ(i:Nat)=>D.tup [.int (i:Int),.int ((r.getD i 0:Nat):Int)]:=by
 apply FC
 intro i
 unfold gu
 rw[cC,bQ,BH,bQ,bQ]
 by_cases hi:i<r.length
 ·have e:r.getD i 0=r[i]:=by rw[aQ,aP hi];rfl
  rw[aP hi,kL hi]
  show _=some (D.tup [D.int (i:Int),D.int ((r.getD i 0:Nat):Int)])
  rw[e];rfl
 ·rw[fY (show r.length<=i by omega),fY (show(bg r.length).length<=i by simpa using hi)];rfl
theorem Vy{r:List Nat}(h:∃x∈r,x≠0):((bg r.length).filter λi=>r.getD i 0 != 0)[0]?=some (r.findIdx (· != 0)):=by
 obtain⟨x,hx,h0⟩:=h
 have hl:r.findIdx (· != 0)<r.length:=FG ⟨x,hx,by simpa using h0⟩
 rw[<-List.head?_eq_getElem?,List.head?_filter,List.find?_range_eq_some]
 refine⟨?_,cL.mpr hl,λj hj=>?_⟩
 ·rw[aQ,aP hl]
  exact c08 (w:=hl)
 ·have:=List.not_of_lt_findIdx hj
  rw[aQ,aP (by omega)]
  simpa using this
noncomputable def ah(T:List (List Nat)):Nat:=(T.headD []).length
noncomputable def j7(T:List (List Nat))(j:Nat):Option Nat:=T.findIdx? λr=>r.getD j 0 != 0
noncomputable def gF(m:Bool × Nat)(T:List (List Nat))(l:List Nat)(j:Nat):List (List Nat):=T.map λr=>dh (λx y=>bG m x (gm m (r.getD j 0) y)) r l
noncomputable def m3(m:Bool × Nat)(b:Nat):Nat:=((bg (aa m)).find? λr=>gm m r b==1).getD 0
theorem Dn{m:Bool × Nat}(hm:m∈aD){b r:Nat}(hr:r<aa m)(h:gm m r b=1):m3 m b=r:=by
 have m0:=bX m hm
 unfold m3
 cases e:(bg (aa m)).find? λr=>gm m r b==1 with
 | none =>
  have:=RB.mp e r (cL.mpr hr)
  simp[h]at this
 | some r' =>
  have h':gm m r' b=1:=by simpa using List.find?_some e
  have l':r'<aa m:=cL.mp (Rm e)
  show r'=r
  rw[<-uG hr,<- h',<- i9 m0,iC m r r',i9 m0,h,uG l']
noncomputable def RT(N w:Nat)(T:List (List Nat)):Prop:=∀r∈T,r.length=w/\AllLt N r
theorem RT.app{N w:Nat}{S T:List (List Nat)}(a:RT N w S)(b:RT N w T):RT N w (S++T):=λr hr=>(cg.mp hr).elim (a r) (b r)
theorem Vz{m:Bool × Nat}(hm:m∈aD){w j:Nat}{T:List (List Nat)}{l:List Nat}(h:RT (aa m) w T)(hl:l.length=w):RT (aa m) w (gF m T l j):=λr hr=>by
 obtain⟨r,h1,rfl⟩:=bE.mp hr
 obtain⟨a,b⟩:=h r h1
 exact⟨by rw[gM,a,hl,sP],Dk λx hx y hy=>(fE hm (b x hx) (cj hm _ y)).2.1⟩
noncomputable def eE(m:Bool × Nat)(T:List (List Nat))(i p:Nat):List Nat:=(T.getD i []).map (gm m (m3 m ((T.getD i []).getD p 0)))
noncomputable def iD(m:Bool × Nat)(s:List (List Nat) × List (List Nat))(p:Nat):List (List Nat) × List (List Nat):=match j7 s.2 p with
 | none=>s
 | some i=>(gF m s.1 (eE m s.2 i p) p++[eE m s.2 i p],gF m (s.2.take i++s.2.drop (i+1)) (eE m s.2 i p) p)
noncomputable def je(m:Bool × Nat)(G:List (List Nat))(k:Nat):List (List Nat) × List (List Nat):=(bg k).foldl (iD m) ([],G)
noncomputable def cE(m:Bool × Nat)(G:List (List Nat)):List (List Nat):=(je m G (ah G)).1
theorem Il(m:Bool × Nat)(G:List (List Nat))(k:Nat):je m G (k+1)=iD m (je m G k) k:=by
 unfold je
 rw[FH,yL];rfl
theorem Dq{T:List (List Nat)}{j i:Nat}(h:j7 T j=some i):∃hi:i<T.length,T[i].getD j 0≠0/\T.getD i []=T[i]:=by
 obtain⟨hi,h1,_⟩:=c09.mp h
 exact⟨hi,by simpa using h1,by rw[aQ,aP hi];rfl⟩
structure Ag(N w n:Nat)(s:List (List Nat) × List (List Nat)):Prop where
 a:RT N w s.1
 b:RT N w s.2
 l:s.1.length+s.2.length<=n
theorem cj8{m:Bool × Nat}(hm:m∈aD){w n p:Nat}{s:List (List Nat) × List (List Nat)}(h:Ag (aa m) w n s):Ag (aa m) w n (iD m s p):=by
 unfold iD
 split
 ·exact h
 ·rename_i i e
  obtain⟨hi,h1,h2⟩:=Dq e
  have hl:(eE m s.2 i p).length=w:=by unfold eE;rw[bB,h2];exact(h.b _ (cM hi)).1
  have hr:RT (aa m) w [eE m s.2 i p]:=λr hr=>by
   rw[dP]at hr
   refine⟨by rw[hr];exact hl,λx hx=>?_⟩
   rw[hr]at hx
   obtain⟨y,_,rfl⟩:=bE.mp hx
   exact cj hm _ _
  refine⟨(Vz hm h.a hl).app hr,Vz hm (λr hr=>h.b r ?_) hl,?_⟩
  ·rcases cg.mp hr with hr | hr
   ·exact nJ hr
   ·exact nI hr
  ·have:=h.l
   unfold gF
   rw[dO,bB,bB,dO,gL,iH]
   show s.1.length+1+_<=n
   omega
theorem wc{m:Bool × Nat}(hm:m∈aD){w:Nat}{G:List (List Nat)}(h:RT (aa m) w G):∀k,Ag (aa m) w G.length (je m G k)
 | 0=>⟨(λr hr=>nomatch hr),h,Bw (Rz _)⟩
 | k+1=>by rw[Il];exact cj8 hm (wc hm h k)
theorem Im(j:Nat)(l:List Nat):decide ((j:Int)∈l.map λ(n:Nat)=>(n:Int))=l.contains j:=by
 rw[sM,decide_eq_true_iff,BK,bE]
 exact⟨λ⟨a,h,e⟩=>(show a=j by omega) ▸ h,λh=>⟨j,h,rfl⟩⟩
theorem VA{o:Bool}{G:List (List Nat)}{f:List Nat->Nat}{k:Nat}{d:D}(h:(cR (aq (G.map f)) (aH o G))[k]?=some d):∃hk:k<G.length,d=.tup [.int ((f G[k]:Nat):Int),.lst o (aq G[k])]:=by
 unfold cR aH at h
 rw[cC,kN,bQ,bQ,bQ]at h
 by_cases hk:k<G.length
 ·rw[aP hk]at h
  exact⟨hk,(cX h).symm⟩
 ·rw[fY (by omega)]at h;cases h
theorem Io{α:Type}(a:α->Nat)(b:α->Nat):∀(l:List α) (x:List Nat),(l.foldl (λx z=>x.set (a z) (b z)) x).length=x.length
 | [],_=>rfl
 | z::l,x=>by rw[sI,Io a b l,nB]
theorem ch1(G:List (List Nat))(u:List Nat):(cR (aH false G) (aq u)).map D.sh=(G.zip u).map λz=>D.tup [.lst false (aq z.1),.int ((z.2:Nat):Int)]:=by
 rw[HG,dm,mV]
 unfold cR aH
 rw[cC,yE,yK,vd]
end L3
namespace L2
open PySem PySem.Spec PyProof.Rows
theorem bU9{M:Model}{A:Around}{E:Value->Shared->Prop}{s:Shared}{scope:Scope}{globals:Addr}{cl:List (Str × Addr)}{qual:Str}{env:Env}{bi:Addr}{Q:Env->Shared->Prop}
  (hQ:Q (newEnv scope s.heap.objs.size globals (cellsFrom (s.heap.objs.size+1) scope.names cl) qual none .none (some env) bi) { s with heap:=pushCells (s.heap.push { cls:=.type "dict",data:=.dict #[] }) scope.names }) :
  wpAny M A (newFunctionEnv scope globals cl [] qual none .none (some env) bi) Q E s:=by
 simp only[newFunctionEnv,Option.isSome_some,if_true]
 refine wpAny_bind (wpAny_alloc (wpAny_bind (wpAny_layCells _ (λname kind cells=>by cases e:kind==FI<;>simp[e]) _ _ _ _ ?_)))
 rw[List.forIn_nil]
 refine wpAny_bind (wpAny_pure (wpAny_pure ?_))
 have z:({ s with heap:=s.heap.push { cls:=.type "dict",data:=.dict #[] } }:Shared).heap.objs.size=s.heap.objs.size+1:=u7 ..
 rw[z]
 exact hQ
theorem Ah:∀(ns:List (Str × NameKind)) (n:Nat) (acc:List (Str × Addr)) (y:Str) (c:Addr),(cellsFrom n ns acc).lookup y=some c->(n<=c/\(y,FI)∈ns)\/acc.lookup y=some c
 | [],_,_,_,_,h=>.inr h
 | (z,k)::r,n,acc,y,c,h=>by
  unfold cellsFrom at h
  split at h
  ·rename_i hk
   rcases Ah r (n+1) _ y c h with⟨h1,h2⟩ | h1
   ·exact .inl ⟨by omega,dZ _ h2⟩
   ·rw[gx]at h1
    cases q:y==z with
    | true =>
     rw[q]at h1;cases h1
     exact .inl ⟨bN _,by rw[eq_of_beq q,eq_of_beq hk];exact fU⟩
    | false=>rw[q]at h1;exact .inr h1
  ·rcases Ah r n acc y c h with⟨h1,h2⟩ | h1
   ·exact .inl ⟨h1,dZ _ h2⟩
   ·exact .inr h1
theorem Ip:∀(ns:List (Str × NameKind)) (n:Nat) (acc:List (Str × Addr)),(∀y z c,acc.lookup y=some c->acc.lookup z=some c->y=z)->(∀y c,acc.lookup y=some c->c<n) ->
  ∀y z c,(cellsFrom n ns acc).lookup y=some c->(cellsFrom n ns acc).lookup z=some c->y=z
 | [],_,_,i,_,y,z,c,h1,h2=>i y z c h1 h2
 | (u,k)::r,n,acc,i,b,y,z,c,h1,h2=>by
  unfold cellsFrom at h1 h2
  split at h1
  ·rw[if_pos (by assumption)]at h2
   refine Ip r (n+1) ((u,n)::acc) (λy z c e1 e2=>?_) (λy c e=>?_) y z c h1 h2
   ·rw[gx]at e1 e2
    cases q1:y==u with
    | true =>
     rw[q1]at e1;cases e1
     cases q2:z==u with
     | true=>rw[eq_of_beq q1,eq_of_beq q2]
     | false=>rw[q2]at e2;exact absurd (b _ _ e2) (fK _)
    | false =>
     rw[q1]at e1
     cases q2:z==u with
     | true=>rw[q2]at e2;cases e2;exact absurd (b _ _ e1) (fK _)
     | false=>rw[q2]at e2;exact i y z c e1 e2
   ·rw[gx]at e
    cases q:y==u with
    | true=>rw[q]at e;cases e;exact Bz _
    | false=>rw[q]at e;exact Rq (b _ _ e)
  ·rw[if_neg (by assumption)]at h2
   exact Ip r n acc i b y z c h1 h2
theorem Iq:∀(ns:List (Str × NameKind)) (n:Nat) (acc:List (Str × Addr)) (y:Str) (c:Addr),(y,FI)∈ns->(cellsFrom n ns acc).lookup y=some c->n<=c
 | [],_,_,_,_,m,_=>nomatch m
 | (z,k)::r,n,acc,y,c,m,h=>by
  unfold cellsFrom at h
  split at h
  ·rename_i hk
   rcases cA.mp m with e | m
   ·have e1:y=z:=(Prod.mk.inj e).1
    rcases Ah r (n+1) _ y c h with⟨h1,_⟩ | h1
    ·exact BL h1
    ·rw[gx,e1,beq_self_eq_true]at h1
     exact Bw (cX h1)
   ·exact BL (Iq r (n+1) _ y c m h)
  ·rename_i hk
   rcases cA.mp m with e | m
   ·cases e;exact absurd rfl hk
   ·exact Iq r n acc y c m h
noncomputable def eG(X:Cx)(scope:Scope)(N:List Str)(cl:List (Str × Addr))(C:Addr)(s:Shared)(H:Hp)(fp:List Addr):Cx :=
 { Cg X scope N (cellsFrom (C+1) scope.names cl) C s H fp with fn:=λy=>scope.names.contains (y,FI) }
section
variable{X:Cx}{scope:Scope}{cl:List (Str × Addr)}
theorem cj4{pins:List (Addr × Obj)}{σ:St}{H:Hp}{s:Shared}{fp:List Addr}{C:Addr}(I:Inv X pins σ H s)(jx:scope.kind=.function)(hC:s.heap.objs.size<=C)
  (gh:∀y c,cl.lookup y=some c->X.env.cells.lookup y=some c) (dL7:∀y,((relabel scope X.env).names.lookup y=some .cell\/(relabel scope X.env).names.lookup y=some .free)->∃c,(cellsFrom (C+1) scope.names cl).lookup y=some c)
  (hf:∀b∈fp,js X pins H b) (ho:∀b∈fp,∃o,s.heap.get? b=some o/\∀v,o.data≠.cell v) (N:List Str):(eG X scope N cl C s H fp).Ok where
 mod:=I.ok.mod
 kind:=jx
 glob:=I.ok.glob
 blt:=I.ok.blt
 above:=hC
 inj:=Ip scope.names (C+1) cl (λy z c h1 h2=>I.ok.inj y z c (gh _ _ h1) (gh _ _ h2)) λy c e=>by
  obtain⟨v,o,ho,_⟩:=I.cell y c (gh y c e)
  exact Nat.lt_succ_of_le (Br (dv (bW ho) hC))
 has:=dL7
 sX:=λy c h e=>eP hC (BL (Iq _ _ _ y c (BK.mp h) e))
 hd:=I.ok.hd
 frames:=I.ok.frames
 yP:=.inl rfl
 yQ:=λb hb=>⟨by
  obtain⟨o,e,_⟩:=ho b hb
  exact fo (dv (bW e) hC),λy c e z=>by
  rcases Ah _ _ _ y c e with⟨h1,_⟩ | h1
  ·obtain⟨o,e,_⟩:=ho b hb
   rw[z]at h1
   exact absurd (dv (bW e) (eP hC (BL h1))) (fK _)
  ·exact(hf b hb).2.2.2.2.1 y c (gh _ _ h1) z⟩
 bs:=I.bs
 ke:=eP I.ok.ke I.sz
 vq:=λb o e hb=>by
  rcases(hf b hb).2.2.2.1 with z | z
  ·exact I.ok.vq b o e z
  ·exact absurd (dv (bW (I.ok.bs b o e).1) z) (fK _)
 vt:=λb hb z=>(cA.mp (I.BR b z)).elim (hf b hb).2.1 (hf b hb).2.2.1
 gQ:=I.stack
 kg:=I.FU
end
theorem Ir:∀(ns:List (Str × NameKind)) (h:Heap) (acc:List (Str × Addr)) (y:Str) (c:Addr),(cellsFrom h.objs.size ns acc).lookup y=some c->(∃o,(pushCells h ns).get? c=some o/\o.data=.cell none)\/acc.lookup y=some c
 | [],_,_,_,_,e=>.inr e
 | (z,k)::r,h,acc,y,c,e=>by
  unfold cellsFrom at e
  unfold pushCells
  split at e
  ·rename_i hk
   rw[if_pos hk]
   rw[<-u7 h { cls:=.type "cell",data:=.cell none }]at e
   rcases Ir r _ _ y c e with h1 | h1
   ·exact .inl h1
   ·rw[gx]at h1
    cases q:y==z with
    | true =>
     rw[q]at h1;cases h1
     exact .inl ⟨_,pushCells_keeps _ _ _ _ (gJ _ rfl),rfl⟩
    | false=>rw[q]at h1;exact .inr h1
  ·rename_i hk
   rw[if_neg hk]
   exact Ir r h acc y c e
end L2
namespace L2
open PySem PySem.Spec PyProof.Rows
section
variable{X:Cx}{elt iter tg:Expr}{pos:Pos}{ifs:List Expr}{scope:Scope}{cl:List (Str × Addr)}{wi:TI}{tt:TT}{te:TE}{g:TG}
theorem VB(aJ:List (Str × Nat))(bZ:List Str)(hc:X.calm=true)(hi:PI X tg iter wi)
  (hg:∀C s H fp,PG (eG X scope (aJ.map (·.1)++bZ) cl C s H fp) tg g)
  (ht:∀C s H fp,nZ (eG X scope (aJ.map (·.1)++bZ) cl C s H fp) ifs tt) (he:∀C s H fp,PE (eG X scope (aJ.map (·.1)++bZ) cl C s H fp) elt te)
  (pq:closureFor scope X.env=pure cl) (pz:n5 X cl) (pB:∀C:Addr,n6 (cellsFrom (C+1) scope.names cl) (relabel scope X.env).names) (pE:∀C:Addr,nY X scope (cellsFrom (C+1) scope.names cl) aJ)
  (jx:scope.kind=.function) (pF:∀y∈scope.names,y.2=.local->scope.names.lookup y.1=some .local)
  (hs:∀x,foldedSetIterable iter X.env x=pure x:=by intro _;rfl) {pins:List (Addr × Obj)} {s:Shared} {σ:L2.St} {H:Hp} {Q:VK} {use:Option (Value->Sem Unit)} {cB:Pos} {Rf:Value->Shared->Prop} (I:Inv X pins σ H s) (h:Ci wi aJ bZ.length g tt te σ H Q)
  (dL8:∀(s':Shared) (H':Hp) (C Da:Addr) (m:Str->Option Value),Inv X pins σ H' s'->s'.heap.Ns C m->H' C=none->C≠X.env.locals->X.cT.heap.objs.size<=C->(∀x c,X.env.cells.lookup x=some c->c≠C)->(∀p∈X.pn++pins,p.1≠C)->C ∉ X.fs->Q (.ref Da) H' ->
   compPost (model X.prog X.w) X.A X.xe use Rf (.ref Da) C (.ok .next) s') :
  wpAny (model X.prog X.w) X.A (comprehension (.ListComp elt [⟨tg,iter,ifs,0⟩] scope pos) scope X.env cB (newList []) false (eval iter X.env) use) Rf X.xe s:=by
 have gh:=pz.all
 refine wpAny_comprehension_free (use:=use) rfl hs pq jx pF (bc (hi pins s σ H _ I h) λv s1 h1=>bc h1 λGi s2 h2=>?_)
 obtain⟨it,fp,tn,J,H2,e,I2,T,yZ,f2,q⟩:=h2
 subst e
 refine wpAny_newList ?_
 refine bU9 ?_
 have hD:H2 s2.heap.objs.size=none:=I2.aR.fresh (bN _)
 obtain⟨W,⟨m0,w0⟩,turn⟩:=q s2.heap.objs.size hD
 generalize Iu:s2.heap.push { cls:=.type "list",data:=.seq ([]:List Value).toArray }=g0 at ⊢
 have hCs:g0.objs.size=s2.heap.objs.size+1:=by rw[<-Iu,u7]
 have hDC:s2.heap.objs.size≠g0.objs.size:=by omega
 have hle:s2.heap.objs.size<=g0.objs.size:=by omega
 have vv:∀b o,s2.heap.get? b=some o->b≠g0.objs.size:=λb o e=>fo (dv (bW e) hle)
 obtain⟨g1,Dr⟩:∃g1,g1=pushCells (g0.push { cls:=.type "dict",data:=.dict #[] }) scope.names:=⟨_,rfl⟩
 have ns1:g1.Ns g0.objs.size (λ_=>none):=by rw[Dr];exact(Heap.Ns.new g0 (.type "dict")).keeps (pushCells_keeps _ _)
 have VC:∀b o,g0.get? b=some o->g1.get? b=some o:=λb o e=>by rw[Dr];exact pushCells_keeps _ _ b o (fL _ e)
 have old:∀b o,s2.heap.get? b=some o->g1.get? b=some o:=λb o e=>VC b o (Iu ▸ fL _ e)
 rw[<-Dr]
 have hDg:g1.get? s2.heap.objs.size=some { cls:=.type "list",data:=.seq ([]:List Value).toArray }:=VC _ _ (Iu ▸ gJ _ rfl)
 have VD:∀b∈fp,∃o,s2.heap.get? b=some o/\∀v,o.data≠.cell v:=T.obj _ _ yZ
 have Ds:=cj4 (scope:=scope) (cl:=cl) (C:=g0.objs.size) I2 jx hle gh (pB g0.objs.size).all f2 VD (aJ.map (·.1)++bZ)
 have I4:Inv (eG X scope (aJ.map (·.1)++bZ) cl g0.objs.size s2 H2 fp) [] (ix aJ bZ.length σ) (upd H2 s2.heap.objs.size (.lst [])) { s2 with heap:=g1 }:=by
  refine⟨Ds,rfl,I2.bare,Un.laid old (bN _) hD,⟨_,ns1,λi y v h1 h2 h3=>?_⟩,λy c e=>?_,?_,λy c e=>?_,λp hp=>absurd hp (by simp[eG,Cg]),I2.aR.laid old (bN _) ⟨jM _,[],0,.nil,hDg⟩,by simp[ix,eG,Cg]⟩
  ·by_cases Iw:i<aJ.length
   case neg =>
    have jR:((aJ.map λp=>(σ[p.2]?).getD none)++bH bZ.length none)[i]?=some (some v):=h2
    rw[sD (by simpa using Iw),BA]at jR
    split at jR<;>cases jR
   case pos =>
    have kq:(aJ.map (·.1))[i]?=some y:=by
     have z:(aJ.map (·.1)++bZ)[i]?=some y:=h1
     rwa [sE (by simpa using Iw)]at z
    have jR:(aJ.map λp=>(σ[p.2]?).getD none)[i]?=some (some v):=by
     have z:((aJ.map λp=>(σ[p.2]?).getD none)++bH bZ.length none)[i]?=some (some v):=h2
     rwa [sE (by simpa using Iw)]at z
    rw[bQ]at kq jR
    cases hj:aJ[i]? with
    | none=>rw[hj]at kq;cases kq
    | some p =>
     rw[hj]at kq jR
     have ey:p.1=y:=cX kq
     have ev:(σ[p.2]?).getD none=some v:=cX jR
     obtain⟨hN,hk,Ai,c,e1,e2⟩:=(pE g0.objs.size).at p (u9 hj)
     obtain⟨m,hn,hl⟩:=I2.loc
     have es:σ[p.2]?=some (some v):=by
      cases z:σ[p.2]? with
      | none=>rw[z]at ev;cases ev
      | some o=>rw[z]at ev;exact congrArg some ev
     obtain⟨u,ru,lk⟩:=hl p.2 p.1 v hN es (hk.elim (λz=>.inr (.inl z)) λz=>.inr (.inr z))
     refine⟨u,ru,?_⟩
     rcases lk with⟨lk,_⟩ | ⟨_,c',e3,ic⟩
     ·rcases hk with hk | hk
      ·have:=hk.symm.trans lk;cases this
      ·have:=hk.symm.trans lk;cases this
     ·rw[e2]at e3
      cases e3
      subst ey
      obtain⟨oc,jr,HR⟩:=ic
      exact .inr ⟨Ai,c,e1,oc,old _ _ jr,HR⟩
  ·rcases Ir _ _ _ y c (show(cellsFrom (g0.push { cls:=.type "dict",data:=.dict #[] }).objs.size scope.names cl).lookup y=some c by rw[u7];exact e)with h1 | h1
   ·rw[<-Dr]at h1
    exact⟨none,h1⟩
   ·obtain⟨v,o,ho,hd⟩:=I2.cell y c (gh y c h1)
    exact⟨v,o,old _ _ ho,hd⟩
  ·show upd H2 _ _ g0.objs.size=none
   rw[bu (fq hDC)]
   exact I2.aR.fresh hle
  ·rcases Ah _ _ _ y c e with⟨h1,_⟩ | h1
   ·rw[bu (Q6 (nG hle h1))]
    exact I2.aR.fresh (eP hle (BL h1))
   ·obtain⟨v,o,ho,hd⟩:=I2.cell y c (gh y c h1)
    rw[bu (fo (bW ho))]
    exact I2.jP y c (gh y c h1)
 have fin:∀(s':Shared) (H':Hp) (aO:L2.St),Inv (eG X scope (aJ.map (·.1)++bZ) cl g0.objs.size s2 H2 fp) [] aO H' s'->Q (.ref s2.heap.objs.size) H' ->
   compPost (model X.prog X.w) X.A X.xe use Rf (.ref s2.heap.objs.size) g0.objs.size (.ok .next) s':=by
  intro s' H' aO I' q'
  obtain⟨m,hn,_⟩:=I'.loc
  have u:=I'.base
  have hC':H' g0.objs.size=none:=I'.free
  have IX:Inv X pins σ H' s':=I2.c94 (s':=s') (ch:=fp) I'.os ⟨u.keep,u.slot,u.free,u.there,u.kb,u.jO,u.iJ⟩ I'.aR I'.bare λb hb=>by
   obtain⟨_,y1,y2,y3,y4,y5⟩:=f2 b hb
   exact⟨y3,y1,y4,y5⟩
  have VE:∀b,(∃o,s2.heap.get? b=some o)->b≠g0.objs.size:=λb ⟨o,e⟩=>vv b o e
  refine dL8 s' H' g0.objs.size s2.heap.objs.size m IX hn hC' (λz=>?_) (eP I2.sz hle) (λx c e z=>?_) (λp hp z=>?_) (λz=>?_) q'
  ·have h0:X.env.locals<s2.heap.objs.size:=I2.lt
   rw[<-z]at h0
   exact fK _ (dv h0 hle)
  ·obtain⟨v,o,ho,_⟩:=I2.cell x c e
   exact VE c ⟨o,ho⟩ z
  ·exact VE p.1 ⟨_,(I2.pin p hp).1⟩ z
  ·exact I2.RN hle z
 have Iy:∀(H':Hp),(∀b∈fp,H' b=none)->∀b∈fp,js (eG X scope (aJ.map (·.1)++bZ) cl g0.objs.size s2 H2 fp) [] H' b:=λH' hn b hb =>
  ⟨hn b hb,(Ds.yQ b hb).1,Ds.vt b hb,.inl hb,(Ds.yQ b hb).2,λp hp=>absurd hp (by simp[eG,Cg])⟩
 have loop:codeAny (model X.prog X.w) X.A (.compLoop (.ListComp elt [⟨tg,iter,ifs,0⟩] scope pos) 0 (.ref it) (.ref s2.heap.objs.size) (compEnvC scope (cellsFrom (g0.objs.size+1) scope.names cl) g0.objs.size X.env))
   (compPost (model X.prog X.w) X.A X.xe use Rf (.ref s2.heap.objs.size) g0.objs.size) { s2 with heap:=g1 }:=by
  refine bK3 (λn s'=>∃i acc H',Inv (eG X scope (aJ.map (·.1)++bZ) cl g0.objs.size s2 H2 fp) [] (ix aJ bZ.length σ) H' s'/\tn i s'.heap/\(∀b∈fp,H' b=none)/\W i n acc H') ?_ m0
   ⟨0,[],_,I4,T.keep _ _ _ yZ λb hb o e=>old b o e,λb hb=>?_,w0⟩
  ·rintro n s' ⟨i,acc,H',I',qj,CZ,w'⟩
   obtain⟨Hi,⟨stop,qn⟩ | ⟨go,step⟩⟩:=turn i n acc H' w'
   ·refine bc (T.done (eG X scope (aJ.map (·.1)++bZ) cl g0.objs.size s2 H2 fp) rfl rfl rfl hc i [] s' _ H' (λ_ _=>False) I' (Iy H' CZ) qj stop) λr t1 zz=>?_
    obtain⟨hr,I1⟩:=zz
    subst hr
    exact fin _ _ _ I1 qn
   ·refine bc (T.item (eG X scope (aJ.map (·.1)++bZ) cl g0.objs.size s2 H2 fp) rfl rfl rfl hc i [] s' _ H' (λ_ _=>False) I' (Iy H' CZ) qj go) λr t1 zz=>?_
    obtain⟨u,hr,h4⟩:=zz
    subst hr
    refine bc h4 λ_ t2 zz=>?_
    obtain⟨x5,H5,I5,r5,y5,s8,Gm⟩:=zz
    obtain⟨Cy,st6⟩:=step x5 H5 y5
    have Gp:=I5.pinned (Iy H5 Gm) (T.obj _ _ s8)
    refine bc (hg _ _ _ _ _ t2 _ H5 x5 u _ Gp r5 st6) λ_ t3 zz=>?_
    obtain⟨Gq,H6,I6,⟨dM4,dM5⟩,st7⟩:=zz
    have back:∀(s7:Shared) (H7:Hp) (Iz:List V) (m7:Nat),Inv (eG X scope (aJ.map (·.1)++bZ) cl g0.objs.size s2 H2 fp) ([]++yX fp t2.heap) Gq H7 s7->W (i+1) m7 Iz H7 ->
      ∃i acc H',Inv (eG X scope (aJ.map (·.1)++bZ) cl g0.objs.size s2 H2 fp) [] (ix aJ bZ.length σ) H' s7/\tn i s7.heap/\(∀b∈fp,H' b=none)/\W i m7 acc H':=λs7 H7 Iz m7 I7 w7 =>
     ⟨i+1,Iz,H7,(I7.yY).weak dM4.symm λj v z=>by
       by_cases hj:j<aJ.length
       ·rw[dM5 j hj];exact z
       ·have z':((aJ.map λp=>(σ[p.2]?).getD none)++bH bZ.length none)[j]?=some (some v):=z
        rw[sD (by simpa using hj),BA]at z'
        split at z'<;>(cases z'),
      T.keep _ _ _ s8 λb hb o e=>(I7.pin (b,o) (fc _ (fc _ (B6 hb e)))).1,λb hb=>by
       obtain⟨o,e,d⟩:=T.obj _ _ s8 b hb
       exact(I7.pin (b,o) (fc _ (fc _ (B6 hb e)))).2.1,w7⟩
    refine bc (ht _ _ _ _ _ t3 _ H6 _ I6 st7) λok t4 zz=>?_
    obtain⟨H7,I7,hD7,q7⟩:=zz
    cases ok with
    | false =>
     obtain⟨m',hm,w7⟩:=(show ∃m',m'<n/\W (i+1) m' acc H7 from q7)
     exact⟨m',hm,back t4 H7 acc m' I7 w7⟩
    | true =>
     refine bc (he _ _ _ _ _ t4 _ H7 _ I7 q7) λy t5 zz=>?_
     obtain⟨v8,H8,I8,r8,hD8,hl8,m',hm,w8⟩:=zz
     exact bc (SD _ t5 _ H8 (.ref s2.heap.objs.size) [v8] (.ref s2.heap.objs.size) [y] (λ_ H9=>H9=upd H8 s2.heap.objs.size (.lst (acc++[v8]))) I8 rfl (.cons r8 .nil) ⟨_,acc,v8,rfl,rfl,hD8,hl8,rfl⟩) λ_ t6 zz=>by
      obtain⟨_,H9,I9,_,e9⟩:=zz
      subst e9
      exact⟨m',hm,back t6 _ _ m' I9 w8⟩
  ·obtain⟨o,e,_⟩:=VD b hb
   rw[bu (fo (bW e))]
   exact(f2 b hb).1
 exact codeAny_compStart_list loop (T.self _ 0 _ _ _ (T.keep _ _ _ yZ λb hb o e=>old b o e) loop)
theorem ce8(aJ:List (Str × Nat))(bZ:List Str)(hc:X.calm=true)(hi:PI X tg iter wi)
  (hg:∀C s H fp,PG (eG X scope (aJ.map (·.1)++bZ) cl C s H fp) tg g)
  (ht:∀C s H fp,nZ (eG X scope (aJ.map (·.1)++bZ) cl C s H fp) ifs tt) (he:∀C s H fp,PE (eG X scope (aJ.map (·.1)++bZ) cl C s H fp) elt te)
  (pq:closureFor scope X.env=pure cl) (pz:n5 X cl) (pB:∀C:Addr,n6 (cellsFrom (C+1) scope.names cl) (relabel scope X.env).names) (pE:∀C:Addr,nY X scope (cellsFrom (C+1) scope.names cl) aJ)
  (jx:scope.kind=.function) (pF:∀y∈scope.names,y.2=.local->scope.names.lookup y.1=some .local)
  (hs:∀x,foldedSetIterable iter X.env x=pure x:=by intro _;rfl):PE X (.ListComp elt [⟨tg,iter,ifs,0⟩] scope pos) (Ci wi aJ bZ.length g tt te):=by
 intro pins s σ H Q I h
 rw[eval_ListComp]
 refine VB aJ bZ hc hi hg ht he pq pz pB pE jx pF hs I h λs' H' C Da m IX hn hC hL h1 h2 h3 h4 q'=>?_
 exact⟨m,hn,λh' sb=>⟨.ref Da,H',IX.turned (t':=s'.toks) (λb o hb e=>sb.extBut b o hb e) hC hL (.inr h1) h2 h3,rfl,q'⟩⟩
theorem ck0{i:Nat}{x:Str}{pos' apos:Pos}(hN:X.N.Nodup)(rE:X.N[i]?=some x)(hx:Loc X.env.scope x)(hf:X.fn x=true\/X.env.scope.names.lookup x=some .local)(aJ:List (Str × Nat))(bZ:List Str)(hc:X.calm=true)(hi:PI X tg iter wi)
  (hg:∀C s H fp,PG (eG X scope (aJ.map (·.1)++bZ) cl C s H fp) tg g)
  (ht:∀C s H fp,nZ (eG X scope (aJ.map (·.1)++bZ) cl C s H fp) ifs tt) (he:∀C s H fp,PE (eG X scope (aJ.map (·.1)++bZ) cl C s H fp) elt te)
  (pq:closureFor scope X.env=pure cl) (pz:n5 X cl) (pB:∀C:Addr,n6 (cellsFrom (C+1) scope.names cl) (relabel scope X.env).names) (pE:∀C:Addr,nY X scope (cellsFrom (C+1) scope.names cl) aJ)
  (jx:scope.kind=.function) (pF:∀y∈scope.names,y.2=.local->scope.names.lookup y.1=some .local)
  (zO:swapsWith (.ListComp elt [⟨tg,iter,ifs,0⟩] scope pos) (some (.Name x pos')) apos.line X.env=pure true) (hs:∀x,foldedSetIterable iter X.env x=pure x:=by intro _;rfl):PS X (.Assign [.Name x pos'] (.ListComp elt [⟨tg,iter,ifs,0⟩] scope pos) apos) (Gh (Ci wi aJ bZ.length g tt te) (B3 i)):=by
 intro pins s σ H D I h
 rw[exec_Assign_Name_used x pos' _ apos zO]
 refine wpAny_bind (wpAny_standAt (wpAny_bind ?_))
 have hh:Ci wi aJ bZ.length g tt te σ H λv H1=>D.nx (σ.set i (some v)) H1:=h
 show wpAny _ _ (comprehension (.ListComp elt [⟨tg,iter,ifs,0⟩] scope pos) scope X.env (firstIterPos [⟨tg,iter,ifs,0⟩] pos) (newList []) false (eval iter X.env) (some (assign (.Name x pos') X.env)) >>= λ_=>pure ()) _ _ _
 refine wpAny_bind (VB (use:=some (assign (.Name x pos') X.env)) (pos:=pos) aJ bZ hc hi hg ht he pq pz pB pE jx pF hs I hh λs' H' C Da m IX hn hC hL h1 h2 h3 h4 q'=>?_)
 obtain⟨oC,es,ep,hoC,VF,rest⟩:=id hn
 have IP:Inv X (pins++[(C,oC)]) σ H' s':=⟨IX.ok,IX.os,IX.bare,IX.base,IX.loc,IX.cell,IX.free,IX.jP,λp hp=>by
  rcases cg.mp hp with z | z
  ·exact IX.pin p (ig _ z)
  ·rcases cg.mp z with z | z
   ·exact IX.pin p (fc _ z)
   ·obtain rfl:=dP.mp z
    exact⟨hoC,hC,hL,h4,λv w=>by rw[VF]at w;cases w⟩,IX.aR,IX.len⟩
 refine bc (B4 (X:=X) hN rE hx hf _ s' σ H' (.ref Da) (.ref Da) (λmv H2=>mv=σ.set i (some (.ref Da))/\H2=H') IP rfl ⟨rfl,rfl⟩) λ_ s2 zz=>?_
 obtain⟨mv,H2,I2,e1,e2⟩:=zz
 subst e1 e2
 have pC:=I2.pin (C,oC) (fc _ (fc _ (by simp)))
 refine⟨m,⟨oC,es,ep,pC.1,VF,rest⟩,λh' sb=>wpAny_pure (wpAny_pure ?_)⟩
 exact⟨σ.set i (some (.ref Da)),H2,(I2.yY).turned (t':=s2.toks) (λb o hb e=>sb.extBut b o hb e) hC hL (.inr h1) h2 h3,q'⟩
end
end L2
namespace L3
open PySem L2 PySem.Spec PyProof.Rows
section
variable{X:Cx}{elt iter tg:Expr}{pos:Pos}{ifs:List Expr}{scope:Scope}{cl:List (Str × Addr)}{ti:jX}{tt:fO}{te:aY}{g:iT}
theorem dr(aJ:List (Str × Nat))(bZ:List Str)(hc:X.calm=true)(hi:PI X tg iter (lI ti))
  (hg:∀C s H fp,PG (eG X scope (aJ.map (·.1)++bZ) cl C s H fp) tg (lG aJ.length g))
  (ht:∀C s H fp,nZ (eG X scope (aJ.map (·.1)++bZ) cl C s H fp) ifs (lT tt)) (he:∀C s H fp,PE (eG X scope (aJ.map (·.1)++bZ) cl C s H fp) elt (lE te))
  (pq:closureFor scope X.env=pure cl) (pz:n5 X cl) (pB:∀C:Addr,n6 (cellsFrom (C+1) scope.names cl) (relabel scope X.env).names) (pE:∀C:Addr,nY X scope (cellsFrom (C+1) scope.names cl) aJ)
  (jx:scope.kind=.function) (pF:∀y∈scope.names,y.2=.local->scope.names.lookup y.1=some .local)
  (hs:∀x,foldedSetIterable iter X.env x=pure x:=by intro _;rfl):PE X (.ListComp elt [⟨tg,iter,ifs,0⟩] scope pos) (lE (mJ ti aJ bZ.length g tt te)) :=
 dN (ce8 aJ bZ hc hi hg ht he pq pz pB pE jx pF hs) λσ H Q ⟨B,F,δ,ts,Qd,c,q,k⟩=>⟨B,F,δ,ts,_,c,q,λsh xs ax J F1 H1 hq f1 h1 c1 tM zF=>by
  obtain⟨p,f,hx,eY,hlen,hQ⟩:=hq
  exact TJ c1 tM zF p f hx eY hlen hQ λd ak v F' H' hd hf hs c'=>k d ak v F' H' hd (f1.trans hf) (h1.trans hs) c'⟩
theorem IA{i:Nat}{x:Str}{pos' apos:Pos}(hN:X.N.Nodup)(rE:X.N[i]?=some x)(hx:L2.Loc X.env.scope x)(aJ:List (Str × Nat))(bZ:List Str)(hc:X.calm=true)(hi:PI X tg iter (lI ti))
  (hg:∀C s H fp,PG (eG X scope (aJ.map (·.1)++bZ) cl C s H fp) tg (lG aJ.length g))
  (ht:∀C s H fp,nZ (eG X scope (aJ.map (·.1)++bZ) cl C s H fp) ifs (lT tt)) (he:∀C s H fp,PE (eG X scope (aJ.map (·.1)++bZ) cl C s H fp) elt (lE te))
  (pq:closureFor scope X.env=pure cl) (pz:n5 X cl) (pB:∀C:Addr,n6 (cellsFrom (C+1) scope.names cl) (relabel scope X.env).names) (pE:∀C:Addr,nY X scope (cellsFrom (C+1) scope.names cl) aJ)
  (jx:scope.kind=.function) (pF:∀y∈scope.names,y.2=.local->scope.names.lookup y.1=some .local)
  (zO:swapsWith (.ListComp elt [⟨tg,iter,ifs,0⟩] scope pos) (some (.Name x pos')) apos.line X.env=pure true:=by rfl) (hf:X.fn x=true\/X.env.scope.names.lookup x=some .local:=by first | exact .inl rfl | exact .inr rfl)
  (hs:∀x,foldedSetIterable iter X.env x=pure x:=by intro _;rfl):PS X (.Assign [.Name x pos'] (.ListComp elt [⟨tg,iter,ifs,0⟩] scope pos) apos) (lS X (mI i (mJ ti aJ bZ.length g tt te))) :=
 og (ck0 hN rE hx hf aJ bZ hc hi hg ht he pq pz pB pE jx pF zO hs) λEn σ H ⟨B,F,δ,Dd,c,q,k1,k2,k3,k4⟩=>⟨B,F,δ,[],_,c,q,λsh xs ax J F1 H1 hq f1 h1 c1 tM zF=>by
  obtain⟨p,f,hx,eY,hlen,hQ⟩:=hq
  exact TJ (Qd:=λd ak=>Dd.nx (ak.set i (some d))) c1 tM zF p f hx eY hlen hQ λd ak v F' H' hd hf hs c'=>k1 _ _ F' H' hd (c'.store i)⟩
end
end L3
namespace L3
open PySem L2 Mf
theorem lo1{m:Bool × Nat}(hm:m∈aD):1<aa m:=by have:=(cJ hm).lo;omega
inductive Sp(N:Nat)(p q:Nat->Nat->Nat)(S:(Nat->Nat)->Prop):(Nat->Nat)->Prop
 | mem {f:Nat->Nat}:S f->Sp N p q S f
 | zero:Sp N p q S λ_=>0
 | add {f g:Nat->Nat}:Sp N p q S f->Sp N p q S g->Sp N p q S λk=>p (f k) (g k)
 | mul {f:Nat->Nat} (c:Nat):c<N->Sp N p q S f->Sp N p q S λk=>q c (f k)
theorem Sp.trans{N:Nat}{p q:Nat->Nat->Nat}{S S':(Nat->Nat)->Prop}(h:∀f,S f->Sp N p q S' f){f:Nat->Nat}(s:Sp N p q S f):Sp N p q S' f:=by
 induction s with
 | mem a=>exact h _ a
 | zero=>exact .zero
 | add _ _ a b=>exact .add a b
 | mul c hc _ a=>exact .mul c hc a
noncomputable def Gn(T:List (List Nat))(f:Nat->Nat):Prop:=∃r∈T,f=cf r
noncomputable def du(m:Bool × Nat)(T:List (List Nat))(f:Nat->Nat):Prop:=Sp (aa m) (gp m) (gm m) (Gn T) f
theorem du.of{m:Bool × Nat}{T:List (List Nat)}{r:List Nat}(h:r∈T):du m T (cf r):=.mem ⟨r,h,rfl⟩
theorem cm3{m:Bool × Nat}(hm:m∈aD){a:Nat}(ha:a<aa m){f f' l:Nat->Nat}(IB:∀k,f' k<aa m)(hl:∀k,l k<aa m)(h:∀k,gp m (f' k) (gm m a (l k))=f k):∃b,b<aa m/\f'=λk=>gp m (f k) (gm m b (l k)):=by
 have r:=rg hm
 obtain⟨b,hb,e⟩:=r.ng ha
 refine⟨b,hb,funext λk=>?_⟩
 rw[<-h k,r.pa,r.mc a,r.mc b,<- r.dl,e,r.qz,r.z' (IB k)]
theorem IC{m:Bool × Nat}(hm:m∈aD){r l:List Nat}{w:Nat}(hr:r.length=w)(hl:l.length=w)(a k:Nat):cf (dh (λx y=>bG m x (gm m a y)) r l) k=bG m (cf r k) (gm m a (cf l k)):=by
 by_cases h:k<w
 ·unfold cf
  rw[aQ,kN,aP (by omega),aP (by omega),aQ,aP (by omega),aQ,aP (by omega)]
  rfl
 ·rw[rW (by rw[gM];omega),rW (l:=r) (by omega),rW (l:=l) (by omega),gi m _ (bX m hm),Dm]
theorem Dt{m:Bool × Nat}(hm:m∈aD){r l:List Nat}{w a:Nat}(hr:r.length=w)(hl:l.length=w)(ar:AllLt (aa m) r)(k:Nat):gp m (cf (dh (λx y=>bG m x (gm m a y)) r l) k) (gm m a (cf l k))=cf r k:=by
 rw[IC hm hr hl]
 exact(fE hm (bY hm ar k) (cj hm _ _)).2.2
theorem ID{m:Bool × Nat}(hm:m∈aD){r l:List Nat}{w:Nat}(hr:r.length=w)(hl:l.length=w)(ar:AllLt (aa m) r)(a k:Nat):cf (dh (λx y=>bG m x (gm m a y)) r l) k<aa m:=by
 rw[IC hm hr hl]
 exact(fE hm (bY hm ar k) (cj hm _ _)).2.1
theorem VG{m:Bool × Nat}(hm:m∈aD){w p i:Nat}{T:List (List Nat)}(hT:RT (aa m) w T)(e:j7 T p=some i):∃(g:List Nat) (c:Nat),g∈T/\T.getD i []=g/\g.length=w/\AllLt (aa m) g/\c<aa m/\gm m c (cf g p)=1/\(eE m T i p).length=w/\AllLt (aa m) (eE m T i p)/\(∀k,cf (eE m T i p) k=gm m c (cf g k))/\cf (eE m T i p) p=1/\∀k,gm m (cf g p) (cf (eE m T i p) k)=cf g k:=by
 obtain⟨hi,h1,h2⟩:=Dq e
 obtain⟨a,b⟩:=hT _ (cM hi)
 have l1:1<aa m:=lo1 hm
 obtain⟨c,hc,Du⟩:=Ae hm l1 (bY hm b p) h1
 have ec:m3 m (cf T[i] p)=c:=Dn hm hc Du
 have el:eE m T i p=T[i].map (gm m c):=by unfold eE;rw[h2,<- ec];rfl
 have ek:∀k,cf (eE m T i p) k=gm m c (cf T[i] k):=λk=>by rw[el];exact cF6 hm _ _ _
 refine⟨T[i],c,cM hi,h2,a,b,hc,Du,by rw[el,bB,a],λx hx=>?_,ek,by rw[ek];exact Du,λk=>?_⟩
 ·rw[el]at hx
  obtain⟨y,_,rfl⟩:=bE.mp hx
  exact cj hm _ _
 ·rw[ek,<- i9 (bX m hm),iC m _ c,Du,j4 (bY hm b k)]
theorem VH{m:Bool × Nat}{s:List (List Nat) × List (List Nat)}{p i:Nat}(e:j7 s.2 p=some i):iD m s p=(gF m s.1 (eE m s.2 i p) p++[eE m s.2 i p],gF m (s.2.take i++s.2.drop (i+1)) (eE m s.2 i p) p):=by unfold iD;rw[e]
theorem VI{m:Bool × Nat}{s:List (List Nat) × List (List Nat)}{p:Nat}(e:j7 s.2 p=none):iD m s p=s:=by unfold iD;rw[e]
theorem Dv{α:Type}{T:List α}{i:Nat}{r:α}(h:r∈T.take i++T.drop (i+1)):r∈T:=(cg.mp h).elim nJ nI
theorem cl7{α:Type}{T:List α}{i:Nat}{r:α}(h:r∈T)(hi:i<T.length):r=T[i]\/r∈T.take i++T.drop (i+1):=by
 obtain⟨j,hj,rfl⟩:=gj h
 rcases Nat.lt_trichotomy j i with h | h | h
 ·exact .inr (cg.mpr (.inl (List.mem_take_iff_getElem.mpr ⟨j,by omega,rfl⟩)))
 ·subst h;exact .inl rfl
 ·exact .inr (cg.mpr (.inr (List.mem_drop_iff_getElem.mpr ⟨j-(i+1),by omega,by congr 1;omega⟩)))
theorem bV0{m:Bool × Nat}(hm:m∈aD){w n p:Nat}{s:List (List Nat) × List (List Nat)}(h:Ag (aa m) w n s)(f:Nat->Nat):du m (s.1++s.2) f↔du m ((iD m s p).1++(iD m s p).2) f:=by
 cases e:j7 s.2 p with
 | none=>rw[VI e]
 | some i =>
  obtain⟨g,c,g1,g2,g3,g4,c1,c2,l1,l2,l3,l4,l5⟩:=VG hm h.b e
  obtain⟨hi,_,hg⟩:=Dq e
  rw[VH e]
  generalize eE m s.2 i p=l at l1 l2 l3 l4 l5
  have ll:=bY hm l2
  have row:∀{T:List (List Nat)},RT (aa m) w T->∀r'∈gF m T l p,∃r∈T,∃b,b<aa m/\cf r'=λk=>gp m (cf r k) (gm m b (cf l k)):=λ{T} hT r' bq=>by
   obtain⟨r,hr,rfl⟩:=bE.mp bq
   obtain⟨a1,a2⟩:=hT r hr
   exact⟨r,hr,cm3 hm (bY hm a2 p) (ID hm a1 l1 a2 _) ll (Dt hm a1 l1 a2)⟩
  have VJ:∀{T:List (List Nat)},RT (aa m) w T->∀r∈T,∃r'∈gF m T l p,cf r=λk=>gp m (cf r' k) (gm m (cf r p) (cf l k)):=λ{T} hT r hr=>by
   obtain⟨a1,a2⟩:=hT r hr
   exact⟨_,bE.mpr ⟨r,hr,rfl⟩,funext λk=>(Dt hm a1 l1 a2 k).symm⟩
  have hB:RT (aa m) w (s.2.take i++s.2.drop (i+1)):=λr hr=>h.b r (Dv hr)
  constructor
  ·refine Sp.trans ?_
   rintro f ⟨r,hr,rfl⟩
   have hl:du m ((gF m s.1 l p++[l])++gF m (s.2.take i++s.2.drop (i+1)) l p) (cf l):=du.of (by simp)
   rcases cg.mp hr with hr | hr
   ·obtain⟨r',h1,h2⟩:=VJ h.a r hr
    rw[h2]
    exact .add (du.of (by simp[h1])) (.mul _ (bY hm (h.a r hr).2 p) hl)
   ·rcases cl7 hr hi with e' | bq
    ·have:cf r=λk=>gm m (cf g p) (cf l k):=funext λk=>by rw[l5 k,e',<- hg,g2]
     rw[this]
     exact .mul _ (bY hm g4 p) hl
    ·obtain⟨r',h1,h2⟩:=VJ hB r bq
     rw[h2]
     exact .add (du.of (by simp[h1])) (.mul _ (bY hm (h.b r hr).2 p) hl)
  ·refine Sp.trans ?_
   rintro f ⟨r,hr,rfl⟩
   have hl:du m (s.1++s.2) (cf l):=by
    have:cf l=λk=>gm m c (cf g k):=funext l3
    rw[this]
    exact .mul _ c1 (du.of (fc _ g1))
   rcases cg.mp hr with hr | hr
   ·rcases cg.mp hr with hr | hr
    ·obtain⟨r1,h1,b,hb,h2⟩:=row h.a r hr
     rw[h2]
     exact .add (du.of (ig _ h1)) (.mul _ hb hl)
    ·rw[dP]at hr
     rw[hr];exact hl
   ·obtain⟨r1,h1,b,hb,h2⟩:=row hB r hr
    rw[h2]
    exact .add (du.of (fc _ (Dv h1))) (.mul _ hb hl)
structure RR(w:Nat)(R:List (List Nat))(H:Nat->Nat):Prop where
 u:∀i j,i<R.length->j<R.length->cf (R.getD i []) (H j)=if i=j then 1 else 0
 z:∀i,i<R.length->∀t,t<H i->cf (R.getD i []) t=0
 i:∀i j,i<j->j<R.length->H i<H j
 l:∀i,i<R.length->H i<w
theorem uN{α β:Type}(f:α->β){l:List α}{i:Nat}(h:i<l.length)(a:α)(b:β):(l.map f).getD i b=f (l.getD i a):=by
 rw[aQ,bQ,aQ,aP h];rfl
theorem dG{α:Type}{l:List α}{i:Nat}(h:i<l.length)(a:α):l.getD i a∈l:=by
 rw[aQ,aP h];exact cM h
theorem bN5{m:Bool × Nat}(hm:m∈aD){w n p:Nat}{s:List (List Nat) × List (List Nat)}(h:Ag (aa m) w n s){H:Nat->Nat}(I:RR p s.1 H)(e2:∀r∈s.2,∀t,t<p->cf r t=0):∃H',RR (p+1) (iD m s p).1 H'/\∀r∈(iD m s p).2,∀t,t<p+1->cf r t=0:=by
 cases e:j7 s.2 p with
 | none =>
  rw[VI e]
  refine⟨H,⟨I.u,I.z,I.i,λi hi=>Rq (I.l i hi)⟩,λr hr t ht=>?_⟩
  rcases RD t p with h1 | h1
  ·exact e2 r hr t h1
  ·have:=c66.mp e r hr
   have z:r.getD p 0=0:=by simpa using this
   rw[show t=p by omega]
   exact z
 | some i0 =>
  obtain⟨g,c,g1,g2,g3,g4,c1,c2,l1,l2,l3,l4,l5⟩:=VG hm h.b e
  rw[VH e]
  generalize eE m s.2 i0 p=l at l1 l2 l3 l4 l5
  have m0:=bX m hm
  have lz:∀t,t<p->cf l t=0:=λt ht=>by rw[l3,e2 g g1 t ht,gi m _ m0]
  have Aj:∀{r:List Nat},r.length=w->AllLt (aa m) r->(∀t,t<p->cf (dh (λx y=>bG m x (gm m (r.getD p 0) y)) r l) t=cf r t)/\cf (dh (λx y=>bG m x (gm m (r.getD p 0) y)) r l) p=0:=λ{r} a1 a2=>by
   constructor
   ·intro t ht
    have:=Dt hm (a:=r.getD p 0) a1 l1 a2 t
    rw[lz t ht,gi m _ m0,uH (ID hm a1 l1 a2 _ _)]at this
    exact this
   ·rw[IC hm a1 l1,l4]
    show bG m (r.getD p 0) (gm m (r.getD p 0) 1)=0
    rw[uG (show r.getD p 0<aa m from bY hm a2 p),Dm]
  have nl:(gF m s.1 l p).length=s.1.length:=by unfold gF;rw[bB]
  have VL:∀i,i<s.1.length->∃r,s.1.getD i []=r/\r.length=w/\AllLt (aa m) r/\(gF m s.1 l p++[l]).getD i []=dh (λx y=>bG m x (gm m (r.getD p 0) y)) r l:=λi hi=>by
   refine⟨_,rfl,(h.a _ (dG hi [])).1,(h.a _ (dG hi [])).2,?_⟩
   rw[aQ,sE (by omega),<- aQ]
   exact uN _ hi [] []
  have VM:(gF m s.1 l p++[l]).getD s.1.length []=l:=by
   rw[aQ,sD (by omega),nl,FJ];rfl
  have le:(gF m s.1 l p++[l]).length=s.1.length+1:=by rw[dO,nl];rfl
  refine⟨λi=>if i<s.1.length then H i else p,⟨λi j hi hj=>?_,λi hi t ht=>?_,λi j Ak hj=>?_,λi hi=>?_⟩,λr hr t ht=>?_⟩
  ·show cf ((gF m s.1 l p++[l]).getD i []) _=_
   dsimp only at hi hj ⊢
   rw[le]at hi hj
   by_cases h1:i<s.1.length
   ·obtain⟨r,r1,r2,r3,r4⟩:=VL i h1
    rw[r4]
    by_cases h2:j<s.1.length
    ·rw[if_pos h2,(Aj r2 r3).1 _ (I.l j h2),<- r1]
     exact I.u i j h1 h2
    ·rw[if_neg h2,(Aj r2 r3).2,if_neg (by omega)]
   ·have e1:i=s.1.length:=by omega
    rw[e1,VM]
    by_cases h2:j<s.1.length
    ·rw[if_pos h2,lz _ (I.l j h2),if_neg (by omega)]
    ·rw[if_neg h2,l4,if_pos (by omega)]
  ·dsimp only at hi ht ⊢
   rw[le]at hi
   by_cases h1:i<s.1.length
   ·rw[if_pos h1]at ht
    obtain⟨r,r1,r2,r3,r4⟩:=VL i h1
    rw[r4,(Aj r2 r3).1 _ (by have:=I.l i h1;omega),<- r1]
    exact I.z i h1 t ht
   ·rw[if_neg h1]at ht
    have e1:i=s.1.length:=by omega
    rw[e1,VM];exact lz t ht
  ·dsimp only at hj ⊢
   rw[le]at hj
   rw[if_pos (by omega)]
   by_cases h2:j<s.1.length
   ·rw[if_pos h2];exact I.i i j Ak h2
   ·rw[if_neg h2];exact I.l i (by omega)
  ·dsimp only at hi ⊢
   rw[le]at hi
   split
   ·have:=I.l i (by omega);omega
   ·omega
  ·obtain⟨r1,Al,rfl⟩:=bE.mp hr
   obtain⟨a1,a2⟩:=h.b r1 (Dv Al)
   rcases RD t p with h1 | h1
   ·rw[(Aj a1 a2).1 t h1];exact e2 _ (Dv Al) t h1
   ·rw[show t=p by omega];exact(Aj a1 a2).2
theorem VN{m:Bool × Nat}(hm:m∈aD){w:Nat}{G:List (List Nat)}(h:RT (aa m) w G):∀k,(∃H,RR k (je m G k).1 H/\∀r∈(je m G k).2,∀t,t<k->cf r t=0)/\∀f,du m G f↔du m ((je m G k).1++(je m G k).2) f
 | 0=>⟨⟨λ_=>0,⟨(λ_ _ h=>nomatch h),(λ_ h=>nomatch h),(λ_ _ _ h=>nomatch h),(λ_ h=>nomatch h)⟩,λr _ t ht=>nomatch ht⟩,λf=>.rfl⟩
 | k+1=>by
  obtain⟨⟨H,h1,h2⟩,h3⟩:=VN hm h k
  have D:=wc hm h k
  rw[Il]
  exact⟨bN5 hm D h1 h2,λf=>(h3 f).trans (bV0 hm D f)⟩
theorem we{m:Bool × Nat}(hm:m∈aD){G:List (List Nat)}(h:RT (aa m) (ah G) G):(∃H,RR (ah G) (cE m G) H)/\RT (aa m) (ah G) (cE m G)/\(cE m G).length<=G.length/\∀f,du m G f↔du m (cE m G) f:=by
 obtain⟨⟨H,h1,h2⟩,h3⟩:=VN hm h (ah G)
 have D:=wc hm h (ah G)
 refine⟨⟨H,h1⟩,D.a,by have:=D.l;show(je m G (ah G)).1.length<=_;omega,λf=>(h3 f).trans ⟨Sp.trans ?_,Sp.trans ?_⟩⟩
 ·rintro f ⟨r,hr,rfl⟩
  rcases cg.mp hr with hr | hr
  ·exact du.of hr
  ·have:cf r=λ_=>0:=funext λt=>by
    rcases RD t (ah G)with h4 | h4
    ·exact h2 r hr t h4
    ·exact rW (by rw[(D.b r hr).1];exact h4)
   rw[this];exact .zero
 ·rintro f ⟨r,hr,rfl⟩
  exact du.of (ig _ hr)
theorem Am{N:Nat}{p q:Nat->Nat->Nat}(r:Rg N p q){f:Nat->Nat}{j0:Nat}(hf:f j0<N):∀{n:Nat},j0<n->(∀j,j<n->j≠j0->f j=0)->sm p n f=f j0
 | 0,h,_=>nomatch h
 | n+1,h,hz=>by
  rw[sm]
  by_cases e:j0=n
  ·subst e
   rw[g7 r λj hj=>hz j (by omega) (by omega),r.z hf]
  ·rw[Am r hf (by omega) λj hj=>hz j (by omega),hz n (by omega) (by omega),r.z' hf]
theorem du.ann{m:Bool × Nat}(hm:m∈aD){R:List (List Nat)}{n:Nat}{y:Nat->Nat}(h:∀x∈R,sm (gp m) n (λj=>gm m (cf x j) (y j))=0){f:Nat->Nat}(s:du m R f):sm (gp m) n (λj=>gm m (f j) (y j))=0:=by
 have r:=rg hm
 have m0:=bX m hm
 induction s with
 | mem a=>obtain⟨x,hx,rfl⟩:=a;exact h x hx
 | zero=>exact g7 r λj _=>fm m _ m0
 | @add f g _ _ a b =>
  rw[cw (g:=λj=>gp m (gm m (f j) (y j)) (gm m (g j) (y j))) λj _=>by dsimp only;rw[r.mc (gp m _ _),r.dl,r.mc (y j),r.mc (y j)],mY r,a,b,r.z r.pos]
 | @mul f e he _ a =>
  rw[cw (g:=λj=>gm m e (gm m (f j) (y j))) λj _=>i9 m0 _ _ _,Ad r,a,r.qz]
theorem RR.wg{m:Bool × Nat}(hm:m∈aD){w:Nat}{R:List (List Nat)}{H:Nat->Nat}(hR:RT (aa m) w R)(I:RR w R H){i:Nat}(hi:i<R.length):(R.getD i []).findIdx (· != 0)=H i/\∃x∈R.getD i [],x≠0:=by
 have a:=(hR _ (dG hi [])).1
 have l:=I.l i hi
 have u:=I.u i i hi hi
 rw[if_pos rfl]at u
 have eu:(R.getD i [])[H i]'(by omega)=1:=by
  unfold cf at u
  rw[aQ (l:=R.getD i []),aP (by omega)]at u
  exact u
 refine⟨?_,_,cM (show H i<(R.getD i []).length by omega),by rw[eu];decide⟩
 rw[List.findIdx_eq (by omega)]
 refine⟨by rw[eu];rfl,λj hj=>?_⟩
 have z:=I.z i hi j hj
 unfold cf at z
 rw[aQ (l:=R.getD i []),aP (by omega)]at z
 simpa using z
theorem VO{a b:List Nat}{w:Nat}(ha:a.length=w)(hb:b.length=w)(h:∀k,k<w->cf a k=cf b k):a=b:=by
 refine Rw (ha.trans hb.symm) λk h1 h2=>?_
 have:=h k (by omega)
 unfold cf at this
 rw[aQ,aQ,aP h1,aP h2]at this
 exact this
theorem IE(f:Nat->Nat){w k:Nat}(h:k<w):cf ((bg w).map f) k=f k:=by
 unfold cf
 rw[aQ,bQ,kL h];rfl
theorem m4(m:Bool × Nat){xs ys:List Nat}(h:xs.length=ys.length):gd m xs ys=sm (gp m) xs.length λj=>gm m (cf xs j) (cf ys j):=by
 unfold gd
 rw[cj9,gM,h,sP]
 refine cw λj hj=>?_
 unfold cf
 rw[aQ,kN,aP (by omega),aP (by omega),aQ,aP (by omega),aQ,aP (by omega)]
 rfl
noncomputable def pG(m:Bool × Nat)(xs:List Nat)(T:List (List Nat))(w:Nat):List Nat:=(bg w).map λk=>gd m xs (T.map λr=>r.getD k 0)
theorem VP{T:List (List Nat)}(k i:Nat):cf (T.map λr=>r.getD k 0) i=cf (T.getD i []) k:=by
 by_cases h:i<T.length
 ·exact uN (λr:List Nat=>r.getD k 0) h [] 0
 ·rw[rW (by rw[bB];omega),aQ,fY (by omega)];rfl
theorem IF(m:Bool × Nat)(xs:List Nat)(T:List (List Nat))(w:Nat):(pG m xs T w).length=w:=by unfold pG;rw[bB,dQ]
theorem cM8(m:Bool × Nat){xs:List Nat}{T:List (List Nat)}{w k:Nat}(h:xs.length=T.length)(hk:k<w):cf (pG m xs T w) k=sm (gp m) T.length λi=>gm m (cf xs i) (cf (T.getD i []) k):=by
 unfold pG
 rw[IE _ hk,m4 m (by rw[bB,h]),h]
 exact cw λj _=>by rw[VP]
theorem cM1{m:Bool × Nat}(hm:m∈aD){xs ys:List Nat}(h:xs.length=ys.length):gd m xs ys<aa m:=by
 rw[m4 m h];exact kG (rg hm) λj _=>cj hm _ _
theorem VQ{m:Bool × Nat}(hm:m∈aD){xs:List Nat}{T:List (List Nat)}(w:Nat)(h:xs.length=T.length):AllLt (aa m) (pG m xs T w):=λx hx=>by
 obtain⟨k,_,rfl⟩:=bE.mp hx
 exact cM1 hm (by rw[bB,h])
noncomputable def aT(r:List Nat):Nat:=r.findIdx (· != 0)
noncomputable def cW(G:List (List Nat))(u:List Nat):List (List Nat):=dh (λr x=>r++[x]) G u
theorem IG{N:Nat}{G:List (List Nat)}{u:List Nat}(h0:0<G.length)(hu:u.length=G.length)(hR:RT N (ah G) G)(ha:AllLt N u):ah (cW G u)=ah G+1/\(cW G u).length=G.length/\RT N (ah G+1) (cW G u):=by
 refine⟨?_,by unfold cW;rw[gM,hu,sP],λr hr=>?_⟩
 ·cases G with
  | nil=>simp at h0
  | cons g G =>
   cases u with
   | nil=>simp at hu
   | cons y u=>show(g++[y]).length=g.length+1;simp
 ·unfold cW at hr
  obtain⟨i,hi,rfl⟩:=gj hr
  rw[gM]at hi
  rw[c04]
  obtain⟨a,b⟩:=hR _ (cM (show i<G.length by omega))
  refine⟨by rw[dO,a];rfl,λx hx=>?_⟩
  rcases cg.mp hx with hx | hx
  ·exact b x hx
  ·rw[dP]at hx
   rw[hx];exact ha _ (cM _)
noncomputable def lM(R:List (List Nat))(w:Nat):List Nat:=((R.map aT).zip R).foldl (λx z=>x.set z.1 (z.2.getD w 0)) (bH w 0)
noncomputable def wj(m:Bool × Nat)(G:List (List Nat))(u:List Nat):Option (List Nat):=if((cE m (cW G u)).map aT).contains (ah G)then none else some (lM (cE m (cW G u)) (ah G))
theorem An{α:Type}(a b:α->Nat){j:Nat}:∀(l:List α) (x:List Nat),(∀z∈l,a z≠j)->cf (l.foldl (λx z=>x.set (a z) (b z)) x) j=cf x j
 | [],_,_=>rfl
 | z::l,x,h=>by
  rw[sI,An a b l _ λy hy=>h y (dZ _ hy)]
  unfold cf
  rw[aQ,u5 (h z fU),<- aQ]
theorem IH{α:Type}(a b:α->Nat):∀(l:List α) (x:List Nat),l.Pairwise (λy z=>a y≠a z)->∀z∈l,a z<x.length->cf (l.foldl (λx z=>x.set (a z) (b z)) x) (a z)=b z
 | [],_,_,_,h,_=>nomatch h
 | y::l,x,hp,z,hz,hl=>by
  rw[sI]
  rw[BM]at hp
  rcases cA.mp hz with rfl | hz
  ·rw[An a b l _ λy hy=>fq (hp.1 y hy)]
   unfold cf
   rw[aQ,Ff hl];rfl
  ·exact IH a b l _ hp.2 z hz (by rw[nB];exact hl)
theorem II{α:Type}(a b:α->Nat):∀(l:List α) (x:List Nat),(l.foldl (λx z=>x.set (a z) (b z)) x).length=x.length
 | [],_=>rfl
 | z::l,x=>by rw[sI,II a b l,nB]
theorem cJ7{m:Bool × Nat}(hm:m∈aD){w:Nat}{R:List (List Nat)}{H:Nat->Nat}(hR:RT (aa m) (w+1) R)(I:RR (w+1) R H)(hw:∀i,i<R.length->H i≠w):(lM R w).length=w/\AllLt (aa m) (lM R w)/\(∀i,i<R.length->cf (lM R w) (H i)=cf (R.getD i []) w)/\∀j,(∀i,i<R.length->H i≠j)->cf (lM R w) j=0:=by
 have l1:=lo1 hm
 have zl:((R.map aT).zip R).length=R.length:=by rw[vg,bB,sP]
 have zg:∀i (h:i<R.length),((R.map aT).zip R)[i]'(by omega)=(H i,R.getD i []):=λi h=>by
  rw[List.getElem_zip,FK]
  have e:R.getD i []=R[i]:=by rw[aQ,aP h];rfl
  have:=(I.wg hm hR h).1
  rw[e]at this ⊢
  exact BJ this rfl
 have zm:∀z∈(R.map aT).zip R,∃i,i<R.length/\z=(H i,R.getD i []):=λz hz=>by
  obtain⟨i,hi,rfl⟩:=gj hz
  exact⟨i,by omega,zg i (by omega)⟩
 have mz:∀i,i<R.length->(H i,R.getD i [])∈(R.map aT).zip R:=λi h=>by
  rw[<-zg i h];exact cM _
 have len:(lM R w).length=w:=by
  unfold lM
  rw[II (λz:Nat × List Nat=>z.1) (λz=>z.2.getD w 0),pY]
 have bd:∀z∈(R.map aT).zip R,z.2.getD w 0<aa m:=λz hz=>by
  obtain⟨i,hi,rfl⟩:=zm z hz
  exact bY hm (hR _ (dG hi [])).2 w
 refine⟨len,?_,λi hi=>?_,λj hj=>?_⟩
 ·have key:∀(l:List (Nat × List Nat)) (x:List Nat),(∀z∈l,z.2.getD w 0<aa m)->AllLt (aa m) x->AllLt (aa m) (l.foldl (λx z=>x.set z.1 (z.2.getD w 0)) x):=by
   intro l
   induction l with
   | nil=>exact λx _ h=>h
   | cons z l ih =>
    intro x hz h
    rw[sI]
    refine ih _ (λy hy=>hz y (dZ _ hy)) λy hy=>?_
    rcases yG hy with h1 | h1
    ·exact h y h1
    ·rw[h1];exact hz z fU
  exact key _ _ bd λx hx=>by rw[(Fz.mp hx).2];omega
 ·have hp:((R.map aT).zip R).Pairwise (λy z:Nat × List Nat=>y.1≠z.1):=by
   rw[c67]
   intro i j hi hj Ak
   rw[zg i (by omega),zg j (by omega)]
   have:=I.i i j Ak (by omega)
   show H i≠H j
   omega
  have h1:=I.l i hi
  have h2:=hw i hi
  exact IH (λz:Nat × List Nat=>z.1) (λz=>z.2.getD w 0) _ _ hp _ (mz i hi) (by rw[pY];show H i<w;omega)
 ·unfold lM
  rw[An (λz:Nat × List Nat=>z.1) (λz=>z.2.getD w 0) _ _ λz hz=>?_]
  ·unfold cf
   rw[aQ,BA]
   split<;>rfl
  ·obtain⟨i,hi,rfl⟩:=zm z hz
   exact hj i hi
theorem cJ0{G:List (List Nat)}{u:List Nat}{w a:Nat}(ha:a<G.length)(hu:u.length=G.length)(hw:(G.getD a []).length=w):(∀j,j<w->cf ((cW G u).getD a []) j=cf (G.getD a []) j)/\cf ((cW G u).getD a []) w=cf u a:=by
 have e:(cW G u).getD a []=G.getD a []++[u.getD a 0]:=by
  unfold cW
  rw[aQ,kN,aQ,aQ,aP ha,aP (by omega)];rfl
 rw[e]
 generalize G.getD a []=g at hw
 refine⟨λj hj=>?_,?_⟩
 ·unfold cf
  rw[aQ,sE (by omega),<- aQ]
 ·unfold cf
  rw[aQ,sD (by omega),hw,FJ];rfl
theorem cR2{m:Bool × Nat}(hm:m∈aD):∃e,e<aa m/\gp m 1 e=0/\e≠0/\∀{a b},a<aa m->b<aa m->(gp m a (gm m b e)=0↔a=b):=by
 have r:=rg hm
 obtain⟨e,he,h⟩:=r.ng (lo1 hm)
 refine⟨e,he,h,λz=>?_,λ{a b} ha hb=>?_⟩
 ·rw[z,r.z' (lo1 hm)]at h;omega
 ·have k:gp m b (gm m b e)=0:=by
   have:=r.dl b 1 e
   rw[h,r.qz,uG hb]at this
   exact this.symm
  exact⟨λh1=>r.Ac ha hb (cj hm b e) (h1.trans k.symm),λh1=>h1 ▸ k⟩
theorem cH2{m:Bool × Nat}(hm:m∈aD){G:List (List Nat)}{u:List Nat}(h0:0<G.length)(hu:u.length=G.length)(hR:RT (aa m) (ah G) G)(ha:AllLt (aa m) u){x:Nat->Nat}(hx:∀j,x j<aa m)(h:∀a,a<G.length->sm (gp m) (ah G) (λj=>gm m (cf (G.getD a []) j) (x j))=cf u a):∃X,wj m G u=some X/\X.length=ah G/\AllLt (aa m) X/\∀a,a<G.length->sm (gp m) (ah G) (λj=>gm m (cf (G.getD a []) j) (cf X j))=cf u a:=by
 obtain⟨w1,w2,w3⟩:=IG h0 hu hR ha
 have w4:=w3
 rw[<-w1]at w4
 obtain⟨⟨H,I⟩,iR,il,sp⟩:=we hm w4
 rw[w1]at I iR
 have r:=rg hm
 obtain⟨e,e1,e2,e3,e4⟩:=cR2 hm
 have dot:∀(y:Nat->Nat),(∀j,y j<aa m)->∀a,a<G.length->sm (gp m) (ah G+1) (λj=>gm m (cf ((cW G u).getD a []) j) (if j<ah G then y j else e))=gp m (sm (gp m) (ah G) λj=>gm m (cf (G.getD a []) j) (y j)) (gm m (cf u a) e):=λy hy a h1=>by
  obtain⟨c1,c2⟩:=cJ0 h1 hu (hR _ (dG h1 [])).1
  rw[sm,if_neg (fK _),c2]
  refine congrArg (λz=>gp m z _) (cw λj hj=>?_)
  rw[c1 j hj,if_pos hj]
 have ann:∀x'∈cW G u,sm (gp m) (ah G+1) (λj=>gm m (cf x' j) (if j<ah G then x j else e))=0:=λx' eo=>by
  obtain⟨a,h1,rfl⟩:=gj eo
  have ea:(cW G u)[a]=(cW G u).getD a []:=by rw[aQ,aP h1];rfl
  rw[ea,dot x hx a (by omega),h a (by omega)]
  exact(e4 (bY hm ha a) (bY hm ha a)).mpr rfl
 have hw:∀i,i<(cE m (cW G u)).length->H i≠ah G:=λi hi z=>by
  have:=du.ann hm ann ((sp _).mpr (du.of (dG hi [])))
  rw[sm,g7 r λj hj=>?_,if_neg (fK _)]at this
  ·have u1:=I.u i i hi hi
   rw[z,if_pos rfl]at u1
   rw[u1,j4 e1,r.z e1]at this
   exact e3 this
  ·rw[I.z i hi j (by omega),fm m _ (bX m hm)]
 obtain⟨X1,X2,X3,X4⟩:=cJ7 hm iR I hw
 refine⟨lM (cE m (cW G u)) (ah G),?_,X1,X2,λa h1=>?_⟩
 ·unfold wj
  rw[if_neg]
  intro c
  obtain⟨y,hy,hz⟩:=bE.mp (BK.mp c)
  obtain⟨i,hi,rfl⟩:=gj hy
  refine hw i hi ?_
  rw[<-(I.wg hm iR hi).1,<- hz,aQ,aP hi];rfl
 ·have dO2:∀x'∈cE m (cW G u),sm (gp m) (ah G+1) (λj=>gm m (cf x' j) (if j<ah G then cf (lM (cE m (cW G u)) (ah G)) j else e))=0:=λx' eo=>by
   obtain⟨i,hi,rfl⟩:=gj eo
   have ei:(cE m (cW G u))[i]=(cE m (cW G u)).getD i []:=by rw[aQ,aP hi];rfl
   have IJ:=bY hm (iR _ (dG hi [])).2
   have hl:H i<ah G:=by have:=I.l i hi;have:=hw i hi;omega
   rw[ei,sm,if_neg (fK _),Am r (f:=λj=>gm m (cf ((cE m (cW G u)).getD i []) j) (if j<ah G then cf (lM (cE m (cW G u)) (ah G)) j else e)) (cj hm _ _) hl λj hj hn=>?_]
   ·rw[if_pos hl,X3 i hi,I.u i i hi hi,if_pos rfl,j4 (IJ _)]
    exact(e4 (IJ _) (IJ _)).mpr rfl
   ·rw[if_pos hj]
    by_cases c:∃i',i'<(cE m (cW G u)).length/\H i'=j
    ·obtain⟨i',h1,rfl⟩:=c
     rw[I.u i i' hi h1,if_neg (λz:i=i'=>hn (by rw[z])),fm m _ (bX m hm)]
    ·rw[X4 j λi' h1 h2=>c ⟨i',h1,h2⟩,r.qz]
  have:=du.ann hm dO2 ((sp _).mp (du.of (dG (show a<(cW G u).length by omega) [])))
  rw[dot _ (bY hm X2) a h1]at this
  exact(e4 (kG r λj _=>cj hm _ _) (bY hm ha a)).mp this
noncomputable def cK(T:List (List Nat)):List (List Nat):=(bg (ah T)).map λj=>T.map λr=>r.getD j 0
theorem Dw{T:List (List Nat)}{a:Nat}(h:a<ah T):(cK T).getD a []=T.map λr=>r.getD a 0:=by
 unfold cK
 rw[aQ,bQ,kL h];rfl
theorem wk{N:Nat}{T:List (List Nat)}(h0:0<N)(hw:0<ah T)(hT:RT N (ah T) T):(cK T).length=ah T/\ah (cK T)=T.length/\RT N T.length (cK T):=by
 have a:(cK T).length=ah T:=by unfold cK;rw[bB,dQ]
 have c:RT N T.length (cK T):=λr hr=>by
  obtain⟨j,_,rfl⟩:=bE.mp hr
  refine⟨bB _,λx hx=>?_⟩
  obtain⟨y,hy,rfl⟩:=bE.mp hx
  exact(hT y hy).2.getD h0 j
 refine⟨a,?_,c⟩
 have:=Dw hw
 have e:ah (cK T)=((cK T).getD 0 []).length:=by
  unfold ah
  cases cK T<;>rfl
 rw[e,this,bB]
end L3
namespace L3
open PySem L2 Mf
noncomputable def lN(T:List (List Nat))(w:Nat):List Nat:=(bg w).filter λj=>!(T.map aT).contains j
noncomputable def jf(m:Bool × Nat)(T:List (List Nat))(w f:Nat):List Nat:=(((T.map aT).zip T).foldl (λx z=>x.set z.1 (bG m 0 (z.2.getD f 0))) ((bH w 0).set f 1))
noncomputable def jI(m:Bool × Nat)(T:List (List Nat))(w:Nat):List (List Nat):=(lN T w).map (jf m T w)
theorem RR.heads{m:Bool × Nat}(hm:m∈aD){w:Nat}{R:List (List Nat)}{H:Nat->Nat}(hR:RT (aa m) w R)(I:RR w R H):R.map aT=(bg R.length).map H:=by
 refine Rw (by rw[bB,bB,dQ]) λi h1 h2=>?_
 rw[bB]at h1
 rw[FK,FK,List.getElem_range,<- (I.wg hm hR h1).1,aQ,aP h1];rfl
theorem RR.mem{m:Bool × Nat}(hm:m∈aD){w:Nat}{R:List (List Nat)}{H:Nat->Nat}(hR:RT (aa m) w R)(I:RR w R H)(j:Nat):j∈R.map aT↔∃i,i<R.length/\H i=j:=by
 rw[I.heads hm hR,bE]
 exact⟨λ⟨i,a,b⟩=>⟨i,cL.mp a,b⟩,λ⟨i,a,b⟩=>⟨i,cL.mpr a,b⟩⟩
theorem RR.free{m:Bool × Nat}(hm:m∈aD){w:Nat}{R:List (List Nat)}{H:Nat->Nat}(hR:RT (aa m) w R)(I:RR w R H)(j:Nat):j∈lN R w↔j<w/\∀i,i<R.length->H i≠j:=by
 unfold lN
 rw[nt,cL,Bool.not_eq_true',<- Bool.not_eq_true,BK,I.mem hm hR]
 exact and_congr_right λ_=>⟨λh i a b=>h ⟨i,a,b⟩,λh ⟨i,a,b⟩=>h i a b⟩
theorem VR{m:Bool × Nat}(hm:m∈aD){w f:Nat}{R:List (List Nat)}{H:Nat->Nat}(hR:RT (aa m) w R)(I:RR w R H)(hf:f∈lN R w):(jf m R w f).length=w/\AllLt (aa m) (jf m R w f)/\cf (jf m R w f) f=1/\(∀i,i<R.length->cf (jf m R w f) (H i)=bG m 0 (cf (R.getD i []) f))/\∀j,j≠f->(∀i,i<R.length->H i≠j)->cf (jf m R w f) j=0:=by
 obtain⟨f1,f2⟩:=(I.free hm hR f).mp hf
 have l1:=lo1 hm
 have zl:((R.map aT).zip R).length=R.length:=by rw[vg,bB,sP]
 have zg:∀i (h:i<R.length),((R.map aT).zip R)[i]'(by omega)=(H i,R.getD i []):=λi h=>by
  rw[List.getElem_zip,FK]
  have e:R.getD i []=R[i]:=by rw[aQ,aP h];rfl
  have:=(I.wg hm hR h).1
  rw[e]at this ⊢
  exact BJ this rfl
 have zm:∀z∈(R.map aT).zip R,∃i,i<R.length/\z=(H i,R.getD i []):=λz hz=>by
  obtain⟨i,hi,rfl⟩:=gj hz
  exact⟨i,by omega,zg i (by omega)⟩
 have mz:∀i,i<R.length->(H i,R.getD i [])∈(R.map aT).zip R:=λi h=>by
  rw[<-zg i h];exact cM _
 have bd:∀z∈(R.map aT).zip R,bG m 0 (z.2.getD f 0)<aa m:=λz hz=>by
  obtain⟨i,hi,rfl⟩:=zm z hz
  exact(fE hm (by omega) (bY hm (hR _ (dG hi [])).2 f)).2.1
 refine⟨?_,?_,?_,λi hi=>?_,λj hj hj2=>?_⟩
 ·unfold jf
  rw[II (λz:Nat × List Nat=>z.1) (λz=>bG m 0 (z.2.getD f 0)),nB,pY]
 ·have key:∀(l:List (Nat × List Nat)) (x:List Nat),(∀z∈l,bG m 0 (z.2.getD f 0)<aa m)->AllLt (aa m) x->AllLt (aa m) (l.foldl (λx z=>x.set z.1 (bG m 0 (z.2.getD f 0))) x):=by
   intro l
   induction l with
   | nil=>exact λx _ h=>h
   | cons z l ih =>
    intro x hz h
    rw[sI]
    refine ih _ (λy hy=>hz y (dZ _ hy)) λy hy=>?_
    rcases yG hy with h1 | h1
    ·exact h y h1
    ·rw[h1];exact hz z fU
  refine key _ _ bd λx hx=>?_
  rcases yG hx with h1 | h1
  ·rw[(Fz.mp h1).2];omega
  ·omega
 ·unfold jf
  rw[An (λz:Nat × List Nat=>z.1) (λz=>bG m 0 (z.2.getD f 0)) _ _ λz hz=>?_]
  ·unfold cf
   rw[aQ,Ff (by rw[pY];exact f1)];rfl
  ·obtain⟨i,hi,rfl⟩:=zm z hz
   exact f2 i hi
 ·have hp:((R.map aT).zip R).Pairwise (λy z:Nat × List Nat=>y.1≠z.1):=by
   rw[c67]
   intro i j hi hj Ak
   rw[zg i (by omega),zg j (by omega)]
   have:=I.i i j Ak (by omega)
   show H i≠H j
   omega
  exact IH (λz:Nat × List Nat=>z.1) (λz=>bG m 0 (z.2.getD f 0)) _ _ hp _ (mz i hi) (by rw[nB,pY];exact I.l i hi)
 ·unfold jf
  rw[An (λz:Nat × List Nat=>z.1) (λz=>bG m 0 (z.2.getD f 0)) _ _ λz hz=>?_]
  ·unfold cf
   rw[aQ,u5 (fq hj),BA]
   split<;>rfl
  ·obtain⟨i,hi,rfl⟩:=zm z hz
   exact hj2 i hi
theorem cL0{N:Nat}{p q:Nat->Nat->Nat}(r:Rg N p q){f:Nat->Nat}{a b n:Nat}(ha:a<n)(hb:b<n)(hn:a≠b)(fa:f a<N)(fb:f b<N)(hz:∀j,j<n->j≠a->j≠b->f j=0):sm p n f=p (f a) (f b):=by
 have h1:=Am r (f:=λj=>if j=a then f a else 0) (j0:=a) (n:=n) (by rw[if_pos rfl];exact fa) ha λj _ h=>if_neg h
 have h2:=Am r (f:=λj=>if j=b then f b else 0) (j0:=b) (n:=n) (by rw[if_pos rfl];exact fb) hb λj _ h=>if_neg h
 rw[if_pos rfl]at h1 h2
 rw[<-h1,<- h2,<- mY r]
 refine cw λj hj=>?_
 by_cases ja:j=a
 ·rw[if_pos ja,if_neg (by omega),r.z' fa,ja]
 ·by_cases jb:j=b
  ·rw[if_neg ja,if_pos jb,r.z fb,jb]
  ·rw[if_neg ja,if_neg jb,hz j hj ja jb,r.z r.pos]
noncomputable def dt(m:Bool × Nat)(w:Nat)(x y:Nat->Nat):Nat:=sm (gp m) w λj=>gm m (x j) (y j)
theorem cG4{m:Bool × Nat}(hm:m∈aD)(w:Nat)(x y z:Nat->Nat):dt m w x (λk=>gp m (y k) (z k))=gp m (dt m w x y) (dt m w x z):=by
 have r:=rg hm
 unfold dt
 rw[<-mY r]
 exact cw λj _=>r.dl _ _ _
theorem cL5{m:Bool × Nat}(hm:m∈aD)(w c:Nat)(x y:Nat->Nat):dt m w x (λk=>gm m c (y k))=gm m c (dt m w x y):=by
 have r:=rg hm
 have m0:=bX m hm
 unfold dt
 rw[<-Ad r]
 exact cw λj _=>by rw[<-i9 m0,iC m (x j),i9 m0]
theorem VS{m:Bool × Nat}(hm:m∈aD)(w:Nat)(x:Nat->Nat)(c:Nat->Nat)(F:Nat->Nat->Nat):∀n,dt m w x (λk=>sm (gp m) n λi=>gm m (c i) (F i k))=sm (gp m) n λi=>gm m (c i) (dt m w x (F i))
 | 0=>g7 (rg hm) λj _=>(rg hm).qz _
 | n+1=>by
  rw[sm,<- VS hm w x c F n,<- cL5 hm,<- cG4 hm];rfl
theorem cM0{m:Bool × Nat}(hm:m∈aD){w f:Nat}{R:List (List Nat)}{H:Nat->Nat}(hR:RT (aa m) w R)(I:RR w R H)(hf:f∈lN R w){i:Nat}(hi:i<R.length):dt m w (cf (R.getD i [])) (cf (jf m R w f))=0:=by
 have r:=rg hm
 obtain⟨f1,f2⟩:=(I.free hm hR f).mp hf
 obtain⟨k1,k2,k3,k4,k5⟩:=VR hm hR I hf
 have il:=bY hm (hR _ (dG hi [])).2
 have g:=fE hm (a:=0) r.pos (il f)
 unfold dt
 rw[cL0 r (f:=λj=>gm m (cf (R.getD i []) j) (cf (jf m R w f) j)) (a:=H i) (b:=f) (I.l i hi) f1 (f2 i hi) (cj hm _ _) (cj hm _ _) λj hj ja jb=>?_]
 ·rw[k3,k4 i hi,I.u i i hi hi,if_pos rfl,j4 g.2.1,uG (il f)]
  exact g.2.2
 ·by_cases c:∃i',i'<R.length/\H i'=j
  ·obtain⟨i',h1,rfl⟩:=c
   rw[I.u i i' hi h1,if_neg (λz:i=i'=>ja (by rw[z])),fm m _ (bX m hm)]
  ·rw[k5 j jb λi' h1 h2=>c ⟨i',h1,h2⟩,r.qz]
theorem du.dt{m:Bool × Nat}(hm:m∈aD){R:List (List Nat)}{n:Nat}{y:Nat->Nat}(h:∀i,i<R.length->dt m n (cf (R.getD i [])) y=0){f:Nat->Nat}(s:du m R f):dt m n f y=0:=by
 refine s.ann hm λx hx=>?_
 obtain⟨i,hi,rfl⟩:=gj hx
 have:=h i hi
 rw[aQ,aP hi]at this
 exact this
theorem cA4{N n:Nat}{M:List (List Nat)}(h:RT N n M)(h0:M≠[]):ah M=n:=by
 cases M with
 | nil=>exact absurd rfl h0
 | cons g M=>exact(h g fU).1
theorem cJ3{T:List (List Nat)}{i:Nat}(h:i<T.length):T.getD i []=T[i]:=by rw[aQ,aP h];rfl
theorem du.red{m:Bool × Nat}(hm:m∈aD){G:List (List Nat)}(hG:RT (aa m) (ah G) G){f:Nat->Nat}(h:du m G f):du m (cE m G) f:=((we hm hG).2.2.2 f).mp h
end L3
namespace L3
open PySem L2 PySem.Spec PyProof.Rows
section
variable{X:Cx}{F H:Hp}{e b:Expr}{pos pos' p p2 p3 apos cB:Pos}{ti te:aY}{x y:Str}{i j:Nat}
end
section
variable{X:Cx}
end
section
variable{X:Cx}{es:List Expr}{tr:cY}{pos:Pos}
theorem Ao(h:PA X es (lA tr)):PE X (.List es pos) (lB (om tr)) :=
 dN (Sf h) λσ H Q ⟨B,F,δ,ts,Qd,c,q,k⟩=>⟨B,F,δ,ts,_,c,q,λds ax vs F1 H1 q1 f1 h1 c1 s1=>⟨by rw[<-s1.length];exact q1.1,λp hp=>k _ ax _ F1 _ q1.2 f1 (h1.trans (ag.upd hp)) (c1.grow (ag.upd hp)) (.own cF (s1.mono (ag.refl _) (ag.upd hp)) .nil)⟩⟩
end
end L3
namespace L3
open PySem L2 Mf
end L3
namespace L3
open PySem L2 Mf
end L3
namespace L3
open PySem L2 Mf
theorem IK{r:List Nat}{k v:Nat}(hk:k<r.length)(j:Nat):cf (r.set k v) j=if j=k then v else cf r j:=by
 unfold cf
 rw[aQ,List.getElem?_set,aQ]
 by_cases h:k=j
 ·subst h
  rw[if_pos rfl,if_pos rfl,if_pos hk];rfl
 ·rw[if_neg h,if_neg (fq h)]
end L3
namespace L2
open PySem PySem.Spec PyProof.Rows
section
variable{X:Cx}
theorem VT:∀{ns:List Int} {its:List Value},Vals (ns.map V.int) its->ns.length=its.length/\∀(i:Nat) (v:Value),its[i]?=some v->∃n t,ns[i]?=some n/\v=pV n t
 | [],_,r=>by cases r;exact⟨rfl,λi v h=>by simp at h⟩
 | n::ns,_,r=>by
  cases r with
  | cons a b =>
   obtain⟨h1,h2⟩:=VT b
   obtain⟨t,rfl⟩:=a
   refine⟨by simp[h1],λi v h=>?_⟩
   cases i with
   | zero=>simp at h;exact⟨n,t,rfl,h.symm⟩
   | succ i=>simpa using h2 i v (by simpa using h)
theorem cb0(hc:X.calm=true):iK X (.builtin "any") (λxs H Q=>∃(p:Addr) (ns:List Int),xs=[.ref p]/\bS X.K H p (ns.map V.int)/\Q (.bl (ns.any (· != 0))) H):=by
 intro pins s σ H xs us Q I r h
 obtain⟨p,ns,rfl,hS,q⟩:=h
 obtain⟨u,rfl,ru⟩:=r.one
 cases ru
 obtain⟨its,rv,pl,hz⟩:=I.list hS
 obtain⟨hlen,GW⟩:=VT rv
 have hl:=pl.isList
 have gr:p<s.heap.objs.size:=by obtain⟨_,e,_⟩:=hl;exact bW e
 refine call_any_walk (wpAny_pyIter_list hl ?_)
 refine⟨s.heap.objs.size,[s.heap.objs.size,p],[s.heap.objs.size],its.toArray.size,_,_,λi=>((ns.map (· != 0))[i]?).getD false,rfl,Walks.list (A:=X.A.in1) (I.ok.hd hc) _ p (fo gr) its.toArray,
  ⟨⟨_,gJ _ rfl,rfl,rfl⟩,hl.push _⟩,λi v s' Q' E' hP hQ=>?_,λh' tk hk=>?_⟩
 ·obtain⟨n,t,e,rfl⟩:=GW i v (by simpa using hP)
  simp only[bQ,e,sR,p7]at hQ
  exact PyProof.Rows.truthy_int hQ
 ·have e:((bg its.toArray.size).any λi=>((ns.map (· != 0))[i]?).getD false)=(ns.map (· != 0)).any id:=by
   rw[dX,<- hlen,<- bB (f:=(· != 0)) (as:=ns)];exact ce5 _
  rw[e,Ru]
  exact⟨.bl _,H,I.kept (h':=h') (t':=tk) (GV hk),rfl,q⟩
end
end L2
namespace L3
open PySem L2 PySem.Spec PyProof.Rows
section
variable{X:Cx}
noncomputable def pH:kC:=λds Q=>match ds with
 | [.lst _ xs]=>∃ns,xs=aL ns/\Q (.bl (ns.any (· != 0)))
 | _=>False
theorem cM7(hc:X.calm=true):jD X (.builtin "any") pH:=jD.of (cb0 hc) λvs H Q zz=>by
 obtain⟨B,F,σ,δ,ts,ds,Qd,c,s,q,k⟩:=zz
 unfold pH at q
 split at q
 ·obtain⟨v,rfl,s1⟩:=mQ s
  obtain⟨ns,rfl,q⟩:=q
  obtain⟨p,ws,rfl,h,t⟩:=mM s1 c.ext rfl
  rw[CM t]at h
  exact⟨p,ns,rfl,lC h,k _ _ _ q (ag.refl _) (c.pushS (.bl .nil) rfl)⟩
 ·exact q.elim
end
end L3
namespace L2
open PySem PySem.Spec PyProof.Rows
section
variable{X:Cx}{a:Expr}{ta:TE}{p p2 pos Ap:Pos}
end
end L2
namespace L3
open PySem L2 PySem.Spec PyProof.Rows
section
variable{X:Cx}{a:Expr}{t:aY}{p p2 pos Ap:Pos}
end
end L3
namespace L3
open PySem L2 PySem.Spec PyProof.Rows
section
variable{F H:Hp}
end
section
variable{X:Cx}{e:Expr}{t:aY}{p2 pos:Pos}
end
end L3
namespace L3
open PySem L2 PySem.Spec PyProof.Rows
section
variable{F H:Hp}
end
section
variable{P:Program}{w:World}{K:PySem.W.Frag}{mg:Str->Option Value}{base:Heap}
end
section
variable{X:Cx}{CX:fg}{n i:Nat}{f:Addr}{fd:FuncData}{ps:List Str}{sp:bC}{E:XK}{fn x:Str}{e:Expr}{te:aY}{p p2 pos pos' Ap:Pos}
end
end L3
namespace L2
section
variable{α:Type}{P:List α->Prop}
theorem cJ2(h:P []):∀us:List α,us.length=0->P us:=by
 intro us hl;rcases us with _ | ⟨a,t⟩
 ·exact h
 ·cases hl
theorem g8(h:∀a,P [a]):∀us:List α,us.length=1->P us:=by
 intro us hl;rcases us with _ | ⟨a,t⟩
 ·cases hl
 ·exact cJ2 (P:=λt=>P (a::t)) (h a) t (yM hl)
theorem g9(h:∀a b,P [a,b]):∀us:List α,us.length=2->P us:=by
 intro us hl;rcases us with _ | ⟨a,t⟩
 ·cases hl
 ·exact g8 (P:=λt=>P (a::t)) (h a) t (yM hl)
theorem fF(h:∀a b c,P [a,b,c]):∀us:List α,us.length=3->P us:=by
 intro us hl;rcases us with _ | ⟨a,t⟩
 ·cases hl
 ·exact g9 (P:=λt=>P (a::t)) (h a) t (yM hl)
theorem kH(h:∀a b c d,P [a,b,c,d]):∀us:List α,us.length=4->P us:=by
 intro us hl;rcases us with _ | ⟨a,t⟩
 ·cases hl
 ·exact fF (P:=λt=>P (a::t)) (h a) t (yM hl)
theorem VU(h:∀a b c d e,P [a,b,c,d,e]):∀us:List α,us.length=5->P us:=by
 intro us hl;rcases us with _ | ⟨a,t⟩
 ·cases hl
 ·exact kH (P:=λt=>P (a::t)) (h a) t (yM hl)
theorem cM3(h:∀a b c d e f,P [a,b,c,d,e,f]):∀us:List α,us.length=6->P us:=by
 intro us hl;rcases us with _ | ⟨a,t⟩
 ·cases hl
 ·exact VU (P:=λt=>P (a::t)) (h a) t (yM hl)
end
end L2
namespace L3
open PySem L2 PySem.Spec PyProof.Rows
section
variable{B:Bs}{F H:Hp}{σ:L2.St}{δ:Dl}{ts:List (D × V)}
end
section
variable{X:Cx}{elt iter tg:Expr}{pos:Pos}{scope:Scope}{cl:List (Str × Addr)}{ti:jX}{te:aY}{g:iT}
end
end L3
namespace L2
open PySem PySem.Spec PyProof.Rows
section
variable{X:Cx}
end
end L2
namespace L3
open PySem L2 PySem.Spec PyProof.Rows
section
variable{X:Cx}
end
end L3
namespace L3
open PySem L2 Mf
theorem VV{m:Bool × Nat}(hm:m∈aD){a b:Nat}(ha:a<aa m)(hb:b<aa m):gm m a b=0↔a=0\/b=0:=by
 constructor
 ·intro h
  by_cases a0:a=0
  ·exact .inl a0
  ·by_cases b0:b=0
   ·exact .inr b0
   ·exact absurd h (cR9 hm (by omega) ha (by omega) hb)
 ·rintro (rfl | rfl)
  ·exact fm m _ (bX m hm)
  ·exact gi m _ (bX m hm)
theorem cB0{xs ys:List Nat}{i:Nat}{d:D}(h:(cR (aq xs) (aq ys))[i]?=some d):∃(hi:i<xs.length) (hj:i<ys.length),d=.tup [.int (xs[i]:Nat),.int (ys[i]:Nat)]:=by
 unfold cR at h
 rw[cC,cC,yE]at h
 have hl:=(j9.mp h).1
 rw[gM]at hl
 have hi:i<xs.length:=by omega
 have hj:i<ys.length:=by omega
 rw[kN,aP hi,aP hj]at h
 exact⟨hi,hj,(cX h).symm⟩
theorem ch7(xs ys:List Nat):(cR (aq xs) (aq ys)).length=min xs.length ys.length:=by unfold cR;rw[gM,e5,e5]
end L3
namespace L3
open PySem L2 Mf
noncomputable def cy(m:Bool × Nat)(c:List Nat)(os:List (List Nat)):List (List Nat):=os.map λo =>
 (dh (λx y=>bG m x (gm m (gm m (o.getD (aT c) 0) (m3 m (c.getD (aT c) 0))) y)) o c).take (aT c)++(dh (λx y=>bG m x (gm m (gm m (o.getD (aT c) 0) (m3 m (c.getD (aT c) 0))) y)) o c).drop (aT c+1)
noncomputable abbrev Cs:=List Nat × List (List Nat)
noncomputable def nul(c:List Nat):Bool:=c.all (·==0)
noncomputable def jg(m:Bool × Nat)(w:Nat)(z:Cs × Nat):Cs:=(z.1.1++[w-z.1.2.length+z.2],cy m (z.1.2.getD z.2 []) (z.1.2.drop (z.2+1)))
noncomputable def fG(s:Cs):List (Cs × Nat):=(bg s.2.length).map λi=>(s,i)
noncomputable def dU(l:List Cs):List (Cs × Nat):=l.flatMap fG
noncomputable def pI(z:Cs × Nat):Bool:=nul (z.1.2.getD z.2 [])
noncomputable def uO(m:Bool × Nat)(w:Nat):Nat->List Cs->Option (List Nat)
 | 0,_=>none
 | f+1,l=>if l=[]then none else match (dU l).find? pI with
  | some z=>some (z.1.1++[w-z.1.2.length+z.2])
  | none=>uO m w f ((dU l).map (jg m w))
noncomputable def gG(m:Bool × Nat)(C:Nat->Nat->Nat)(ps:List Nat)(c:Nat->Nat)(k:Nat):Nat:=sm (gp m) ps.length λt=>gm m (c t) (C (ps.getD t 0) k)
noncomputable def pJ(m:Bool × Nat)(C:Nat->Nat->Nat)(ps:List Nat):Prop:=∀c:Nat->Nat,(∀t,c t<aa m)->(∀k,gG m C ps c k=0)->∀t,t<ps.length->c t=0
structure Gs(m:Bool × Nat)(C:Nat->Nat->Nat)(w:Nat)(s:Cs):Prop where
 le:s.2.length<=w
 inc:s.1.Pairwise (· < ·)
 off:∀p∈s.1,p<w-s.2.length
 nx:∀j,(∀p∈s.1,p<j)->w-s.2.length<=j
 rt:∃h,RT (aa m) h s.2
 rel:∀a:Nat->Nat,(∀i,a i<aa m)->((∀k,sm (gp m) s.2.length (λi=>gm m (a i) (cf (s.2.getD i []) k))=0)↔∃c:Nat->Nat,(∀t,c t<aa m)/\∀k,gp m (sm (gp m) s.2.length λi=>gm m (a i) (C (w-s.2.length+i) k)) (gG m C s.1 c k)=0)
 ind:pJ m C s.1
section
variable{m:Bool × Nat}{C:Nat->Nat->Nat}{w:Nat}
theorem cI5(hm:m∈aD)(C:Nat->Nat->Nat)(ps:List Nat)(c:Nat->Nat)(k:Nat):gG m C ps c k<aa m:=kG (rg hm) λ_ _=>cj hm _ _
theorem Dx(hm:m∈aD)(C:Nat->Nat->Nat)(ps:List Nat)(j:Nat)(c:Nat->Nat)(k:Nat):gG m C (ps++[j]) c k=gp m (gG m C ps c k) (gm m (c ps.length) (C j k)):=by
 unfold gG
 rw[dO,Fl,sm]
 congr 1
 ·refine cw λt ht=>?_
  rw[aQ,sE ht,<- aQ]
 ·rw[aQ,sD (bN _),FJ];rfl
theorem VW{ps:List Nat}{c c':Nat->Nat}{k:Nat}(h:∀t,t<ps.length->c t=c' t):gG m C ps c k=gG m C ps c' k:=cw λt ht=>by rw[h t ht]
theorem pK(hm:m∈aD){n i e:Nat}(hi:i<n)(a' X:Nat->Nat):sm (gp m) n (λj=>gm m (if j<i then 0 else if j=i then e else a' (j-i-1)) (X j))=gp m (sm (gp m) (n-i-1) λj=>gm m (a' j) (X (i+1+j))) (gm m e (X i)):=by
 have r:=rg hm
 have h0:=bX m hm
 obtain⟨d,rfl⟩:∃d,n=(i+1)+d:=⟨n-i-1,by omega⟩
 rw[Ij r (i+1) d λ_ _=>cj hm _ _,sm,g7 r λj hj=>by rw[if_pos hj,fm m _ h0],if_neg (fK _),if_pos rfl,r.z (cj hm _ _),j6]
 congr 1
 rw[show i+1+d-i-1=d by omega]
 refine cw λj hj=>?_
 rw[if_neg (by omega),if_neg (by omega),show i+1+j-i-1=j by omega]
theorem wm{c:List Nat}:nul c=true↔∀k,cf c k=0:=by
 unfold nul
 rw[dw]
 constructor
 ·intro h k
  by_cases hk:k<c.length
  ·unfold cf
   have:=h _ (dG hk 0)
   exact beq_iff_eq.mp this
  ·exact rW (by omega)
 ·intro h x hx
  obtain⟨k,hk,rfl⟩:=gj hx
  have:=h k
  unfold cf at this
  rw[aQ,aP hk]at this
  exact beq_iff_eq.mpr this
theorem IL{c:List Nat}(h:nul c=false):aT c<c.length/\cf c (aT c)≠0:=by
 have hx:∃x∈c,(x != 0)=true:=by
  refine Fq λz=>?_
  have:nul c=true:=by
   unfold nul
   rw[dw]
   intro x hx
   refine Fq λy=>z ⟨x,hx,?_⟩
   simpa using y
  rw[h]at this;cases this
 have hl:aT c<c.length:=FG hx
 refine⟨hl,?_⟩
 have h2:(c[aT c] != 0)=true:=c08 (xs:=c) (p:=(· != 0)) (w:=hl)
 unfold cf
 rw[aQ,aP hl]
 simpa using h2
theorem Dy(hm:m∈aD){b:List Nat}{os:List (List Nat)}{h:Nat}(hb:b.length=h)(ab:AllLt (aa m) b)(lQ:RT (aa m) h os)(nb:nul b=false){a:Nat->Nat}(ha:∀i,a i<aa m) :
  (∀k,sm (gp m) os.length (λj=>gm m (a j) (cf ((cy m b os).getD j []) k))=0)↔∃e,e<aa m/\∀k,gp m (sm (gp m) os.length λj=>gm m (a j) (cf (os.getD j []) k)) (gm m e (cf b k))=0:=by
 have r:=rg hm
 have h0:=bX m hm
 have dJ:=lo1 hm
 obtain⟨hp,bp⟩:=IL nb
 have VX:=bY hm ab (aT b)
 obtain⟨iv,iv1,VY⟩:=Ae hm (a:=1) (by omega) VX bp
 have IM:m3 m (b.getD (aT b) 0)=iv:=Dn hm iv1 VY
 obtain⟨D,hD⟩:∃D:Nat->List Nat,∀j,D j=dh (λx y=>bG m x (gm m (gm m ((os.getD j []).getD (aT b) 0) iv) y)) (os.getD j []) b:=⟨_,λ_=>rfl⟩
 have VZ:∀j,j<os.length->∀k,gp m (cf (D j) k) (gm m (gm m (cf (os.getD j []) (aT b)) iv) (cf b k))=cf (os.getD j []) k:=λj hj k=>by
  rw[hD]
  exact Dt hm (lQ _ (dG hj [])).1 hb (lQ _ (dG hj [])).2 k
 have Dlt:∀j,j<os.length->∀k,cf (D j) k<aa m:=λj hj k=>by
  rw[hD]
  exact ID hm (lQ _ (dG hj [])).1 hb (lQ _ (dG hj [])).2 _ k
 have Dp:∀j,j<os.length->cf (D j) (aT b)=0:=λj hj=>by
  have l1:=bY hm (lQ _ (dG hj [])).2 (aT b)
  have:=VZ j hj (aT b)
  rw[i9 h0,VY,uG l1]at this
  exact r.cn (Dlt j hj _) l1 this
 have dQ1:∀j,j<os.length->(D j).length=h:=λj hj=>by
  rw[hD,gM,(lQ _ (dG hj [])).1,hb,sP]
 have IQ:∀j,j<os.length->∀k,cf ((cy m b os).getD j []) k=cf (D j) (if k<aT b then k else k+1):=λj hj k=>by
  have e1:(cy m b os).getD j []=(D j).take (aT b)++(D j).drop (aT b+1):=by
   unfold cy
   rw[uN _ hj [] [],IM,hD]
  rw[e1]
  have lt:((D j).take (aT b)).length=aT b:=by rw[gL,dQ1 j hj];omega
  unfold cf
  by_cases hk:k<aT b
  ·rw[if_pos hk,aQ,sE (by omega),cZ3 hk,<- aQ]
  ·rw[if_neg hk,aQ,sD (by omega),lt,FD,show aT b+1+(k-aT b)=k+1 by omega,<- aQ]
 obtain⟨F,hF⟩:∃F,F=sm (gp m) os.length λj=>gm m (a j) (gm m (cf (os.getD j []) (aT b)) iv):=⟨_,rfl⟩
 have Flt:F<aa m:=by rw[hF];exact kG r λ_ _=>cj hm _ _
 have V0:∀k,(sm (gp m) os.length λj=>gm m (a j) (cf (os.getD j []) k))=gp m (sm (gp m) os.length λj=>gm m (a j) (cf (D j) k)) (gm m F (cf b k)):=λk=>by
  rw[cw (g:=λj=>gp m (gm m (a j) (cf (D j) k)) (gm m (cf b k) (gm m (a j) (gm m (cf (os.getD j []) (aT b)) iv)))) λj hj=>?_,mY r,Ad r,<- hF,iC m (cf b k)]
  rw[<-VZ j hj k,v7 h0]
  congr 1
  rw[<-i9 h0,iC m _ (cf b k)]
 have lL:(∀k,sm (gp m) os.length (λj=>gm m (a j) (cf ((cy m b os).getD j []) k))=0)↔∀k,sm (gp m) os.length (λj=>gm m (a j) (cf (D j) k))=0:=by
  constructor
  ·intro h k
   by_cases e:k=aT b
   ·exact g7 r λj hj=>by rw[e,Dp j hj,gi m _ h0]
   ·by_cases c:k<aT b
    ·rw[<-h k]
     exact cw λj hj=>by rw[IQ j hj,if_pos c]
    ·rw[<-h (k-1)]
     exact cw λj hj=>by rw[IQ j hj,if_neg (by omega),show k-1+1=k by omega]
  ·intro h k
   rw[cw λj hj=>by rw[IQ j hj]]
   exact h _
 rw[lL]
 constructor
 ·intro h
  obtain⟨e,e1,e2⟩:=r.ng Flt
  refine⟨e,e1,λk=>?_⟩
  rw[V0 k,h k,r.z (cj hm _ _),<- Dg h0,e2,fm m _ h0]
 ·rintro⟨e,e1,h⟩
  have key:∀k,gp m (sm (gp m) os.length λj=>gm m (a j) (cf (D j) k)) (gm m (gp m F e) (cf b k))=0:=λk=>by
   rw[Dg h0,<- Ii,<- V0 k]
   exact h k
  have fe:gp m F e=0:=by
   have:=key (aT b)
   rw[g7 r λj hj=>by rw[Dp j hj,gi m _ h0],r.z (cj hm _ _)]at this
   rcases(VV hm (v9 hm Flt e1) VX).mp this with z | z
   ·exact z
   ·exact absurd z bp
  intro k
  have:=key k
  rw[fe,fm m _ h0,uH (kG r λ_ _=>cj hm _ _)]at this
  exact this
theorem rX(m:Bool × Nat)(b:List Nat)(os:List (List Nat)):(cy m b os).length=os.length:=by unfold cy;rw[bB]
theorem wo(hm:m∈aD){b:List Nat}{os:List (List Nat)}{h:Nat}(hb:b.length=h)(lQ:RT (aa m) h os)(nb:nul b=false):RT (aa m) (h-1) (cy m b os):=λx hx=>by
 obtain⟨o,ho,rfl⟩:=bE.mp hx
 obtain⟨hp,_⟩:=IL nb
 obtain⟨l1,l2⟩:=lQ o ho
 refine⟨by rw[dO,gL,iH,gM,l1,hb];omega,λy hy=>?_⟩
 have:AllLt (aa m) (dh (λx y=>bG m x (gm m (gm m (o.getD (aT b) 0) (m3 m (b.getD (aT b) 0))) y)) o b):=Dk λx hx y _=>(fE hm (l2 x hx) (cj hm _ y)).2.1
 rcases cg.mp hy with z | z
 ·exact this y (nJ z)
 ·exact this y (nI z)
theorem Gs.next(hm:m∈aD){s:Cs}(G:Gs m C w s){i:Nat}(hi:i<s.2.length)(nb:nul (s.2.getD i [])=false)(hC:∀j k,C j k<aa m):Gs m C w (jg m w (s,i)):=by
 have r:=rg hm
 have h0:=bX m hm
 have dJ:=lo1 hm
 have hle:=G.le
 obtain⟨h,Dz⟩:=G.rt
 obtain⟨bl,ba⟩:=Dz _ (dG hi [])
 have rY:RT (aa m) h (s.2.drop (i+1)):=λx hx=>Dz x (nI hx)
 have kl:(jg m w (s,i)).2.length=s.2.length-i-1:=by
  show(cy m _ _).length=_
  rw[rX,iH]
  show s.2.length-(i+1)=_
  omega
 have dl:(s.2.drop (i+1)).length=s.2.length-i-1:=by rw[iH];omega
 have ko:w-(jg m w (s,i)).2.length=w-s.2.length+i+1:=by omega
 have dg:∀j,(s.2.drop (i+1)).getD j []=s.2.getD (i+1+j) []:=λj=>by rw[aQ,FD,<- aQ]
 refine⟨by omega,?_,λp hp=>?_,λj hj=>?_,⟨h-1,wo hm bl rY nb⟩,λa ha=>?_,λc hc hz t ht=>?_⟩
 ·refine BN.mpr ⟨G.inc,RE _ _,λx hx y hy=>?_⟩
  rw[dP.mp hy]
  have:=G.off x hx
  show x<w-s.2.length+i
  omega
 ·rw[ko]
  rcases cg.mp hp with z | z
  ·have:=G.off p z;omega
  ·rw[dP.mp z];exact Bz _
 ·rw[ko]
  have:=hj (w-s.2.length+i) (fc _ (dP.mpr rfl))
  omega
 ·have e1:(∀k,sm (gp m) (jg m w (s,i)).2.length (λj=>gm m (a j) (cf ((jg m w (s,i)).2.getD j []) k))=0)↔∃e,e<aa m/\∀k,gp m (sm (gp m) (s.2.length-i-1) λj=>gm m (a j) (cf (s.2.getD (i+1+j) []) k)) (gm m e (cf (s.2.getD i []) k))=0:=by
   have:=Dy hm bl ba rY nb ha
   rw[dl]at this
   rw[kl]
   refine this.trans ?_
   constructor
   ·rintro⟨e,e1,e2⟩
    exact⟨e,e1,λk=>by rw[<-e2 k,cw λj _=>by rw[<-dg j]]⟩
   ·rintro⟨e,e1,e2⟩
    exact⟨e,e1,λk=>by rw[<-e2 k,cw λj _=>by rw[dg j]]⟩
  rw[e1]
  have al:∀e,e<aa m->∀j,(if j<i then 0 else if j=i then e else a (j-i-1))<aa m:=λe he j=>by
   split
   ·omega
   ·split
    ·exact he
    ·exact ha _
  have V1:∀(c:Nat->Nat) (e k:Nat),gp m (sm (gp m) s.2.length λj=>gm m (if j<i then 0 else if j=i then e else a (j-i-1)) (C (w-s.2.length+j) k)) (gG m C s.1 c k)=gp m (sm (gp m) (s.2.length-i-1) λj=>gm m (a j) (C (w-s.2.length+i+1+j) k)) (gp m (gG m C s.1 c k) (gm m e (C (w-s.2.length+i) k))):=λc e k=>by
   rw[pK hm hi a (λj=>C (w-s.2.length+j) k),Ii,j6 m (gm m e _)]
   congr 1
   exact cw λj _=>by rw[show w-s.2.length+(i+1+j)=w-s.2.length+i+1+j by omega]
  have ln:∀c k,gG m C (jg m w (s,i)).1 c k=gp m (gG m C s.1 c k) (gm m (c s.1.length) (C (w-s.2.length+i) k)):=λc k=>Dx hm C s.1 _ c k
  constructor
  ·rintro⟨e,e1,e2⟩
   obtain⟨c,c1,c2⟩:=(G.rel _ (al e e1)).mp λk=>by
    rw[pK hm hi a (λj=>cf (s.2.getD j []) k)]
    exact e2 k
   refine⟨λt=>if t=s.1.length then e else c t,λt=>by
    show(if t=s.1.length then e else c t)<aa m
    split
    ·exact e1
    ·exact c1 t,λk=>?_⟩
   rw[ln,ko,kl,if_pos rfl,VW (c':=c) λt ht=>if_neg (fo ht),<- V1 c e k]
   exact c2 k
  ·rintro⟨c,c1,c2⟩
   refine⟨c s.1.length,c1 _,λk=>?_⟩
   have:=(G.rel _ (al _ (c1 s.1.length))).mpr ⟨c,c1,λk=>by
    rw[V1 c _ k]
    have:=c2 k
    rw[ln,ko,kl]at this
    exact this⟩ k
   rw[pK hm hi a (λj=>cf (s.2.getD j []) k)]at this
   exact this
 ·have ln:∀k,gp m (gG m C s.1 c k) (gm m (c s.1.length) (C (w-s.2.length+i) k))=0:=λk=>by
   rw[<-Dx hm C s.1 _ c k]
   exact hz k
  have e0:c s.1.length=0:=by
   refine Fq λz=>?_
   have al:∀j,(if j<i then 0 else if j=i then c s.1.length else(λ_=>0) (j-i-1))<aa m:=λj=>by
    split
    ·omega
    ·split
     ·exact hc _
     ·show 0<_;omega
   have z0:∀(n:Nat) (X:Nat->Nat),sm (gp m) n (λj=>gm m ((λ_=>0) j) (X j))=0:=λn X=>g7 r λ_ _=>fm m _ h0
   have:=(G.rel _ al).mpr ⟨c,hc,λk=>by
    rw[pK hm hi (λ_=>0) (λj=>C (w-s.2.length+j) k),z0,r.z (cj hm _ _),j6]
    exact ln k⟩
   have nn:nul (s.2.getD i [])=true:=wm.mpr λk=>by
    have q:=this k
    rw[pK hm hi (λ_=>0) (λj=>cf (s.2.getD j []) k),z0,r.z (cj hm _ _)]at q
    rcases(VV hm (hc _) (bY hm ba k)).mp q with y | y
    ·exact absurd y z
    ·exact y
   rw[nb]at nn;cases nn
  have hs:∀k,gG m C s.1 c k=0:=λk=>by
   have:=ln k
   rw[e0,fm m _ h0,uH (cI5 hm C _ c k)]at this
   exact this
  have hl:(jg m w (s,i)).1.length=s.1.length+1:=by show(s.1++[_]).length=_;rw[dO];rfl
  by_cases ct:t<s.1.length
  ·exact G.ind c hc hs t ct
  ·rw[show t=s.1.length by omega];exact e0
theorem Gs.bound(hm:m∈aD){s:Cs}(G:Gs m C w s){i:Nat}(hi:i<s.2.length)(hC:∀j k,C j k<aa m):nul (s.2.getD i [])=true↔∃c:Nat->Nat,(∀t,c t<aa m)/\c s.1.length=1/\∀k,gG m C (s.1++[w-s.2.length+i]) c k=0:=by
 have r:=rg hm
 have h0:=bX m hm
 have dJ:=lo1 hm
 obtain⟨h,Dz⟩:=G.rt
 obtain⟨bl,ba⟩:=Dz _ (dG hi [])
 have al:∀j,(if j<i then 0 else if j=i then 1 else(λ_=>0) (j-i-1))<aa m:=λj=>by
  split
  ·omega
  ·split
   ·omega
   ·show 0<_;omega
 have z0:∀(n:Nat) (X:Nat->Nat),sm (gp m) n (λj=>gm m ((λ_=>0) j) (X j))=0:=λn X=>g7 r λ_ _=>fm m _ h0
 have e1:nul (s.2.getD i [])=true↔∀k,sm (gp m) s.2.length (λj=>gm m (if j<i then 0 else if j=i then 1 else(λ_=>0) (j-i-1)) (cf (s.2.getD j []) k))=0:=by
  rw[wm]
  refine forall_congr' λk=>?_
  rw[pK hm hi (λ_=>0) (λj=>cf (s.2.getD j []) k),z0,r.z (cj hm _ _),j4 (bY hm ba k)]
 rw[e1,G.rel _ al]
 constructor
 ·rintro⟨c,c1,c2⟩
  refine⟨λt=>if t=s.1.length then 1 else c t,λt=>by
   show(if t=s.1.length then 1 else c t)<aa m
   split
   ·omega
   ·exact c1 t,if_pos rfl,λk=>?_⟩
  rw[Dx hm,if_pos rfl,VW (c':=c) λt ht=>if_neg (fo ht),j6,<- c2 k,pK hm hi (λ_=>0) (λj=>C (w-s.2.length+j) k),z0,r.z (cj hm _ _)]
 ·rintro⟨c,c1,c2,c3⟩
  refine⟨c,c1,λk=>?_⟩
  have:=c3 k
  rw[Dx hm,c2]at this
  rw[pK hm hi (λ_=>0) (λj=>C (w-s.2.length+j) k),z0,r.z (cj hm _ _),j6]
  exact this
end
end L3
namespace L3
open PySem L2 Mf
noncomputable def jJ:List Nat->List Nat->Prop
 | a::as,b::bs=>a<b\/(a=b/\jJ as bs)
 | _,_=>False
theorem V2:∀l:List Nat,¬ jJ l l
 | [],h=>h
 | a::l,h=>h.elim (λz=>fK _ z) λz=>V2 l z.2
theorem V3:∀a b:List Nat,jJ a b->¬ jJ b a
 | [],_,h,_=>h
 | _::_,[],h,_=>h
 | a::as,b::bs,h,h'=>by
  rcases h with h | ⟨rfl,h⟩
  ·rcases h' with h' | ⟨e,_⟩
   ·omega
   ·omega
  ·rcases h' with h' | ⟨_,h'⟩
   ·omega
   ·exact V3 as bs h h'
theorem V4:∀(a b:List Nat) (x y:List Nat),a.length=b.length->jJ a b->jJ (a++x) (b++y)
 | [],_,_,_,_,h=>h.elim
 | _::_,[],_,_,_,h=>h.elim
 | a::as,b::bs,x,y,hl,h=>by
  rcases h with h | ⟨e,h⟩
  ·exact .inl h
  ·exact .inr ⟨e,V4 as bs x y (by simpa using hl) h⟩
theorem V5:∀(a:List Nat) (x y:Nat),x<y->jJ (a++[x]) (a++[y])
 | [],_,_,h=>.inl h
 | _::as,x,y,h=>.inr ⟨rfl,V5 as x y h⟩
noncomputable def gv(w:Nat)(S:List Nat):Prop:=S.Pairwise (· < ·)/\∀x∈S,x<w
theorem V6:∀(S:List Nat) (lo w:Nat),S.Pairwise (· < ·)->(∀x∈S,lo<=x/\x<w)->S.length<=w-lo
 | [],_,_,_,_=>jM _
 | a::S,lo,w,hp,h=>by
  rw[BM]at hp
  have ih:=V6 S (a+1) w hp.2 λx hx=>⟨hp.1 x hx,(h x (dZ _ hx)).2⟩
  have ha:=h a (fU ..)
  rw[gK]
  omega
theorem gv.len{S:List Nat}{w:Nat}(h:gv w S):S.length<=w:=V6 S 0 w h.1 λx hx=>⟨jM _,h.2 x hx⟩
theorem gv.take{S:List Nat}{w:Nat}(h:gv w S)(k:Nat):gv w (S.take k):=⟨h.1.sublist (List.take_sublist k S),λx hx=>h.2 x (nJ hx)⟩
noncomputable def j8(w:Nat)(z:Cs × Nat):List Nat:=z.1.1++[w-z.1.2.length+z.2]
structure Lv(m:Bool × Nat)(C:Nat->Nat->Nat)(w k:Nat)(l:List Cs):Prop where
 gs:∀s∈l,Gs m C w s/\s.1.length=k
 all:∀S,gv w S->S.length=k->∃s∈l,s.1=S
 ord:(l.map (·.1)).Pairwise jJ
theorem wq{l:List Cs}{z:Cs × Nat}:z∈dU l↔z.1∈l/\z.2<z.1.2.length:=by
 unfold dU
 rw[List.mem_flatMap]
 constructor
 ·rintro⟨s,hs,hz⟩
  obtain⟨i,hi,rfl⟩:=bE.mp hz
  exact⟨hs,cL.mp hi⟩
 ·rintro⟨h1,h2⟩
  exact⟨z.1,h1,bE.mpr ⟨z.2,cL.mpr h2,rfl⟩⟩
section
variable{m:Bool × Nat}{C:Nat->Nat->Nat}{w:Nat}
theorem IS{k:Nat}:∀{l:List Cs},(∀s∈l,s.1.length=k)->(l.map (·.1)).Pairwise jJ->((dU l).map (j8 w)).Pairwise jJ
 | [],_,_=>Q9
 | s::l,hl,ho=>by
  rw[dz,BM]at ho
  show(((fG s)++dU l).map (j8 w)).Pairwise jJ
  rw[fM,BN]
  refine⟨?_,IS (λs hs=>hl s (dZ _ hs)) ho.2,λa ha b hb=>?_⟩
  ·unfold fG
   rw[cm]
   refine RF.mpr (c68.imp λ{a b} hab=>?_)
   exact V5 s.1 _ _ (show w-s.2.length+a<w-s.2.length+b by omega)
  ·obtain⟨z,hz,rfl⟩:=bE.mp ha
   obtain⟨i,_,rfl⟩:=bE.mp hz
   obtain⟨y,hy,rfl⟩:=bE.mp hb
   obtain⟨h1,_⟩:=wq.mp hy
   exact V4 _ _ _ _ (by rw[hl s (fU ..),hl _ (dZ _ h1)]) (ho.1 _ (bE.mpr ⟨_,h1,rfl⟩))
theorem Lv.meets(L:Lv m C w k l){S:List Nat}(hS:gv w S)(hk:S.length=k+1):∃z∈dU l,j8 w z=S:=by
 have e:S=S.take k++[S.getD k 0]:=by
  have h1:S.drop k=[S.getD k 0]:=by
   rw[List.drop_eq_getElem_cons (by omega),List.drop_of_length_le (by omega),aQ,aP (by omega)];rfl
  conv=>lhs;rw[<-RG k S,h1]
 obtain⟨s,hs,es⟩:=L.all _ (hS.take k) (by rw[gL];omega)
 obtain⟨G,_⟩:=L.gs s hs
 have hj:∀p∈s.1,p<S.getD k 0:=λp hp=>by
  rw[es]at hp
  have:=hS.1
  rw[e,BN]at this
  exact this.2.2 p hp _ (dP.mpr rfl)
 have h1:=G.nx _ hj
 have h2:=hS.2 (S.getD k 0) (dG (by omega) 0)
 have h3:=G.le
 refine⟨(s,S.getD k 0-(w-s.2.length)),wq.mpr ⟨hs,?_⟩,?_⟩
 ·show S.getD k 0-(w-s.2.length)<s.2.length
  omega
 ·show s.1++[w-s.2.length+(S.getD k 0-(w-s.2.length))]=S
  rw[show w-s.2.length+(S.getD k 0-(w-s.2.length))=S.getD k 0 by omega,es]
  exact e.symm
theorem Lv.next(hm:m∈aD)(hC:∀j k,C j k<aa m)(L:Lv m C w k l)(hn:∀z∈dU l,pI z=false):Lv m C w (k+1) ((dU l).map (jg m w)) where
 gs:=λs hs=>by
  obtain⟨z,hz,rfl⟩:=bE.mp hs
  obtain⟨h1,h2⟩:=wq.mp hz
  obtain⟨G,hl⟩:=L.gs _ h1
  refine⟨G.next hm h2 (hn z hz) hC,?_⟩
  show(z.1.1++[_]).length=_
  rw[dO,hl];rfl
 all:=λS hS hk=>by
  obtain⟨z,hz,e⟩:=L.meets hS hk
  exact⟨jg m w z,bE.mpr ⟨z,hz,rfl⟩,e⟩
 ord:=by
  rw[cm]
  exact IS (λs hs=>(L.gs s hs).2) L.ord
theorem IT(hm:m∈aD)(hC:∀j k,C j k<aa m):∀(f k:Nat) (l:List Cs),Lv m C w k l->w+1<=f+k ->
  match uO m w f l with
  | none=>∀S,gv w S->k<=S.length->pJ m C S
  | some F=>gv w F/\k<F.length/\(∃c:Nat->Nat,(∀t,c t<aa m)/\c (F.length-1)=1/\∀j,gG m C F c j=0)/\∀S,gv w S->k<=S.length->S.length<F.length\/(S.length=F.length/\jJ S F)->pJ m C S
 | 0,k,l,L,hf=>λS hS hk=>absurd hS.len (by omega)
 | f+1,k,l,L,hf=>by
  have here:∀S,gv w S->S.length=k->pJ m C S:=λS hS hk=>by
   obtain⟨s,hs,rfl⟩:=L.all S hS hk
   exact(L.gs s hs).1.ind
  rw[uO]
  by_cases l0:l=[]
  ·rw[if_pos l0]
   subst l0
   intro S hS hk
   obtain⟨s,hs,_⟩:=L.all (S.take k) (hS.take k) (by rw[gL];omega)
   cases hs
  ·rw[if_neg l0]
   cases e:(dU l).find? pI with
   | some z =>
    obtain⟨hz,as,bs,eL,rZ⟩:=c69.mp e
    obtain⟨h1,h2⟩:=wq.mp (Rm e)
    obtain⟨G,hl⟩:=L.gs _ h1
    have hle:=G.le
    have fl:(j8 w z).length=k+1:=by show(z.1.1++[_]).length=_;rw[dO,hl];rfl
    refine⟨⟨?_,λx hx=>?_⟩,by show k<(j8 w z).length;omega,?_,λS hS hk hc=>?_⟩
    ·refine BN.mpr ⟨G.inc,RE _ _,λx hx y hy=>?_⟩
     rw[dP.mp hy]
     have:=G.off x hx
     omega
    ·rcases cg.mp hx with q | q
     ·have:=G.off x q;omega
     ·rw[dP.mp q];omega
    ·obtain⟨c,c1,c2,c3⟩:=(G.bound hm h2 hC).mp hz
     refine⟨c,c1,?_,c3⟩
     show c ((j8 w z).length-1)=1
     rw[fl,Nat.add_sub_cancel,<- hl]
     exact c2
    ·by_cases ck:S.length=k
     ·exact here S hS ck
     have cl:S.length=k+1/\jJ S (j8 w z):=by
      rcases hc with q | ⟨q1,q2⟩
      ·exact absurd (show S.length<(j8 w z).length from q) (by omega)
      ·exact⟨(show S.length=(j8 w z).length from q1).trans fl,q2⟩
     obtain⟨y,hy,ey⟩:=L.meets hS cl.1
     obtain⟨y1,y2⟩:=wq.mp hy
     obtain⟨Gy,_⟩:=L.gs _ y1
     cases ny:pI y with
     | false =>
      have:=(Gy.next hm y2 ny hC).ind
      rwa [show(jg m w (y.1,y.2)).1=S from ey]at this
     | true =>
      exfalso
      have od:=IS (w:=w) (λs hs=>(L.gs s hs).2) L.ord
      rw[eL]at hy od
      rw[fM,dz,BN]at od
      have IU:=(BM.mp od.2.1).1
      rcases cg.mp hy with q | q
      ·have:=rZ y q
       rw[ny]at this;simp at this
      ·rcases cA.mp q with q | q
       ·rw[q]at ey
        rw[<-ey]at cl
        exact V2 _ cl.2
       ·have:=IU _ (bE.mpr ⟨y,q,rfl⟩)
        rw[ey]at this
        exact V3 _ _ this cl.2
   | none =>
    have hn:∀z∈dU l,pI z=false:=λz hz=>by
     have:=RB.mp e z hz
     simpa using this
    have ih:=IT hm hC f (k+1) _ (L.next hm hC hn) (by omega)
    dsimp only
    split
    ·rename_i e2
     rw[e2]at ih
     intro S hS hk
     by_cases ck:S.length=k
     ·exact here S hS ck
     ·exact ih S hS (by omega)
    ·rename_i F e2
     rw[e2]at ih
     obtain⟨i1,i2,i3,i4⟩:=ih
     refine⟨i1,by omega,i3,λS hS hk hc=>?_⟩
     by_cases ck:S.length=k
     ·exact here S hS ck
     ·exact i4 S hS (by omega) hc
end
end L3
namespace L3
open PySem L2 Mf
noncomputable def jh(T:List (List Nat))(j k:Nat):Nat:=cf (T.getD k []) j
theorem IV{m:Bool × Nat}(hm:m∈aD){w:Nat}{T:List (List Nat)}(hT:RT (aa m) w T)(j k:Nat):jh T j k<aa m:=by
 unfold jh
 by_cases hk:k<T.length
 ·exact bY hm (hT _ (dG hk [])).2 j
 ·have e:T.getD k []=[]:=by rw[aQ,fY (by omega)];rfl
  rw[e]
  have:=lo1 hm
  show 0<_
  omega
theorem Lv.start{m:Bool × Nat}(hm:m∈aD){T:List (List Nat)}(hw:0<ah T)(hT:RT (aa m) (ah T) T):Lv m (jh T) (ah T) 0 [([],cK T)]:=by
 have r:=rg hm
 obtain⟨t1,t2,t3⟩:=wk (Fp RH (lo1 hm)) hw hT
 refine⟨λs hs=>?_,λS _ h=>⟨_,dP.mpr rfl,(c70.mp h).symm⟩,RE _ _⟩
 rw[dP.mp hs]
 refine⟨⟨Bw t1,Q9,λp hp=>absurd hp (ij),λj _=>by show ah T-(cK T).length<=j;omega,⟨_,t3⟩,λa ha=>?_,λc _ _ t ht=>absurd ht (by show ¬ t<0;omega)⟩,rfl⟩
 have e:∀k,sm (gp m) (cK T).length (λi=>gm m (a i) (cf ((cK T).getD i []) k))=sm (gp m) (cK T).length λi=>gm m (a i) (jh T (ah T-(cK T).length+i) k):=λk=>cw λi hi=>by
  rw[Dw (by omega),VP,show ah T-(cK T).length+i=i by omega];rfl
 have z:∀c k,gG m (jh T) [] c k=0:=λ_ _=>rfl
 constructor
 ·intro h
  refine⟨λ_=>0,λ_=>by have:=lo1 hm;show 0<_;omega,λk=>?_⟩
  rw[z,uH (kG r λ_ _=>cj hm _ _),<- e k]
  exact h k
 ·rintro⟨c,_,h⟩ k
  have:=h k
  rw[z,uH (kG r λ_ _=>cj hm _ _),<- e k]at this
  exact this
noncomputable def lR(m:Bool × Nat)(T:List (List Nat)):Option (List Nat):=uO m (ah T) (ah T+1) [([],cK T)]
section
variable{m:Bool × Nat}{C:Nat->Nat->Nat}
end
noncomputable def ji(T:List (List Nat))(F:List Nat):List (List Nat):=T.map λr=>F.map λj=>r.getD j 0
theorem V7{N w:Nat}{T:List (List Nat)}{F:List Nat}(h0:0<N)(hT:RT N w T):RT N F.length (ji T F)/\(ji T F).length=T.length:=by
 refine⟨λx hx=>?_,by unfold ji;rw[bB]⟩
 obtain⟨r,hr,rfl⟩:=bE.mp hx
 refine⟨by rw[bB],λy hy=>?_⟩
 obtain⟨j,_,rfl⟩:=bE.mp hy
 exact(hT r hr).2.getD h0 j
theorem V8{T:List (List Nat)}{F:List Nat}{k t:Nat}(hk:k<T.length)(ht:t<F.length):cf ((ji T F).getD k []) t=jh T (F.getD t 0) k:=by
 unfold ji jh cf
 rw[uN _ hk [] [],uN _ ht 0 0]
theorem ch2{o:Bool}{G:List (List Nat)}{i:Nat}{d:D}(hd:(aH o G)[i]?=some d):∃hi:i<G.length,d=.lst o (aq G[i]):=by
 unfold aH at hd
 rw[bQ]at hd
 by_cases hi:i<G.length
 ·rw[aP hi]at hd
  exact⟨hi,(cX hd).symm⟩
 ·rw[fY (by omega)]at hd;cases hd
end L3
namespace L3
open PySem L2 PySem.Spec PyProof.Rows
section
variable{B:Bs}{F H:Hp}{σ:L2.St}{δ:Dl}{ts:List (D × V)}
end
section
variable{X:Cx}{a:Expr}{ta:aY}{pos p2:Pos}{tk:Nat}
end
end L3
namespace L3
open PySem L2 PySem.Spec PyProof.Rows
section
variable{X:Cx}{a b:Expr}{ta tb:aY}{elts:List Expr}{x1:Nat}{tu p pos:Pos}
end
end L3
namespace L3
open PySem L2 Mf
section
variable{m:Bool × Nat}
theorem cx0(hm:m∈aD){T:List (List Nat)}(hw:0<ah T)(hT:RT (aa m) (ah T) T)(h:lR m T=none):∀S,gv (ah T) S->pJ m (jh T) S:=by
 have:=IT hm (IV hm hT) (ah T+1) 0 _ (Lv.start hm hw hT) (by omega)
 unfold lR at h
 rw[h]at this
 exact λS hS=>this S hS (jM _)
theorem cx8(hm:m∈aD){T:List (List Nat)}(hw:0<ah T)(hT:RT (aa m) (ah T) T){F:List Nat}(h:lR m T=some F):gv (ah T) F/\0<F.length/\(∃c:Nat->Nat,(∀t,c t<aa m)/\c (F.length-1)=1/\∀j,gG m (jh T) F c j=0)/\∀S,gv (ah T) S->S.length<F.length\/(S.length=F.length/\jJ S F)->pJ m (jh T) S:=by
 have:=IT hm (IV hm hT) (ah T+1) 0 _ (Lv.start hm hw hT) (by omega)
 unfold lR at h
 rw[h]at this
 obtain⟨a,b,c,d⟩:=this
 exact⟨a,b,c,λS hS=>d S hS (jM _)⟩
end
end L3
namespace L2
open PySem PySem.Spec PyProof.Rows
section
variable{X:Cx}
end
end L2
namespace L3
open PySem L2 PySem.Spec PyProof.Rows
section
variable{X:Cx}{o e:Expr}{t tb:aY}{apos cB:Pos}
end
section
variable{X:Cx}{i:Nat}{x:Str}{p pos apos cB dC9 Ap:Pos}{a b:List Stmt}{t u:cZ}{k:Int}{j}
end
end L3
namespace L3
open PySem L2 Mf
section
variable{N:Nat}{p q:Nat->Nat->Nat}
variable{ng:Nat->Nat}{c:Nat}
end
section
variable{m:Bool × Nat}
end
end L3
namespace L2
open PySem PySem.Spec PyProof.Rows
section
variable{prog:Program}{w:World}{A:Around}{E:Value->Shared->Prop}{s:Shared}
end
section
variable{X:Cx}{e:Expr}{ta:TA}{p p2 pos Ap:Pos}
end
end L2
namespace L3
open PySem L2 PySem.Spec PyProof.Rows
section
variable{X:Cx}{e:Expr}{tr:cY}{p p2 pos Ap:Pos}
end
end L3
namespace L3
open PySem L2 Mf
section
variable{m:Bool × Nat}
theorem IW{N:Nat}{p q:Nat->Nat->Nat}(r:Rg N p q){f:Nat->Nat}(hf:∀j,f j<N){n a:Nat}(ha:a<n):sm p n f=p (f a) (sm p n λj=>if j=a then 0 else f j):=by
 rw[cw (g:=λj=>p (if j=a then f a else 0) (if j=a then 0 else f j)) λj _=>?_,mY r,Am r (f:=λj=>if j=a then f a else 0) (j0:=a) (by simp[hf]) ha λj _ hj=>if_neg hj]
 ·simp
 ·by_cases c:j=a
  ·subst c;simp[r.z' (hf j)]
  ·simp[c,r.z (hf j)]
theorem DA{N:Nat}{p q:Nat->Nat->Nat}(r:Rg N p q){n:Nat}:∀{ps:List Nat} {f:Nat->Nat},(∀j,f j<N)->ps.Nodup->(∀a∈ps,a<n)->(∀j,j<n->j ∉ ps->f j=0)->sm p n f=sm p ps.length λk=>f (ps.getD k 0)
 | [],f,_,_,_,hz=>g7 r λj hj=>hz j hj ij
 | a::ps,f,hf,nd,hp,hz=>by
  obtain⟨n1,n2⟩:=jm.mp nd
  have IB:∀j,(if j=a then 0 else f j)<N:=λj=>by
   by_cases c:j=a
   ·rw[if_pos c];exact r.pos
   ·rw[if_neg c];exact hf j
  rw[IW r hf (hp a fU),DA r (ps:=ps) IB n2 (λb hb=>hp b (dZ _ hb)) λj hj hn=>?_,gK,cl5 r _ λj _=>hf _]
  ·show _=p (f a) (sm p ps.length λk=>f (ps.getD k 0))
   congr 1
   refine cw λj hj=>?_
   have:=dG hj 0
   exact if_neg λ(z:ps.getD j 0=a)=>n1 (z ▸ this)
  ·by_cases c:j=a
   ·exact if_pos c
   ·rw[if_neg c]
    exact hz j hj λh=>by
     rcases cA.mp h with h | h
     ·exact c h
     ·exact hn h
noncomputable def eU(m:Bool × Nat):List Nat->List Nat->List Nat->List Nat
 | l,p::ps,x::xs=>eU m (l.set p (bG m (cf l p) x)) ps xs
 | l,[],_=>l
 | l,_::_,[]=>l
theorem V9(hm:m∈aD):∀{ps xs l:List Nat},AllLt (aa m) l->AllLt (aa m) xs->ps.Nodup->(∀p∈ps,p<l.length)->xs.length=ps.length->AllLt (aa m) (eU m l ps xs)/\(eU m l ps xs).length=l.length/\(∀j,j ∉ ps->cf (eU m l ps xs) j=cf l j)/\∀k,k<ps.length->cf (eU m l ps xs) (ps.getD k 0)=bG m (cf l (ps.getD k 0)) (cf xs k)
 | [],xs,l,hl,_,_,_,_=>⟨by unfold eU;exact hl,by unfold eU;rfl,λ_ _=>by unfold eU;rfl,λk hk=>absurd hk (FL k)⟩
 | p::ps,[],l,_,_,_,_,h=>by cases h
 | p::ps,x::xs,l,hl,hx,nd,hp,h=>by
  obtain⟨n1,n2⟩:=jm.mp nd
  have bU:=hp p fU
  have g:=(fE hm (bY hm hl p) (hx x fU)).2.1
  have qi:AllLt (aa m) (l.set p (bG m (cf l p) x)):=λa ha=>by
   rcases yG ha with h1 | rfl
   ·exact hl a h1
   ·exact g
  obtain⟨t1,t2,t3,t4⟩:=V9 hm (ps:=ps) (xs:=xs) qi (λa ha=>hx a (dZ _ ha)) n2 (λq hq=>by rw[nB];exact hp q (dZ _ hq)) (by simpa using h)
  rw[show eU m l (p::ps) (x::xs)=eU m (l.set p (bG m (cf l p) x)) ps xs from by rw[eU]]
  refine⟨t1,by rw[t2,nB],λj hj=>?_,λk hk=>?_⟩
  ·have Wa:¬ (j=p\/j∈ps):=λz=>hj (cA.mpr z)
   rw[t3 j λz=>Wa (.inr z),IK bU,if_neg λz=>Wa (.inl z)]
  ·cases k with
   | zero =>
    show cf _ p=bG m (cf l p) x
    rw[t3 p n1,IK bU,if_pos rfl]
   | succ k =>
    have Ai:k<ps.length:=by simpa using hk
    show cf _ (ps.getD k 0)=bG m (cf l (ps.getD k 0)) (cf xs k)
    rw[t4 k Ai,IK bU,if_neg λz:ps.getD k 0=p=>n1 (z ▸ dG Ai 0)]
noncomputable def de(y:List (Option Nat)):List Nat:=y.map λs=>s.getD 0
noncomputable def bD(y:List (Option Nat)):List Nat:=(bg y.length).filter λj=>decide (y[j]?=some none)
noncomputable def lU(y:List (Option Nat))(c:List Nat):List Nat:=(bg y.length).filter λj=>decide (j ∉ bD y/\cf (de y) j≠cf c j)
theorem IY(y:List (Option Nat)):(bD y).Nodup/\∀p∈bD y,p<y.length:=⟨FN.filter _,λp hp=>cL.mp (nt.mp hp).1⟩
theorem DB{y:List (Option Nat)}{c:List Nat}{j:Nat}:j∈lU y c↔j<y.length/\j ∉ bD y/\cf (de y) j≠cf c j:=by
 unfold lU
 rw[nt,cL,decide_eq_true_iff]
theorem Aq(hm:m∈aD){y:List (Option Nat)}(hy:∀a,some a∈y->a<aa m):AllLt (aa m) (de y):=λa ha=>by
 obtain⟨s,h1,rfl⟩:=bE.mp ha
 cases s with
 | none=>exact Fp RH (lo1 hm)
 | some a=>exact hy a h1
theorem cE8(hm:m∈aD){a b:Nat}(ha:a<aa m)(hb:b<aa m)(h:a≠b):bG m a b≠0:=λz=>by
 have g:=(fE hm ha hb).2.2
 rw[z,wa hb]at g
 exact h g.symm
theorem cz3(hm:m∈aD){a x:Nat}(ha:a<aa m)(hx:x<aa m):bG m a (bG m a x)=x:=by
 have g:=fE hm ha hx
 have k:=fE hm ha g.2.1
 refine(rg hm).Ac k.2.1 hx g.2.1 (k.2.2.trans ?_)
 rw[j6]
 exact g.2.2.symm
theorem IZ(y:List (Option Nat)):(de y).length=y.length:=by unfold de;rw[bB]
section
variable{b e L o:Nat}{y:List (Option Nat)}{w c:List Nat}{bb:Nat->Nat}
end
end
noncomputable def iE:Option Nat->D
 | none=>.az
 | some a=>.int (a:Int)
noncomputable def df(y:List (Option Nat)):List D:=y.map iE
theorem Wb(a:Option Nat):(iE a).sh=iE a:=by cases a<;>rfl
theorem cx1:∀a b:Option Nat,iE a=iE b->a=b
 | none,none,_=>rfl
 | some a,some b,h=>by
  have:(D.int (a:Int))=D.int (b:Int):=h
  injection this with h
  rw[show a=b by omega]
 | none,some _,h=>by cases h
 | some _,none,h=>by cases h
theorem uP(y:List (Option Nat)):(df y).map D.sh=df y:=by
 unfold df;rw[cm];exact qa λa _=>Wb a
theorem I0(y:List (Option Nat)):(df y).all D.pl=true:=by
 unfold df;rw[mh];exact dw.mpr λa _=>by cases a<;>rfl
theorem Ja(y:List (Option Nat)):(df y).length=y.length:=bB ..
theorem uQ{y:List (Option Nat)}{i:Nat}(hi:i<y.length):y[i]?=some (y.getD i none):=by
 rw[aQ,aP hi];rfl
theorem ce9(y:List (Option Nat)):(gu (df y)).map D.sh=(bg y.length).map λ(i:Nat)=>D.tup [.int (i:Int),iE (y.getD i none)]:=by
 apply FC
 intro i
 unfold gu df
 rw[bQ,BH,bQ,bQ]
 by_cases hi:i<y.length
 ·rw[kL hi,uQ hi]
  show some (D.tup [D.int (i:Int),iE (y.getD i none)]).sh=some (D.tup [D.int (i:Int),iE (y.getD i none)])
  rw[jU]
  simp only[dz,jN,gB,Wb]
 ·rw[fY (show y.length<=i by omega),fY (show(bg y.length).length<=i by simpa using hi)];rfl
end L3
namespace L3
open PySem L2 Mf
section
variable{m:Bool × Nat}
theorem Jb:∀{l l':List Nat},l.Nodup->(∀a∈l,a∈l')->l.length<=l'.length
 | [],_,_,_=>jM _
 | a::l,l',nd,h=>by
  obtain⟨n1,n2⟩:=jm.mp nd
  have ha:=h a fU
  have:=Jb (l:=l) (l':=l'.erase a) n2 λb hb=>(c71 (λz:b=a=>n1 (z ▸ hb))).mpr (h b (dZ _ hb))
  rw[c72 ha]at this
  have:=List.length_pos_of_mem ha
  rw[gK]
  omega
theorem cy1{y:List (Option Nat)}{j:Nat}(hj:j<y.length):j∈bD y↔y.getD j none=none:=by
 unfold bD
 rw[nt,cL,decide_eq_true_iff,uQ hj]
 exact⟨λh=>cX h.2,λh=>⟨hj,congrArg some h⟩⟩
theorem Wc{y:List (Option Nat)}{j:Nat}:cf (de y) j=(y.getD j none).getD 0:=by
 unfold de cf
 rw[aQ,bQ,aQ]
 cases y[j]?<;>rfl
theorem b70{α:Type}(f:Nat->α){w k:Nat}(h:k<w)(a:α):((bg w).map f).getD k a=f k:=by
 rw[aQ,bQ,kL h];rfl
theorem Wd{y:List (Option Nat)}{N:Nat}(hy:∀a,some a∈y->a<N)(j a:Nat)(h:y.getD j none=some a):a<N:=by
 by_cases c:j<y.length
 ·exact hy a (h ▸ dG c none)
 ·rw[aQ,fY (by omega)]at h;cases h
theorem cB2{w:List Nat}{k:Nat}(h:k<w.length):(w.map some).getD k none=some (cf w k):=by
 unfold cf
 rw[uN some h 0 none]
end
end L3
namespace L3
open PySem L2 Mf
section
variable{m:Bool × Nat}
end
end L3
namespace L3
open PySem L2 Mf
section
variable{m:Bool × Nat}
noncomputable def p1(m:Bool × Nat)(c o:List Nat):List Nat:=(cy m c [o]).headD []
theorem Jc(m:Bool × Nat)(c:List Nat)(os:List (List Nat)):cy m c os=os.map (p1 m c):=rfl
theorem wu(hm:m∈aD){c d:List Nat}{h:Nat}(hc:c.length=h)(hd:d.length=h)(ad:AllLt (aa m) d)(nc:nul c=false):(p1 m c d).length=h-1/\AllLt (aa m) (p1 m c d) :=
 wo hm hc (os:=[d]) (λx hx=>by rw[dP.mp hx];exact⟨hd,ad⟩) nc _ (by rw[Jc];exact dP.mpr rfl)
noncomputable def Rel(m:Bool × Nat)(cs:List (List Nat))(a:Nat->Nat):Prop:=∀k,sm (gp m) cs.length (λj=>gm m (a j) (cf (cs.getD j []) k))=0
noncomputable def hE(m:Bool × Nat)(cs:List (List Nat))(d:List Nat)(a:Nat->Nat):Prop:=∀k,gp m (sm (gp m) cs.length λj=>gm m (a j) (cf (cs.getD j []) k)) (cf d k)=0
theorem b78(F:List (List Nat))(x:List Nat){j:Nat}(h:j<F.length):(F++[x]).getD j []=F.getD j []:=by
 rw[aQ,sE h,aQ]
theorem We(F:List (List Nat))(x:List Nat):(F++[x]).getD F.length []=x:=by
 rw[aQ,sD (bN _),FJ];rfl
theorem DC(hm:m∈aD){F:List (List Nat)}{x:List Nat}(hx:AllLt (aa m) x){a:Nat->Nat}(h1:a F.length=1)(k:Nat):sm (gp m) (F++[x]).length (λj=>gm m (a j) (cf ((F++[x]).getD j []) k))=gp m (sm (gp m) F.length λj=>gm m (a j) (cf (F.getD j []) k)) (cf x k):=by
 rw[dO,Fl,sm,We,h1,j4 (bY hm hx k)]
 congr 1
 exact cw λj hj=>by rw[b78 F x hj]
theorem cz7(hm:m∈aD){F:List (List Nat)}{x:List Nat}(hx:AllLt (aa m) x){a:Nat->Nat}(h1:a F.length=1):Rel m (F++[x]) a↔hE m F x a:=by
 unfold Rel hE
 exact⟨λh k=>by rw[<-DC hm hx h1];exact h k,λh k=>by rw[DC hm hx h1];exact h k⟩
theorem Wf(hm:m∈aD){c d:List Nat}{cs:List (List Nat)}{h:Nat}(hc:c.length=h)(ac:AllLt (aa m) c)(e8:RT (aa m) h cs)(hd:d.length=h)(ad:AllLt (aa m) d)(nc:nul c=false){a:Nat->Nat}(ha:∀i,a i<aa m) :
  hE m (cy m c cs) (p1 m c d) a↔∃e,e<aa m/\∀k,gp m (gp m (sm (gp m) cs.length λj=>gm m (a j) (cf (cs.getD j []) k)) (cf d k)) (gm m e (cf c k))=0:=by
 have dJ:=lo1 hm
 have r:=Dy hm hc ac (os:=cs++[d]) (e8.app λx hx=>by rw[dP.mp hx];exact⟨hd,ad⟩) nc (a:=λj=>if j=cs.length then 1 else a j) λi=>by
  show(if i=cs.length then 1 else a i)<_
  split
  ·omega
  ·exact ha i
 have e1:cy m c (cs++[d])=cy m c cs++[p1 m c d]:=by rw[Jc,fM];rfl
 have pl:=rX m c cs
 have pa:=(wu hm hc hd ad nc).2
 have ce:∀(F:List (List Nat)),F.length=cs.length->∀k,(sm (gp m) F.length λj=>gm m (if j=cs.length then 1 else a j) (cf (F.getD j []) k))=sm (gp m) F.length λj=>gm m (a j) (cf (F.getD j []) k):=λF hF k=>cw λj hj=>by rw[if_neg (by omega)]
 have s1:∀k,sm (gp m) (cs++[d]).length (λj=>gm m (if j=cs.length then 1 else a j) (cf ((cy m c (cs++[d])).getD j []) k))=gp m (sm (gp m) (cy m c cs).length λj=>gm m (a j) (cf ((cy m c cs).getD j []) k)) (cf (p1 m c d) k):=λk=>by
  have:=DC hm (F:=cy m c cs) pa (a:=λj=>if j=cs.length then 1 else a j) (by rw[pl];exact if_pos rfl) k
  rw[ce _ pl,<- e1]at this
  rw[<-this,rX]
 have s2:∀k,sm (gp m) (cs++[d]).length (λj=>gm m (if j=cs.length then 1 else a j) (cf ((cs++[d]).getD j []) k))=gp m (sm (gp m) cs.length λj=>gm m (a j) (cf (cs.getD j []) k)) (cf d k):=λk=>by
  have:=DC hm (F:=cs) ad (a:=λj=>if j=cs.length then 1 else a j) (if_pos rfl) k
  rw[ce _ rfl]at this
  exact this
 simp only[s1,s2]at r
 exact r
theorem Jd(hm:m∈aD){cs:List (List Nat)}{d:List Nat}(ad:AllLt (aa m) d){a:Nat->Nat}(h:∀j,j<cs.length->∀k,gm m (a j) (cf (cs.getD j []) k)=0):hE m cs d a↔nul d=true:=by
 unfold hE
 rw[wm]
 have e:∀k,gp m (sm (gp m) cs.length λj=>gm m (a j) (cf (cs.getD j []) k)) (cf d k)=cf d k:=λk=>by
  rw[g7 (rg hm) λj hj=>h j hj k,wa (bY hm ad k)]
 exact⟨λz k=>by rw[<-e k];exact z k,λz k=>by rw[e k];exact z k⟩
noncomputable def fH(m:Bool × Nat):Nat->List (List Nat)->List Nat->Option (List Nat)
 | 0,_,d=>if nul d=true then some []else none
 | n+1,cs,d=>if nul d=true then some []else(bg cs.length).findSome? λi=>if nul (cs.getD i [])=true then none else(fH m n (cy m (cs.getD i []) (cs.drop (i+1))) (p1 m (cs.getD i []) d)).map λS=>i::S.map (i+1 + ·)
theorem ca0(cs:List (List Nat))(i j:Nat):(cs.drop i).getD j []=cs.getD (i+j) []:=by
 rw[aQ,FD,aQ]
theorem RT.at{N h:Nat}{cs:List (List Nat)}(r:RT N h cs){i:Nat}(hi:i<cs.length):(cs.getD i []).length=h/\AllLt N (cs.getD i []):=by
 rw[aQ,aP hi]
 exact r _ (cM hi)
theorem RT.drop{N h:Nat}{cs:List (List Nat)}(r:RT N h cs)(i:Nat):RT N h (cs.drop i):=λx hx=>r x (nI hx)
theorem Wg(hm:m∈aD){cs:List (List Nat)}{i:Nat}(hi:i<cs.length)(a':Nat->Nat)(e k:Nat):sm (gp m) cs.length (λj=>gm m (if j<i then 0 else if j=i then e else a' (j-i-1)) (cf (cs.getD j []) k))=gp m (sm (gp m) (cs.drop (i+1)).length λj=>gm m (a' j) (cf ((cs.drop (i+1)).getD j []) k)) (gm m e (cf (cs.getD i []) k)):=by
 rw[pK hm hi a' λj=>cf (cs.getD j []) k,iH,Nat.sub_sub]
 congr 1
 exact cw λj _=>by rw[ca0]
theorem Je(hm:m∈aD){x y z:Nat}:gp m (gp m x y) z=gp m (gp m x z) y:=by
 haveI:Std.Commutative (gp m):=⟨j6 m⟩
 haveI:Std.Associative (gp m):=⟨(rg hm).pa⟩
 ac_rfl
theorem Jf(hm:m∈aD):∀{n h:Nat} {cs:List (List Nat)} {d S:List Nat},RT (aa m) h cs->d.length=h->AllLt (aa m) d->fH m n cs d=some S ->
  S.length<=n/\S.Pairwise (· < ·)/\(∀j∈S,j<cs.length)/\∃a:Nat->Nat,(∀j,a j<aa m)/\(∀j,a j≠0->j∈S)/\hE m cs d a:=by
 have h0:=bX m hm
 have dJ:=lo1 hm
 intro n
 have base:∀{cs:List (List Nat)} {d:List Nat},AllLt (aa m) d->nul d=true->([]:List Nat).Pairwise (· < ·)/\(∀j∈([]:List Nat),j<cs.length)/\∃a:Nat->Nat,(∀j,a j<aa m)/\(∀j,a j≠0->j∈([]:List Nat))/\hE m cs d a:=λ{cs d} ad nd =>
  ⟨.nil,λj hj=>(by cases hj),λ_=>0,λ_=>Fp RH dJ,λj hj=>absurd rfl hj,(Jd hm ad λj _ k=>fm m _ h0).mpr nd⟩
 induction n with
 | zero =>
  intro h cs d S e8 hd ad e
  unfold fH at e
  split at e
  ·cases e;exact⟨bN _,base ad (by assumption)⟩
  ·cases e
 | succ n ih =>
  intro h cs d S e8 hd ad e
  unfold fH at e
  split at e
  ·cases e;exact⟨jM _,base ad (by assumption)⟩
  ·obtain⟨i,hi,e⟩:=List.exists_of_findSome?_eq_some e
   have hi:=cL.mp hi
   split at e
   ·cases e
   ·rename_i nc
    have nc:nul (cs.getD i [])=false:=by simpa using nc
    obtain⟨S',e',rfl⟩:=sQ.mp e
    obtain⟨c1,c2⟩:=e8.at hi
    have rY:=e8.drop (i+1)
    obtain⟨s1,s2,s3,a',a1,a2,a3⟩:=ih (wo hm c1 rY nc) (wu hm c1 hd ad nc).1 (wu hm c1 hd ad nc).2 e'
    rw[rX,iH]at s3
    obtain⟨x,hx,ex⟩:=(Wf hm c1 c2 rY hd ad nc a1).mp a3
    refine⟨by rw[gK,bB];omega,?_,?_,λj=>if j<i then 0 else if j=i then x else a' (j-i-1),?_,?_,?_⟩
    ·refine BM.mpr ⟨λb hb=>?_,RF.mpr (s2.imp λh=>by omega)⟩
     obtain⟨y,_,rfl⟩:=bE.mp hb
     omega
    ·intro j hj
     rcases cA.mp hj with rfl | hj
     ·exact hi
     ·obtain⟨y,hy,rfl⟩:=bE.mp hj
      have:=s3 y hy
      omega
    ·intro j
     show(if j<i then 0 else if j=i then x else a' (j-i-1))<_
     split
     ·omega
     ·split
      ·exact hx
      ·exact a1 _
    ·intro j hj
     change (if j<i then 0 else if j=i then x else a' (j-i-1))≠0 at hj
     by_cases c:j<i
     ·rw[if_pos c]at hj;exact absurd rfl hj
     ·rw[if_neg c]at hj
      by_cases c':j=i
      ·exact c' ▸ fU
      ·rw[if_neg c']at hj
       exact dZ _ (bE.mpr ⟨j-i-1,a2 _ hj,by omega⟩)
    ·intro k
     rw[Wg hm hi a' x k,Je hm]
     exact ex k
theorem cJ8{P:Nat->Prop}:∀j,P j->∃i,P i/\∀j,j<i->¬ P j:=by
 intro j
 induction j using BF with
 | ind j ih =>
  intro h
  by_cases c:∃i,i<j/\P i
  ·obtain⟨i,h1,h2⟩:=c
   exact ih i h1 h2
  ·exact⟨j,h,λi hi z=>c ⟨i,hi,z⟩⟩
theorem cm0(hm:m∈aD):∀{n h:Nat} {cs:List (List Nat)} {d:List Nat},RT (aa m) h cs->d.length=h->AllLt (aa m) d->fH m n cs d=none ->
  ∀(S:List Nat) (a:Nat->Nat),S.length<=n->(∀j,a j<aa m)->(∀j,j<cs.length->a j≠0->j∈S)->¬ hE m cs d a:=by
 have h0:=bX m hm
 intro n
 induction n with
 | zero =>
  intro h cs d e8 hd ad e S a hS ha hs R
  unfold fH at e
  split at e
  ·cases e
  ·rename_i nd
   refine nd ((Jd hm ad λj hj k=>?_).mp R)
   have aj:a j=0:=yN λz=>by
    have:=hs j hj z
    rw[c70.mp (Nat.le_zero.mp hS)]at this
    cases this
   rw[aj,fm m _ h0]
 | succ n ih =>
  intro h cs d e8 hd ad e S a hS ha hs R
  unfold fH at e
  split at e
  ·cases e
  ·rename_i nd
   by_cases c:∃j,j<cs.length/\a j≠0/\nul (cs.getD j [])=false
   ·obtain⟨j,hj⟩:=c
    obtain⟨i,⟨hi,ai,nc⟩,dR9⟩:=cJ8 (P:=λj=>j<cs.length/\a j≠0/\nul (cs.getD j [])=false) j hj
    have f:=c73.mp e i (cL.mpr hi)
    rw[if_neg (by rw[nc];exact fW),c74]at f
    obtain⟨c1,c2⟩:=e8.at hi
    have rY:=e8.drop (i+1)
    have mi:=hs i hi ai
    refine ih (wo hm c1 rY nc) (wu hm c1 hd ad nc).1 (wu hm c1 hd ad nc).2 f ((S.erase i).map (· - i-1)) (λj=>a (i+1+j)) ?_ (λj=>ha _) ?_ ?_
    ·rw[bB,c72 mi];omega
    ·intro j hj aj
     rw[rX,iH]at hj
     have:=hs (i+1+j) (by omega) aj
     exact bE.mpr ⟨i+1+j,(c71 (by omega)).mpr this,by omega⟩
    ·refine(Wf hm c1 c2 rY hd ad nc λj=>ha _).mpr ⟨a i,ha i,λk=>?_⟩
     rw[Je hm,<- Wg hm hi (λj=>a (i+1+j)) (a i) k]
     refine sS ?_ (R k)
     congr 1
     refine cw λj hj=>?_
     by_cases c:j<i
     ·rw[if_pos c,fm m _ h0]
      have hn:=dR9 j c
      by_cases z:a j=0
      ·rw[z,fm m _ h0]
      ·have nz:nul (cs.getD j [])=true:=by
        cases e:nul (cs.getD j [])with
        | true=>rfl
        | false=>exact absurd ⟨hj,z,e⟩ hn
       rw[wm.mp nz k,gi m _ h0]
     ·rw[if_neg c]
      by_cases c':j=i
      ·rw[if_pos c',c']
      ·rw[if_neg c',show i+1+(j-i-1)=j by omega]
   ·refine nd ((Jd hm ad λj hj k=>?_).mp R)
    by_cases z:a j=0
    ·rw[z,fm m _ h0]
    ·have nz:nul (cs.getD j [])=true:=by
      cases e:nul (cs.getD j [])with
      | true=>rfl
      | false=>exact absurd ⟨j,hj,z,e⟩ c
     rw[wm.mp nz k,gi m _ h0]
noncomputable def jj(m:Bool × Nat):List (List Nat)->List Nat->List (List Nat)
 | cs,[]=>cs
 | cs,p::ps=>jj m (if nul (cs.getD p [])=true then cs else cy m (cs.getD p []) cs) ps
theorem Wh(hm:m∈aD){n p:Nat}(hp:p<n)(b X:Nat->Nat)(e:Nat):sm (gp m) n (λj=>gm m (if j=p then gp m (b p) e else b j) (X j))=gp m (sm (gp m) n λj=>gm m (b j) (X j)) (gm m e (X p)):=by
 have r:=rg hm
 have h0:=bX m hm
 rw[IW r (f:=λj=>gm m (if j=p then gp m (b p) e else b j) (X j)) (λ_=>cj hm _ _) hp,IW r (f:=λj=>gm m (b j) (X j)) (λ_=>cj hm _ _) hp,if_pos rfl,Dg h0]
 rw[show(λj=>if j=p then 0 else gm m (if j=p then gp m (b p) e else b j) (X j))=λj=>if j=p then 0 else gm m (b j) (X j) from funext λj=>by
  by_cases c:j=p
  ·rw[if_pos c,if_pos c]
  ·rw[if_neg c,if_neg c,if_neg c]]
 exact Je hm
theorem Wi(hm:m∈aD):∀{ps:List Nat} {cs:List (List Nat)} {h:Nat},RT (aa m) h cs->(∀p∈ps,p<cs.length)->(jj m cs ps).length=cs.length/\(∃h',h'<=h/\RT (aa m) h' (jj m cs ps)) /\
  ∀a:Nat->Nat,(∀j,a j<aa m)->(Rel m (jj m cs ps) a↔∃b:Nat->Nat,(∀j,b j<aa m)/\(∀j,j ∉ ps->b j=a j)/\Rel m cs b):=by
 have h0:=bX m hm
 intro ps
 induction ps with
 | nil =>
  intro cs h e8 _
  refine⟨rfl,⟨h,bN _,e8⟩,λa ha=>⟨λz=>⟨a,ha,λ_ _=>rfl,z⟩,λ⟨b,_,b2,b3⟩=>?_⟩⟩
  rw[show b=a from funext λj=>b2 j (by simp)]at b3
  exact b3
 | cons p ps ih =>
  intro cs h e8 hp
  have lj:=hp p fU
  have Wj:=λq hq=>hp q (dZ p hq)
  unfold jj
  by_cases c:nul (cs.getD p [])=true
  ·rw[if_pos c]
   obtain⟨i1,i2,i3⟩:=ih e8 Wj
   refine⟨i1,i2,λa ha=>(i3 a ha).trans ⟨λ⟨b,b1,b2,b3⟩=>⟨b,b1,λj hj=>b2 j λz=>hj (dZ _ z),b3⟩,λ⟨b,b1,b2,b3⟩=>⟨λj=>if j=p then a p else b j,λj=>?_,λj hj=>?_,λk=>?_⟩⟩⟩
   ·show(if j=p then a p else b j)<_
    split
    ·exact ha p
    ·exact b1 j
   ·show(if j=p then a p else b j)=a j
    by_cases z:j=p
    ·rw[if_pos z,z]
    ·rw[if_neg z];exact b2 j λq=>(cA.mp q).elim z hj
   ·refine sS ?_ (b3 k)
    refine cw λj _=>?_
    dsimp only
    by_cases z:j=p
    ·rw[z,wm.mp c k,gi m _ h0,gi m _ h0]
    ·rw[if_neg z]
  ·rw[if_neg c]
   have nc:nul (cs.getD p [])=false:=by simpa using c
   obtain⟨c1,c2⟩:=e8.at lj
   have pl:=rX m (cs.getD p []) cs
   obtain⟨i1,⟨h',i2,i2'⟩,i3⟩:=ih (wo hm c1 e8 nc) (λq hq=>by rw[pl];exact Wj q hq)
   refine⟨i1.trans pl,⟨h',by omega,i2'⟩,λa ha=>(i3 a ha).trans ⟨λ⟨b,b1,b2,b3⟩=>?_,λ⟨b,b1,b2,b3⟩=>?_⟩⟩
   ·unfold Rel at b3
    rw[pl]at b3
    obtain⟨e,he,ez⟩:=(Dy hm c1 c2 e8 nc b1).mp b3
    refine⟨λj=>if j=p then gp m (b p) e else b j,λj=>?_,λj hj=>?_,λk=>?_⟩
    ·show(if j=p then gp m (b p) e else b j)<_
     split
     ·exact v9 hm (b1 p) he
     ·exact b1 j
    ·show(if j=p then gp m (b p) e else b j)=a j
     rw[if_neg λ(z:j=p)=>hj (z ▸ fU)]
     exact b2 j λz=>hj (dZ _ z)
    ·rw[Wh hm lj b (λj=>cf (cs.getD j []) k) e]
     exact ez k
   ·refine⟨λj=>if j=p then a p else b j,λj=>?_,λj hj=>?_,?_⟩
    ·show(if j=p then a p else b j)<_
     split
     ·exact ha p
     ·exact b1 j
    ·show(if j=p then a p else b j)=a j
     by_cases z:j=p
     ·rw[if_pos z,z]
     ·rw[if_neg z];exact b2 j λq=>(cA.mp q).elim z hj
    ·unfold Rel
     rw[pl]
     have g:=fE hm (b1 p) (ha p)
     refine(Dy hm c1 c2 e8 nc (a:=λj=>if j=p then a p else b j) λj=>?_).mpr ⟨bG m (b p) (a p),g.2.1,λk=>?_⟩
     ·show(if j=p then a p else b j)<_
      split
      ·exact ha p
      ·exact b1 j
     ·rw[<-Wh hm lj (λj=>if j=p then a p else b j) (λj=>cf (cs.getD j []) k)]
      refine sS ?_ (b3 k)
      refine cw λj _=>?_
      by_cases z:j=p
      ·rw[if_pos z,if_pos rfl,j6,g.2.2,z]
      ·rw[if_neg z,if_neg z]
end
end L3
namespace L3
open PySem L2 Mf
section
variable{m:Bool × Nat}
noncomputable def cP(n:Nat)(aM:List Nat):List Nat:=(bg n).filter λp=>decide (p ∉ aM)
theorem wz{n:Nat}{aM:List Nat}{j:Nat}:j∈cP n aM↔j<n/\j ∉ aM:=by
 unfold cP
 rw[nt,cL,decide_eq_true_iff]
theorem Jg(n:Nat)(aM:List Nat):(cP n aM).Nodup:=FN.filter _
theorem wA:∀{l:List Nat} {i:Nat},l.Nodup->i<l.length->l.idxOf (l.getD i 0)=i
 | a::l,0,_,_=>List.idxOf_cons_self
 | a::l,i+1,nd,h=>by
  obtain⟨n1,n2⟩:=jm.mp nd
  have hi:i<l.length:=Nat.lt_of_succ_lt_succ h
  have:=wA n2 hi
  rw[show(a::l).getD (i+1) 0=l.getD i 0 from rfl,List.idxOf_cons,beq_false_of_ne (λz:a=l.getD i 0=>n1 (by rw[z];exact dG hi 0)),cond_false,this]
theorem Jh{n:Nat}{aM:List Nat}{i:Nat}(h:i<(cP n aM).length):(cP n aM).getD i 0<n/\(cP n aM).getD i 0 ∉ aM:=wz.mp (dG h 0)
theorem cc0{l:List Nat}{f:Nat->List Nat}{i:Nat}(h:i<l.length):(l.map f).getD i []=f (l.getD i 0):=uN f h 0 []
theorem Wk(hm:m∈aD){C:List (List Nat)}{n:Nat}(hC:C.length=n+1)(aC:AllLt (aa m) (C.getD n [])){aM:List Nat}{a:Nat->Nat}(h1:a n=1)(hl:∀j∈aM,a j=0) :
  Rel m C a↔hE m ((cP n aM).map λp=>C.getD p []) (C.getD n []) λi=>a ((cP n aM).getD i 0):=by
 have r:=rg hm
 have h0:=bX m hm
 have key:∀k,sm (gp m) C.length (λj=>gm m (a j) (cf (C.getD j []) k))=gp m (sm (gp m) ((cP n aM).map λp=>C.getD p []).length λi=>gm m (a ((cP n aM).getD i 0)) (cf (((cP n aM).map λp=>C.getD p []).getD i []) k)) (cf (C.getD n []) k):=λk=>by
  rw[hC,sm,h1,j4 (bY hm aC k),DA r (ps:=cP n aM) (f:=λj=>gm m (a j) (cf (C.getD j []) k)) (λ_=>cj hm _ _) (Jg n aM) (λj hj=>(wz.mp hj).1) λj hj hn=>by
   rw[hl j (yN λz=>hn (wz.mpr ⟨hj,z⟩)),fm m _ h0],bB]
  congr 1
  exact cw λi hi=>by rw[cc0 hi]
 unfold Rel hE
 exact⟨λh k=>by rw[<-key k];exact h k,λh k=>by rw[key k];exact h k⟩
noncomputable def wC(m:Bool × Nat)(T:List (List Nat))(aM sums:List Nat):List (List Nat):=jj m (cK T++[sums]) aM
noncomputable def uR(m:Bool × Nat)(T:List (List Nat))(aM sums:List Nat)(most:Nat):Option (List Nat):=(fH m most ((cP (ah T) aM).map λp=>(wC m T aM sums).getD p []) ((wC m T aM sums).getD (ah T) [])).map λns=>ns.map λi=>(cP (ah T) aM).getD i 0
theorem Ji(hm:m∈aD){T:List (List Nat)}{aM sums:List Nat}(hw:0<ah T)(hT:RT (aa m) (ah T) T)(hl:∀p∈aM,p<ah T)(ls:sums.length=T.length)(as:AllLt (aa m) sums) :
  (wC m T aM sums).length=ah T+1/\∃h,h<=T.length/\RT (aa m) h (wC m T aM sums)/\RT (aa m) h ((cP (ah T) aM).map λp=>(wC m T aM sums).getD p [])/\((wC m T aM sums).getD (ah T) []).length=h/\AllLt (aa m) ((wC m T aM sums).getD (ah T) []) /\
  ∀a:Nat->Nat,(∀j,a j<aa m)->a (ah T)=1->((Rel m (wC m T aM sums) a)↔∃b:Nat->Nat,(∀j,b j<aa m)/\(∀j,j ∉ aM->b j=a j)/\hE m (cK T) sums b):=by
 obtain⟨t1,t2,t3⟩:=wk (N:=aa m) (by have:=lo1 hm;omega) hw hT
 have cl:(cK T++[sums]).length=ah T+1:=by rw[dO,t1];rfl
 obtain⟨i1,⟨h,i2,i3⟩,i4⟩:=Wi hm (ps:=aM) (cs:=cK T++[sums]) (h:=T.length) (t3.app λx hx=>by rw[dP.mp hx];exact⟨ls,as⟩) λp hp=>by rw[cl];have:=hl p hp;omega
 rw[cl]at i1
 have cn:=i3.at (i:=ah T) (by rw[i1];omega)
 refine⟨i1,h,i2,i3,λx hx=>?_,cn.1,cn.2,λa ha a1=>(i4 a ha).trans ?_⟩
 ·obtain⟨p,hp,rfl⟩:=bE.mp hx
  exact i3.at (by rw[i1];have:=(wz.mp hp).1;omega)
 ·have e:∀b:Nat->Nat,(∀j,j ∉ aM->b j=a j)->(Rel m (cK T++[sums]) b↔hE m (cK T) sums b):=λb hb=>cz7 hm as (by rw[t1,hb _ λz=>by have:=hl _ z;omega];exact a1)
  exact⟨λ⟨b,b1,b2,b3⟩=>⟨b,b1,b2,(e b b2).mp b3⟩,λ⟨b,b1,b2,b3⟩=>⟨b,b1,b2,(e b b2).mpr b3⟩⟩
theorem ch3(hm:m∈aD){T:List (List Nat)}{aM sums W:List Nat}{most:Nat}(hw:0<ah T)(hT:RT (aa m) (ah T) T)(hl:∀p∈aM,p<ah T)(ls:sums.length=T.length)(as:AllLt (aa m) sums)(h:uR m T aM sums most=some W) :
  W.length<=most/\W.Nodup/\(∀p∈W,p<ah T/\p ∉ aM)/\∃b:Nat->Nat,(∀j,b j<aa m)/\(∀j,j<ah T->b j≠0->j∈aM\/j∈W)/\hE m (cK T) sums b:=by
 have dJ:=lo1 hm
 obtain⟨i1,h',i2,i3,i4,i5,i6,i7⟩:=Ji hm hw hT hl ls as
 obtain⟨ns,e,rfl⟩:=sQ.mp h
 obtain⟨s1,s2,s3,a,a1,a2,a3⟩:=Jf hm i4 i5 i6 e
 rw[bB]at s3
 have nd:=Jg (ah T) aM
 have hA:∀j,(if j=ah T then 1 else if j∈aM then 0 else a ((cP (ah T) aM).idxOf j))<aa m:=λj=>by
  split
  ·omega
  ·split
   ·omega
   ·exact a1 _
 have RC:Rel m (wC m T aM sums) λj=>if j=ah T then 1 else if j∈aM then 0 else a ((cP (ah T) aM).idxOf j):=by
  refine(Wk hm i1 i6 (aM:=aM) (a:=λj=>if j=ah T then 1 else if j∈aM then 0 else a ((cP (ah T) aM).idxOf j)) (if_pos rfl) λj hj=>?_).mpr λk=>?_
  ·show(if j=ah T then 1 else if j∈aM then 0 else _)=0
   rw[if_neg λz=>by have:=hl j hj;omega,if_pos hj]
  ·refine sS ?_ (a3 k)
   congr 1
   refine cw λi hi=>?_
   rw[bB]at hi
   obtain⟨o1,o2⟩:=Jh hi
   dsimp only
   rw[if_neg (by omega),if_neg o2,wA nd hi]
 obtain⟨b,b1,b2,b3⟩:=(i7 _ hA (if_pos rfl)).mp RC
 refine⟨by rw[bB];exact s1,RF.mpr (List.Pairwise.imp_of_mem (λ{x y} hx hy lt z=>?_) s2),λp hp=>?_,b,b1,λj hj bj=>?_,b3⟩
 ·have e1:=wA nd (s3 x hx)
  have e2:=wA nd (s3 y hy)
  rw[z]at e1
  omega
 ·obtain⟨i,hi,rfl⟩:=bE.mp hp
  exact Jh (s3 i hi)
 ·by_cases c:j∈aM
  ·exact .inl c
  ·rw[b2 j c]at bj
   rw[if_neg (by omega),if_neg c]at bj
   have mj:=wz.mpr ⟨hj,c⟩
   obtain⟨i,hi,e1⟩:=gj mj
   have e2:(cP (ah T) aM).getD i 0=j:=by rw[aQ,aP hi];exact e1
   rw[<-e2,wA nd hi]at bj
   exact .inr (bE.mpr ⟨i,a2 i bj,e2⟩)
theorem ch0(hm:m∈aD){T:List (List Nat)}{aM sums:List Nat}{most:Nat}(hw:0<ah T)(hT:RT (aa m) (ah T) T)(hl:∀p∈aM,p<ah T)(ls:sums.length=T.length)(as:AllLt (aa m) sums)(h:uR m T aM sums most=none)
  (S:List Nat) (b:Nat->Nat) (hS:S.length<=most) (hb:∀j,b j<aa m) (hs:∀j,j<ah T->b j≠0->j∈aM\/j∈S):¬ hE m (cK T) sums b:=λR=>by
 have dJ:=lo1 hm
 obtain⟨i1,h',i2,i3,i4,i5,i6,i7⟩:=Ji hm hw hT hl ls as
 have nd:=Jg (ah T) aM
 have e:=c74.mp h
 have tl:=(wk (N:=aa m) (by omega) hw hT).1
 have hA:∀j,(if j=ah T then 1 else if j∈aM then 0 else b j)<aa m:=λj=>by
  split
  ·omega
  ·split
   ·omega
   ·exact hb _
 have hB:∀j,(if j=ah T then 1 else b j)<aa m:=λj=>by
  split
  ·omega
  ·exact hb _
 have RC:Rel m (wC m T aM sums) λj=>if j=ah T then 1 else if j∈aM then 0 else b j:=by
  refine(i7 _ hA (if_pos rfl)).mpr ⟨λj=>if j=ah T then 1 else b j,hB,λj hj=>?_,λk=>?_⟩
  ·dsimp only
   rw[if_neg hj]
  ·refine sS ?_ (R k)
   congr 1
   exact cw λj hj=>by
    dsimp only
    rw[if_neg (by omega)]
 have RO:=(Wk hm i1 i6 (aM:=aM) (a:=λj=>if j=ah T then 1 else if j∈aM then 0 else b j) (if_pos rfl) λj hj=>by
  show(if j=ah T then 1 else if j∈aM then 0 else _)=0
  rw[if_neg λz=>by have:=hl j hj;omega,if_pos hj]).mp RC
 refine cm0 hm i4 i5 i6 e (S.map λp=>(cP (ah T) aM).idxOf p) _ (by rw[bB];exact hS) (λj=>hA _) (λi hi bi=>?_) RO
 rw[bB]at hi
 obtain⟨o1,o2⟩:=Jh hi
 rw[if_neg (by omega),if_neg o2]at bi
 rcases hs _ o1 bi with c | c
 ·exact absurd c o2
 ·exact bE.mpr ⟨_,c,wA nd hi⟩
structure Nk(m:Bool × Nat)(T:List (List Nat))(room:Nat)(y:List (Option Nat))(w:List Nat):Prop where
 ln:w.length=y.length
 lt:AllLt (aa m) w
 z:∀r∈T,gd m r w=0
 uS:(bD y).length+2*(lU y w).length<room
theorem Wl(hm:m∈aD){r u v ps:List Nat}{n:Nat}(hu:AllLt (aa m) u)(hv:AllLt (aa m) v)(lr:r.length=n)(lu:u.length=n)(lv:v.length=n)(nd:ps.Nodup)(hp:∀p∈ps,p<n)(hs:∀j,j<n->j ∉ ps->cf u j=cf v j) :
  gd m r u=gp m (sm (gp m) ps.length λt=>gm m (cf r (ps.getD t 0)) (bG m (cf u (ps.getD t 0)) (cf v (ps.getD t 0)))) (gd m r v):=by
 have g:=rg hm
 have h0:=bX m hm
 have dn:∀j,gp m (bG m (cf u j) (cf v j)) (cf v j)=cf u j:=λj=>(fE hm (bY hm hu j) (bY hm hv j)).2.2
 rw[m4 m (lr.trans lu.symm),m4 m (lr.trans lv.symm),lr,
  cw (g:=λk=>gp m (gm m (cf r k) (bG m (cf u k) (cf v k))) (gm m (cf r k) (cf v k))) λk _=>by rw[<-v7 h0,dn k],mY g,
  DA g (ps:=ps) (f:=λk=>gm m (cf r k) (bG m (cf u k) (cf v k))) (λ_=>cj hm _ _) nd hp λj hj hn=>by rw[hs j hj hn,Dm,gi m _ h0]]
noncomputable def gH(m:Bool × Nat)(T:List (List Nat))(l:List Nat):List Nat:=T.map λr=>gd m r l
theorem DD{T:List (List Nat)}{l:List Nat}{k:Nat}(h:k<T.length):cf (gH m T l) k=gd m (T.getD k []) l:=by
 unfold gH cf
 rw[aQ,bQ,aQ,aP h];rfl
theorem DE(hm:m∈aD)(T:List (List Nat))(l:List Nat):(gH m T l).length=T.length/\AllLt (aa m) (gH m T l):=by
 refine⟨bB ..,λa ha=>?_⟩
 obtain⟨r,_,rfl⟩:=bE.mp ha
 exact wb hm _ _
theorem Wm{T:List (List Nat)}{j k:Nat}(hj:j<ah T)(hk:k<T.length):cf ((cK T).getD j []) k=cf (T.getD k []) j:=by
 rw[Dw hj]
 unfold cf
 rw[aQ,bQ,aP hk,aQ (l:=T),aP hk];rfl
theorem cy4{T:List (List Nat)}{j k:Nat}(hj:j<ah T)(hk:T.length<=k):cf ((cK T).getD j []) k=0:=by
 rw[Dw hj]
 exact rW (by rw[bB];exact hk)
theorem Wn(hm:m∈aD){T:List (List Nat)}{l:List Nat}{b:Nat->Nat}(hw:0<ah T)(hT:RT (aa m) (ah T) T):hE m (cK T) (gH m T l) b↔∀r∈T,gp m (sm (gp m) (ah T) λj=>gm m (b j) (cf r j)) (gd m r l)=0:=by
 have h0:=bX m hm
 have tl:=(wk (N:=aa m) (by have:=lo1 hm;omega) hw hT).1
 have sl:=(DE hm T l).1
 unfold hE
 rw[tl]
 refine⟨λh r hr=>?_,λh k=>?_⟩
 ·obtain⟨k,hk,e⟩:=gj hr
  have e2:T.getD k []=r:=by rw[aQ,aP hk];exact e
  have:=h k
  rw[DD hk,e2]at this
  refine sS ?_ this
  congr 1
  exact cw λj hj=>by rw[Wm hj hk,e2]
 ·by_cases hk:k<T.length
  ·have:=h (T.getD k []) (dG hk [])
   rw[DD hk]
   refine sS ?_ this
   congr 1
   exact cw λj hj=>by rw[Wm hj hk]
  ·rw[rW (l:=gH m T l) (by omega),g7 (rg hm) λj hj=>by rw[cy4 hj (by omega),gi m _ h0],wa (by have:=lo1 hm;omega)]
noncomputable def jK(m:Bool × Nat)(T:List (List Nat))(room:Nat)(y:List (Option Nat)):Option (List Nat):=if room<=(bD y).length then none else
 match uR m T (bD y) (gH m T (de y)) ((room-1-(bD y).length)/2)with
 | none=>none
 | some W=>if bD y++W=[]then some (de y)else(wj m (ji T (bD y++W)) (gH m T (de y))).map (eU m (de y) (bD y++W))
theorem Wo{T:List (List Nat)}{F:List Nat}(h:0<T.length):ah (ji T F)=F.length:=by
 unfold ah ji
 cases T with
 | nil=>cases h
 | cons r T=>rw[dz,List.headD_cons,bB]
theorem Jj(hm:m∈aD){T:List (List Nat)}{y:List (Option Nat)}{W:List Nat}{most:Nat}(hw:0<ah T)(hT:RT (aa m) (ah T) T)(hy:∀a,some a∈y->a<aa m)(ly:y.length=ah T)(h:uR m T (bD y) (gH m T (de y)) most=some W) :
  W.length<=most/\(bD y++W).Nodup/\(∀p∈bD y++W,p<ah T)/\((bD y++W=[])->∀r∈T,gd m r (de y)=0)/\((bD y++W≠[])->∃X,wj m (ji T (bD y++W)) (gH m T (de y))=some X/\X.length=(bD y++W).length/\AllLt (aa m) X/\∀r∈T,sm (gp m) (bD y++W).length (λt=>gm m (cf r ((bD y++W).getD t 0)) (cf X t))=gd m r (de y)):=by
 have g:=rg hm
 have h0:=bX m hm
 have dJ:=lo1 hm
 obtain⟨l1,l2⟩:=IY y
 rw[ly]at l2
 obtain⟨q1,q2⟩:=DE hm T (de y)
 obtain⟨w1,w2,w3,b,b1,b2,b3⟩:=ch3 hm hw hT l2 q1 q2 h
 rw[Wn hm hw hT]at b3
 have T0:0<T.length:=by
  unfold ah at hw
  cases T with
  | nil=>cases hw
  | cons _ _=>exact RI _
 have nd:(bD y++W).Nodup:=List.nodup_append.mpr ⟨l1,w2,λa ha c hc z=>(w3 c hc).2 (z ▸ ha)⟩
 have pl:∀p∈bD y++W,p<ah T:=λp hp=>(cg.mp hp).elim (l2 p) λz=>(w3 p z).1
 have bz:∀j,j<ah T->j ∉ bD y++W->b j=0:=λj hj hn=>yN λz=>hn (cg.mpr (b2 j hj z))
 refine⟨w1,nd,pl,λe r hr=>?_,λ_=>?_⟩
 ·have:=b3 r hr
  rw[g7 g λj hj=>by rw[bz j hj (by rw[e];exact ij),fm m _ h0],wa (wb hm _ _)]at this
  exact this
 ·have sx:∀r∈T,sm (gp m) (bD y++W).length (λt=>gm m (cf r ((bD y++W).getD t 0)) (bG m 0 (b ((bD y++W).getD t 0))))=gd m r (de y):=λr hr=>by
   have b3:=b3 r hr
   rw[DA g (ps:=bD y++W) (f:=λj=>gm m (b j) (cf r j)) (λ_=>cj hm _ _) nd pl λj hj hn=>by rw[bz j hj hn,fm m _ h0]]at b3
   have ab:gp m (sm (gp m) (bD y++W).length λt=>gm m (cf r ((bD y++W).getD t 0)) (bG m 0 (b ((bD y++W).getD t 0)))) (sm (gp m) (bD y++W).length λt=>gm m (b ((bD y++W).getD t 0)) (cf r ((bD y++W).getD t 0)))=0:=by
    rw[<-mY g]
    exact g7 g λt _=>by rw[iC m (b _),<- v7 h0,(fE hm (show 0<aa m by omega) (b1 _)).2.2,gi m _ h0]
   rw[j6]at b3
   exact g.Ac (kG g λ_ _=>cj hm _ _) (wb hm _ _) (kG g λ_ _=>cj hm _ _) (ab.trans b3.symm)
  obtain⟨p1,p2⟩:=V7 (F:=bD y++W) (show 0<aa m by omega) hT
  have wp:=Wo (F:=bD y++W) T0
  obtain⟨X,x1,x2,x3,x4⟩:=cH2 hm (G:=ji T (bD y++W)) (u:=gH m T (de y)) (by omega) (by omega) (by rw[wp];exact p1) q2 (x:=λt=>bG m 0 (b ((bD y++W).getD t 0))) (λt=>(fE hm (by omega) (b1 _)).2.1) λa ha=>by
   rw[p2]at ha
   rw[DD ha,<- sx _ (dG ha []),wp]
   exact cw λt ht=>by rw[V8 ha ht];rfl
  refine⟨X,x1,x2.trans wp,x3,λr hr=>?_⟩
  obtain⟨k,hk,e⟩:=gj hr
  have e2:T.getD k []=r:=by rw[aQ,aP hk];exact e
  have:=x4 k (by omega)
  rw[DD hk,e2,wp]at this
  rw[<-this]
  exact cw λt ht=>by rw[V8 hk ht,show jh T ((bD y++W).getD t 0) k=cf (T.getD k []) ((bD y++W).getD t 0) from rfl,e2]
theorem cJ4(hm:m∈aD){T:List (List Nat)}{room:Nat}{y:List (Option Nat)}{w:List Nat}(hw:0<ah T)(hT:RT (aa m) (ah T) T)(hy:∀a,some a∈y->a<aa m)(ly:y.length=ah T)(h:Nk m T room y w):hE m (cK T) (gH m T (de y)) λj=>bG m (cf w j) (cf (de y) j):=by
 have g:=rg hm
 have h0:=bX m hm
 have kl:=Aq hm hy
 refine(Wn hm hw hT).mpr λr hr=>?_
 have lr:=(hT r hr).1
 have e:=h.z r hr
 rw[m4 m (lr.trans (ly.symm.trans h.ln.symm)),lr]at e
 rw[m4 m (lr.trans (ly.symm.trans (IZ y).symm)),lr,<- mY g,<- e]
 exact cw λj _=>by rw[iC m (bG _ _ _),<- v7 h0,(fE hm (bY hm h.lt j) (bY hm kl j)).2.2]
theorem cf3(hm:m∈aD){T:List (List Nat)}{room:Nat}{y:List (Option Nat)}(hw:0<ah T)(hT:RT (aa m) (ah T) T)(hy:∀a,some a∈y->a<aa m)(ly:y.length=ah T)(e:jK m T room y=none)(w:List Nat):¬ Nk m T room y w:=λh=>by
 have uS:=h.uS
 unfold jK at e
 split at e
 ·omega
 ·split at e
  ·rename_i e2
   obtain⟨q1,q2⟩:=DE hm T (de y)
   refine ch0 hm hw hT (λp hp=>by rw[<-ly];exact(IY y).2 p hp) q1 q2 e2 (lU y w) _ (by omega) (λj=>(fE hm (bY hm h.lt j) (bY hm (Aq hm hy) j)).2.1) (λj hj z=>?_) (cJ4 hm hw hT hy ly h)
   by_cases c:j∈bD y
   ·exact .inl c
   ·refine .inr (DB.mpr ⟨by omega,c,λz'=>z ?_⟩)
    rw[z',Dm]
  ·rename_i W e2
   split at e
   ·cases e
   ·rename_i ne
    obtain⟨_,_,_,_,w5⟩:=Jj hm hw hT hy ly e2
    obtain⟨X,x1,_⟩:=w5 ne
    rw[x1]at e
    cases e
theorem Wq(hm:m∈aD){T:List (List Nat)}{room:Nat}{y:List (Option Nat)}{w:List Nat}(hw:0<ah T)(hT:RT (aa m) (ah T) T)(hy:∀a,some a∈y->a<aa m)(ly:y.length=ah T)(e:jK m T room y=some w):Nk m T room y w:=by
 have g:=rg hm
 have kl:=Aq hm hy
 have kn:=IZ y
 unfold jK at e
 split at e
 ·cases e
 ·split at e
  ·cases e
  ·rename_i W e2
   obtain⟨w1,w2,w3,w4,w5⟩:=Jj hm hw hT hy ly e2
   have fw:∀v:List Nat,(∀j,j ∉ bD y++W->cf v j=cf (de y) j)->(bD y).length+2*(lU y v).length<room:=λv hv=>by
    have:=Jb (l:=lU y v) (l':=W) (FN.filter _) λj hj=>by
     obtain⟨_,j2,j3⟩:=DB.mp hj
     refine yN λz=>j3 (hv j λq=>?_).symm
     exact(cg.mp q).elim j2 z
    omega
   split at e
   ·rename_i e3
    cases e
    exact⟨kn,kl,w4 e3,fw _ λ_ _=>rfl⟩
   ·rename_i ne
    obtain⟨X,x1,x2,x3,x4⟩:=w5 ne
    rw[x1]at e
    cases e
    obtain⟨t1,t2,t3,t4⟩:=V9 hm kl x3 w2 (λp hp=>by rw[kn,ly];exact w3 p hp) x2
    refine⟨t2.trans kn,t1,λr hr=>?_,fw _ t3⟩
    have s:=Wl hm kl t1 (hT r hr).1 (kn.trans ly) (t2.trans (kn.trans ly)) w2 w3 λj _ hn=>(t3 j hn).symm
    rw[cw (g:=λt=>gm m (cf r ((bD y++W).getD t 0)) (cf X t)) λt ht=>by rw[t4 t ht,cz3 hm (bY hm kl _) (bY hm x3 _)],x4 r hr,j6]at s
    exact g.cn (wb hm _ _) (wb hm _ _) s.symm
theorem Nk.unq(hm:m∈aD){T:List (List Nat)}{room:Nat}{y:List (Option Nat)}{u v:List Nat}(hT:RT (aa m) (ah T) T)(ly:y.length=ah T)(hD:∀S,gv (ah T) S->S.length<room->pJ m (jh T) S)(hu:Nk m T room y u)(hv:Nk m T room y v):u=v:=by
 have g:=rg hm
 have h0:=bX m hm
 have fu:=hu.uS
 have fv:=hv.uS
 have mem:∀j,j∈((bg (ah T)).filter λj=>decide (cf u j≠cf v j))↔j<ah T/\cf u j≠cf v j:=λj=>by rw[nt,cL,decide_eq_true_iff]
 have nd:((bg (ah T)).filter λj=>decide (cf u j≠cf v j)).Nodup:=FN.filter _
 have ic:gv (ah T) ((bg (ah T)).filter λj=>decide (cf u j≠cf v j)):=⟨c68.filter _,λx hx=>((mem x).mp hx).1⟩
 have len:=Jb (l:=(bg (ah T)).filter λj=>decide (cf u j≠cf v j)) (l':=bD y++(lU y u++lU y v)) nd λj hj=>by
  obtain⟨j1,j2⟩:=(mem j).mp hj
  by_cases c:j∈bD y
  ·exact cg.mpr (.inl c)
  ·refine cg.mpr (.inr (cg.mpr ?_))
   by_cases c1:cf (de y) j=cf u j
   ·exact .inr (DB.mpr ⟨by omega,c,λz=>j2 (c1.symm.trans z)⟩)
   ·exact .inl (DB.mpr ⟨by omega,c,c1⟩)
 rw[dO,dO]at len
 generalize ((bg (ah T)).filter λj=>decide (cf u j≠cf v j))=ps at mem nd ic len
 have I:=hD ps ic (by omega) (λt=>bG m (cf u (ps.getD t 0)) (cf v (ps.getD t 0))) (λt=>(fE hm (bY hm hu.lt _) (bY hm hv.lt _)).2.1) λk=>by
  by_cases hk:k<T.length
  ·have hr:=dG hk []
   have s:=Wl hm hu.lt hv.lt (hT _ hr).1 (hu.ln.trans ly) (hv.ln.trans ly) nd (λp hp=>((mem p).mp hp).1) λj hj hn=>yN λz=>hn ((mem j).mpr ⟨hj,z⟩)
   rw[hu.z _ hr,hv.z _ hr,uH (kG g λ_ _=>cj hm _ _)]at s
   exact sS (cw λt _=>iC m _ _) s.symm
  ·refine g7 g λt _=>?_
   show gm m _ (cf (T.getD k []) _)=0
   rw[aQ,fY (by omega)]
   exact gi m _ h0
 refine VO (hu.ln.trans ly) (hv.ln.trans ly) λj hj=>yN λz=>?_
 obtain⟨t,ht,e⟩:=gj ((mem j).mpr ⟨hj,z⟩)
 have e2:ps.getD t 0=j:=by rw[aQ,aP ht];exact e
 have:=I t ht
 rw[e2]at this
 exact cE8 hm (bY hm hu.lt _) (bY hm hv.lt _) z this
theorem Jk(hm:m∈aD){T:List (List Nat)}{room:Nat}{y:List (Option Nat)}{w:List Nat}(hw:0<ah T)(hT:RT (aa m) (ah T) T)(hy:∀a,some a∈y->a<aa m)(ly:y.length=ah T)(hD:∀S,gv (ah T) S->S.length<room->pJ m (jh T) S):jK m T room y=some w↔Nk m T room y w:=by
 refine⟨Wq hm hw hT hy ly,λh=>?_⟩
 cases e:jK m T room y with
 | none=>exact absurd h (cf3 hm hw hT hy ly e w)
 | some v=>rw[(Wq hm hw hT hy ly e).unq hm hT ly hD h]
end
end L3
namespace L3
open PySem L2 PySem.Spec PyProof.Rows
section
variable{X:Cx}{e:Expr}{t:aY}
noncomputable def r6(t:aY):aY:=λδ Q=>t δ λd ak=>Q d.sh ak
theorem cK9(h:PE X e (lE t)):PE X e (lB (r6 t)):=dN h λσ H Q ⟨B,F,δ,ts,Qd,c,q,k⟩=>⟨B,F,δ,ts,_,c,q,λd ak v F' H' hd sf sh c'=>by
 obtain⟨F2,f2,c2⟩:=c'.He
 exact k d.sh ak v F2 H' hd (sf.trans f2) sh c2.pop c2.top⟩
end
noncomputable def m5:Option (List Nat)->D
 | none=>.az
 | some l=>.lst true (aq l)
theorem wB:∀o:Option (List Nat),(m5 o).fr=true
 | none=>rfl
 | some l=>fC l
theorem cg3{α:Type}(F:List α)(x:α):fk (F++[x]) none (some (-1))=F:=by
 unfold fk HT.di
 dsimp only
 rw[if_pos (by decide),List.drop_zero,Nat.sub_zero,dO,Fl,show((-1:Int)+((F.length+1:Nat):Int)).toNat=F.length by omega]
 exact List.take_left ..
theorem Wr(o:Bool){C:List (List Nat)}{n:Nat}(h:C.length=n+1):eK (aH o C) (-1)=some (.lst o (aq (C.getD n []))):=by
 have e:iN (aH o C).length (-1)=some n:=by
  rw[jc,h];unfold iN
  rw[if_neg (by decide),if_pos (by omega)]
  congr 1;omega
 unfold eK
 rw[e]
 show(aH o C)[n]?=_
 unfold aH
 rw[bQ,aP (by omega),aQ,aP (by omega)];rfl
theorem bW7(o:Bool)(F:List (List Nat))(x:List Nat):eK (aH o (F++[x])) (-1)=some (.lst o (aq x)):=by
 rw[Wr o (n:=F.length) (by rw[dO];rfl),We]
theorem Ws{α:Type}{f:Nat->Option α}{n:Nat}(h:∀i,i<n->f i=none):(bg n).findSome? f=none:=c73.mpr λi hi=>h i (cL.mp hi)
theorem Wt{α:Type}{f:Nat->Option α}{b:α}{j:Nat}(h:∀i,i<j->f i=none)(e:f j=some b):∀{n:Nat},j<n->(bg n).findSome? f=some b
 | n+1,hj=>by
  rw[FH,List.findSome?_append]
  by_cases c:j<n
  ·rw[Wt h e c];rfl
  ·obtain rfl:j=n:=by omega
   rw[Ws h,Option.none_or,List.findSome?_singleton,e]
end L3
namespace L3
open PySem L2 Mf
section
variable{m:Bool × Nat}
theorem cQ6(hm:m∈aD){T:List (List Nat)}(hT:RT (aa m) (ah T) T):RT (aa m) (ah T) (jI m (cE m T) (ah T))/\(jI m (cE m T) (ah T)).length<=ah T:=by
 obtain⟨⟨Hd,I⟩,iR,_,_⟩:=we hm hT
 refine⟨λr hr=>?_,?_⟩
 ·obtain⟨f,hf,rfl⟩:=bE.mp hr
  obtain⟨k1,k2,_⟩:=VR hm iR I hf
  exact⟨k1,k2⟩
 ·unfold jI lN
  rw[bB]
  exact eP (FP ..) (by rw[dQ];exact bN _)
theorem cF2(hm:m∈aD){T:List (List Nat)}(hT:RT (aa m) (ah T) T):∀r∈cE m T,∃x∈r,x≠0:=λr bq=>by
 obtain⟨⟨Hd,I⟩,iR,_,_⟩:=we hm hT
 obtain⟨j,hj,rfl⟩:=gj bq
 have:=(I.wg hm iR hj).2
 rw[cJ3 hj]at this
 exact this
theorem cw3(hm:m∈aD){T:List (List Nat)}{xs:List Nat}(hT:RT (aa m) (ah T) T)(hx:xs.length=(jI m (cE m T) (ah T)).length):∀r∈T,gd m r (pG m xs (jI m (cE m T) (ah T)) (ah T))=0:=λr hr=>by
 have h0:=bX m hm
 obtain⟨⟨Hd,I⟩,iR,_,_⟩:=we hm hT
 have s:du m (cE m T) (cf r):=du.red hm hT (du.of hr)
 rw[m4 m ((hT r hr).1.trans (IF ..).symm),(hT r hr).1]
 rw[cw (g:=λj=>gm m (cf r j) (sm (gp m) (jI m (cE m T) (ah T)).length λi=>gm m (cf xs i) (cf ((jI m (cE m T) (ah T)).getD i []) j))) λj hj=>by rw[cM8 m hx hj]]
 have e:=VS hm (ah T) (cf r) (cf xs) (λi=>cf ((jI m (cE m T) (ah T)).getD i [])) (jI m (cE m T) (ah T)).length
 unfold dt at e
 rw[e]
 refine g7 (rg hm) λi hi=>?_
 have z:=dG hi []
 generalize (jI m (cE m T) (ah T)).getD i []=K at z
 obtain⟨f,hf,rfl⟩:=bE.mp z
 have:=du.dt hm (R:=cE m T) (n:=ah T) (y:=cf (jf m (cE m T) (ah T) f)) (λi hi=>cM0 hm iR I hf hi) s
 unfold dt at this
 rw[this,gi m _ h0]
end
end L3
namespace L3
open PySem L2 Mf
section
variable{m:Bool × Nat}
noncomputable def jk(m:Bool × Nat)(b:Nat)(s:List Nat)(y:List (Option Nat)):List (Option Nat):=(bg y.length).map λj=>(y.getD j none).map λx=>gp m (gm m b x) (cf s j)
noncomputable def jL(m:Bool × Nat)(b:Nat)(s w:List Nat):List Nat:=(bg w.length).map λj=>gp m (gm m b (cf w j)) (cf s j)
theorem uT(b:Nat)(s:List Nat)(y:List (Option Nat)):(jk m b s y).length=y.length:=by unfold jk;rw[bB,dQ]
theorem Jl(b:Nat)(s w:List Nat):(jL m b s w).length=w.length:=by unfold jL;rw[bB,dQ]
theorem Wu{b:Nat}{s:List Nat}{y:List (Option Nat)}{j:Nat}(h:j<y.length):(jk m b s y).getD j none=(y.getD j none).map λx=>gp m (gm m b x) (cf s j):=b70 _ h none
theorem Jm{b:Nat}{s w:List Nat}{j:Nat}(h:j<w.length):cf (jL m b s w) j=gp m (gm m b (cf w j)) (cf s j):=IE _ h
theorem cL9(hm:m∈aD){b:Nat}{s w:List Nat}(hs:AllLt (aa m) s):AllLt (aa m) (jL m b s w):=λa ha=>by
 obtain⟨j,_,rfl⟩:=bE.mp ha
 exact v9 hm (cj hm _ _) (bY hm hs _)
theorem Wv(hm:m∈aD){b:Nat}{s:List Nat}{y:List (Option Nat)}(hs:AllLt (aa m) s):∀a,some a∈jk m b s y->a<aa m:=λa ha=>by
 obtain⟨j,_,e⟩:=bE.mp ha
 obtain⟨x,_,rfl⟩:=sQ.mp e
 exact v9 hm (cj hm _ _) (bY hm hs _)
theorem cN2(hm:m∈aD){b x z s:Nat}(hb:b<aa m)(b0:b≠0)(hx:x<aa m)(hz:z<aa m)(hs:s<aa m)(h:gp m (gm m b x) s=gp m (gm m b z) s):x=z:=by
 have e:=(rg hm).Ac (cj hm _ _) (cj hm _ _) hs h
 obtain⟨v,v1,v2⟩:=Ae hm (lo1 hm) hb b0
 have e:=congrArg (gm m v) e
 rwa [<-i9 (bX m hm),<- i9 (bX m hm),v2,j4 hx,j4 hz]at e
theorem cQ3(hm:m∈aD){b:Nat}{r s w:List Nat}(hr:r.length=w.length)(hs:s.length=w.length):gd m r (jL m b s w)=gp m (gm m b (gd m r w)) (gd m r s):=by
 have g:=rg hm
 have h0:=bX m hm
 haveI:Std.Commutative (gm m):=⟨iC m⟩
 haveI:Std.Associative (gm m):=⟨i9 h0⟩
 rw[m4 m (hr.trans (Jl b s w).symm),m4 m hr,m4 m (hr.trans hs.symm),<- Ad g,<- mY g]
 refine cw λj hj=>?_
 rw[Jm (by omega),v7 h0]
 congr 1
 ac_rfl
theorem cO7(hm:m∈aD){T:List (List Nat)}{room b n:Nat}{y:List (Option Nat)}{s w:List Nat}(hT:RT (aa m) n T)(ly:y.length=n)(ls:s.length=n)(lw:w.length=n)(hy:∀a,some a∈y->a<aa m)(as:AllLt (aa m) s)(aw:AllLt (aa m) w)(sz:∀r∈T,gd m r s=0)(hb:b<aa m)(b0:b≠0) :
  Nk m T room y w↔Nk m T room (jk m b s y) (jL m b s w):=by
 have h0:=bX m hm
 have ky:=Aq hm hy
 have el:bD (jk m b s y)=bD y:=by
  unfold bD
  rw[uT]
  refine RA λj hj=>?_
  have hj:=cL.mp hj
  rw[uQ (by rw[uT];exact hj),uQ hj,Wu hj]
  cases y.getD j none with
  | none=>rfl
  | some a=>exact(decide_eq_false λz=>by cases z).trans (decide_eq_false λz=>by cases z).symm
 have ew:lU (jk m b s y) (jL m b s w)=lU y w:=by
  unfold lU
  rw[uT,el]
  refine RA λj hj=>?_
  have hj:=cL.mp hj
  refine decide_eq_decide.mpr ?_
  refine and_congr_right λhl=>not_congr ?_
  have e:∃a,y.getD j none=some a:=by
   cases e:y.getD j none with
   | none=>exact absurd ((cy1 hj).mpr e) hl
   | some a=>exact⟨a,rfl⟩
  obtain⟨a,ea⟩:=e
  rw[Wc,Wc,Wu hj,ea,Jm (by omega)]
  show gp m (gm m b a) (cf s j)=_↔a=_
  exact⟨λh=>cN2 hm hb b0 (Wd hy j a ea) (bY hm aw j) (bY hm as j) h,λh=>by rw[h]⟩
 have ez:∀r∈T,(gd m r (jL m b s w)=0↔gd m r w=0):=λr hr=>by
  rw[cQ3 hm (by rw[(hT r hr).1,lw]) (by omega),sz r hr,uH (cj hm _ _)]
  refine⟨λh=>?_,λh=>by rw[h,gi m _ h0]⟩
  obtain⟨v,v1,v2⟩:=Ae hm (lo1 hm) hb b0
  have e:=congrArg (gm m v) h
  rwa [<-i9 h0,v2,j4 (wb hm _ _),gi m _ h0]at e
 refine⟨λh=>⟨by rw[Jl,uT,lw,ly],cL9 hm as,λr hr=>(ez r hr).mpr (h.z r hr),by rw[el,ew];exact h.uS⟩,λh=>⟨by rw[lw,ly],aw,λr hr=>(ez r hr).mp (h.z r hr),?_⟩⟩
 have:=h.uS
 rw[el,ew]at this
 exact this
theorem cC7(hm:m∈aD){b n:Nat}{s v:List Nat}(ls:s.length=n)(lv:v.length=n)(as:AllLt (aa m) s)(av:AllLt (aa m) v)(hb:b<aa m)(b0:b≠0):∃w,w.length=n/\AllLt (aa m) w/\jL m b s w=v:=by
 have h0:=bX m hm
 obtain⟨i,i1,i2⟩:=Ae hm (lo1 hm) hb b0
 refine⟨(bg n).map λj=>gm m i (bG m (cf v j) (cf s j)),by rw[bB,dQ],λa ha=>?_,?_⟩
 ·obtain⟨j,_,rfl⟩:=bE.mp ha
  exact cj hm _ _
 ·have l:((bg n).map λj=>gm m i (bG m (cf v j) (cf s j))).length=n:=by rw[bB,dQ]
  refine VO ((Jl ..).trans l) lv λj hj=>?_
  have g:=fE hm (bY hm av j) (bY hm as j)
  rw[Jm (by omega),IE _ hj,<- i9 h0,iC m b,i2,j4 g.2.1,g.2.2]
theorem cD3(b:Nat)(s w:List Nat):jk m b s (w.map some)=(jL m b s w).map some:=by
 unfold jk jL
 rw[bB,cm]
 refine qa λj hj=>?_
 rw[cB2 (cL.mp hj)];rfl
end
end L3
namespace HK31
open PySem.W (Frag codeHdIn nsIn fnOf codeIn keepIn findIn isFn specialIn takesIn mroIn mg_of mg_none_of CodeHd)
open PySem L2 L3 Mf
seal L2.PSs L2.PS L2.PE L2.PT L2.PA L2.PI L2.PG L2.PO L2.PW
local macro_rules | `(tactic| walk_at "l3") => do
  let l ← (("qE mI qG oq dT kX ku by4 dC oh mH mG mF om qD mP rf oM rh rj qu qv qw qA qB qC oj q8 oI oJ oA qN oE qO qP qQ qR qS qT iI gz qU qV qW qX oG oH kZ q0 q5 gN rk q9 qH qJ ou qK qL qM rl rm mJ kB fR iV iz p7 pZ sR vh oo jW iU oK lL rA rC rD uq kE rH oU rF iZ uv ur uu dz jN nK nC gK vi bH nL nM gO gP sT exists_eq_left' exists_eq_left D.bl.injEq D.int.injEq D.lst.injEq D.fz.injEq D.str.injEq D.tup.injEq sU and_true true_and dY p9 kM ka tQ tR tS tT tU tV fi jT gB tZ t7 t8 t9 ua dj jU rn tW tX tY eT n9 vj vk sA ft vm vn sF uf ug uh ui uj uk um lH lJ oR jE oS ud rz ub rp ue lK rq if_true vo if_false reduceIte uo decide_eq_true_eq e5 kF mV uB mW uA qI rL pf rG oX oY rP rV pH dm mZ jc uL pj r6 sL cS1 cO6 cx9 cA6 Ab uI".splitOn " ").toArray.map fun (s : String) => Lean.mkIdent s.toName).mapM fun i => `(Lean.Parser.Tactic.simpLemma| $i:term)
  `(tactic| (try dsimp only [$l,*]) <;> (try simp only [$l,*]))
noncomputable def top (i:Nat):Stmt:=PySem.Challenge.pw_mendfield_k31_whole_moved.main.body.getD i (.Pass ⟨0,0,0,0⟩)
noncomputable abbrev wD:Stmt:=top 50
theorem Jn:bw ["_law_cell_here","_law_some","_law_primes"] ["_law_cell_here"] (aB wD):=⟨rfl,rfl,rfl,by decide +kernel,rfl,by decide +kernel,by decide +kernel⟩
noncomputable abbrev wF:Stmt:=top 38
theorem DF:bw ["a","product","found","power"] ["a","product"] (aB wF):=⟨rfl,rfl,rfl,by decide +kernel,rfl,by decide +kernel,by decide +kernel⟩
noncomputable abbrev wG:Stmt:=top 39
theorem Ar:bw ["many","product","step","found"] ["many","product"] (aB wG):=⟨rfl,rfl,rfl,by decide +kernel,rfl,by decide +kernel,by decide +kernel⟩
noncomputable abbrev wH:Stmt:=top 40
theorem Jo:bw ["powers","logs","n","a"] ["powers"] (aB wH):=⟨rfl,rfl,rfl,by decide +kernel,rfl,by decide +kernel,by decide +kernel⟩
noncomputable abbrev wI:Stmt:=iP (top 44) 8
theorem aF1:bw ["self","n"] ["self","n"] (aB wI):=⟨rfl,rfl,rfl,by decide +kernel,rfl,by decide +kernel,by decide +kernel⟩
noncomputable abbrev wJ:Stmt:=iP (top 44) 0
theorem aQ4:bw ["self","many","product"] ["self","many","product"] (aB wJ):=⟨rfl,rfl,rfl,by decide +kernel,rfl,by decide +kernel,by decide +kernel⟩
noncomputable abbrev wK:Stmt:=top 43
theorem aD3:bw ["prime"] ["prime"] (aB wK):=⟨rfl,rfl,rfl,by decide +kernel,rfl,by decide +kernel,by decide +kernel⟩
noncomputable abbrev pL:Stmt:=iP (top 46) 0
theorem aG5:bw ["self","prime"] ["self","prime"] (aB pL):=⟨rfl,rfl,rfl,by decide +kernel,rfl,by decide +kernel,by decide +kernel⟩
noncomputable abbrev wL:Stmt:=top 41
theorem DG:bw ["powers","logs","many","rows","a"] ["powers","logs"] (aB wL):=⟨rfl,rfl,rfl,by decide +kernel,rfl,by decide +kernel,by decide +kernel⟩
noncomputable abbrev wM:Stmt:=top 35
theorem wN:bw ["a","b","quotient","rest","shift"] ["a","b"] (aB wM):=⟨rfl,rfl,rfl,by decide +kernel,rfl,by decide +kernel,by decide +kernel⟩
noncomputable abbrev wO:Stmt:=top 36
theorem Jp:bw ["a","half","b"] ["a"] (aB wO):=⟨rfl,rfl,rfl,by decide +kernel,rfl,by decide +kernel,by decide +kernel⟩
noncomputable abbrev wQ:Stmt:=top 42
theorem aG6:bw ["bits"] ["bits"] (aB wQ):=⟨rfl,rfl,rfl,by decide +kernel,rfl,by decide +kernel,by decide +kernel⟩
noncomputable abbrev wR:Stmt:=top 34
theorem DH:bw ["a","b","product","k"] ["a","b"] (aB wR):=⟨rfl,rfl,rfl,by decide +kernel,rfl,by decide +kernel,by decide +kernel⟩
noncomputable abbrev pM:Stmt:=iP (top 45) 0
theorem Ww:bw ["self","bits","many"] ["self","bits"] (aB pM):=⟨rfl,rfl,rfl,by decide +kernel,rfl,by decide +kernel,by decide +kernel⟩
noncomputable abbrev wU:Stmt:=top 54
theorem aQ5:bw ["_law_told_here"] ["_law_told_here"] (aB wU):=⟨rfl,rfl,rfl,by decide +kernel,rfl,by decide +kernel,by decide +kernel⟩
noncomputable abbrev wV:Stmt:=top 61
theorem DI:bw ["_law_cell_here","_law_base","_law_count","_law_row","_law_k"] ["_law_cell_here","_law_base","_law_count"] (aB wV):=⟨rfl,rfl,rfl,by decide +kernel,rfl,by decide +kernel,by decide +kernel⟩
noncomputable abbrev wW:Stmt:=top 52
theorem aS1:bw ["_law_told_here","_law_a","_law_b"] ["_law_told_here","_law_a","_law_b"] (aB wW):=⟨rfl,rfl,rfl,by decide +kernel,rfl,by decide +kernel,by decide +kernel⟩
noncomputable abbrev wX:Stmt:=top 53
theorem wY:bw ["_law_told_here","_law_a","_law_b","_law_total"] ["_law_told_here","_law_a","_law_b"] (aB wX):=⟨rfl,rfl,rfl,by decide +kernel,rfl,by decide +kernel,by decide +kernel⟩
noncomputable abbrev wZ:Stmt:=top 55
theorem DJ:bw ["_law_told_here","_law_xs","_law_ys","_law_total","_law_x","_law_y"] ["_law_told_here","_law_xs","_law_ys"] (aB wZ):=⟨rfl,rfl,rfl,by decide +kernel,rfl,by decide +kernel,by decide +kernel⟩
noncomputable abbrev w6:Stmt:=top 56
theorem aO8:bw ["_law_told_here","_law_xs","_law_table_here","_law_wide"] ["_law_told_here","_law_xs","_law_table_here","_law_wide"] (aB w6):=⟨rfl,rfl,rfl,by decide +kernel,rfl,by decide +kernel,by decide +kernel⟩
noncomputable abbrev w9:Stmt:=top 48
theorem aS2:bw ["_law_script","_law_k"] ["_law_script","_law_k"] (aB w9):=⟨rfl,rfl,rfl,by decide +kernel,rfl,by decide +kernel,by decide +kernel⟩
noncomputable abbrev xa:Stmt:=top 51
theorem aS3:bw ["_law_told_here"] ["_law_told_here"] (aB xa):=⟨rfl,rfl,rfl,by decide +kernel,rfl,by decide +kernel,by decide +kernel⟩
noncomputable abbrev xb:Stmt:=top 57
theorem xf:bw ["_law_told_here","_law_script","_law_begin","_law_rows","_law_wide","_law_way","_law_table_here","_law_i","_law_row"] ["_law_told_here","_law_script","_law_begin","_law_rows","_law_wide","_law_way"] (aB xb):=⟨rfl,rfl,rfl,by decide +kernel,rfl,by decide +kernel,by decide +kernel⟩
noncomputable abbrev xg:Stmt:=top 62
theorem Wx:bw ["_law_told_here","_law_script","_law_rows","_law_wide","_law_row"] ["_law_told_here","_law_script","_law_rows","_law_wide"] (aB xg):=⟨rfl,rfl,rfl,by decide +kernel,rfl,by decide +kernel,by decide +kernel⟩
noncomputable abbrev xh:Stmt:=top 2
theorem aV4:bw ["table"] ["table"] (aB xh):=⟨rfl,rfl,rfl,by decide +kernel,rfl,by decide +kernel,by decide +kernel⟩
noncomputable abbrev xi:Stmt:=top 3
theorem aX2:bw ["table"] ["table"] (aB xi):=⟨rfl,rfl,rfl,by decide +kernel,rfl,by decide +kernel,by decide +kernel⟩
noncomputable abbrev xj:Stmt:=top 14
theorem aS4:bw ["column"] ["column"] (aB xj):=⟨rfl,rfl,rfl,by decide +kernel,rfl,by decide +kernel,by decide +kernel⟩
noncomputable abbrev xk:Stmt:=iP (top 44) 5
theorem aQ6:bw ["self","a","b"] ["self","a","b"] (aB xk):=⟨rfl,rfl,rfl,by decide +kernel,rfl,by decide +kernel,by decide +kernel⟩
noncomputable abbrev xm:Stmt:=iP (top 45) 7
theorem Wy:bw ["self","row","a","other","by_a"] ["self","row","a","other"] (aB xm):=⟨rfl,rfl,rfl,by decide +kernel,rfl,by decide +kernel,by decide +kernel⟩
noncomputable abbrev xn:Stmt:=iP (top 46) 7
theorem Wz:bw ["self","row","a","other","prime"] ["self","row","a","other"] (aB xn):=⟨rfl,rfl,rfl,by decide +kernel,rfl,by decide +kernel,by decide +kernel⟩
noncomputable abbrev xo:Stmt:=iP (top 45) 3
theorem aJ8:bw ["self","a","b"] ["self","a","b"] (aB xo):=⟨rfl,rfl,rfl,by decide +kernel,rfl,by decide +kernel,by decide +kernel⟩
noncomputable abbrev xp:Stmt:=iP (top 46) 3
theorem aF2:bw ["self","a","b"] ["self","a","b"] (aB xp):=⟨rfl,rfl,rfl,by decide +kernel,rfl,by decide +kernel,by decide +kernel⟩
noncomputable abbrev xq:Stmt:=top 15
theorem xt:bw ["field","column","others","place","inverse","found","other","left"] ["field","column","others"] (aB xq):=⟨rfl,rfl,rfl,by decide +kernel,rfl,by decide +kernel,by decide +kernel⟩
noncomputable abbrev xu:Stmt:=top 16
theorem r9:bw ["field","table","width","sets","larger","places","behind","number","column","bigger"] ["field","table"] (aB xu):=⟨rfl,rfl,rfl,by decide +kernel,rfl,by decide +kernel,by decide +kernel⟩
noncomputable abbrev xv:Stmt:=top 9
theorem cm7:bw ["rows"] ["rows"] (aB xv):=⟨rfl,rfl,rfl,by decide +kernel,rfl,by decide +kernel,by decide +kernel⟩
noncomputable abbrev xw:Stmt:=top 10
theorem WA:bw ["rows","width","taken"] ["rows","width"] (aB xw):=⟨rfl,rfl,rfl,by decide +kernel,rfl,by decide +kernel,by decide +kernel⟩
noncomputable abbrev xx:Stmt:=iP (top 45) 2
theorem aJ9:bw ["self","a","b"] ["self","a","b"] (aB xx):=⟨rfl,rfl,rfl,by decide +kernel,rfl,by decide +kernel,by decide +kernel⟩
noncomputable abbrev xy:Stmt:=iP (top 46) 2
theorem aF3:bw ["self","a","b"] ["self","a","b"] (aB xy):=⟨rfl,rfl,rfl,by decide +kernel,rfl,by decide +kernel,by decide +kernel⟩
noncomputable abbrev xA:Stmt:=top 11
theorem xB:bw ["field","rows","width","taken","found","free","x","lead","row"] ["field","rows","width"] (aB xA):=⟨rfl,rfl,rfl,by decide +kernel,rfl,by decide +kernel,by decide +kernel⟩
noncomputable abbrev xC:Stmt:=top 6
theorem WB:bw ["rows","place","number","row"] ["rows","place"] (aB xC):=⟨rfl,rfl,rfl,by decide +kernel,rfl,by decide +kernel,by decide +kernel⟩
noncomputable abbrev xD:Stmt:=iP (top 45) 6
theorem WC:bw ["self","a","row","by_a"] ["self","a","row"] (aB xD):=⟨rfl,rfl,rfl,by decide +kernel,rfl,by decide +kernel,by decide +kernel⟩
noncomputable abbrev xE:Stmt:=iP (top 46) 6
theorem WD:bw ["self","a","row","prime"] ["self","a","row"] (aB xE):=⟨rfl,rfl,rfl,by decide +kernel,rfl,by decide +kernel,by decide +kernel⟩
noncomputable abbrev xF:Stmt:=top 7
theorem aW7:bw ["field","rows","lead_row","place"] ["field","rows","lead_row","place"] (aB xF):=⟨rfl,rfl,rfl,by decide +kernel,rfl,by decide +kernel,by decide +kernel⟩
noncomputable abbrev xG:Stmt:=top 8
theorem se:bw ["field","table","done","left","place","number","lead_row"] ["field","table"] (aB xG):=⟨rfl,rfl,rfl,by decide +kernel,rfl,by decide +kernel,by decide +kernel⟩
noncomputable abbrev xH:Stmt:=top 12
theorem aX3:bw ["field","table"] ["field","table"] (aB xH):=⟨rfl,rfl,rfl,by decide +kernel,rfl,by decide +kernel,by decide +kernel⟩
noncomputable abbrev xI:Stmt:=top 60
theorem aS5:bw ["_law_table_here"] ["_law_table_here"] (aB xI):=⟨rfl,rfl,rfl,by decide +kernel,rfl,by decide +kernel,by decide +kernel⟩
noncomputable abbrev xJ:Stmt:=top 49
theorem aQ7:bw ["_law_x"] ["_law_x"] (aB xJ):=⟨rfl,rfl,rfl,by decide +kernel,rfl,by decide +kernel,by decide +kernel⟩
noncomputable abbrev xK:Stmt:=top 58
theorem aL8:bw ["_law_row","_law_wide","_law_many_here"] ["_law_row","_law_wide","_law_many_here"] (aB xK):=⟨rfl,rfl,rfl,by decide +kernel,rfl,by decide +kernel,by decide +kernel⟩
noncomputable abbrev xM:Stmt:=top 59
theorem aG7:bw ["_law_table_here","_law_rows","_law_wide","_law_many_here"] ["_law_table_here","_law_rows","_law_wide","_law_many_here"] (aB xM):=⟨rfl,rfl,rfl,by decide +kernel,rfl,by decide +kernel,by decide +kernel⟩
noncomputable abbrev xN:Stmt:=top 63
theorem xO:bw ["_law_told_here","_law_script","_law_field_here","_law_table_here","_law_wide","_law_lines","_law_signs","_law_sent_here"] ["_law_told_here","_law_script","_law_field_here","_law_table_here"] (aB xN):=⟨rfl,rfl,rfl,by decide +kernel,rfl,by decide +kernel,by decide +kernel⟩
noncomputable abbrev xP:Stmt:=top 64
theorem As:bw ["_law_told_here","_law_script","_law_wide","_law_word_here","_law_row","_law_k","_law_cell_here"] ["_law_told_here","_law_script","_law_wide"] (aB xP):=⟨rfl,rfl,rfl,by decide +kernel,rfl,by decide +kernel,by decide +kernel⟩
noncomputable abbrev xQ:Stmt:=top 18
theorem aO9:bw ["signs"] ["signs"] (aB xQ):=⟨rfl,rfl,rfl,by decide +kernel,rfl,by decide +kernel,by decide +kernel⟩
noncomputable abbrev xR:Stmt:=top 19
theorem aF4:bw ["signs"] ["signs"] (aB xR):=⟨rfl,rfl,rfl,by decide +kernel,rfl,by decide +kernel,by decide +kernel⟩
noncomputable abbrev xS:Stmt:=iP (top 45) 5
theorem Au:bw ["self","xs","ys","products","total","x","y"] ["self","xs","ys"] (aB xS):=⟨rfl,rfl,rfl,by decide +kernel,rfl,by decide +kernel,by decide +kernel⟩
noncomputable abbrev xT:Stmt:=iP (top 46) 5
theorem aK0:bw ["self","xs","ys"] ["self","xs","ys"] (aB xT):=⟨rfl,rfl,rfl,by decide +kernel,rfl,by decide +kernel,by decide +kernel⟩
noncomputable abbrev xU:Stmt:=top 5
theorem aS6:bw ["field","table","column"] ["field","table","column"] (aB xU):=⟨rfl,rfl,rfl,by decide +kernel,rfl,by decide +kernel,by decide +kernel⟩
noncomputable abbrev xV:Stmt:=top 26
theorem Jq:bw ["field","columns","lost","place"] ["field","columns","lost"] (aB xV):=⟨rfl,rfl,rfl,by decide +kernel,rfl,by decide +kernel,by decide +kernel⟩
noncomputable abbrev xW:Stmt:=top 25
theorem Av:bw ["field","columns","due","most","number","column","behind","further","found"] ["field","columns","due","most"] (aB xW):=⟨rfl,rfl,rfl,by decide +kernel,rfl,by decide +kernel,by decide +kernel⟩
noncomputable abbrev xX:Stmt:=top 27
theorem DK:bw ["field","table","lost","sums","most","columns","others","numbers"] ["field","table","lost","sums","most"] (aB xX):=⟨rfl,rfl,rfl,by decide +kernel,rfl,by decide +kernel,by decide +kernel⟩
noncomputable abbrev xY:Stmt:=top 20
theorem Jr:bw ["field","word","places","signs","left","place","sign"] ["field","word","places","signs"] (aB xY):=⟨rfl,rfl,rfl,by decide +kernel,rfl,by decide +kernel,by decide +kernel⟩
noncomputable abbrev xZ:Stmt:=top 22
theorem aV5:bw ["table","due"] ["table","due"] (aB xZ):=⟨rfl,rfl,rfl,by decide +kernel,rfl,by decide +kernel,by decide +kernel⟩
noncomputable abbrev x6:Stmt:=top 23
theorem x8:bw ["field","table","due","width","rows","taken","x","lead","row"] ["field","table","due"] (aB x6):=⟨rfl,rfl,rfl,by decide +kernel,rfl,by decide +kernel,by decide +kernel⟩
noncomputable abbrev x9:Stmt:=top 4
theorem aX4:bw ["table","places"] ["table","places"] (aB x9):=⟨rfl,rfl,rfl,by decide +kernel,rfl,by decide +kernel,by decide +kernel⟩
noncomputable abbrev ya:Stmt:=top 28
theorem yb:bw ["field","table","room","word","lost","known","sums","wrong","places"] ["field","table","room","word"] (aB ya):=⟨rfl,rfl,rfl,by decide +kernel,rfl,by decide +kernel,by decide +kernel⟩
noncomputable abbrev yc:Stmt:=top 65
theorem Js:bw ["_law_told_here","_law_word_here","_law_by","_law_sent_here","_law_found","_law_x","_law_y"] ["_law_told_here","_law_word_here","_law_by","_law_sent_here"] (aB yc):=⟨rfl,rfl,rfl,by decide +kernel,rfl,by decide +kernel,by decide +kernel⟩
noncomputable abbrev pO:Stmt:=top 66
theorem jl:bw ["_law_script","_law_told_here","_law_field_here","_law_rows","_law_wide","_law_table_here","_law_most","_law_bound","_law_room","_law_sent_here","_law_word_here","_law_by","_law_one","_law_other"] ["_law_script"] (aB pO):=⟨rfl,rfl,rfl,by decide +kernel,rfl,by decide +kernel,by decide +kernel⟩
set_option genInjectivity false in
set_option genSizeOf false in
structure gU where
 Jt:Addr
 Ju:FuncData
 Jv:Addr
 Jw:FuncData
 Jx:Addr
 Jy:FuncData
 Jz:Addr
 JA:FuncData
 Aw:Addr
 JB:FuncData
 JC:Addr
 JE:FuncData
 JF:Addr
 JG:FuncData
 JH:Addr
 DL:FuncData
 JI:Addr
 JJ:FuncData
 JK:Addr
 JL:FuncData
 JM:Addr
 JN:FuncData
 JO:Addr
 JP:FuncData
 JQ:Addr
 JR:FuncData
 JS:Addr
 DM:FuncData
 JT:Addr
 JU:FuncData
 JV:Addr
 JW:FuncData
 JX:Addr
 JY:FuncData
 JZ:Addr
 J0:FuncData
 J1:Addr
 J2:FuncData
 J3:Addr
 J4:FuncData
 J5:Addr
 J6:FuncData
 J7:Addr
 J8:FuncData
 J9:Addr
 Ka:FuncData
 Kb:Addr
 Kd:FuncData
 Ke:Addr
 Kf:FuncData
 Kg:Addr
 Kh:FuncData
 Ki:Addr
 Kj:FuncData
 DN:Addr
 Kk:FuncData
 Kl:Addr
 Km:FuncData
 Kn:Addr
 Ko:FuncData
 Kp:Addr
 Kq:FuncData
 Kr:Addr
 Ks:FuncData
 Kt:Addr
 Ku:FuncData
 Kv:Addr
 Kw:FuncData
 Kx:Addr
 Ky:FuncData
 Kz:Addr
 KA:FuncData
 KC:Addr
 KD:FuncData
 KG:Addr
 KH:FuncData
 KI:Addr
 KJ:FuncData
 KL:Addr
 KN:FuncData
 KO:Addr
 KP:FuncData
 KQ:Addr
 KR:FuncData
 KS:Addr
 KU:FuncData
 KW:Addr
 KY:FuncData
 KZ:Addr
 K0:FuncData
 K1:Addr
 K2:FuncData
 K3:Addr
 K4:FuncData
 K5:Addr
 K6:FuncData
 K7:Addr
 K8:FuncData
 K9:Addr
 La:FuncData
 Lb:Addr
 Lc:FuncData
 Ld:Addr
 Le:FuncData
 Lf:Addr
 Lg:FuncData
 Lh:Addr
 Li:FuncData
 Lj:Addr
 Lk:FuncData
 Ll:Addr
 Lm:FuncData
 Ln:Addr
 Lo:FuncData
 yd:Addr
 ye:FuncData
 Lp:Addr
 Lq:FuncData
 Lr:Addr
 Lu:FuncData
 Lw:Addr
 Lx:FuncData
 Ly:Addr
 Lz:FuncData
 LA:Addr
 LB:FuncData
 LC:Addr
 LD:FuncData
 LF:Addr
 LG:FuncData
 LH:Addr
 LJ:FuncData
 WE:Addr
 lV:Addr
 WG:Addr
 lW:Addr
 aV:Addr
 iF:Addr
 lX:Addr
 aW:Addr
structure Txt(K:Frag)(mg:Str->Option Value)(t:gU):Prop where
 WH:bt K "_law_told" "_law_told" wD t.Jt t.Ju
 aV6:mg "_law_told"=some (.ref t.Jt)
 aV7:Binds K t.Ju ["_law_cell_here"] []
 LK:bt K "powers_of" "powers_of" wF t.Jv t.Jw
 WI:mg "powers_of"=some (.ref t.Jv)
 WJ:Binds K t.Jw ["a","product"] []
 WK:bt K "step_powers" "step_powers" wG t.Jx t.Jy
 dX2:mg "step_powers"=some (.ref t.Jx)
 dX3:Binds K t.Jy ["many","product"] []
 WL:bt K "logs_of" "logs_of" wH t.Jz t.JA
 dX4:mg "logs_of"=some (.ref t.Jz)
 dX5:Binds K t.JA ["powers"] []
 aG8:bt K "step_power" "Field.step_power" wI t.Aw t.JB
 LL:Binds K t.JB ["self","n"] []
 aS7:bt K "__init__" "Field.__init__" wJ t.JC t.JE
 WM:Binds K t.JE ["self","many","product"] []
 WN:bt K "makes_prime_field" "makes_prime_field" wK t.JF t.JG
 dX8:mg "makes_prime_field"=some (.ref t.JF)
 dX9:Binds K t.JG ["prime"] []
 aK1:bt K "__init__" "PrimeField.__init__" pL t.JH t.DL
 aK2:Binds K t.DL ["self","prime"] []
 WO:bt K "product_rows" "product_rows" wL t.JI t.JJ
 dY2:mg "product_rows"=some (.ref t.JI)
 dY3:Binds K t.JJ ["powers","logs"] []
 LM:bt K "bits_divided" "bits_divided" wM t.JK t.JL
 WQ:mg "bits_divided"=some (.ref t.JK)
 WR:Binds K t.JL ["a","b"] []
 WS:bt K "stands_alone" "stands_alone" wO t.JM t.JN
 dY4:mg "stands_alone"=some (.ref t.JM)
 dY5:Binds K t.JN ["a"] []
 WT:bt K "makes_bit_field" "makes_bit_field" wQ t.JO t.JP
 dY6:mg "makes_bit_field"=some (.ref t.JO)
 dY7:Binds K t.JP ["bits"] []
 WU:bt K "bits_times" "bits_times" wR t.JQ t.JR
 dY8:mg "bits_times"=some (.ref t.JQ)
 dY9:Binds K t.JR ["a","b"] []
 aN3:bt K "__init__" "BitField.__init__" pM t.JS t.DM
 aN4:Binds K t.DM ["self","bits"] []
 WV:bt K "_law_field" "_law_field" wU t.JT t.JU
 aS8:mg "_law_field"=some (.ref t.JT)
 aS9:Binds K t.JU ["_law_told_here"] []
 DO:bt K "_law_digits" "_law_digits" wV t.JV t.JW
 LN:mg "_law_digits"=some (.ref t.JV)
 LO:Binds K t.JW ["_law_cell_here","_law_base","_law_count"] []
 LP:bt K "_law_plus" "_law_plus" wW t.JX t.JY
 WW:mg "_law_plus"=some (.ref t.JX)
 WX:Binds K t.JY ["_law_told_here","_law_a","_law_b"] []
 LQ:bt K "_law_times" "_law_times" wX t.JZ t.J0
 WY:mg "_law_times"=some (.ref t.JZ)
 WZ:Binds K t.J0 ["_law_told_here","_law_a","_law_b"] []
 LR:bt K "_law_dot" "_law_dot" wZ t.J1 t.J2
 W0:mg "_law_dot"=some (.ref t.J1)
 W2:Binds K t.J2 ["_law_told_here","_law_xs","_law_ys"] []
 LS:bt K "_law_by_row" "_law_by_row" w6 t.J3 t.J4
 W3:mg "_law_by_row"=some (.ref t.J3)
 W4:Binds K t.J4 ["_law_told_here","_law_xs","_law_table_here","_law_wide"] []
 gI:bt K "_law_cell" "_law_cell" w9 t.J5 t.J6
 hJ:mg "_law_cell"=some (.ref t.J5)
 hV:Binds K t.J6 ["_law_script","_law_k"] []
 lY:bt K "_law_many" "_law_many" xa t.J7 t.J8
 m6:mg "_law_many"=some (.ref t.J7)
 m8:Binds K t.J8 ["_law_told_here"] []
 W5:bt K "_law_table" "_law_table" xb t.J9 t.Ka
 aT0:mg "_law_table"=some (.ref t.J9)
 aT1:Binds K t.Ka ["_law_told_here","_law_script","_law_begin","_law_rows","_law_wide","_law_way"] []
 W6:bt K "_law_drawn_table" "_law_drawn_table" xg t.Kb t.Kd
 aH4:mg "_law_drawn_table"=some (.ref t.Kb)
 aH5:Binds K t.Kd ["_law_told_here","_law_script","_law_rows","_law_wide"] []
 yf:bt K "width_of" "width_of" xh t.Ke t.Kf
 Az:mg "width_of"=some (.ref t.Ke)
 AA:Binds K t.Kf ["table"] []
 LU:bt K "turned" "turned" xi t.Kg t.Kh
 W7:mg "turned"=some (.ref t.Kg)
 W8:Binds K t.Kh ["table"] []
 AB:bt K "is_nought" "is_nought" xj t.Ki t.Kj
 DP:mg "is_nought"=some (.ref t.Ki)
 DQ:Binds K t.Kj ["column"] []
 aT2:bt K "over" "Field.over" xk t.DN t.Kk
 W9:Binds K t.Kk ["self","a","b"] []
 aF5:bt K "lessened" "BitField.lessened" xm t.Kl t.Km
 aF6:Binds K t.Km ["self","row","a","other"] []
 aC9:bt K "lessened" "PrimeField.lessened" xn t.Kn t.Ko
 aD0:Binds K t.Ko ["self","row","a","other"] []
 aL9:bt K "times" "BitField.times" xo t.Kp t.Kq
 aM0:Binds K t.Kq ["self","a","b"] []
 aH7:bt K "times" "PrimeField.times" xp t.Kr t.Ks
 aH8:Binds K t.Ks ["self","a","b"] []
 DR:bt K "past" "past" xq t.Kt t.Ku
 LV:mg "past"=some (.ref t.Kt)
 LW:Binds K t.Ku ["field","column","others"] []
 Xa:bt K "first_bound" "first_bound" xu t.Kv t.Kw
 d07:mg "first_bound"=some (.ref t.Kv)
 d08:Binds K t.Kw ["field","table"] []
 DS:bt K "leads" "leads" xv t.Kx t.Ky
 LX:mg "leads"=some (.ref t.Kx)
 LY:Binds K t.Ky ["rows"] []
 Xb:bt K "free_places" "free_places" xw t.Kz t.KA
 d09:mg "free_places"=some (.ref t.Kz)
 d11:Binds K t.KA ["rows","width"] []
 aM1:bt K "minus" "BitField.minus" xx t.KC t.KD
 aM2:Binds K t.KD ["self","a","b"] []
 aH9:bt K "minus" "PrimeField.minus" xy t.KG t.KH
 aI0:Binds K t.KH ["self","a","b"] []
 Xc:bt K "kernel_of_reduced" "kernel_of_reduced" xA t.KI t.KJ
 d17:mg "kernel_of_reduced"=some (.ref t.KI)
 d18:Binds K t.KJ ["field","rows","width"] []
 Xd:bt K "first_with" "first_with" xC t.KL t.KN
 d19:mg "first_with"=some (.ref t.KL)
 d20:Binds K t.KN ["rows","place"] []
 aK3:bt K "scaled" "BitField.scaled" xD t.KO t.KP
 aK4:Binds K t.KP ["self","a","row"] []
 aF7:bt K "scaled" "PrimeField.scaled" xE t.KQ t.KR
 aF8:Binds K t.KR ["self","a","row"] []
 LZ:bt K "cleared" "cleared" xF t.KS t.KU
 Xe:mg "cleared"=some (.ref t.KS)
 Xf:Binds K t.KU ["field","rows","lead_row","place"] []
 L0:bt K "reduced" "reduced" xG t.KW t.KY
 Xg:mg "reduced"=some (.ref t.KW)
 Xh:Binds K t.KY ["field","table"] []
 Xi:bt K "kernel" "kernel" xH t.KZ t.K0
 d25:mg "kernel"=some (.ref t.KZ)
 d26:Binds K t.K0 ["field","table"] []
 yg:bt K "_law_copy" "_law_copy" xI t.K1 t.K2
 AD:mg "_law_copy"=some (.ref t.K1)
 AE:Binds K t.K2 ["_law_table_here"] []
 Xj:bt K "_law_whole" "_law_whole" xJ t.K3 t.K4
 aT3:mg "_law_whole"=some (.ref t.K3)
 aT4:Binds K t.K4 ["_law_x"] []
 L1:bt K "_law_row_kind" "_law_row_kind" xK t.K5 t.K6
 Xk:mg "_law_row_kind"=some (.ref t.K5)
 Xl:Binds K t.K6 ["_law_row","_law_wide","_law_many_here"] []
 Xm:bt K "_law_table_kind" "_law_table_kind" xM t.K7 t.K8
 aK5:mg "_law_table_kind"=some (.ref t.K7)
 aK6:Binds K t.K8 ["_law_table_here","_law_rows","_law_wide","_law_many_here"] []
 Xn:bt K "_law_sent" "_law_sent" xN t.K9 t.La
 aV8:mg "_law_sent"=some (.ref t.K9)
 aV9:Binds K t.La ["_law_told_here","_law_script","_law_field_here","_law_table_here"] []
 Xo:bt K "_law_word" "_law_word" xP t.Lb t.Lc
 aW0:mg "_law_word"=some (.ref t.Lb)
 aW1:Binds K t.Lc ["_law_told_here","_law_script","_law_wide"] []
 Xp:bt K "lost_places" "lost_places" xQ t.Ld t.Le
 d35:mg "lost_places"=some (.ref t.Ld)
 d36:Binds K t.Le ["signs"] []
 Xq:bt K "noughts_for_lost" "noughts_for_lost" xR t.Lf t.Lg
 d37:mg "noughts_for_lost"=some (.ref t.Lf)
 d38:Binds K t.Lg ["signs"] []
 aP0:bt K "dot" "BitField.dot" xS t.Lh t.Li
 aP1:Binds K t.Li ["self","xs","ys"] []
 aM3:bt K "dot" "PrimeField.dot" xT t.Lj t.Lk
 aM4:Binds K t.Lk ["self","xs","ys"] []
 Xr:bt K "by_column" "by_column" xU t.Ll t.Lm
 d43:mg "by_column"=some (.ref t.Ll)
 d44:Binds K t.Lm ["field","table","column"] []
 Xs:bt K "past_lost" "past_lost" xV t.Ln t.Lo
 d45:mg "past_lost"=some (.ref t.Ln)
 d46:Binds K t.Lo ["field","columns","lost"] []
 L4:bt K "numbers_within" "numbers_within" xW t.yd t.ye
 Xt:mg "numbers_within"=some (.ref t.yd)
 Xu:Binds K t.ye ["field","columns","due","most"] []
 Xv:bt K "wrong_places" "wrong_places" xX t.Lp t.Lq
 d47:mg "wrong_places"=some (.ref t.Lp)
 d48:Binds K t.Lq ["field","table","lost","sums","most"] []
 Xw:bt K "taken_off" "taken_off" xY t.Lr t.Lu
 d49:mg "taken_off"=some (.ref t.Lr)
 d50:Binds K t.Lu ["field","word","places","signs"] []
 Xx:bt K "with_due" "with_due" xZ t.Lw t.Lx
 d51:mg "with_due"=some (.ref t.Lw)
 d52:Binds K t.Lx ["table","due"] []
 Xy:bt K "solved" "solved" x6 t.Ly t.Lz
 d53:mg "solved"=some (.ref t.Ly)
 d54:Binds K t.Lz ["field","table","due"] []
 Xz:bt K "picked" "picked" x9 t.LA t.LB
 d55:mg "picked"=some (.ref t.LA)
 d56:Binds K t.LB ["table","places"] []
 DT:bt K "near_row" "near_row" ya t.LC t.LD
 L5:mg "near_row"=some (.ref t.LC)
 L6:Binds K t.LD ["field","table","room","word"] []
 L7:bt K "_law_moved" "_law_moved" yc t.LF t.LG
 XA:mg "_law_moved"=some (.ref t.LF)
 XB:Binds K t.LG ["_law_told_here","_law_word_here","_law_by","_law_sent_here"] []
 d57:bt K "law" "law" pO t.LH t.LJ
 fk0:mg "law"=some (.ref t.LH)
 fk1:Binds K t.LJ ["_law_script"] []
 aI4:t.DL.code=.ref t.WE
 aI5:codeHdIn K t.WE t.lV=true
 aM5:t.DM.code=.ref t.WG
 aM6:codeHdIn K t.WG t.lW=true
 gw:eJ K t.aV
 AF:Mk K t.aV t.JS
 aY3:Vj K t.aV
 AG:cG K t.aV "bits"
 sg:cG K t.aV "logs"
 yh:cG K t.aV "many"
 uU:cG K t.aV "powers"
 DU:cG K t.aV "prime"
 pP:cG K t.aV "products"
 AH:cG K t.aV "step"
 AI:cG K t.aV "wide"
 AJ:Meth K t.aV "dot" t.Lh
 AK:Meth K t.aV "lessened" t.Kl
 AL:Meth K t.aV "minus" t.KC
 AM:Meth K t.aV "over" t.DN
 AN:Meth K t.aV "scaled" t.KO
 yi:Meth K t.aV "step_power" t.Aw
 AO:Meth K t.aV "times" t.Kp
 hW:eJ K t.aW
 AQ:Mk K t.aW t.JH
 aY2:Vj K t.aW
 DV:cG K t.aW "bits"
 uV:cG K t.aW "logs"
 yj:cG K t.aW "many"
 yk:cG K t.aW "powers"
 m9:cG K t.aW "prime"
 DW:cG K t.aW "products"
 AR:cG K t.aW "step"
 AS:cG K t.aW "wide"
 AU:Meth K t.aW "dot" t.Lj
 AV:Meth K t.aW "lessened" t.Kn
 AW:Meth K t.aW "minus" t.KG
 AX:Meth K t.aW "over" t.DN
 AY:Meth K t.aW "scaled" t.KQ
 ym:Meth K t.aW "step_power" t.Aw
 AZ:Meth K t.aW "times" t.Kr
 XC:CY K t.lX "__init__" t.JC
 DX:mg "all"=none
 d62:mg "any"=none
 d63:mg "bool"=none
 uW:mg "enumerate"=none
 d64:mg "int"=none
 A6:mg "isinstance"=none
 ib:mg "len"=none
 uX:mg "list"=none
 iG:mg "range"=none
 d65:mg "sum"=none
 nh:mg "zip"=none
 A7:mg "BitField"=some (.ref t.aV)
 A8:mg "ByNought"=some (.ref t.iF)
 yn:mg "Field"=some (.ref t.lX)
 A9:mg "PrimeField"=some (.ref t.aW)
 XD:HD K mg "ByNought" t.iF
 aY4:dv3 K t.iF
section
variable{P:Program}{w:World}{K:Frag}{mg:Str->Option Value}{base:Heap}{t:gU}
noncomputable abbrev aT5:bC:=λds Q=>∃c:Int,ds=[.int c]/\Q (da (rT c))
theorem aT6(T:Txt K mg t):aU P w K mg base bf 1 t.Jt t.Ju ["_law_cell_here"] (bA (aT5 )):=by
 refine bJ T.WH Jn ?_ ?_
 ·intro ds Q h
  obtain⟨c,rfl,q⟩:=h<;>rfl
 ·intro aK A outer s H E hr
  refine⟨_,(aF (aX (i:=1) Jn.nd rfl (ao rfl) (Uj (ns:=[7,11,13,19,25,31,37,41,47,55,59,61,67,73,87,91,97,103,109,115,117]) (by decide +kernel)))
   (aF (aX (i:=2) Jn.nd rfl (ao rfl) (Uj (ns:=[2,3,5,7,11,13,17,19,23,29,31,37,41,43,47,53,59,61]) (by decide +kernel)))
   (aF (cu (bR (fS (dF hr)) (ae (aI dk (bv 0) (ae aA))) (ae aA) (bO _)) (aG (aZ (zB (fB oi (fB (cV (bK (bv 1) (ae (aI dk (ae (aI iY (bv 0) (ae aA))) (ae aA))) (λ_ _=>rfl))) dD))))) cH)
   (aG (aZ (zB (fB oi (fB (cV (bK (bv 2) (ae (aI dk (ae (aI iY (bv 0) (ae aA))) (ae aA))) (λ_ _=>rfl))) dD)))))))),λds Q h=>?_⟩
  obtain⟨c,rfl,q⟩:=h
  refine aE λU hU=>?_
  walk_at"l3"
  refine⟨by decide,hU _ ?_⟩
  clear hU U
  refine aE λU hU=>?_
  walk_at"l3"
  refine⟨by decide,hU _ ?_⟩
  clear hU U
  refine aE λU hU=>?_
  walk_at"l3"
  refine⟨by decide,?_⟩
  have n1:=jn (c/2) (show(21:Int)≠0 by decide)
  have n2:=jo (c/2) (show(0:Int)<21 by decide)
  have n3:=jn (c/2) (show(18:Int)≠0 by decide)
  have n4:=jo (c/2) (show(0:Int)<18 by decide)
  split
  ·rename_i hc
   refine⟨iX (by decide) (by decide),by decide,_,mS n1 (by simpa using n2),rfl,by decide,?_⟩
   have e:da (rT c)=.tup [.bl true,.int (([7,11,13,19,25,31,37,41,47,55,59,61,67,73,87,91,97,103,109,115,117]:List Int).getD (c/2%21).toNat 0)]:=by
    unfold rT da
    rw[if_pos hc]
    have:∀k:Nat,((gE.getD k 0:Nat):Int)=([7,11,13,19,25,31,37,41,47,55,59,61,67,73,87,91,97,103,109,115,117]:List Int).getD k 0:=λk=>by
     show _=(gE.map (λ(n:Nat)=>(n:Int))).getD k ((0:Nat):Int)
     rw[aQ,aQ,bQ]
     cases gE[k]?<;>rfl
    rw[<-this]
   rw[<-e];exact q
  ·rename_i hc
   refine hU _ ?_
   walk_at"l3"
   refine⟨iX (by decide) (by decide),by decide,_,mS n3 (by simpa using n4),rfl,by decide,?_⟩
   have e:da (rT c)=.tup [.bl false,.int (([2,3,5,7,11,13,17,19,23,29,31,37,41,43,47,53,59,61]:List Int).getD (c/2%18).toNat 0)]:=by
    unfold rT da
    rw[if_neg hc]
    have:∀k:Nat,((oZ.getD k 0:Nat):Int)=([2,3,5,7,11,13,17,19,23,29,31,37,41,43,47,53,59,61]:List Int).getD k 0:=λk=>by
     show _=(oZ.map (λ(n:Nat)=>(n:Int))).getD k ((0:Nat):Int)
     rw[aQ,aQ,bQ]
     cases oZ[k]?<;>rfl
    rw[<-this]
   rw[<-e];exact q
noncomputable abbrev aT7(L:Obj->Obj->Addr->Addr->vV->Prop):bC:=λds Q=>∃(a:Nat) (of oc:Obj) (c k:Addr) (g:Nat->Nat->Nat) (l:List Int),ds=[.int a,.bM (.lam of oc c k)]/\L of oc c k (bD g)/\a<64/\Ia g a=some l/\Q (.lst true (aL l))
theorem XE(T:Txt K mg t):aU P w K mg base bf 5 t.Jv t.Jw ["a","product"] (bA (aT7 (zU P w K mg base 4))):=by
 refine bJ T.LK DF ?_ ?_
 ·intro ds Q h
  obtain⟨a,of,oc,c,k,g,l,rfl,hL,ha,hp,q⟩:=h<;>rfl
 ·intro aK A outer s H E hr
  refine⟨_,(aF (aX (i:=2) DF.nd rfl (ao rfl) (eM (fB aA dD)))
   (aF (aX (i:=3) DF.nd rfl (ao rfl) (UI (n:=4) (i:=1) rfl (by first | exact ao rfl | exact bh (ao rfl)) (hr.mono (by decide)) (af (ae aA) (af (bv 0) au))))
   (aF (zD eR (bR (mO (dF hr)) (bv 3) (ae aA) (bO _))
    (aF (kD (i:=2) rfl (by first | exact ao rfl | exact bh (ao rfl)) (cV (bv 3)))
    (aG (aX (i:=3) DF.nd rfl (ao rfl) (UI (n:=4) (i:=1) rfl (by first | exact ao rfl | exact bh (ao rfl)) (hr.mono (by decide)) (af (bv 3) (af (bv 0) au)))))))
   (aG (aZ (em 2)))))),λds Q h=>?_⟩
  obtain⟨a,of,oc,c,k,g,l,rfl,hL,ha,hp,q⟩:=h
  refine aE λU hU=>?_
  walk_at"l3"
  refine⟨by decide,hU _ ?_⟩
  clear hU U
  refine aE λU hU=>?_
  walk_at"l3"
  refine⟨of,oc,c,k,bD g,rfl,hL,1,a,⟨rfl,rfl⟩,1,a,rfl,rfl,by decide,ha,hU _ ?_⟩
  clear hU U
  refine aE λU hU=>?_
  walk_at"l3"
  refine⟨λm δ=>∃(p:Nat) (acc:List Int),δ=[some (.int a),some (.bM (.lam of oc c k)),some (.lst true (aL acc)),some (.int p)]/\acc.length+m<=70/\C2 g a m p acc=some l,⟨64,_,[1],rfl,by decide,hp⟩,?_⟩
  rintro m δ ⟨p,acc,rfl,hn,hg⟩
  walk_at"l3"
  cases m with
  | zero=>cases hg
  | succ m =>
   unfold C2 at hg
   split at hg
   ·rename_i h1
    subst h1
    cases hg
    rw[if_neg (by simp)]
    refine hU _ ?_
    walk_at"l3"
    exact q
   ·rename_i h1
    rw[if_pos (by simp;omega)]
    split at hg
    ·rename_i h2
     clear hU
     refine aE λU hU=>?_
     walk_at"l3"
     refine⟨⟨_,rfl⟩,by omega,hU _ ?_⟩
     clear hU
     walk_at"l3"
     exact⟨of,oc,c,k,bD g,rfl,hL,p,a,⟨rfl,rfl⟩,p,a,rfl,rfl,h2,ha,m,by omega,g p a,acc++[(p:Int)],⟨by rw[<-oS];rfl,rfl⟩,by simp;omega,hg⟩
    ·cases hg
noncomputable abbrev aP2(L:Obj->Obj->Addr->Addr->vV->Prop):bC:=λds Q=>∃(n:Nat) (of oc:Obj) (c k:Addr) (g:Nat->Nat->Nat) (l:List Int),ds=[.int n,.bM (.lam of oc c k)]/\L of oc c k (bD g)/\z4 g n=some l/\Q (.lst true (aL l))
theorem aP3(T:Txt K mg t):aU P w K mg base bf 6 t.Jx t.Jy ["many","product"] (bA (aP2 (zU P w K mg base 4))):=by
 refine bJ T.WK Ar ?_ ?_
 ·intro ds Q h
  obtain⟨n,of,oc,c,k,g,l,rfl,hL,hp,q⟩:=h<;>rfl
 ·intro aK A outer s H E hr
  refine⟨_,(aF (aX (i:=2) Ar.nd rfl (ao rfl) aA)
   (aF (aX (i:=3) Ar.nd rfl (ao rfl) (aS ((XE T).mono (by decide)) hr rfl T.WI T.LK.kp T.WJ aN (af (bv 2) (af (bv 1) au))))
   (aF (zD eR (bR CB (ae (fj (gZ) (by rfl) T.ib gW (af (bv 3) au))) (ae (aI gY (bv 0) (ae aA))) (bO _))
    (aF (zC (i:=2) Ar.nd rfl (ao rfl) (ae aA) cG8)
    (aG (aX (i:=3) Ar.nd rfl (ao rfl) (aS ((XE T).mono (by decide)) hr rfl T.WI T.LK.kp T.WJ aN (af (bv 2) (af (bv 1) au)))))))
   (aG (aZ (em 3)))))),λds Q h=>?_⟩
  obtain⟨n,of,oc,c,k,g,l,rfl,hL,hp,q⟩:=h
  unfold z4 at hp
  split at hp
  ·rename_i l0 h0
   refine aE λU hU=>?_
   walk_at"l3"
   refine hU _ ?_
   clear hU U
   refine aE λU hU=>?_
   walk_at"l3"
   refine⟨1,of,oc,c,k,g,l0,rfl,hL,by decide,h0,hU _ ?_⟩
   clear hU U
   refine aE λU hU=>?_
   walk_at"l3"
   refine⟨λm δ=>∃(st:Nat) (l1:List Int),δ=[some (.int n),some (.bM (.lam of oc c k)),some (.int st),some (.lst true (aL l1))]/\st+m<=63/\C3 g n m st l1=some l,⟨62,1,l0,rfl,by decide,hp⟩,?_⟩
   rintro m δ ⟨st,l1,rfl,hn,hg⟩
   walk_at"l3"
   cases m with
   | zero=>cases hg
   | succ m =>
    unfold C3 at hg
    split at hg
    ·rename_i h1
     rw[if_pos (by omega)]
     split at hg
     ·rename_i l2 h2
      clear hU
      refine aE λU hU=>?_
      walk_at"l3"
      refine hU _ ?_
      clear hU
      walk_at"l3"
      exact⟨st+1,of,oc,c,k,g,l2,rfl,hL,by omega,h2,m,by omega,st+1,l2,⟨rfl,rfl⟩,by omega,hg⟩
     ·cases hg
    ·rename_i h1
     rw[if_neg (by omega)]
     cases hg
     refine hU _ ?_
     walk_at"l3"
     exact q
  ·cases hp
noncomputable abbrev aW8:bC:=λds Q=>∃(l:List Int),ds=[.lst false (aL l)]/\l.length<=64/\(∀x∈l,0<=x/\x.toNat<=l.length)/\Q (.lst true (aL (eN l)))
theorem aW9(T:Txt K mg t):aU P w K mg base bf 1 t.Jz t.JA ["powers"] (bA (aW8 )):=by
 refine bJ T.WL Jo ?_ ?_
 ·intro ds Q h
  obtain⟨l,rfl,hl,hx,q⟩:=h<;>rfl
 ·intro aK A outer s H E hr
  refine⟨_,(aF (aX (i:=1) Jo.nd rfl (ao rfl) (aI gA (ae (eM (fB aA dD))) (ae (aI dy (ae (fj (gZ) (by rfl) T.ib gW (af (bv 0) au))) (ae aA)))))
   (aF (fQ eR rfl (uz rfl T.uW (af (bv 0) au)) (gC (i1:=2) (i2:=3) rfl Jo.nd rfl (ao rfl) rfl (ao rfl))
    (aG (zP (i:=1) rfl (by first | exact ao rfl | exact bh (ao rfl)) (cV (bv 2)) (bv 3))))
   (aG (aZ (em 1))))),λds Q h=>?_⟩
  obtain⟨l,rfl,hl,hx,q⟩:=h
  refine aE λU hU=>?_
  walk_at"l3"
  refine⟨by decide,⟨by omega,by omega,by omega⟩,hU _ ?_⟩
  clear hU U
  refine aE λU hU=>?_
  walk_at"l3"
  refine fP.mk (λi δ=>∃o1 o2,δ=[some (.lst false (aL l)),some (.lst true (aL (pd l i))),o1,o2]) ⟨none,none,?_⟩ ?_ ?_
  ·rw[show((l.length:Int)+1).toNat=l.length+1 by omega];rfl
  ·rintro i d δ hd ⟨o1,o2,rfl⟩
   obtain⟨hi,rfl⟩:∃h:i<l.length,d=.tup [.int i,.int l[i]]:=by
    unfold gu aL at hd
    rw[BH,bQ]at hd
    by_cases hi:i<l.length
    ·rw[aP hi]at hd
     simp at hd
     exact⟨hi,hd.symm⟩
    ·rw[fY (by omega)]at hd;simp at hd
   have e7:=hx l[i] (cM _)
   walk_at"l3"
   refine⟨_,(l[i]).toNat,rfl,?_,_,_,?_,rfl,rfl⟩
   ·unfold iN
    rw[lH,z5,if_pos e7.1,if_pos (by omega)]
   ·unfold aL
    rw[<-List.map_set]
    congr 1
    show _=(pd l i).set (l.getD i 0).toNat (i:Int)
    rw[aQ,aP hi];rfl
  ·rintro δ ⟨o1,o2,rfl⟩
   refine hU _ ?_
   simp only[qE,mI,qG,oq,dT,kX,ku,by4,dC,oh,mH,mG,mF,om,qD,mP,rf,oM,rh,rj,qu,qv,qw,qA,qB,qC,oj,q8,oI,oJ,oA,qN,oE,qO,qP,qQ,qR,qS,qT,iI,gz,qU,qV,qW,qX,oG,oH,kZ,q0,q5,gN,rk,q9,qH,qJ,ou,qK,qL,qM,rl,rm,mJ,kB,fR,iV,iz,p7,pZ,sR,vh,oo,jW,iU,oK,lL,rA,rC,rD,uq,kE,rH,oU,rF,iZ,uv,ur,uu,dz,jN,nK,nC,gK,vi,bH,nL,nM,gO,gP,sT,exists_eq_left',exists_eq_left,D.bl.injEq,D.int.injEq,D.lst.injEq,D.fz.injEq,D.str.injEq,D.tup.injEq,sU,and_true,true_and,dY,p9,kM,ka,tQ,tR,tS,tT,tU,tV,fi,jT,gB,tZ,t7,t8,t9,ua,dj,jU,rn,tW,tX,tY,eT,n9,vj,vk,sA,ft,vm,vn,sF,uf,ug,uh,ui,uj,uk,um,lH,lJ,oR,jE,oS,ud,rz,ub,rp,ue,lK,rq,if_true,vo,if_false,reduceIte,uo,decide_eq_true_eq,e5,kF,mV,uB,mW,uA,qI,rL,pf,rG,oX,oY,rP,rV,pH,dm,mZ,jc,uL,pj,r6,uw]
   exact q
noncomputable abbrev L8(K:Frag):bC:=λds Q=>∃(C:Addr) (ns:List Str) (xs:List D) (n:Int) (many:Nat) (l:List Int) (r:Int),ds=[.obj C ns xs,.int n]/\eJ K C/\cG K C "powers"/\cG K C "many"/\(ns.zip xs).lookup ("powers":Str)=some (.lst false (aL l))/\(ns.zip xs).lookup ("many":Str)=some (.int many)/\2<=many/\l[(n%((many:Int)-1)).toNat]?=some r/\Q (.int r)
theorem L9(T:Txt K mg t):aU P w K mg base bf 1 t.Aw t.JB ["self","n"] (bA (L8 K)):=by
 refine bJ T.aG8 aF1 ?_ ?_
 ·intro ds Q h
  obtain⟨C,ns,xs,n,many,l,r,rfl,hC,h1,h2,h3,h4,h5,h6,q⟩:=h<;>rfl
 ·intro aK A outer s H E hr
  refine⟨_,(aG (aZ (cV (bK (j5 (K:=K) (bv 0)) (ae (aI dk (bv 1) (ae (aI gY (j5 (K:=K) (bv 0)) (ae aA))))) (λ_ _=>rfl))))),λds Q h=>?_⟩
  obtain⟨C,ns,xs,n,many,l,r,rfl,hC,h1,h2,h3,h4,h5,h6,q⟩:=h
  walk_at"l3"
  refine⟨C,ns,xs,_,rfl,hC,h1,h3,C,ns,xs,_,rfl,hC,h2,h4,?_⟩
  refine⟨by omega,_,ql (d:=.int r) (jn _ (by omega)) ?_,rfl,q⟩
  unfold aL
  rw[bQ,h6];rfl
noncomputable abbrev aQ8(P:Program)(w:World)(K:Frag)(mg:Str->Option Value)(base:Heap)(fs:Addr):Sp:=λvs H Q _=>∃(x dx f C:Addr) (b:Str) (n0:Int) (many:Nat) (of oc:Obj) (c k:Addr) (g:Nat->Nat->Nat) (l:List Int) (st:Int),
 vs=[.ref x,.int many,.ref f]/\H x=some (.ins C dx [(b,.int n0)])/\(∀n∈(["many","wide","powers","logs","step","step_power"]:List Str),b≠n)/\dH4 K C fs/\kr H f of oc c k/\zU P w K mg base 4 of oc c k (bD g)/\U3 g many l st /\
 ∀H' p1 p2,eD x H H'->H' x=some (.ins C dx ((iB b).zip (C4 n0 many p1 p2 st)))->LI H' p1 l->LI H' p2 (eN l)->p1≠p2->H p1=none->H p2=none->Q .az H'
theorem XF(T:Txt K mg t):aU P w K mg base bf 7 t.JC t.JE ["self","many","product"] (aQ8 P w K mg base t.Aw):=by
 refine T.aS7.ok aQ4 (λvs H Q E h=>?_) λaK A outer s H vs Q E hr h=>?_
 ·obtain⟨x,dx,f,C,b,n0,many,of,oc,c,k,g,l,st,rfl,_⟩:=h;rfl
 obtain⟨x,dx,f,C,b,n0,many,of,oc,c,k,g,l,st,rfl,hx,hb,hC,d74,hL,hF,q⟩:=h
 refine⟨_,kR (qk (pv 0) (pv 1) rfl) (kR (qk (pv 0) (y6 Gv (GU (pv 1)) yV) rfl)
  (kR (qk (pv 0) (tw ((aP3 T).mono (by decide)) hr rfl T.dX2 T.WK.kp T.dX3 .nil aN (gn (pv 1) (gn (pv 2) kj))) rfl)
  (kR (qk (pv 0) (tw ((aW9 T).mono (by decide)) hr rfl T.dX4 T.WL.kp T.dX5 .nil aN (gn (Ca (pv 0) rfl) kj)) rfl)
  (vx (qk (pv 0) (cA7 (pv 0) hC.cls hC.sp ((L9 T).mono (by decide)) hr T.LL .nil aN (gn yV kj)) rfl))))),?_⟩
 have nb:∀n∈(["many","wide","powers","logs","step","step_power"]:List Str),b≠n:=hb
 refine⟨.int many,rfl,.ref x,rfl,x,C,dx,_,rfl,hx,hC.cls,hC.many,nG (bN 1) (by decide),?_⟩
 rw[vY (by simpa using nb "many" (by simp))]
 generalize e1:upd H x (HO.ins C dx ([(b,V.int n0)]++[(("many":Str),V.int many)]))=H1
 have e7:H1 x=some (.ins C dx [(b,V.int n0),(("many":Str),V.int many)]):=by rw[<-e1,cF];rfl
 have s1:eD x H H1:=by rw[<-e1];exact eD.upd (C:=C) (dx:=dx) hx rfl
 have l1:kr H1 f of oc c k:=by rw[<-e1];exact d74.z6 hx
 have n1:∀p,H1 p=none->H p=none:=λp h=>z7 hx (by rw[e1];exact h)
 refine⟨_,rfl,rfl,_,rfl,rfl,_,_,rfl,rfl,.ref x,rfl,x,C,dx,_,rfl,e7,hC.cls,hC.wide,nG (bN 2) (by decide),?_⟩
 rw[vY (by simp;exact⟨nb "wide" (by simp),by decide⟩),jq]
 generalize e2:upd H1 x (HO.ins C dx ([(b,V.int n0),(("many":Str),V.int many)]++[(("wide":Str),V.int ((bl many:Nat)-1))]))=H2
 have i8:H2 x=some (.ins C dx [(b,V.int n0),(("many":Str),V.int many),(("wide":Str),V.int ((bl many:Nat)-1))]):=by rw[<-e2,cF];rfl
 have s2:eD x H H2:=by rw[<-e2];exact s1.trans (eD.upd (C:=C) (dx:=dx) e7 rfl)
 have l2:kr H2 f of oc c k:=by rw[<-e2];exact l1.z6 e7
 have n2:∀p,H2 p=none->H p=none:=λp h=>n1 p (z7 e7 (by rw[e2];exact h))
 refine⟨_,rfl,_,rfl,H2,[.int many,.bM (.lam of oc c k)],λd=>d=.lst true (aL l),ag.refl _,.int (.bM l2 .nil),⟨many,of,oc,c,k,g,l,rfl,hL,hF.step,rfl⟩,λd v F' H3 A' hd hs hf he h3 r nd fr=>?_⟩
 subst hd
 obtain⟨p1,rfl,Ma,Ba⟩:=U2 r fr
 have nk:=hs.get _ _ i8
 have s3:=s2.trans (hs.x (x:=x))
 refine⟨.ref x,rfl,x,C,dx,_,rfl,nk,hC.cls,hC.Ib,nG (bN 3) (by decide),?_⟩
 rw[vY (by simp;exact⟨nb "powers" (by simp),by decide,by decide⟩)]
 generalize e4:upd H3 x (HO.ins C dx ([(b,V.int n0),(("many":Str),V.int many),(("wide":Str),V.int ((bl many:Nat)-1))]++[(("powers":Str),V.ref p1)]))=H4
 have si:H4 x=some (.ins C dx [(b,V.int n0),(("many":Str),V.int many),(("wide":Str),V.int ((bl many:Nat)-1)),(("powers":Str),V.ref p1)]):=by rw[<-e4,cF];rfl
 have s4:eD x H H4:=by rw[<-e4];exact s3.trans (eD.upd (C:=C) (dx:=dx) nk rfl)
 have p4:LI H4 p1 l:=by rw[<-e4];exact Ma.upd nk (λws z=>by cases z)
 have n4:∀p,H4 p=none->H p=none:=λp h=>n2 p (hs.free (z7 nk (by rw[e4];exact h)))
 refine⟨.ref x,rfl,x,C,dx,_,.ref p1,rfl,si,hC.cls,hC.Ib,by rw[C5 (nb "powers" (by simp))];rfl,H4,[.lst false (aL l)],λd=>d=.lst true (aL (eN l)),ag.refl _,.shr p4 (lD l) .nil,⟨l,rfl,by have:=hF.len;have:=hF.hi;omega,hF.ins,rfl⟩,λd v F' H5 A' hd sj hf he h3 r nd fr=>?_⟩
 subst hd
 obtain⟨p2,rfl,XG,uY⟩:=U2 r fr
 have nq:=sj.get _ _ si
 have s5:=s4.trans (sj.x (x:=x))
 have d75:p1≠p2:=λz=>by rw[<-z]at uY;unfold LI at p4;rw[uY]at p4;cases p4
 refine⟨.ref x,rfl,x,C,dx,_,rfl,nq,hC.cls,hC.dH5,nG (bN 4) (by decide),?_⟩
 rw[vY (by simp;exact⟨nb "logs" (by simp),by decide,by decide,by decide⟩)]
 generalize e6:upd H5 x (HO.ins C dx ([(b,V.int n0),(("many":Str),V.int many),(("wide":Str),V.int ((bl many:Nat)-1)),(("powers":Str),V.ref p1)]++[(("logs":Str),V.ref p2)]))=H6
 have Mb:H6 x=some (.ins C dx (([b,"many","wide","powers","logs"]:List Str).zip [V.int n0,V.int many,V.int ((bl many:Nat)-1),V.ref p1,V.ref p2])):=by rw[<-e6,cF];rfl
 have s6:eD x H H6:=by rw[<-e6];exact s5.trans (eD.upd (C:=C) (dx:=dx) nq rfl)
 have p6:LI H6 p1 l:=by rw[<-e6];exact(p4.same sj).upd nq (λws z=>by cases z)
 have q6:LI H6 p2 (eN l):=by rw[<-e6];exact XG.upd nq (λws z=>by cases z)
 refine⟨.ref x,rfl,x,dx,_,rfl,Mb,by show nu ("step_power":Str) ((b,V.int n0)::_)=none;rw[C5 (nb "step_power" (by simp))];rfl,H6,[.obj C [b,"many","wide","powers","logs"] [.int n0,.int many,.int ((bl many:Nat)-1),.lst false (aL l),.lst false (aL (eN l))],.int 1],λd=>d=.int st,ag.refl _,
  .obj Mb rfl (.int (.int (.int (.shr p6 (lD l) (.shr q6 (lD _) .nil))))) (.int .nil),⟨C,_,_,1,many,l,st,rfl,hC.cls,hC.Ib,hC.many,by show nu ("powers":Str) ((b,D.int n0)::_)=_;rw[C5 (nb "powers" (by simp))];rfl,by show nu ("many":Str) ((b,D.int n0)::_)=_;rw[C5 (nb "many" (by simp))];rfl,hF.lo,hF.st,rfl⟩,λd v F' H7 A' hd DY hf he h3 r nd fr=>?_⟩
 subst hd
 cases r
 have DZ:=DY.get _ _ Mb
 refine⟨.ref x,rfl,x,C,dx,_,rfl,DZ,hC.cls,hC.step,nG (bN 5) (by decide),?_⟩
 rw[vY (by simp;exact⟨nb "step" (by simp),by decide,by decide,by decide,by decide⟩)]
 refine q _ p1 p2 ((s6.trans (DY.x (x:=x))).trans (eD.upd (C:=C) (dx:=dx) DZ rfl)) (by rw[cF];rfl) ((p6.same DY).upd DZ (λws z=>by cases z)) ((q6.same DY).upd DZ (λws z=>by cases z)) d75 (n2 p1 Ba) (n4 p2 uY)
noncomputable abbrev aD6:bC:=λds Q=>∃a:Int,ds=[.int a]/\Q (.bl (decide (2<=a)&&decide (a<=61)&&(bg (a.toNat-2)).all λi=>a%(2+(i:Int)) != 0))
theorem aD7(T:Txt K mg t):aU P w K mg base bf 1 t.JF t.JG ["prime"] (bA (aD6 )):=by
 refine bJ T.WN aD3 ?_ ?_
 ·intro ds Q h
  obtain⟨a,rfl,q⟩:=h<;>rfl
 ·intro aK A outer s H E hr
  refine⟨_,(aG (aZ (Cr (ae (Hu zK zK (ae aA) (bv 0) (ae aA))) (BY (fj (CG rfl) (by rfl) T.DX Cf (af (ae (dr [("prime",0)] ["d"] rfl (Cw rfl T.iG (af (ae aA) (af (bv 0) au))) (λ_ _ _ _=>(cI (i:=1) (show(["prime","d"]:List Str).Nodup by decide +kernel) rfl (ao (lookup_relabel_local rfl)) (by decide) (bh (lookup_relabel_local rfl)))) (λ_ _ _ _=>dE) (λ_ _ _ _=>(Cp (mO (dF hr)) (ae (aI dk (bv 0) (bv 1))) (ae aA) (bO _))) rfl ⟨rfl,trivial⟩ (λ_=>by repeat' (first | exact trivial | refine⟨.inl rfl,?_⟩ | refine⟨.inr (.inl rfl),?_⟩ | refine⟨.inr (.inr ⟨_,rfl⟩),?_⟩)) (λ_=>⟨⟨rfl,.inl rfl,.inl rfl,_,rfl,rfl⟩,trivial⟩) rfl (by decide +kernel))) au)))))),λds Q h=>?_⟩
  obtain⟨a,rfl,q⟩:=h
  walk_at"l3"
  split
  ·rename_i h1
   split
   ·rename_i h2
    refine⟨2,a,⟨rfl,rfl⟩,⟨by decide,by decide,by omega,by omega⟩,?_⟩
    have e0:(a-2).toNat=a.toNat-2:=by omega
    rw[e0]
    refine eA (bg (a.toNat-2)) (λ(k:Nat)=>D.int (2+(k:Int))) (λ(k:Nat)=>D.bl (a%(2+(k:Int)) != 0)) (by rw[zE]) (λx y h=>by injection h with h;omega) (λk hk=>?_) (.inr λ_ _=>rfl) (by rw[dQ,sL];omega) ?_
    ·walk_at"l3"
     refine⟨by omega,?_⟩
     by_cases z:a%(2+(k:Int))=0<;>simp[z]
    ·refine⟨(bg (a.toNat-2)).map λ(k:Nat)=>a%(2+(k:Int)) != 0,?_,?_⟩
     ·unfold vR;rw[cm];rfl
     ·have e:(decide (2<=a)&&decide (a<=61)&&(bg (a.toNat-2)).all λi=>a%(2+(i:Int)) != 0)=((bg (a.toNat-2)).map λ(k:Nat)=>a%(2+(k:Int)) != 0).all id:=by
       simp[h1,h2,mh]
      rw[<-e];exact q
   ·rename_i h2
    have e:(decide (2<=a)&&decide (a<=61)&&(bg (a.toNat-2)).all λi=>a%(2+(i:Int)) != 0)=false:=by simp[h2]
    rw[e]at q;exact q
  ·rename_i h1
   have e:(decide (2<=a)&&decide (a<=61)&&(bg (a.toNat-2)).all λi=>a%(2+(i:Int)) != 0)=false:=by simp[h1]
   rw[e]at q;exact q
noncomputable abbrev aP4:List D->List Str->List D->Prop:=λds ns xs=>∃p:Nat,ds=[.int p]/\p∈oZ/\ns=iB "prime"/\xs=[.int p,.int p,.int ((bl p:Nat)-1),.lst true (aL (fl (false,p))),.lst true (aL (eN (fl (false,p)))),.int (fst (false,p))]
theorem aI7(T:Txt K mg t)(hB:Bm mg base):aU P w K mg base bf 8 t.JH t.DL ["self","prime"] (HZ [t.lV,t.lW] t.aW aP4):=by
 refine UY T.aK1 T.aI4 aG5 (λvs H Q E h=>?_) λA outer s H vs Q E hr h=>?_
 ·obtain⟨x,dx,cU,ds,ns,xs,rfl,_,_,r,⟨p,rfl,_⟩,_⟩:=h
  have:=r.length
  simp at this
  simp[this]
 obtain⟨x,dx,cU,ds,ns,xs,rfl,tb,hx,r,⟨p,rfl,hp,rfl,rfl⟩,q⟩:=h
 obtain rfl:cU=[.int p]:=by
  cases r with
  | int r=>cases r;rfl
 have hm:(false,p)∈aD:=fc _ (FF hp)
 have hF:=cJ hm
 refine⟨_,kR (Ge (Ga (FZ (tw ((aD7 T).mono (by decide)) hr rfl T.dX8 T.WN.kp T.dX9 .nil aN (gn (pv 1) kj)))) (vx RY) Gb)
  (kR (qk (pv 0) (pv 1) rfl)
  (vx (Gd (UQ (E:=E0) (i:=1) T.XC ((XF T).mono (by decide)) hr T.WM rfl T.yn rfl rfl rfl rfl (gn (pv 0) (gn (pv 1) (gn (UJ rfl rfl T.aI5 hB) kj))))))),?_⟩
 refine⟨_,rfl,H,[.int p],λd=>d=.bl true,ag.refl _,.int .nil,⟨p,rfl,by rw[ck5 p hp]⟩,λd v F' H1 A1 hd uZ hf he h3 r nd fr=>?_⟩
 subst hd
 cases r
 refine⟨true,rfl,?_⟩
 refine mC ?_
 have e7:=uZ.get _ _ hx
 refine⟨.int p,rfl,.ref x,rfl,x,t.aW,dx,_,rfl,e7,T.hW,T.m9,by decide,?_⟩
 generalize e2:upd H1 x (HO.ins t.aW dx (fZ "prime" (.int p) []))=H2
 have i8:H2 x=some (.ins t.aW dx [(("prime":Str),.int p)]):=by rw[<-e2,cF];rfl
 have s2:eD x H H2:=by rw[<-e2];exact(uZ.x (x:=x)).trans (eD.upd (C:=x) (dx:=dx) e7 rfl)
 have n2:∀p,H2 p=none->H p=none:=λp h=>uZ.free (z7 e7 (by rw[e2];exact h))
 obtain⟨ps,hP⟩:=tb t.lV (by simp)
 obtain⟨more,Mc⟩:=s2.tb _ ps hP
 refine⟨.ref x,rfl,.int p,rfl,⟨_,Mc⟩,λf k qn pm jF H3 nf Md hk kf pQ hl3=>?_⟩
 refine⟨f,_,_,.int p,Md,rfl,rfl,λoc u jr hu nc rN=>?_⟩
 obtain⟨tm,rfl⟩:∃tm,u=pV p tm:=hu
 have nk:=pQ.get _ _ i8
 refine⟨x,dx,f,t.aW,"prime",p,p,_,oc,_,k,gm (false,p),fl (false,p),fst (false,p),rfl,z8 nk (λz=>by rw[z,nf]at i8;cases i8) nc,by decide,⟨T.hW,T.yj,T.AS,T.yk,T.uV,T.AR,T.ym⟩,U5 rN nc hk kf,?_,hF,λH' p1 p2 sx eo Bb zc ne Ba uY=>?_⟩
 ·refine UW (n:=3) ⟨rfl,rfl,rfl,by decide,rfl,rfl,by decide,by decide,rfl⟩ jr (λu1 u2=>rfl) λq f A outer s H E hr=>?_
  refine⟨_,aI dk (ae (aI gA (bv 0) (bv 1))) (bv 2),λi j Qd h=>?_⟩
  obtain⟨a,b,rfl,rfl,ha,hb,hq⟩:=h
  walk_at"l3"
  have hp0:2<=p:=hF.lo
  refine⟨iq.ok (.inr ⟨by omega,by omega⟩),by omega,?_⟩
  have e:((gm (false,p) a b:Nat):Int)=(a:Int)*b%p:=by
   show((a*b%p:Nat):Int)=_
   rw[qe,qf]
  rw[<-e];exact hq
 ·have gf:H' f=some (.ext (jS _ oc _ f)):=sx.get f _ (λz=>by rw[z]at nf;rw[nf]at i8;cases i8) (by rw[bu rN.symm,cF]) rfl
  have gc:=sx.get _ _ (fA nk nc).symm cF rfl
  refine⟨gf,gc,?_⟩
  refine q _ (C4 p p p1 p2 (fst (false,p))) [p1,p2] (s2.trans (U4 pQ nf nc sx)) ?_ rfl ?_ (by simp[ne]) (λa ha=>?_)
  ·rw[iA (λz=>by rw[z,gf]at eo;cases eo) (λz=>by rw[z,gc]at eo;cases eo)];exact eo
  ·exact .int (.int (.int (.own (Bb.rem gf gc) rfl (lD _) (.own (zc.rem gf gc) rfl (lD _) (.int .nil)))))
  ·simp at ha
   rcases ha with rfl | rfl
   ·exact n2 _ (C6 pQ Ba)
   ·exact n2 _ (C6 pQ uY)
noncomputable abbrev aN8:bC:=λds Q=>∃(l g:List Int),ds=[.lst false (aL l),.lst false (aL g)]/\1<=l.length/\l.length<=63/\g.length=l.length+1/\(∀x∈g,0<=x)/\Q (.lst true (rR l g))
theorem aN9(T:Txt K mg t):aU P w K mg base bf 1 t.JI t.JJ ["powers","logs"] (bA (aN8 )):=by
 refine bJ T.WO DG ?_ ?_
 ·intro ds Q h
  obtain⟨l,g,rfl,h1,h2,h3,h4,q⟩:=h<;>rfl
 ·intro aK A outer s H E hr
  refine⟨_,(aF (aX (i:=2) DG.nd rfl (bh rfl) (aI dy (ae (fj (gZ) (by rfl) T.ib gW (af (bv 0) au))) (ae aA)))
   (aF (aX (i:=3) DG.nd rfl (ao rfl) (eM (fB (aI gA (ae (eM (fB aA dD))) (bv 2)) dD)))
   (aF (fQ eR rfl (Cw rfl T.iG (af (ae aA) (af (bv 2) au))) (cI (i:=4) DG.nd rfl (bh rfl))
    (aG (kD (i:=3) rfl (by first | exact ao rfl | exact bh (ao rfl)) (aI dy (ae (eM (fB aA dD))) (ae (dr [("powers",0),("many",2),("logs",1),("a",4)] ["b"] rfl (Cw rfl T.iG (af (ae aA) (af (bv 2) au))) (λ_ _ _ _=>(cI (i:=4) (show(["powers","many","logs","a","b"]:List Str).Nodup by decide +kernel) rfl (ao (lookup_relabel_local rfl)) (by decide) (bh (lookup_relabel_local rfl)))) (λ_ _ _ _=>dE) (λ_ _ _ _=>(cV (bK (bv 0) (ae (aI dk (ae (aI dy (bK (bv 2) (bv 3) (λ_ _=>rfl)) (bK (bv 2) (bv 4) (λ_ _=>rfl)))) (ae (aI gY (bv 1) (ae aA))))) (λ_ _=>rfl)))) rfl ⟨rfl,⟨rfl,⟨rfl,⟨rfl,trivial⟩⟩⟩⟩ (λ_=>by repeat' (first | exact trivial | refine⟨.inl rfl,?_⟩ | refine⟨.inr (.inl rfl),?_⟩ | refine⟨.inr (.inr ⟨_,rfl⟩),?_⟩)) (λ_=>⟨⟨rfl,.inl rfl,.inl rfl,_,rfl,rfl⟩,⟨⟨rfl,.inl rfl,.inl rfl,_,rfl,rfl⟩,⟨⟨rfl,.inl rfl,.inl rfl,_,rfl,rfl⟩,⟨⟨rfl,.inl rfl,.inl rfl,_,rfl,rfl⟩,trivial⟩⟩⟩⟩) rfl (by decide +kernel)))))))
   (aG (aZ (em 3)))))),λds Q h=>?_⟩
  obtain⟨l,g,rfl,h1,h2,h3,h4,q⟩:=h
  refine aE λU hU=>?_
  walk_at"l3"
  refine hU _ ?_
  clear hU U
  refine aE λU hU=>?_
  walk_at"l3"
  refine⟨by decide,⟨by omega,by omega,by omega⟩,by decide,hU _ ?_⟩
  clear hU U
  refine aE λU hU=>?_
  walk_at"l3"
  refine⟨1,(l.length:Int)+1,⟨rfl,rfl⟩,⟨by decide,by decide,by omega,by omega⟩,?_⟩
  have en:((l.length:Int)+1-1).toNat=l.length:=by omega
  rw[en]
  refine fP.mk (λi δ=>∃o,δ=[some (.lst false (aL l)),some (.lst false (aL g)),some (.int ((l.length:Int)+1)),some (.lst true (vX l g (i+1))),o]) ⟨none,?_⟩ ?_ ?_
  ·rw[show((l.length:Int)+1).toNat=l.length+1 by omega];rfl
  ·rintro i d δ hd ⟨o,rfl⟩
   obtain⟨hi,rfl⟩:i<l.length/\d=.int (1+(i:Int)):=by
    rw[bQ]at hd
    by_cases hi:i<l.length
    ·rw[kL hi]at hd
     exact⟨hi,(cX hd).symm⟩
    ·rw[fY (by simpa using hi)]at hd;cases hd
   walk_at"l3"
   refine⟨⟨_,rfl⟩,by decide,1,(l.length:Int)+1,⟨rfl,rfl⟩,⟨by decide,by decide,by omega,by omega⟩,?_⟩
   rw[en]
   refine eA (bg l.length) (λ(k:Nat)=>D.int (1+(k:Int))) (λ(k:Nat)=>D.int (l.getD ((g.getD (i+1) 0+g.getD (k+1) 0)%(l.length:Int)).toNat 0)) (by rw[zE]) (λx y h=>by injection h with h;omega) (λk hk=>?_) (.inr λ_ _=>rfl) (by rw[dQ,sL];omega) ?_
   ·have Ai:=cL.mp hk
    walk_at"l3"
    have e1:(1+(i:Int)).toNat=i+1:=by omega
    have e2:(1+(k:Int)).toNat=k+1:=by omega
    have e3:(l.length:Int)+1-1=l.length:=by omega
    have n0:=jn (g.getD (i+1) 0+g.getD (k+1) 0) (show(l.length:Int)≠0 by omega)
    have n1:=jo (g.getD (i+1) 0+g.getD (k+1) 0) (show(0:Int)<l.length by omega)
    refine⟨_,mS (by omega) (by omega),_,mS (by omega) (by omega),?_⟩
    rw[e1,e2,e3]
    exact⟨by omega,_,mS n0 n1,rfl,rfl⟩
   ·walk_at"l3"
    refine⟨⟨by simp;omega,by rw[mh,dw];intro x _;rfl⟩,by simp[vX];omega,_,?_,rfl⟩
    unfold vX
    rw[FH (n:=i+1),fM]
    congr 1
    show _=[D.lst true (aL (rQ l g (i+1)))]
    unfold rQ
    rw[if_neg (by omega)]
    unfold aL
    rw[dz,cm];rfl
  ·rintro δ ⟨o,rfl⟩
   refine hU _ ?_
   simp only[qE,mI,qG,oq,dT,kX,ku,by4,dC,oh,mH,mG,mF,om,qD,mP,rf,oM,rh,rj,qu,qv,qw,qA,qB,qC,oj,q8,oI,oJ,oA,qN,oE,qO,qP,qQ,qR,qS,qT,iI,gz,qU,qV,qW,qX,oG,oH,kZ,q0,q5,gN,rk,q9,qH,qJ,ou,qK,qL,qM,rl,rm,mJ,kB,fR,iV,iz,p7,pZ,sR,vh,oo,jW,iU,oK,lL,rA,rC,rD,uq,kE,rH,oU,rF,iZ,uv,ur,uu,dz,jN,nK,nC,gK,vi,bH,nL,nM,gO,gP,sT,exists_eq_left',exists_eq_left,D.bl.injEq,D.int.injEq,D.lst.injEq,D.fz.injEq,D.str.injEq,D.tup.injEq,sU,and_true,true_and,dY,p9,kM,ka,tQ,tR,tS,tT,tU,tV,fi,jT,gB,tZ,t7,t8,t9,ua,dj,jU,rn,tW,tX,tY,eT,n9,vj,vk,sA,ft,vm,vn,sF,uf,ug,uh,ui,uj,uk,um,lH,lJ,oR,jE,oS,ud,rz,ub,rp,ue,lK,rq,if_true,vo,if_false,reduceIte,uo,decide_eq_true_eq,e5,kF,mV,uB,mW,uA,qI,rL,pf,rG,oX,oY,rP,rV,pH,dm,mZ,jc,uL,pj,r6,bB,dQ]
   exact q
noncomputable abbrev aO0(t:gU):rB:=λds Q Ex=>∃a b:Nat,ds=[.int a,.int b]/\bl a<=1000000/\bl b<=1000000/\(b=0->Ex t.iF)/\(b≠0->∀q r:Nat,a=cl q b ^^^ r->bl r<bl b->Q (.tup [.int q,.int r]))
theorem XH(T:Txt K mg t):aU P w K mg base (n8 P w) 1 t.JK t.JL ["a","b"] (zR (aO0 t )):=by
 refine Uk T.LM wN ?_ ?_
 ·intro ds Q Ex h
  obtain⟨a,b,rfl,ha,hb,qx,q⟩:=h<;>rfl
 ·intro aK A outer s H E hr
  refine⟨_,(aF (cu (bR (fS (dF hr)) (bv 1) (ae aA) (bO _)) (aG (Up T.XD rfl (by rfl) (af (ae Tv) au))) cH)
   (aF (aX (i:=2) wN.nd rfl (ao rfl) aA)
   (aF (aX (i:=3) wN.nd rfl (ao rfl) (em 0))
   (aF (cQ1 (zD eR (bR TV (ae (oQ (bv 3))) (ae (oQ (bv 1))) (bO _))
    (aF (aX (i:=4) wN.nd rfl (ao rfl) (aI gY (ae (oQ (bv 3))) (ae (oQ (bv 1)))))
    (aF (zC (i:=2) wN.nd rfl (ao rfl) (ae (aI vN (ae aA) (bv 4))) CA)
    (aG (zC (i:=3) wN.nd rfl (ao rfl) (ae (aI vN (bv 1) (bv 4))) CA))))))
   (aG (aZ (zB (fB (em 2) (fB (em 3) dD))))))))),λds Q Ex h=>?_⟩
  obtain⟨a,b,rfl,ha,hb,qx,q⟩:=h
  refine aE λU hU=>?_
  walk_at"l3"
  split
  ·rename_i h0
   exact⟨by decide,qx (by omega)⟩
  ·rename_i h0
   have b0:b≠0:=by omega
   refine hU _ ?_
   clear hU U
   refine aE λU hU=>?_
   walk_at"l3"
   refine hU _ ?_
   clear hU U
   refine aE λU hU=>?_
   walk_at"l3"
   refine hU _ ?_
   clear hU U
   refine aE λU hU=>?_
   walk_at"l3"
   refine⟨λm δ=>∃(x r:Nat) (o sh:Option D),δ=[o,some (.int b),some (.int (x:Nat)),some (.int (r:Nat)),sh]/\a=cl x b ^^^ r/\bl r<=bl a/\m=bl r,
    ⟨bl a,0,a,_,none,rfl,by rw[qp,p5],bN _,rfl⟩,?_⟩
   rintro m δ ⟨x,r,o,sh,rfl,inv,hra,rfl⟩
   simp only[qE,mI,qG,oq,dT,kX,ku,by4,dC,oh,mH,mG,mF,om,qD,mP,rf,oM,rh,rj,qu,qv,qw,qA,qB,qC,oj,q8,oI,oJ,oA,qN,oE,qO,qP,qQ,qR,qS,qT,iI,gz,qU,qV,qW,qX,oG,oH,kZ,q0,q5,gN,rk,q9,qH,qJ,ou,qK,qL,qM,rl,rm,mJ,kB,fR,iV,iz,p7,pZ,sR,vh,oo,jW,iU,oK,lL,rA,rC,rD,uq,kE,rH,oU,rF,iZ,uv,ur,uu,dz,jN,nK,nC,gK,vi,bH,nL,nM,gO,gP,sT,exists_eq_left',exists_eq_left,D.bl.injEq,D.int.injEq,D.lst.injEq,D.fz.injEq,D.str.injEq,D.tup.injEq,sU,and_true,true_and,dY,p9,kM,ka,tQ,tR,tS,tT,tU,tV,fi,jT,gB,tZ,t7,t8,t9,ua,dj,jU,rn,tW,tX,tY,eT,n9,vj,vk,sA,ft,vm,vn,sF,uf,ug,uh,ui,uj,uk,um,lH,lJ,oR,jE,oS,ud,rz,ub,rp,ue,lK,rq,if_true,vo,if_false,reduceIte,uo,decide_eq_true_eq,e5,kF,mV,uB,mW,uA,qI,rL,pf,rG,oX,oY,rP,rV,pH,dm,mZ,jc,uL,pj,r6,jq]
   split
   ·rename_i hc
    have hle:bl b<=bl r:=by omega
    have less:=S1 b0 hle
    have es:(((bl r:Nat):Int)-((bl b:Nat):Int))=((bl r-bl b:Nat):Int):=by omega
    clear hU
    refine aE λU hU=>?_
    walk_at"l3"
    simp only[jq,es]
    refine hU _ ?_
    clear hU
    refine aE λU hU=>?_
    walk_at"l3"
    have o1:bl (1:Int).natAbs=1:=by decide
    refine⟨⟨by omega,by omega⟩,hU _ ?_⟩
    clear hU
    simp only[qE,mI,qG,oq,dT,kX,ku,by4,dC,oh,mH,mG,mF,om,qD,mP,rf,oM,rh,rj,qu,qv,qw,qA,qB,qC,oj,q8,oI,oJ,oA,qN,oE,qO,qP,qQ,qR,qS,qT,iI,gz,qU,qV,qW,qX,oG,oH,kZ,q0,q5,gN,rk,q9,qH,qJ,ou,qK,qL,qM,rl,rm,mJ,kB,fR,iV,iz,p7,pZ,sR,vh,oo,jW,iU,oK,lL,rA,rC,rD,uq,kE,rH,oU,rF,iZ,uv,ur,uu,dz,jN,nK,nC,gK,vi,bH,nL,nM,gO,gP,sT,exists_eq_left',exists_eq_left,D.bl.injEq,D.int.injEq,D.lst.injEq,D.fz.injEq,D.str.injEq,D.tup.injEq,sU,and_true,true_and,dY,p9,kM,ka,tQ,tR,tS,tT,tU,tV,fi,jT,gB,tZ,t7,t8,t9,ua,dj,jU,rn,tW,tX,tY,eT,n9,vj,vk,sA,ft,vm,vn,sF,uf,ug,uh,ui,uj,uk,um,lH,lJ,oR,jE,oS,ud,rz,ub,rp,ue,lK,rq,if_true,vo,if_false,reduceIte,uo,decide_eq_true_eq,e5,kF,mV,uB,mW,uA,qI,rL,pf,rG,oX,oY,rP,rV,pH,dm,mZ,jc,uL,pj,r6,jq]
    refine⟨⟨by omega,by rw[jq];omega⟩,_,less,x ^^^ 2 ^ (bl r-bl b),r ^^^ b <<< (bl r-bl b),o,_,⟨rfl,?_,?_,rfl⟩,ce3 inv,by omega,rfl⟩
    ·rw[show(1:Int)=((1:Nat):Int) from rfl,vE,nX,FQ]
    ·rw[vE,nX]
   ·rename_i hc
    refine hU _ ?_
    walk_at"l3"
    refine⟨by decide,q b0 x r inv (by omega)⟩
noncomputable abbrev aO1:bC:=λds Q=>∃a:Nat,ds=[.int a]/\bl a<=60/\Q (.bl (al a))
theorem aO2(T:Txt K mg t):aU P w K mg base bf 2 t.JM t.JN ["a"] (bA (aO1 )):=by
 refine bJ T.WS Jp ?_ ?_
 ·intro ds Q h
  obtain⟨a,rfl,ha,q⟩:=h<;>rfl
 ·intro aK A outer s H E hr
  refine⟨_,(aF (cu (bR CB (bv 0) (ae aA) (bO _)) (aG (aZ oi)) cH)
   (aF (aX (i:=1) Jp.nd rfl (ao rfl) (aI iY (ae (aI gY (ae (oQ (bv 0))) (ae aA))) (ae aA)))
   (aF (fQ eR rfl (Cw rfl T.iG (af (ae aA) (af (ae (aI vN (ae aA) (ae (aI dy (bv 1) (ae aA))))) au))) (cI (i:=2) Jp.nd rfl (ao rfl))
    (aG (cu (bR (fS (dF hr)) (bK (ae (aS (HF ((XH T).mono (by decide))) hr rfl T.WQ T.LM.kp T.WR HE (af (bv 0) (af (bv 2) au)))) (ae aA) (λ_ _=>rfl)) (ae aA) (bO _)) (aG (aZ oi)) cH)))
   (aG (aZ oi))))),λds Q h=>?_⟩
  obtain⟨a,rfl,ha,q⟩:=h
  refine aE λU hU=>?_
  walk_at"l3"
  split
  ·rename_i h2
   rw[ci0 (by omega)]at q;exact q
  ·rename_i h2
   have h2:2<=a:=by omega
   have hp:=ir (show a≠0 by omega)
   refine hU _ ?_
   clear hU U
   refine aE λU hU=>?_
   walk_at"l3"
   simp only[jq]
   refine⟨iX (by omega) (by omega),hU _ ?_⟩
   clear hU U
   have eh:((((bl a:Nat):Int)-1)/2+1)=(((bl a-1)/2+1:Nat):Int):=by omega
   have e1:(1:Int)*2 ^ ((((bl a:Nat):Int)-1)/2+1).toNat=((2 ^ ((bl a-1)/2+1):Nat):Int):=by
    rw[eh,show(1:Int)=((1:Nat):Int) from rfl,vE,FQ]
   have big:2 ^ ((bl a-1)/2+1)<=2 ^ 40:=yD (by decide) (by omega)
   have o1:bl (1:Int).natAbs=1:=by decide
   refine aE λU hU=>?_
   walk_at"l3"
   rw[e1]
   have fk7:((2 ^ ((bl a-1)/2+1):Nat):Int)<=2 ^ 40:=by exact_mod_cast big
   have nn:(0:Int)<=((2 ^ ((bl a-1)/2+1):Nat):Int):=Q7 _
   refine⟨⟨by omega,by omega⟩,_,_,⟨rfl,rfl⟩,⟨by decide,by decide,by omega,by omega⟩,?_⟩
   have en:(((2 ^ ((bl a-1)/2+1):Nat):Int)-2).toNat=2 ^ ((bl a-1)/2+1)-2:=by omega
   rw[en]
   refine fP.mk (λi δ=>(∃o1 o2,δ=[some (.int a),o1,o2])/\∀j,j<i->md a (2+j)≠0) ⟨⟨_,_,rfl⟩,λj hj=>absurd hj (by omega)⟩ ?_ ?_
   ·rintro i d δ hd ⟨⟨o1,o2,rfl⟩,inv⟩
    obtain⟨hi,rfl⟩:i<2 ^ ((bl a-1)/2+1)-2/\d=.int (2+(i:Int)):=by
     rw[bQ]at hd
     by_cases hi:i<2 ^ ((bl a-1)/2+1)-2
     ·rw[kL hi]at hd
      exact⟨hi,(cX hd).symm⟩
     ·rw[fY (by simpa using hi)]at hd;cases hd
    have bi:bl (2+i)<=60:=by
     have:=(cg9 h2 (show 2+i<2 ^ ((bl a-1)/2+1) by omega)).2
     omega
    walk_at"l3"
    refine⟨a,2+i,by rw[show((2+i:Nat):Int)=2+(i:Int) by omega],by omega,by omega,by omega,λ_ x r e l=>?_⟩
    have em:md a (2+i)=r:=zk e l
    refine⟨.int r,rfl,rfl,?_⟩
    rw[lK]
    split
    ·rename_i hz
     have r0:r=0:=by have:=of_decide_eq_true hz;omega
     rw[cl2 hi (em.trans r0)]at q
     exact q
    ·rename_i hz
     refine⟨⟨_,_,rfl,rfl⟩,λj hj=>?_⟩
     by_cases ej:j=i
     ·rw[ej,em]
      intro r0
      exact hz (decide_eq_true (by omega))
     ·exact inv j (by omega)
   ·rintro δ ⟨⟨o1,o2,rfl⟩,inv⟩
    rw[bB,dQ]at inv
    rw[cy6 h2 inv]at q
    refine hU _ ?_
    walk_at"l3"
    exact q
noncomputable abbrev aI8:bC:=λds Q=>∃a:Int,ds=[.int a]/\Q (.bl (decide (4<=a)&&decide (a<=127)&&al a.toNat))
theorem aI9(T:Txt K mg t):aU P w K mg base bf 3 t.JO t.JP ["bits"] (bA (aI8 )):=by
 refine bJ T.WT aG6 ?_ ?_
 ·intro ds Q h
  obtain⟨a,rfl,q⟩:=h<;>rfl
 ·intro aK A outer s H E hr
  refine⟨_,(aG (aZ (Cr (ae (Hu zK zK (ae aA) (bv 0) (ae aA))) (BY (aS ((aO2 T).mono (by decide)) hr rfl T.dY4 T.WS.kp T.dY5 aN (af (bv 0) au)))))),λds Q h=>?_⟩
  obtain⟨a,rfl,q⟩:=h
  walk_at"l3"
  split
  ·rename_i h1
   split
   ·rename_i h2
    refine⟨a.toNat,by rw[vf (by omega)],?_,?_⟩
    ·have:bl a.toNat<=bl 127:=GS (by omega)
     exact eP this (by decide)
    ·have e:(decide (4<=a)&&decide (a<=127)&&al a.toNat)=al a.toNat:=by simp[h1,h2]
     rw[e]at q;exact q
   ·rename_i h2
    have e:(decide (4<=a)&&decide (a<=127)&&al a.toNat)=false:=by simp[h2]
    rw[e]at q;exact q
  ·rename_i h1
   have e:(decide (4<=a)&&decide (a<=127)&&al a.toNat)=false:=by simp[h1]
   rw[e]at q;exact q
noncomputable abbrev aQ9:bC:=λds Q=>∃a b:Nat,ds=[.int a,.int b]/\bl a<=1000/\bl b<=1000/\Q (.int (cl a b:Nat))
theorem aR0(T:Txt K mg t):aU P w K mg base bf 1 t.JQ t.JR ["a","b"] (bA (aQ9 )):=by
 refine bJ T.WU DH ?_ ?_
 ·intro ds Q h
  obtain⟨a,b,rfl,ha,hb,q⟩:=h<;>rfl
 ·intro aK A outer s H E hr
  refine⟨_,(aF (aX (i:=2) DH.nd rfl (ao rfl) aA)
   (aF (fQ eR rfl (kA rfl T.iG (af (ae (oQ (bv 1))) au)) (cI (i:=3) DH.nd rfl (ao rfl))
    (aG (cu (bR (fS (dF hr)) (ae (aI TU (ae (aI TR (bv 1) (bv 3))) (ae aA))) (ae aA) (bO _)) (aG (zC (i:=2) DH.nd rfl (ao rfl) (ae (aI vN (bv 0) (bv 3))) CA)) cH)))
   (aG (aZ (em 2))))),λds Q h=>?_⟩
  obtain⟨a,b,rfl,ha,hb,q⟩:=h
  refine aE λU hU=>?_
  walk_at"l3"
  refine hU _ ?_
  clear hU U
  refine aE λU hU=>?_
  walk_at"l3"
  simp only[jq]
  refine⟨⟨by omega,by omega⟩,zQ (λi δ=>∃o,δ=[some (.int a),some (.int b),some (.int (Mf.P a b i:Nat)),o]) ⟨none,rfl⟩ ?_ ?_⟩
  ·rintro i δ hi ⟨o,rfl⟩
   walk_at"l3"
   refine⟨by omega,?_⟩
   have D0:(pW ((b:Int)/2 ^ ((i:Int)).toNat) 1=1)↔b.testBit i=true:=by
    have h:=cx5 b i
    rw[Rt]at h
    rw[<-h,dI]
   split
   ·rename_i hc
    have h:=cl4 (a:=a) (D0.mp hc)
    rw[Rt]at h
    exact⟨⟨by omega,by rw[jq];omega⟩,_,h,rfl⟩
   ·rename_i hc
    exact⟨_,by rw[bU0 (λz=>hc (D0.mpr z))],rfl⟩
  ·rintro δ ⟨o,rfl⟩
   refine hU _ ?_
   walk_at"l3"
   exact q
noncomputable abbrev aT8:List D->List Str->List D->Prop:=λds ns xs=>∃p:Nat,ds=[.int p]/\p∈gE/\ns=iB "bits"++[("products":Str)]/\xs=[.int p,.int (aa (true,p)),.int ((bl (aa (true,p)):Nat)-1),.lst true (aL (fl (true,p))),.lst true (aL (eN (fl (true,p)))),.int (fst (true,p)),.lst true (rR (fl (true,p)) (eN (fl (true,p))))]
theorem aM7(T:Txt K mg t)(hB:Bm mg base):aU P w K mg base bf 8 t.JS t.DM ["self","bits"] (HZ [t.lV,t.lW] t.aV aT8):=by
 refine UY T.aN3 T.aM5 Ww (λvs H Q E h=>?_) λA outer s H vs Q E hr h=>?_
 ·obtain⟨x,dx,cU,ds,ns,xs,rfl,_,_,r,⟨p,rfl,_⟩,_⟩:=h
  have:=r.length
  simp at this
  simp[this]
 obtain⟨x,dx,cU,ds,ns,xs,rfl,tb,hx,r,⟨p,rfl,hp,rfl,rfl⟩,q⟩:=h
 obtain rfl:cU=[.int p]:=by
  cases r with
  | int r=>cases r;rfl
 have hm:(true,p)∈aD:=ig _ (FF hp)
 have hF:=cJ hm
 refine⟨_,kR (Ge (Ga (FZ (tw ((aI9 T).mono (by decide)) hr rfl T.dY6 T.WT.kp T.dY7 .nil aN (gn (pv 1) kj)))) (vx RY) Gb)
  (kR (qk (pv 0) (pv 1) rfl)
  (kR (R1 (i:=2) Ww.nd rfl (ao rfl) (y6 S9 yV (y6 Gv (GU (pv 1)) yV)))
  (kR (Gd (UQ (E:=E0) (i:=1) T.XC ((XF T).mono (by decide)) hr T.WM rfl T.yn rfl rfl rfl rfl (gn (pv 0) (gn (pv 2) (gn (UJ rfl rfl T.aM6 hB) kj)))))
  (vx (qk (pv 0) (tw ((aN9 T).mono (by decide)) hr rfl T.dY2 T.WO.kp T.dY3 .nil aN (gn (Ca (pv 0) rfl) (gn (Ca (pv 0) rfl) kj))) rfl))))),?_⟩
 refine⟨_,rfl,H,[.int p],λd=>d=.bl true,ag.refl _,.int .nil,⟨p,rfl,by rw[cA5 p hp]⟩,λd v F' H1 A1 hd uZ hf he h3 r nd fr=>?_⟩
 subst hd
 cases r
 refine⟨true,rfl,?_⟩
 refine mC ?_
 have e7:=uZ.get _ _ hx
 refine⟨.int p,rfl,.ref x,rfl,x,t.aV,dx,_,rfl,e7,T.gw,T.AG,by decide,?_⟩
 generalize e2:upd H1 x (HO.ins t.aV dx (fZ "bits" (.int p) []))=H2
 have i8:H2 x=some (.ins t.aV dx [(("bits":Str),.int p)]):=by rw[<-e2,cF];rfl
 have s2:eD x H H2:=by rw[<-e2];exact(uZ.x (x:=x)).trans (eD.upd (C:=x) (dx:=dx) e7 rfl)
 have n2:∀p,H2 p=none->H p=none:=λp h=>uZ.free (z7 e7 (by rw[e2];exact h))
 obtain⟨ps,hP⟩:=tb t.lW (by simp)
 obtain⟨more,Mc⟩:=s2.tb _ ps hP
 have bp:bl p<=7:=U9 p hp
 have D1:1<=bl p:=Va p hp
 refine⟨.int p,rfl,rfl,p,rfl,rfl,_,_,rfl,rfl,_,_,rfl,rfl,?_,?_⟩
 ·have o1:bl (1:Int).natAbs=1:=by decide
  rw[jq]
  exact⟨by omega,by omega⟩
 have em:(1:Int)*2 ^ (((bl ((p:Int)).natAbs:Nat):Int)-1).toNat=((aa (true,p):Nat):Int):=by
  rw[jq,show(((bl p:Nat):Int)-1)=((bl p-1:Nat):Int) by omega,show(1:Int)=((1:Nat):Int) from rfl,vE,FQ];rfl
 show B3 2 (.int ((1:Int)*2 ^ (((bl ((p:Int)).natAbs:Nat):Int)-1).toNat)) _ _ _
 rw[em]
 refine⟨.ref x,rfl,.int (aa (true,p)),rfl,⟨_,Mc⟩,λf k qn pm jF H3 nf Md hk kf pQ hl3=>?_⟩
 refine⟨f,_,_,.int p,Md,rfl,rfl,λoc u jr hu nc rN=>?_⟩
 obtain⟨tm,rfl⟩:∃tm,u=pV p tm:=hu
 have nk:=pQ.get _ _ i8
 refine⟨x,dx,f,t.aV,"bits",p,aa (true,p),_,oc,_,k,gm (true,p),fl (true,p),fst (true,p),rfl,z8 nk (λz=>by rw[z,nf]at i8;cases i8) nc,by decide,⟨T.gw,T.yh,T.AI,T.uU,T.sg,T.AH,T.yi⟩,U5 rN nc hk kf,?_,hF,λH' p1 p2 sx eo Bb zc ne Ba uY=>?_⟩
 ·refine UW (n:=3) ⟨rfl,rfl,rfl,by decide,rfl,rfl,by decide,by decide,rfl⟩ jr (λu1 u2=>rfl) λq f A outer s H E hr=>?_
  refine⟨_,cV (bK (ae (aS (HF ((XH T).mono (by decide))) hr rfl T.WQ T.LM.kp T.WR HE (af (ae (aS ((aR0 T).mono (by decide)) hr rfl T.dY8 T.WU.kp T.dY9 aN (af (bv 0) (af (bv 1) au)))) (af (bv 2) au)))) (ae aA) (λ_ _=>rfl)),λi j Qd h=>?_⟩
  obtain⟨a,b,rfl,rfl,ha,hb,hq⟩:=h
  walk_at"l3"
  have b1:bl a<=6:=by
   have:bl a<=bl 63:=GS (by omega)
   exact eP this (by decide)
  have b2:bl b<=6:=by
   have:bl b<=bl 63:=GS (by omega)
   exact eP this (by decide)
  have p0:p≠0:=by
   intro z
   rw[z]at D1
   exact absurd D1 (by decide)
  refine⟨a,b,rfl,by omega,by omega,cl a b,p,rfl,eP (ck9 a b) (by omega),by omega,λz=>p0 z,λ_ x r e l=>⟨by simp[D.pl],.int r,rfl,rfl,r,rfl,?_⟩⟩
  have er:gm (true,p) a b=r:=zk e l
  rw[<-er];exact hq
 ·have gf:H' f=some (.ext (jS _ oc _ f)):=sx.get f _ (λz=>by rw[z]at nf;rw[nf]at i8;cases i8) (by rw[bu rN.symm,cF]) rfl
  have gc:=sx.get _ _ (fA nk nc).symm cF rfl
  refine⟨gf,gc,?_⟩
  have s4:=s2.trans (U4 pQ nf nc sx)
  have f1:=n2 _ (C6 pQ Ba)
  have f2:=n2 _ (C6 pQ uY)
  have l1:=Bb.rem gf gc
  have l2:=zc.rem gf gc
  have si:rem H' f (s.heap.objs.size+1) x=some (.ins t.aV dx ((iB "bits").zip (C4 p (aa (true,p)) p1 p2 (fst (true,p))))):=by
   rw[iA (λz=>by rw[z,gf]at eo;cases eo) (λz=>by rw[z,gc]at eo;cases eo)];exact eo
  generalize rem H' f (s.heap.objs.size+1)=H4 at s4 l1 l2 si
  refine⟨.ref x,rfl,x,t.aV,dx,_,.ref p1,rfl,si,T.gw,T.uU,rfl,.ref x,rfl,x,t.aV,dx,_,.ref p2,rfl,si,T.gw,T.sg,rfl,H4,[.lst false (aL (fl (true,p))),.lst false (aL (eN (fl (true,p))))],λd=>d=.lst true (rR (fl (true,p)) (eN (fl (true,p)))),ag.refl _,.shr l1 (lD _) (.shr l2 (lD _) .nil),
   ⟨_,_,rfl,by have:=hF.len;have:=hF.lo;omega,by have:=hF.len;have:=hF.hi;omega,z5 _ _,U8 _ _,rfl⟩,λd v F' H5 A' hd sj hf he h3 r nd fr=>?_⟩
  subst hd
  obtain⟨p3,rfl⟩:∃p3,v=.ref p3:=by cases r;exact⟨_,rfl⟩
  have nq:=sj.get _ _ si
  have nA:∀{a ws},H4 a=some (.lst ws)->a ∉ A':=λ{a ws} e z=>by rw[fr a z]at e;cases e
  refine⟨.ref x,rfl,x,t.aV,dx,_,rfl,nq,T.gw,T.pP,nG (bN 6) (by decide),?_⟩
  refine q _ (C4 p (aa (true,p)) p1 p2 (fst (true,p))++[.ref p3]) (p1::p2::A') ((s4.trans (sj.x (x:=x))).trans (eD.upd (C:=x) (dx:=dx) nq rfl)) (by rw[cF];rfl) rfl ?_ ?_ ?_
  ·exact .int (.int (.int (.own ((l1.same sj).upd nq (λws z=>by cases z)) rfl (lD _) (.own ((l2.same sj).upd nq (λws z=>by cases z)) rfl (lD _) (.int ((r.Ha (by simp[eT,U7]) (ag.of λb o e=>by cases e)).z6 nq (by simp[eT,U7])))))))
  ·exact jm.mpr ⟨by simp[ne];exact nA l1,jm.mpr ⟨nA l2,nd⟩⟩
  ·intro a ha
   rcases cA.mp ha with rfl | ha
   ·exact f1
   ·rcases cA.mp ha with rfl | ha
    ·exact f2
    ·exact s4.free (by rw[si];simp) (fr a ha)
noncomputable abbrev aR1(cb cp:Addr):bC:=λds Q=>∃m:Bool × Nat,ds=[da m]/\m∈aD/\Q (fD cb cp m)
theorem aR2(T:Txt K mg t)(hB:Bm mg base):aU P w K mg base bf 10 t.JT t.JU ["_law_told_here"] (zT [t.lV,t.lW] (bA (aR1 t.aV t.aW))):=by
 refine UX T.WV aQ5 ?_ ?_
 ·intro ds Q h
  obtain⟨m,rfl,hm,q⟩:=h<;>rfl
 ·intro aK A outer s H E hT hr
  refine⟨_,(aF (cu (jC (bK (bv 0) (ae aA) (λ_ _=>rfl))) (aG (aZ (U0 hT T.AF ((aM7 T hB).mono (by decide)) hr rfl T.A7 T.aN4 aN (af (bK (bv 0) (ae aA) (λ_ _=>rfl)) au)))) cH)
   (aG (aZ (U0 hT T.AQ ((aI7 T hB).mono (by decide)) hr rfl T.A9 T.aK2 aN (af (bK (bv 0) (ae aA) (λ_ _=>rfl)) au))))),λds Q h=>?_⟩
  obtain⟨m,rfl,hm,q⟩:=h
  unfold da at *
  refine aE λU hU=>?_
  walk_at"l3"
  obtain⟨b,n⟩:=m
  cases b with
  | true =>
   refine⟨_,rfl,true,rfl,?_⟩
   rw[if_pos rfl]
   refine⟨_,rfl,_,_,⟨n,rfl,vZ hm,rfl,rfl⟩,?_⟩
   rw[cK4];exact q
  | false =>
   refine⟨_,rfl,false,rfl,?_⟩
   rw[if_neg (by decide)]
   refine hU _ ?_
   walk_at"l3"
   refine⟨_,rfl,_,_,⟨n,rfl,bL8 hm,rfl,rfl⟩,?_⟩
   rw[cf0];exact q
noncomputable abbrev aP5:bC:=λds Q=>∃(z:Int) (b n:Nat),ds=[.int z,.int b,.int n]/\0<b/\b<=100/\n<=64/\∀c:List Nat,c.length=n->AllLt b c->Q (.lst true (aq c))
theorem at2(T:Txt K mg t):aU P w K mg base bf 1 t.JV t.JW ["_law_cell_here","_law_base","_law_count"] (bA (aP5 )):=by
 refine bJ T.DO DI ?_ ?_
 ·intro ds Q h
  obtain⟨z,b,n,rfl,HV,hb,hn,q⟩:=h<;>rfl
 ·intro aK A outer s H E hr
  refine⟨_,(aF (aX (i:=3) DI.nd rfl (ao rfl) (eM dD))
   (aF (fQ eR rfl (kA rfl T.iG (af (bv 2) au)) (cI (i:=4) DI.nd rfl (ao rfl))
    (aF (kD (i:=3) rfl (by first | exact ao rfl | exact bh (ao rfl)) (aI dk (bv 0) (bv 1)))
    (aG (aX (i:=0) DI.nd rfl (ao rfl) (aI iY (bv 0) (bv 1))))))
   (aG (aZ (em 3))))),λds Q h=>?_⟩
  obtain⟨z,b,n,rfl,HV,hb,hn,q⟩:=h
  refine aE λU hU=>?_
  walk_at"l3"
  refine⟨by decide,hU _ ?_⟩
  clear hU U
  refine aE λU hU=>?_
  walk_at"l3"
  refine⟨⟨by omega,by omega⟩,zQ (λi δ=>∃(z:Int) (c:List Nat) (o1:Option D),(c.length=i/\AllLt b c)/\δ=[some (D.int z),some (D.int b),some (D.int n),some (D.lst true (aq c)),o1]) ⟨z,[],_,⟨rfl,λa ha=>by cases ha⟩,rfl⟩ ?_ ?_⟩
  ·rintro i δ hi ⟨z,c,o1,⟨h1,h2⟩,rfl⟩
   simp only[gN,gP,gO]
   clear hU
   have n0:=jn z (show(b:Int)≠0 by omega)
   have n1:=jo z (show(0:Int)<(b:Int) by omega)
   refine aE λU hU=>?_
   walk_at"l3"
   refine⟨⟨_,rfl⟩,by omega,by omega,hU _ ?_⟩
   clear hU
   walk_at"l3"
   refine⟨iX (by omega) (by omega),_,c++[(z%(b:Int)).toNat],_,⟨by rw[dO,h1];rfl,λa ha=>?_⟩,rfl,?_,rfl⟩
   ·rcases cg.mp ha with h | h
    ·exact h2 a h
    ·rw[dP.mp h];omega
   ·rw[<-mW];show _=aq c++[D.int (((z%(b:Int)).toNat:Nat):Int)];rw[vf n0]
  ·rintro δ ⟨z,c,o1,⟨h1,h2⟩,rfl⟩
   refine hU _ ?_
   walk_at"l3"
   exact q c h1 h2
noncomputable abbrev aT9:bC:=λds Q=>∃(m:Bool × Nat) (a b:Nat),ds=[da m,.int a,.int b]/\0<m.2/\Q (.int (gp m a b:Nat))
theorem XI(T:Txt K mg t):aU P w K mg base bf 1 t.JX t.JY ["_law_told_here","_law_a","_law_b"] (bA (aT9 )):=by
 refine bJ T.LP aS1 ?_ ?_
 ·intro ds Q h
  obtain⟨m,a,b,rfl,h0,q⟩:=h<;>rfl
 ·intro aK A outer s H E hr
  refine⟨_,(aF (cu (jC (bK (bv 0) (ae aA) (λ_ _=>rfl))) (aG (aZ (aI zJ (bv 1) (bv 2)))) cH)
   (aG (aZ (aI dk (ae (aI dy (bv 1) (bv 2))) (bK (bv 0) (ae aA) (λ_ _=>rfl)))))),λds Q h=>?_⟩
  obtain⟨m,a,b,rfl,h0,q⟩:=h
  unfold da at *
  obtain⟨k,n⟩:=m
  refine aE λU hU=>?_
  walk_at"l3"
  cases k with
  | true =>
   refine⟨_,rfl,true,rfl,?_⟩
   rw[if_pos rfl,nX]
   exact q
  | false =>
   refine⟨_,rfl,false,rfl,?_⟩
   rw[if_neg (by decide)]
   refine hU _ ?_
   walk_at"l3"
   refine⟨_,rfl,?_⟩
   refine⟨by omega,?_⟩
   have e:((gp (false,n) a b:Nat):Int)=((a:Int)+b)%n:=by
    show(((a+b)%n:Nat):Int)=_
    rw[qe,BI]
   rw[<-e];exact q
noncomputable abbrev aR3:bC:=λds Q=>∃(m:Bool × Nat) (a b:Nat),ds=[da m,.int a,.int b]/\m∈aD/\a<aa m/\b<aa m/\Q (.int (gm m a b:Nat))
theorem XJ(T:Txt K mg t):aU P w K mg base bf 1 t.JZ t.J0 ["_law_told_here","_law_a","_law_b"] (bA (aR3 )):=by
 refine bJ T.LQ wY ?_ ?_
 ·intro ds Q h
  obtain⟨m,a,b,rfl,hm,ha,hb,q⟩:=h<;>rfl
 ·intro aK A outer s H E hr
  refine⟨_,(aF (cu (qy (jC (bK (bv 0) (ae aA) (λ_ _=>rfl)))) (aG (aZ (aI dk (ae (aI gA (bv 1) (bv 2))) (bK (bv 0) (ae aA) (λ_ _=>rfl))))) cH)
   (aF (aX (i:=3) wY.nd rfl (ao rfl) aA)
   (aF (zD eR (bR Ho (bv 2) (ae aA) (bO _))
    (aF (cu (bR (fS (dF hr)) (ae (aI TU (bv 2) (ae aA))) (ae aA) (bO _)) (aG (aX (i:=3) wY.nd rfl (ao rfl) (aI zJ (bv 3) (bv 1)))) cH)
    (aF (aX (i:=1) wY.nd rfl (ao rfl) (aI vN (bv 1) (ae aA)))
    (aF (cu (bR (fS (dF hr)) (ae (oQ (bv 1))) (ae (oQ (bK (bv 0) (ae aA) (λ_ _=>rfl)))) (bO _)) (aG (aX (i:=1) wY.nd rfl (ao rfl) (aI zJ (bv 1) (bK (bv 0) (ae aA) (λ_ _=>rfl))))) cH)
    (aG (aX (i:=2) wY.nd rfl (ao rfl) (aI TR (bv 2) (ae aA))))))))
   (aG (aZ (em 3)))))),λds Q h=>?_⟩
  obtain⟨m,a,b,rfl,hm,ha,hb,q⟩:=h
  unfold da at *
  obtain⟨k,n⟩:=m
  refine aE λU hU=>?_
  walk_at"l3"
  have hF:=cJ hm
  cases k with
  | false =>
   refine⟨_,rfl,false,rfl,?_⟩
   have kI:n<=64:=hF.hi
   have l2:2<=n:=hF.lo
   have CJ:a<n:=ha
   have zY:b<n:=hb
   rw[if_pos (by decide)]
   refine⟨iq.ok (.inr ⟨by omega,by omega⟩),_,rfl,by omega,?_⟩
   have e:((gm (false,n) a b:Nat):Int)=(a:Int)*b%n:=by
    show((a*b%n:Nat):Int)=_
    rw[qe,qf]
   rw[<-e];exact q
  | true =>
   refine⟨_,rfl,true,rfl,?_⟩
   rw[if_neg (by decide)]
   have hp:=vZ hm
   have bp:=U9 n hp
   have D1:=Va n hp
   have p0:n≠0:=λz=>by rw[z,nW]at D1;omega
   have Hl:bl a<bl n:=by
    have:=eX.mpr (show a<2 ^ (bl n-1) from ha)
    omega
   have hy0:bl b<bl n:=by
    have:=eX.mpr (show b<2 ^ (bl n-1) from hb)
    omega
   refine hU _ ?_
   clear hU U
   refine aE λU hU=>?_
   walk_at"l3"
   refine hU _ ?_
   clear hU U
   refine aE λU hU=>?_
   walk_at"l3"
   refine⟨λm δ=>∃(x y z:Nat),δ=[some (.tup [.bl true,.int n]),some (.int (x:Nat)),some (.int (y:Nat)),some (.int (z:Nat))]/\z ^^^ md (cl x y) n=gm (true,n) a b/\bl x<bl n/\bl y<bl n/\m=bl y,
    ⟨bl b,a,b,0,rfl,by rw[p5];rfl,Hl,hy0,rfl⟩,?_⟩
   rintro m δ ⟨x,y,z,rfl,inv,hx,hy,rfl⟩
   walk_at"l3"
   split
   ·rename_i Bc
    have XG:=ir (show y≠0 by omega)
    have yo:bl (y/2)=bl y-1:=cz9 y
    have e1:((x:Int)*2 ^ (1:Int).toNat)=((2*x:Nat):Int):=by
     show(x:Int)*(2:Int) ^ 1=_
     omega
    have e2:((y:Int)/2 ^ (1:Int).toNat)=((y/2:Nat):Int):=by
     show(y:Int)/(2:Int) ^ 1=_
     omega
    have a1:pW (y:Int) 1=((y%2:Nat):Int):=by
     rw[show(1:Int)=((1:Nat):Int) from rfl,S3,Nat.and_one_is_mod]
    have tm:=cD0 (y:=y) p0 hx
    have tb:=cD6 p0 hx
    clear hU
    refine aE λU hU=>?_
    walk_at"l3"
    have fin:∀z':Nat,z'=z ^^^ (if y%2=1 then x else 0)->U [some (.tup [.bl true,.int n]),some (.int x),some (.int y),some (.int z')]:=by
     intro z' hz
     have d98:z' ^^^ md (cl (if bl (2*x)=bl n then 2*x ^^^ n else 2*x) (y/2)) n=gm (true,n) a b:=by
      rw[hz,sJ,<- tm];exact inv
     refine hU _ ?_
     clear hU
     refine aE λU hU=>?_
     walk_at"l3"
     refine⟨⟨by decide,by simp only[jq];omega⟩,hU _ ?_⟩
     clear hU
     rw[e1]
     refine aE λU hU=>?_
     walk_at"l3"
     have last:∀x':Nat,x'=(if bl (2*x)=bl n then 2*x ^^^ n else 2*x)->U [some (.tup [.bl true,.int n]),some (.int (x':Nat)),some (.int y),some (.int z')]:=by
      intro x' eo
      refine hU _ ?_
      walk_at"l3"
      exact⟨by decide,bl (y/2),by omega,x',y/2,z',⟨rfl,e2,rfl⟩,by rw[eo];exact d98,by rw[eo];exact tb,by omega,rfl⟩
     refine⟨_,rfl,?_⟩
     show(if(((bl (((2*x:Nat):Int)).natAbs:Nat):Int)=((bl ((n:Int)).natAbs:Nat):Int))then _ else _)
     rw[jq,jq]
     split
     ·rename_i hc
      refine⟨_,rfl,?_⟩
      have g:=last (2*x ^^^ n) (by rw[if_pos (by omega)])
      rw[<-nX]at g
      exact g
     ·rename_i hc
      exact last (2*x) (by rw[if_neg (by omega)])
    rw[a1]
    split
    ·rename_i D0
     have odd:y%2=1:=by omega
     have g:=fin (z ^^^ x) (by rw[if_pos odd])
     rw[<-nX]at g
     exact g
    ·rename_i D0
     exact fin z (by rw[if_neg (by omega),me])
   ·rename_i Bc
    have hy:y=0:=by omega
    subst hy
    rw[cB3,z9 (by rw[nW];exact ir p0),me]at inv
    subst inv
    refine hU _ ?_
    walk_at"l3"
    exact q
noncomputable abbrev aW2:bC:=λds Q=>∃(m:Bool × Nat) (xs ys:List Nat),ds=[da m,.lst false (aq xs),.lst false (aq ys)]/\m∈aD/\xs.length=ys.length/\xs.length<=64/\(∀x∈xs,x<aa m)/\(∀y∈ys,y<aa m)/\Q (.int (gd m xs ys:Nat))
theorem XM(T:Txt K mg t):aU P w K mg base bf 2 t.J1 t.J2 ["_law_told_here","_law_xs","_law_ys"] (bA (aW2 )):=by
 refine bJ T.LR DJ ?_ ?_
 ·intro ds Q h
  obtain⟨m,xs,ys,rfl,hm,hl,kJ,hx,hy,q⟩:=h<;>rfl
 ·intro aK A outer s H E hr
  refine⟨_,(aF (aX (i:=3) DJ.nd rfl (ao rfl) aA)
   (aF (fQ eR rfl (mT rfl T.nh (af (bv 1) (af (bv 2) au))) (gC (i1:=4) (i2:=5) rfl DJ.nd rfl (ao rfl) rfl (ao rfl))
    (aG (aX (i:=3) DJ.nd rfl (ao rfl) (aS ((XI T).mono (by decide)) hr rfl T.WW T.LP.kp T.WX aN (af (bv 0) (af (bv 3) (af (ae (aS ((XJ T).mono (by decide)) hr rfl T.WY T.LQ.kp T.WZ aN (af (bv 0) (af (bv 4) (af (bv 5) au))))) au)))))))
   (aG (aZ (em 3))))),λds Q h=>?_⟩
  obtain⟨m,xs,ys,rfl,hm,hl,kJ,hx,hy,q⟩:=h
  refine aE λU hU=>?_
  walk_at"l3"
  refine hU _ ?_
  clear hU U
  refine aE λU hU=>?_
  walk_at"l3"
  refine⟨_,_,rfl,rfl,?_⟩
  refine fP.mk (λi δ=>∃o1 o2,δ=[some (da m),some (.lst false (aq xs)),some (.lst false (aq ys)),some (.int (((dh (gm m) xs ys).take i).foldl (gp m) 0:Nat)),o1,o2]) ⟨none,none,rfl⟩ ?_ ?_
  ·rintro i d δ hd ⟨o1,o2,rfl⟩
   obtain⟨hi,hj,rfl⟩:∃(hi:i<xs.length) (hj:i<ys.length),d=.tup [.int (xs[i]:Nat),.int (ys[i]:Nat)]:=by
    unfold cR at hd
    rw[cC,cC,yE]at hd
    by_cases hi:i<xs.length
    ·have hj:i<ys.length:=by omega
     rw[kN,aP hi,aP hj]at hd
     exact⟨hi,hj,(cX hd).symm⟩
    ·rw[fY (by simp;omega)]at hd;cases hd
   have e7:=hx xs[i] (cM _)
   have Bc:=hy ys[i] (cM _)
   walk_at"l3"
   have hF:=cJ hm
   have t1:(da m).sh=da m:=rfl
   have t2:(da m).pl=true:=rfl
   have m0:0<m.2:=bX m hm
   refine⟨m,xs[i],ys[i],rfl,hm,e7,Bc,m,_,gm m xs[i] ys[i],rfl,m0,by simp[D.pl],_,_,?_,rfl,rfl⟩
   rw[List.take_succ,yL,kN,aP hi,aP hj];rfl
  ·rintro δ ⟨o1,o2,rfl⟩
   refine hU _ ?_
   walk_at"l3"
   have e:(cR (aq xs) (aq ys)).length=xs.length:=by unfold cR;rw[gM,e5,e5];omega
   rw[e,sO (by rw[gM];omega)]
   exact q
noncomputable abbrev aP6:bC:=λds Q=>∃(m:Bool × Nat) (xs:List Nat) (T:List (List Nat)) (w:Nat),ds=[da m,.lst false (aq xs),.lst false (aH false T),.int w]/\m∈aD/\AllLt (aa m) xs/\xs.length<=64/\T.length=xs.length/\w<=1000/\RT (aa m) w T/\Q (.lst true (aq (pG m xs T w)))
theorem XN(T:Txt K mg t):aU P w K mg base bf 3 t.J3 t.J4 ["_law_told_here","_law_xs","_law_table_here","_law_wide"] (bA (aP6 )):=by
 refine bJ T.LS aO8 ?_ ?_
 ·intro ds Q h
  obtain⟨m,xs,G,wi,rfl,hm,hx,tN,hG,hw,hR,q⟩:=h<;>rfl
 ·intro aK A outer s H E hr
  refine⟨_,(aG (aZ (dr [("_law_told_here",0),("_law_xs",1),("_law_table_here",2)] ["_law_k"] rfl (kA rfl T.iG (af (bv 3) au)) (λ_ _ _ _=>(cI (i:=3) (show(["_law_told_here","_law_xs","_law_table_here","_law_k"]:List Str).Nodup by decide +kernel) rfl (bh rfl) (by decide) (ao rfl))) (λ_ _ _ _=>dE) (by exact λ_ _ _ _=>(aS ((XM T).mono (by decide)) hr rfl T.W0 T.LR.kp T.W2 aN (af (bv 0) (af (bv 1) (af (ae (dr [("_law_k",3)] ["_law_row"] rfl (gb (bv 2)) (λ_ _ _ _=>(cI (i:=1) (show(["_law_k","_law_row"]:List Str).Nodup by decide +kernel) rfl (ao (lookup_relabel_local rfl)) (by decide) (bh (lookup_relabel_local rfl)))) (λ_ _ _ _=>dE) (λ_ _ _ _=>(cV (bK (bv 1) (bv 0) (λ_ _=>rfl)))) rfl ⟨rfl,trivial⟩ (λ_=>by repeat' (first | exact trivial | refine⟨.inl rfl,?_⟩ | refine⟨.inr (.inl rfl),?_⟩ | refine⟨.inr (.inr ⟨_,rfl⟩),?_⟩)) (λ_=>⟨⟨rfl,.inl rfl,.inl rfl,_,rfl,rfl⟩,trivial⟩) rfl (by decide +kernel))) au))))) rfl ⟨rfl,⟨rfl,⟨rfl,trivial⟩⟩⟩ (λ_=>by repeat' (first | exact trivial | refine⟨.inl rfl,?_⟩ | refine⟨.inr (.inl rfl),?_⟩ | refine⟨.inr (.inr ⟨_,rfl⟩),?_⟩)) (λ_=>⟨⟨rfl,.inl rfl,.inl rfl,_,rfl,rfl⟩,⟨⟨rfl,.inl rfl,.inl rfl,_,rfl,rfl⟩,⟨⟨rfl,.inl rfl,.inl rfl,_,rfl,rfl⟩,trivial⟩⟩⟩) rfl (by decide +kernel)))),λds Q h=>?_⟩
  obtain⟨m,xs,G,wi,rfl,hm,hx,tN,hG,hw,hR,q⟩:=h
  walk_at"l3"
  refine⟨⟨by omega,by omega⟩,eA (bg wi) (λ(i:Nat)=>D.int (i:Int)) (λk=>D.int ((gd m xs (G.map λr=>r.getD k 0):Nat):Int)) (uJ _ rfl) g5 (λk hk=>?_) (.inr λ_ _=>rfl) (by rw[dQ,sL];omega) ?_⟩
  ·have hk:=cL.mp hk
   walk_at"l3"
   refine eA G (λr=>D.lst false (aq r)) (λr=>D.int ((r.getD k 0:Nat):Int)) (by rw[dm];rfl) (λa b h=>ph a b h) (λr bq=>?_) (.inr λr _=>rfl) (by rw[sL];omega) ?_
   ·walk_at"l3"
    have hl:=(hR r bq).1
    exact⟨.int (r.getD k 0:Nat),by rw[jG (by omega) (by omega),fX],rfl,rfl⟩
   ·refine⟨m,xs,G.map λr=>r.getD k 0,?_,hm,by rw[bB,hG],tN,hx,λy hy=>?_,?_⟩
    ·rw[cC (G.map _),cm,dj,cm];rfl
    ·obtain⟨r,bq,rfl⟩:=bE.mp hy
     exact(hR r bq).2.getD (by have:=(cJ hm).lo;omega) k
    ·exact⟨by rw[rn,ft],rfl⟩
  ·unfold pG at q
   rw[cC,cm]at q
   exact q
noncomputable def dW(ns:List Int)(k:Int):Int:=if k<ns.length then ns.getD k.toNat 0 else(k*k*48271+ns.length*7919)%65537
noncomputable abbrev aU0:bC:=λds Q=>∃(ns:List Int) (k:Int),ds=[.fz (aL ns),.int k]/\0<=k/\k<=1000000/\Q (.int (dW ns k))
theorem ie(T:Txt K mg t):aU P w K mg base bf 1 t.J5 t.J6 ["_law_script","_law_k"] (bA (aU0 )):=by
 refine bJ T.gI aS2 ?_ ?_
 ·intro ds Q h
  obtain⟨ns,k,rfl,hk,hk2,q⟩:=h<;>rfl
 ·intro aK A outer s H E hr
  refine⟨_,(aF (cu (bR CB (bv 1) (ae (fj (gZ) (by rfl) T.ib gW (af (bv 0) au))) (bO _)) (aG (aZ (cV (bK (bv 0) (bv 1) (λ_ _=>rfl))))) cH)
   (aG (aZ (aI dk (ae (aI dy (ae (aI gA (ae (aI gA (bv 1) (bv 1))) (ae aA))) (ae (aI gA (ae (fj (gZ) (by rfl) T.ib gW (af (bv 0) au))) (ae aA))))) (ae aA))))),λds Q h=>?_⟩
  obtain⟨ns,k,rfl,hk,hk2,q⟩:=h
  unfold dW at q
  refine aE λU hU=>?_
  walk_at"l3"
  split
  ·rename_i h
   rw[if_pos h]at q
   exact⟨_,mS hk h,rfl,q⟩
  ·rename_i h
   rw[if_neg h]at q
   refine hU _ ?_
   walk_at"l3"
   exact⟨iq.ok (.inl ⟨by omega,by omega⟩),iq.ok (.inr ⟨by decide,by decide⟩),iq.ok (.inr ⟨by decide,by decide⟩),by decide,q⟩
noncomputable abbrev aU1:bC:=λds Q=>∃m:Bool × Nat,ds=[da m]/\bl m.2<=1000/\1<=bl m.2/\Q (.int (aa m:Nat))
theorem nr(T:Txt K mg t):aU P w K mg base bf 1 t.J7 t.J8 ["_law_told_here"] (bA (aU1 )):=by
 refine bJ T.lY aS3 ?_ ?_
 ·intro ds Q h
  obtain⟨m,rfl,h1,h2,q⟩:=h<;>rfl
 ·intro aK A outer s H E hr
  refine⟨_,(aF (cu (jC (bK (bv 0) (ae aA) (λ_ _=>rfl))) (aG (aZ (aI vN (ae aA) (ae (aI gY (ae (oQ (bK (bv 0) (ae aA) (λ_ _=>rfl)))) (ae aA)))))) cH)
   (aG (aZ (cV (bK (bv 0) (ae aA) (λ_ _=>rfl)))))),λds Q h=>?_⟩
  obtain⟨m,rfl,h1,h2,q⟩:=h
  unfold da at *
  refine aE λU hU=>?_
  walk_at"l3"
  obtain⟨b,n⟩:=m
  cases b with
  | true =>
   refine⟨_,rfl,true,rfl,?_⟩
   rw[if_pos rfl]
   refine⟨_,rfl,?_⟩
   have o1:bl (1:Int).natAbs=1:=by decide
   have e:(1:Int)*2 ^ (((bl ((n:Int)).natAbs:Nat):Int)-1).toNat=((aa (true,n):Nat):Int):=by
    have jR:1<=bl n:=h2
    rw[jq,show(((bl n:Nat):Int)-1)=((bl n-1:Nat):Int) by omega,show(1:Int)=((1:Nat):Int) from rfl,vE,FQ];rfl
   refine⟨?_,by rw[e];exact q⟩
   rw[jq]
   have kq:bl n<=1000:=h1
   have jR:1<=bl n:=h2
   exact⟨by omega,by omega⟩
  | false =>
   refine⟨_,rfl,false,rfl,?_⟩
   rw[if_neg (by decide)]
   refine hU _ ?_
   walk_at"l3"
   exact⟨_,rfl,rfl,q⟩
theorem cP4{tc:fO}{t u:cZ}{En:tL}{δ:Dl}(h:∀W:Bool->Dl->Prop,(∀ak,t En ak->W true ak)->(∀ak,u En ak->W false ak)->tc δ W):oq tc t u En δ:=h (λb ak=>if b=true then t En ak else u En ak) (λ_ z=>by rw[if_pos rfl];exact z) (λ_ z=>by rw[if_neg (by decide)];exact z)
noncomputable abbrev aR4:bC:=λds Q=>∃(m:Bool × Nat) (ns:List Int) (b r w y:Nat),ds=[da m,.fz (aL ns),.int b,.int r,.int w,.int y]/\m∈aD/\b<=1000/\r<=64/\1<=w/\w<=64/\∀T:List (List Nat),T.length=r->RT (aa m) w T->Q (.lst true (aH true T))
theorem aR5(T:Txt K mg t):aU P w K mg base bf 4 t.J9 t.Ka ["_law_told_here","_law_script","_law_begin","_law_rows","_law_wide","_law_way"] (bA (aR4 )):=by
 refine bJ T.W5 xf ?_ ?_
 ·intro ds Q h
  obtain⟨m,ns,b,r,wi,y,rfl,hm,hb,bq,Me,hw,q⟩:=h<;>rfl
 ·intro aK A outer s H E hr
  refine⟨_,(aF (aX (i:=6) xf.nd rfl (ao rfl) (eM dD))
   (aF (fQ eR rfl (kA rfl T.iG (af (bv 3) au)) (cI (i:=7) xf.nd rfl (bh rfl))
    (aF (IA (i:=8) xf.nd rfl (ao rfl) [("_law_script",1),("_law_told_here",0),("_law_begin",2),("_law_i",7),("_law_wide",4)] ["_law_k"] rfl (kA rfl T.iG (af (bv 4) au)) (λ_ _ _ _=>(cI (i:=5) (show(["_law_script","_law_told_here","_law_begin","_law_i","_law_wide","_law_k"]:List Str).Nodup by decide +kernel) rfl (ao (lookup_relabel_local rfl)) (by decide) (bh (lookup_relabel_local rfl)))) (λ_ _ _ _=>dE) (λ_ _ _ _=>(aI dk (ae (aS ((ie T).mono (by decide)) hr rfl T.hJ T.gI.kp T.hV aN (af (bv 0) (af (ae (aI dy (ae (aI dy (bv 2) (ae (aI gA (bv 3) (bv 4))))) (bv 5))) au)))) (ae (aS ((nr T).mono (by decide)) hr rfl T.m6 T.lY.kp T.m8 aN (af (bv 1) au))))) rfl ⟨rfl,⟨rfl,⟨rfl,⟨rfl,⟨rfl,trivial⟩⟩⟩⟩⟩ (λ_=>by repeat' (first | exact trivial | refine⟨.inl rfl,?_⟩ | refine⟨.inr (.inl rfl),?_⟩ | refine⟨.inr (.inr ⟨_,rfl⟩),?_⟩)) (λ_=>⟨⟨rfl,.inl rfl,.inl rfl,_,rfl,rfl⟩,⟨⟨rfl,.inl rfl,.inl rfl,_,rfl,rfl⟩,⟨⟨rfl,.inl rfl,.inl rfl,_,rfl,rfl⟩,⟨⟨rfl,.inl rfl,.inl rfl,_,rfl,rfl⟩,⟨⟨rfl,.inl rfl,.inl rfl,_,rfl,rfl⟩,trivial⟩⟩⟩⟩⟩) rfl (by decide +kernel))
    (aF (cu (bR (fS (dF hr)) (ae (aI dk (bv 5) (ae aA))) (ae aA) (bO _)) (aG (IA (i:=8) xf.nd rfl (ao rfl) [] ["_law_x"] rfl (gb (bv 8)) (λ_ _ _ _=>(cI (i:=0) (show(["_law_x"]:List Str).Nodup by decide +kernel) rfl (ao (lookup_relabel_local rfl)) (by decide) (bh (lookup_relabel_local rfl)))) (λ_ _ _ _=>dE) (λ_ _ _ _=>(aI dk (bv 0) (ae aA))) rfl trivial (λ_=>by repeat' (first | exact trivial | refine⟨.inl rfl,?_⟩ | refine⟨.inr (.inl rfl),?_⟩ | refine⟨.inr (.inr ⟨_,rfl⟩),?_⟩)) (λ_=>trivial) rfl (by decide +kernel))) cH)
    (aF (cu (PW.pt (Tw (bR (fS (dF hr)) (ae (aI dk (ae (aI iY (bv 5) (ae aA))) (ae aA))) (ae aA) (bO _)) (Tw (bR Ho (bv 7) (ae aA) (bO _)) (cw5 (bR (fS (dF hr)) (ae (aI dk (ae (aI iY (ae (aS ((ie T).mono (by decide)) hr rfl T.hJ T.gI.kp T.hV aN (af (bv 1) (af (ae (aI dy (bv 2) (ae (aI gA (bv 7) (bv 4))))) au)))) (ae aA))) (ae aA))) (ae aA) (bO _)))))) (aG (aX (i:=8) xf.nd rfl (ao rfl) (aS ((XN T).mono (by decide)) hr rfl T.W3 T.LS.kp T.W4 aN (af (bv 0) (af (Ao (af (bK (bv 8) (ae aA) (λ_ _=>rfl)) (af (bK (bv 8) (ae (aI gY (bv 4) (ae aA))) (λ_ _=>rfl)) au))) (af (Ao (af (bK (bv 6) (ae aA) (λ_ _=>rfl)) (af (bK (bv 6) (ae (aI gY (bv 7) (ae aA))) (λ_ _=>rfl)) au))) (af (bv 4) au))))))) cH)
    (aG (kD (i:=6) rfl (by first | exact ao rfl | exact bh (ao rfl)) (em 8)))))))
   (aG (aZ (em 6))))),λds Q h=>?_⟩
  obtain⟨m,ns,b,r,wi,y,rfl,hm,hb,bq,Me,hw,q⟩:=h
  have dJ:=(cJ hm).lo
  have D2:=Aa m hm
  have Mg:∀z:Int,z%(aa m:Int)=(((z%(aa m:Int)).toNat:Nat):Int):=λz=>by
   have n0:=jn z (show(aa m:Int)≠0 by omega)
   omega
  have Mh:∀z:Int,(z%(aa m:Int)).toNat<aa m:=λz=>by
   have n1:=jo z (show(0:Int)<(aa m:Int) by omega)
   omega
  refine aE λU hU=>?_
  walk_at"l3"
  refine⟨by decide,hU _ ?_⟩
  clear hU U
  refine aE λU hU=>?_
  walk_at"l3"
  refine⟨⟨by omega,by omega⟩,zQ (λi δ=>∃(G:List (List Nat)) (o1 o2:Option D),δ=[some (da m),some (.fz (aL ns)),some (.int b),some (.int r),some (.int wi),some (.int y),some (.lst true (aH true G)),o1,o2]/\G.length=i/\RT (aa m) wi G) ⟨[],_,_,rfl,rfl,λ_ h=>nomatch h⟩ ?_ ?_⟩
  ·rintro i δ hi ⟨G,o1,o2,rfl,hG,hR⟩
   simp only[gN,gP,gO]
   clear hU
   have iw:i*wi<=64*64:=Nat.mul_le_mul (by omega) hw
   have eiw:(i:Int)*(wi:Int)=((i*wi:Nat):Int):=by rw[qf]
   refine aE λU hU=>?_
   walk_at"l3"
   refine⟨⟨by omega,by omega⟩,eA (bg wi) (λ(i:Nat)=>D.int (i:Int)) (λk=>D.int (((dW ns ((b:Int)+(i:Int)*(wi:Int)+(k:Int))%(aa m:Int)).toNat:Nat):Int)) (uJ _ rfl) g5 (λk hk=>?_) (.inr λ_ _=>rfl) (by rw[dQ,sL];omega) ?_⟩
   ·have hk:=cL.mp hk
    walk_at"l3"
    refine⟨iq.ok (.inl ⟨by omega,by omega⟩),ns,_,rfl,by omega,by omega,m,rfl,by omega,by omega,?_⟩
    dsimp only
    exact⟨by omega,Mg _⟩
   obtain⟨row,er,pS,sk⟩:∃wd:List Nat,((bg wi).map λ(k:Nat)=>D.int (((dW ns ((b:Int)+(i:Int)*(wi:Int)+(k:Int))%(aa m:Int)).toNat:Nat):Int))=aq wd/\AllLt (aa m) wd/\wd.length=wi:=by
    refine⟨(bg wi).map λ(k:Nat)=>(dW ns ((b:Int)+(i:Int)*(wi:Int)+(k:Int))%(aa m:Int)).toNat,by rw[cC,cm];rfl,λa ha=>?_,by simp⟩
    obtain⟨k,_,rfl⟩:=bE.mp ha
    exact Mh _
   rw[er]
   refine hU _ ?_
   clear hU
   refine aE λU hU=>?_
   walk_at"l3"
   have fin:∀row:List Nat,AllLt (aa m) row->row.length=wi->U [some (da m),some (D.fz (aL ns)),some (D.int b),some (D.int r),some (D.int wi),some (D.int y),some (D.lst true (aH true G)),some (D.int i),some (D.lst true (aq row))]:=by
    clear er pS sk row
    intro row pS sk
    refine hU _ ?_
    clear hU
    refine aE λU hU=>?_
    have fin2:∀row:List Nat,AllLt (aa m) row->row.length=wi->U [some (da m),some (D.fz (aL ns)),some (D.int b),some (D.int r),some (D.int wi),some (D.int y),some (D.lst true (aH true G)),some (D.int i),some (D.lst true (aq row))]:=by
     clear pS sk row
     intro row pS sk
     refine hU _ ?_
     walk_at"l3"
     refine⟨⟨_,rfl⟩,by omega,G++[row],_,_,⟨uK true G [row],rfl,rfl⟩,by rw[dO,hG];rfl,hR.app λx hx=>?_⟩
     rw[dP]at hx
     rw[hx];exact⟨sk,pS⟩
    refine cP4 λW wt wf=>?_
    have Mi:∀z:Bool,z=false->W z [some (da m),some (D.fz (aL ns)),some (D.int (b:Nat)),some (D.int r),some (D.int wi),some (D.int y),some (D.lst true (aH true G)),some (D.int i),some (D.lst true (aq row))]:=λz hz=>by
     subst hz
     refine wf _ ?_
     walk_at"l3"
     exact fin2 row pS sk
    dsimp only[ qE,mI,qG,oq,dT,kX,ku,by4,dC,oh,mH,mG,mF,om,qD,mP,rf,oM,rh,rj,qu,qv,qw,qA,qB,qC,oj,q8,oI,oJ,oA,qN,oE,qO,qP,qQ,qR,qS,qT,iI,gz,qU,qV,qW,qX,oG,oH,kZ,q0,q5,gN,rk,q9,qH,qJ,ou,qK,qL,qM,rl,rm,mJ,kB,fR,iV,iz,p7,pZ,sR,vh,oo,jW,iU,oK,lL,rA,rC,rD,uq,kE,rH,oU,rF,iZ,uv,ur,uu,dz,jN,nK,nC,gK,vi,bH,nL,nM,gO,gP,sT,exists_eq_left',exists_eq_left,D.bl.injEq,D.int.injEq,D.lst.injEq,D.fz.injEq,D.str.injEq,D.tup.injEq,sU,and_true,true_and,dY,p9,kM,ka,tQ,tR,tS,tT,tU,tV,fi,jT,gB,tZ,t7,t8,t9,ua,dj,jU,rn,tW,tX,tY,eT,n9,vj,vk,sA,ft,vm,vn,sF,uf,ug,uh,ui,uj,uk,um,lH,lJ,oR,jE,oS,ud,rz,ub,rp,ue,lK,rq,if_true,vo,if_false,reduceIte,uo,decide_eq_true_eq,e5,kF,mV,uB,mW,uA,qI,rL,pf,rG,oX,oY,rP,rV,pH,dm,mZ,jc,uL,pj,r6]
    walk_at"l3"
    refine⟨iX (by decide) (by decide),by decide,?_⟩
    split
    ·split
     ·rename_i h0
      refine⟨iq.ok (.inl ⟨by omega,by omega⟩),ns,_,rfl,by omega,by omega,?_⟩
      dsimp only
      refine⟨iX (by decide) (by decide),by decide,?_⟩
      cases hc:decide (dW ns ((b:Int)+(i:Int)*(wi:Int))/64%2=1)with
      | false=>exact Mi _ rfl
      | true =>
       refine wt _ ?_
       dsimp only[ qE,mI,qG,oq,dT,kX,ku,by4,dC,oh,mH,mG,mF,om,qD,mP,rf,oM,rh,rj,qu,qv,qw,qA,qB,qC,oj,q8,oI,oJ,oA,qN,oE,qO,qP,qQ,qR,qS,qT,iI,gz,qU,qV,qW,qX,oG,oH,kZ,q0,q5,gN,rk,q9,qH,qJ,ou,qK,qL,qM,rl,rm,mJ,kB,fR,iV,iz,p7,pZ,sR,vh,oo,jW,iU,oK,lL,rA,rC,rD,uq,kE,rH,oU,rF,iZ,uv,ur,uu,dz,jN,nK,nC,gK,vi,bH,nL,nM,gO,gP,sT,exists_eq_left',exists_eq_left,D.bl.injEq,D.int.injEq,D.lst.injEq,D.fz.injEq,D.str.injEq,D.tup.injEq,sU,and_true,true_and,dY,p9,kM,ka,tQ,tR,tS,tT,tU,tV,fi,jT,gB,tZ,t7,t8,t9,ua,dj,jU,rn,tW,tX,tY,eT,n9,vj,vk,sA,ft,vm,vn,sF,uf,ug,uh,ui,uj,uk,um,lH,lJ,oR,jE,oS,ud,rz,ub,rp,ue,lK,rq,if_true,vo,if_false,reduceIte,uo,decide_eq_true_eq,e5,kF,mV,uB,mW,uA,qI,rL,pf,rG,oX,oY,rP,rV,pH,dm,mZ,jc,uL,pj,r6]
       walk_at"l3"
       have g0:0<G.length:=by omega
       have g1:i-1<G.length:=by omega
       have l0:0<aa m:=by omega
       refine⟨.int (row.getD 0 0:Nat),by rw[jG (by omega) (by show 0<row.length;omega)];rfl,.int (row.getD (wi-1) 0:Nat),by rw[jG (by omega) (by omega),show((wi:Int)-1).toNat=wi-1 by omega],by decide,.lst true (aq G[0]),uM true g0,.lst true (aq G[i-1]),by rw[show((i:Int)-1)=((i-1:Nat):Int) by omega];exact uM true g1,by decide,?_⟩
       refine⟨m,[row.getD 0 0,row.getD (wi-1) 0],[G[0],G[i-1]],wi,by rw[jH,jH];rfl,hm,λx hx=>?_,by show 2<=64;omega,rfl,by omega,λx hx=>?_,fC _,fin2 _ (VQ hm _ rfl) (IF _ _ _ _)⟩
       ·simp only[cA,ij,or_false]at hx
        rcases hx with rfl | rfl
        ·exact pS.getD l0 _
        ·exact pS.getD l0 _
       ·simp only[cA,ij,or_false]at hx
        rcases hx with rfl | rfl
        ·exact hR _ (cM g0)
        ·exact hR _ (cM g1)
     ·exact Mi _ rfl
    ·exact Mi _ rfl
   refine⟨by decide,?_⟩
   split
   ·refine eA row (λ(i:Nat)=>D.int (i:Int)) (λ(i:Nat)=>D.int ((i%2:Nat):Int)) (mU row) g5 (λx hx=>?_) (.inr λ_ _=>rfl) (by rw[sL];omega) ?_
    ·walk_at"l3"
     exact⟨by decide,by omega⟩
    ·have:=fin (row.map (· % 2)) (λa ha=>by
      obtain⟨x,_,rfl⟩:=bE.mp ha
      omega) (by rw[bB];exact sk)
     rw[cC,cm]at this
     exact this
   ·exact fin row pS sk
  ·rintro δ ⟨G,o1,o2,rfl,hG,hR⟩
   refine hU _ ?_
   walk_at"l3"
   exact q G hG hR
noncomputable abbrev aF9:bC:=λds Q=>∃(m:Bool × Nat) (ns:List Int) (r w:Nat),ds=[da m,.fz (aL ns),.int r,.int w]/\m∈aD/\r<=8/\1<=w/\w<=8/\∀T:List (List Nat),T.length=r->RT (aa m) w T->Q (.lst true (aH true T))
theorem aG0(T:Txt K mg t):aU P w K mg base bf 5 t.Kb t.Kd ["_law_told_here","_law_script","_law_rows","_law_wide"] (bA (aF9 )):=by
 refine bJ T.W6 Wx ?_ ?_
 ·intro ds Q h
  obtain⟨m,ns,r,w,rfl,hm,bq,Me,hw,q⟩:=h<;>rfl
 ·intro aK A outer s H E hr
  refine⟨_,(aF (cu (bR (fS (dF hr)) (ae (aI dk (ae (aI iY (ae (aS ((ie T).mono (by decide)) hr rfl T.hJ T.gI.kp T.hV aN (af (bv 1) (af (ae aA) au)))) (ae aA))) (ae aA))) (ae aA) (bO _)) (aG (aZ (aS ((aR5 T).mono (by decide)) hr rfl T.aT0 T.W5.kp T.aT1 aN (af (bv 0) (af (bv 1) (af (ae aA) (af (bv 2) (af (bv 3) (af (ae (aI dk (ae (aS ((ie T).mono (by decide)) hr rfl T.hJ T.gI.kp T.hV aN (af (bv 1) (af (ae aA) au)))) (ae aA))) au))))))))) cH)
   (aF (aX (i:=4) Wx.nd rfl (bh rfl) (aS ((at2 T).mono (by decide)) hr rfl T.LN T.DO.kp T.LO aN (af (ae (aS ((ie T).mono (by decide)) hr rfl T.hJ T.gI.kp T.hV aN (af (bv 1) (af (ae aA) au)))) (af (ae (aS ((nr T).mono (by decide)) hr rfl T.m6 T.lY.kp T.m8 aN (af (bv 0) au))) (af (ae (aI gA (bv 2) (bv 3))) au)))))
   (aG (aZ (dr [("_law_row",4),("_law_wide",3)] ["_law_k"] rfl (kA rfl T.iG (af (bv 2) au)) (λ_ _ _ _=>(cI (i:=2) (show(["_law_row","_law_wide","_law_k"]:List Str).Nodup by decide +kernel) rfl (ao (lookup_relabel_local rfl)) (by decide) (bh (lookup_relabel_local rfl)))) (λ_ _ _ _=>dE) (λ_ _ _ _=>(rJ (bv 0) (oO (ae (aI gA (bv 2) (bv 1)))) (oO (ae (aI dy (ae (aI gA (bv 2) (bv 1))) (bv 1)))))) rfl ⟨rfl,⟨rfl,trivial⟩⟩ (λ_=>by repeat' (first | exact trivial | refine⟨.inl rfl,?_⟩ | refine⟨.inr (.inl rfl),?_⟩ | refine⟨.inr (.inr ⟨_,rfl⟩),?_⟩)) (λ_=>⟨⟨rfl,.inl rfl,.inl rfl,_,rfl,rfl⟩,⟨⟨rfl,.inl rfl,.inl rfl,_,rfl,rfl⟩,trivial⟩⟩) rfl (by decide +kernel)))))),λds Q h=>?_⟩
  obtain⟨m,ns,r,w,rfl,hm,bq,Me,hw,q⟩:=h
  have dJ:=(cJ hm).lo
  have Mj:=(cJ hm).hi
  have D2:=Aa m hm
  refine aE λU hU=>?_
  walk_at"l3"
  refine⟨ns,1,rfl,by decide,by decide,iX (by decide) (by decide),by decide,?_⟩
  split
  ·refine⟨ns,2,rfl,by decide,by decide,?_⟩
   dsimp only
   exact⟨by decide,m,ns,15,r,w,(dW ns 2%4).toNat,by rw[show(((dW ns 2%4).toNat:Nat):Int)=dW ns 2%4 by omega];rfl,hm,by decide,by omega,by omega,by omega,q⟩
  ·refine hU _ ?_
   clear hU U
   refine aE λU hU=>?_
   walk_at"l3"
   have ea9:r*w<=64:=Nat.mul_le_mul bq hw
   refine⟨ns,15,rfl,by decide,by decide,m,rfl,by omega,by omega,iq.ok (.inl ⟨by omega,by omega⟩),dW ns 15,aa m,r*w,by rw[gB,gB,qf],by omega,by omega,ea9,λc lc hc=>⟨by rw[fC,ft],hU _ ?_⟩⟩
   clear hU U
   walk_at"l3"
   refine⟨⟨by omega,by omega⟩,eA (bg r) (λ(i:Nat)=>D.int (i:Int)) (λk=>D.lst true (aq ((c.drop (k*w)).take w))) (uJ _ rfl) g5 (λk hk=>?_) (.inr λ_ _=>fC _) (by rw[dQ,sL];omega) ?_⟩
   ·have:=cL.mp hk
    walk_at"l3"
    refine⟨iq.ok (.inl ⟨by omega,by omega⟩),iq.ok (.inl ⟨by omega,by omega⟩),?_⟩
    rw[<-qf,<- BI,Ug,Nat.add_sub_cancel_left]
   ·rw[show((bg r).map λk=>D.lst true (aq ((c.drop (k*w)).take w)))=aH true ((bg r).map λk=>(c.drop (k*w)).take w) by unfold aH;rw[cm];rfl]
    refine q _ (by rw[bB,dQ]) λx hx=>?_
    obtain⟨k,hk,rfl⟩:=bE.mp hx
    have hk:=cL.mp hk
    have:(k+1)*w<=r*w:=RJ w hk
    rw[Nat.add_mul,Nat.one_mul]at this
    exact⟨by rw[gL,iH];omega,λa ha=>hc a (nI (nJ ha))⟩
noncomputable abbrev aW3:bC:=λds Q=>∃T:List (List Nat),ds=[.lst false (aH false T)]/\T.length<=1000/\(∀r∈T,r.length<=1000)/\Q (.int (ah T:Nat))
theorem Bd(T:Txt K mg t):aU P w K mg base bf 1 t.Ke t.Kf ["table"] (bA (aW3 )):=by
 refine bJ T.yf aV4 ?_ ?_
 ·intro ds Q h
  obtain⟨G,rfl,hG,hr,q⟩:=h<;>rfl
 ·intro aK A outer s H E hr
  refine⟨_,(aG (aZ (zA (bR (mO (dF hr)) (bv 0) (ae (eM dD)) (bO _)) (fj (gZ) (by rfl) T.ib gW (af (bK (bv 0) (ae aA) (λ_ _=>rfl)) au)) aA))),λds Q h=>?_⟩
  obtain⟨G,rfl,hG,hr,q⟩:=h
  walk_at"l3"
  refine⟨by decide,⟨Vv 4 _ _ _,rfl⟩,?_⟩
  rw[show(D.lst true ([]:List D))=D.lst true (aH true []) from rfl,cz2]
  cases G with
  | nil=>rw[if_neg (by simp)];exact q
  | cons r G =>
   rw[if_pos (by simp)]
   refine⟨.lst false (aq r),uM false (T:=r::G) (i:=0) (RI _),?_⟩
   show Q (D.int ((aq r).length:Nat))
   rw[e5];exact q
noncomputable abbrev aX5:bC:=λds Q=>∃T:List (List Nat),ds=[.lst false (aH false T)]/\T.length<=1000/\(∀r∈T,r.length=ah T)/\ah T<=1000/\Q (.lst true (aH true (cK T)))
theorem XO(T:Txt K mg t):aU P w K mg base bf 2 t.Kg t.Kh ["table"] (bA (aX5 )):=by
 refine bJ T.LU aX2 ?_ ?_
 ·intro ds Q h
  obtain⟨G,rfl,hG,hr,hw,q⟩:=h<;>rfl
 ·intro aK A outer s H E hr
  refine⟨_,(aG (aZ (dr [("table",0)] ["j"] rfl (kA rfl T.iG (af (ae (aS ((Bd T).mono (by decide)) hr rfl T.Az T.yf.kp T.AA aN (af (bv 0) au))) au)) (λ_ _ _ _=>(cI (i:=1) (show(["table","j"]:List Str).Nodup by decide +kernel) rfl (bh rfl) (by decide) (ao rfl))) (λ_ _ _ _=>dE) (by exact λ_ _ _ _=>(dr [("j",1)] ["row"] rfl (gb (bv 0)) (λ_ _ _ _=>(cI (i:=1) (show(["j","row"]:List Str).Nodup by decide +kernel) rfl (ao (lookup_relabel_local rfl)) (by decide) (bh (lookup_relabel_local rfl)))) (λ_ _ _ _=>dE) (λ_ _ _ _=>(cV (bK (bv 1) (bv 0) (λ_ _=>rfl)))) rfl ⟨rfl,trivial⟩ (λ_=>by repeat' (first | exact trivial | refine⟨.inl rfl,?_⟩ | refine⟨.inr (.inl rfl),?_⟩ | refine⟨.inr (.inr ⟨_,rfl⟩),?_⟩)) (λ_=>⟨⟨rfl,.inl rfl,.inl rfl,_,rfl,rfl⟩,trivial⟩) rfl (by decide +kernel))) rfl ⟨rfl,trivial⟩ (λ_=>by repeat' (first | exact trivial | refine⟨.inl rfl,?_⟩ | refine⟨.inr (.inl rfl),?_⟩ | refine⟨.inr (.inr ⟨_,rfl⟩),?_⟩)) (λ_=>⟨⟨rfl,.inl rfl,.inl rfl,_,rfl,rfl⟩,trivial⟩) rfl (by decide +kernel)))),λds Q h=>?_⟩
  obtain⟨G,rfl,hG,hr,hw,q⟩:=h
  walk_at"l3"
  refine⟨G,rfl,hG,λr bq=>by rw[hr r bq];exact hw,?_⟩
  dsimp only
  refine⟨_,rfl,⟨by omega,by omega⟩,?_⟩
  refine eA (bg (ah G)) (λ(i:Nat)=>D.int (i:Int)) (λj=>D.lst true (aq (G.map λr=>r.getD j 0))) (uJ _ rfl) g5 (λj hj=>?_) (.inr λj _=>fC _) (by rw[dQ,sL];omega) ?_
  ·have hj:=cL.mp hj
   walk_at"l3"
   refine eA G (λr=>D.lst false (aq r)) (λr=>D.int ((r.getD j 0:Nat):Int)) (by rw[dm];rfl) (λa b h=>ph a b h) (λr bq=>?_) (.inr λr _=>rfl) (by rw[sL];omega) ?_
   ·walk_at"l3"
    have hl:=hr r bq
    exact⟨.int (r.getD j 0:Nat),by rw[jG (by omega) (by omega),fX],rfl,rfl⟩
   ·rw[cC,cm];rfl
  ·unfold cK aH at q
   rw[cm]at q
   exact q
noncomputable abbrev aU2:bC:=λds Q=>∃c:List Nat,ds=[.lst false (aq c)]/\c.length<=1000/\Q (.bl (nul c))
theorem D3(T:Txt K mg t):aU P w K mg base bf 1 t.Ki t.Kj ["column"] (bA (aU2 )):=by
 refine bJ T.AB aS4 ?_ ?_
 ·intro ds Q h
  obtain⟨c,rfl,hc,q⟩:=h<;>rfl
 ·intro aK A outer s H E hr
  refine⟨_,(aG (aZ (fj (CG rfl) (by rfl) T.DX Cf (af (ae (dr [] ["x"] rfl (gb (bv 0)) (λ_ _ _ _=>(cI (i:=0) (show(["x"]:List Str).Nodup by decide +kernel) rfl (ao (lookup_relabel_local rfl)) (by decide) (bh (lookup_relabel_local rfl)))) (λ_ _ _ _=>dE) (λ_ _ _ _=>(Cp (fS (dF hr)) (bv 0) (ae aA) (bO _))) rfl trivial (λ_=>by repeat' (first | exact trivial | refine⟨.inl rfl,?_⟩ | refine⟨.inr (.inl rfl),?_⟩ | refine⟨.inr (.inr ⟨_,rfl⟩),?_⟩)) (λ_=>trivial) rfl (by decide +kernel))) au)))),λds Q h=>?_⟩
  obtain⟨c,rfl,hc,q⟩:=h
  walk_at"l3"
  refine eA c (λ(i:Nat)=>D.int (i:Int)) (λ(x:Nat)=>D.bl (x==0)) (mU _) g5 (λx hx=>?_) (.inr λ_ _=>rfl) (by rw[sL];omega) ?_
  ·walk_at"l3"
   congr 1
   exact propext (by omega)
  dsimp only
  refine⟨c.map (·==0),by unfold vR;rw[cm];rfl,?_⟩
  rw[mh]
  exact q
noncomputable abbrev XQ(t:gU)(P:Program)(w:World)(K:Frag)(mg:Str->Option Value)(base:Heap):rB:=λds Q Ex=>∃(m:Bool × Nat) (a b:Nat),ds=[fD t.aV t.aW m,.int a,.int b]/\m∈aD/\a<aa m/\b<aa m/\(b=0->Ex t.iF)/\(b≠0->∀r:Nat,r<aa m->gm m r b=a->Q (.int (r:Nat)))
theorem XR(T:Txt K mg t):aU P w K mg base (n8 P w) 2 t.DN t.Kk ["self","a","b"] (zR (XQ t P w K mg base)):=by
 refine Uk T.aT2 aQ6 ?_ ?_
 ·intro ds Q Ex h
  obtain⟨m,a,b,rfl,hm,ha,hb,qx,q⟩:=h<;>rfl
 ·intro aK A outer s H E hr
  refine⟨_,(aF (cu (bR (fS (dF hr)) (bv 2) (ae aA) (bO _)) (aG (Up T.XD rfl (by rfl) (af (ae Tv) au))) cH)
   (aF (cu (bR (fS (dF hr)) (bv 1) (ae aA) (bO _)) (aG (aZ aA)) cH)
   (aG (aZ (rS (P:=P) (w:=w) (K:=K) (mg:=mg) (base:=base) (n:=1) (bv 0) (hr.mono (by decide)) (af (ae (aI gY (bK (j5 (K:=K) (bv 0)) (bv 1) (λ_ _=>rfl)) (bK (j5 (K:=K) (bv 0)) (bv 2) (λ_ _=>rfl)))) au)))))),λds Q Ex h=>?_⟩
  obtain⟨m,a,b,rfl,hm,ha,hb,qx,q⟩:=h
  refine aE λU hU=>?_
  walk_at"l3"
  split
  ·rename_i h0
   exact⟨by decide,qx (by omega)⟩
  ·rename_i h0
   have b0:b≠0:=by omega
   refine hU _ ?_
   clear hU U
   refine aE λU hU=>?_
   walk_at"l3"
   split
   ·rename_i h1
    have a0:a=0:=by omega
    subst a0
    exact q b0 0 ha (fm m b (bX m hm))
   ·rename_i h1
    have a0:a≠0:=by omega
    refine hU _ ?_
    clear hU U
    have hF:=cJ hm
    obtain⟨r,e,Al,hr2⟩:=Vk hm (show 1<=a by omega) ha (show 1<=b by omega) hb
    have qr:=q b0 r Al hr2
    obtain⟨k,n⟩:=m
    cases k with
    | true =>
     walk_at"l3"
     have ll:(eN (fl (true,n))).length=aa (true,n):=(z5 _ _).trans hF.len
     have n0:=jn (lg (true,n) a-lg (true,n) b) (show(aa (true,n):Int)-1≠0 by have:=hF.lo;omega)
     have n1:=jo (lg (true,n) a-lg (true,n) b) (show(0:Int)<(aa (true,n):Int)-1 by have:=hF.lo;omega)
     refine⟨_,_,_,L8 K,rfl,⟨T.gw,_,_,_,T.yi,L9 T,T.LL⟩,by decide,_,_,_,_,rfl,T.gw,T.sg,rfl,_,mS (by omega) (by rw[ll];omega),_,_,_,_,rfl,T.gw,T.sg,rfl,_,mS (by omega) (by rw[ll];omega),?_⟩
     refine⟨_,_,_,_,aa (true,n),fl (true,n),r,rfl,T.gw,T.uU,T.yh,rfl,rfl,hF.lo,?_,qr⟩
     have hk:((lg (true,n) a-lg (true,n) b)%((aa (true,n):Int)-1)).toNat<(fl (true,n)).length:=by have:=hF.len;omega
     show(fl (true,n))[((lg (true,n) a-lg (true,n) b)%((aa (true,n):Int)-1)).toNat]?=some (r:Int)
     rw[<-e]
     unfold pw
     rw[aQ,aP hk];rfl
    | false =>
     walk_at"l3"
     have ll:(eN (fl (false,n))).length=aa (false,n):=(z5 _ _).trans hF.len
     have n0:=jn (lg (false,n) a-lg (false,n) b) (show(aa (false,n):Int)-1≠0 by have:=hF.lo;omega)
     have n1:=jo (lg (false,n) a-lg (false,n) b) (show(0:Int)<(aa (false,n):Int)-1 by have:=hF.lo;omega)
     refine⟨_,_,_,L8 K,rfl,⟨T.hW,_,_,_,T.ym,L9 T,T.LL⟩,by decide,_,_,_,_,rfl,T.hW,T.uV,rfl,_,mS (by omega) (by rw[ll];omega),_,_,_,_,rfl,T.hW,T.uV,rfl,_,mS (by omega) (by rw[ll];omega),?_⟩
     refine⟨_,_,_,_,aa (false,n),fl (false,n),r,rfl,T.hW,T.yk,T.yj,rfl,rfl,hF.lo,?_,qr⟩
     have hk:((lg (false,n) a-lg (false,n) b)%((aa (false,n):Int)-1)).toNat<(fl (false,n)).length:=by have:=hF.len;omega
     show(fl (false,n))[((lg (false,n) a-lg (false,n) b)%((aa (false,n):Int)-1)).toNat]?=some (r:Int)
     rw[<-e]
     unfold pw
     rw[aQ,aP hk];rfl
theorem XS(T:Txt K mg t)(m:Bool × Nat):Df P w K mg base 2 "over" (if m.1 then t.aV else t.aW) (XQ t P w K mg base):=by
 obtain⟨k,n⟩:=m
 cases k with
 | true=>exact⟨T.gw,_,_,_,T.AM,XR T,T.W9⟩
 | false=>exact⟨T.hW,_,_,_,T.AX,XR T,T.W9⟩
noncomputable abbrev XT(K:Frag):bC:=λds Q=>∃(C:Addr) (p a:Nat) (xs ys:List Nat),ds=[uF C p,.lst false (aq xs),.int a,.lst false (aq ys)]/\eJ K C/\cG K C "products"/\p∈gE/\a<aa (true,p)/\(∀y∈ys,y<aa (true,p))/\xs.length<=1000/\Q (.lst true (aq (dh (λx y=>bG (true,p) x (gm (true,p) a y)) xs ys)))
theorem aD8(T:Txt K mg t):aU P w K mg base bf 1 t.Kl t.Km ["self","row","a","other"] (bA (XT K)):=by
 refine bJ T.aF5 Wy ?_ ?_
 ·intro ds Q h
  obtain⟨C,p,a,xs,ys,rfl,hC,hn,hp,ha,hy,hl,q⟩:=h<;>rfl
 ·intro aK A outer s H E hr
  refine⟨_,(aF (aX (i:=4) Wy.nd rfl (bh rfl) (cV (bK (j5 (K:=K) (bv 0)) (bv 2) (λ_ _=>rfl))))
   (aG (aZ (dr [("by_a",4)] ["x","y"] rfl (mT rfl T.nh (af (bv 1) (af (bv 3) au))) (λ_ _ _ _=>(gC (i1:=1) (i2:=2) rfl (show(["by_a","x","y"]:List Str).Nodup by decide +kernel) rfl (ao (lookup_relabel_local rfl)) rfl (ao (lookup_relabel_local rfl)) (by decide) (by decide) (bh (lookup_relabel_local rfl)) (bh (lookup_relabel_local rfl)))) (λ_ _ _ _=>dE) (λ_ _ _ _=>(aI zJ (bv 1) (bK (bv 0) (bv 2) (λ_ _=>rfl)))) rfl ⟨rfl,trivial⟩ (λ_=>by repeat' (first | exact trivial | refine⟨.inl rfl,?_⟩ | refine⟨.inr (.inl rfl),?_⟩ | refine⟨.inr (.inr ⟨_,rfl⟩),?_⟩)) (λ_=>⟨⟨rfl,.inl rfl,.inl rfl,_,rfl,rfl⟩,trivial⟩) rfl (by decide +kernel))))),λds Q h=>?_⟩
  obtain⟨C,p,a,xs,ys,rfl,hC,hn,hp,ha,hy,hl,q⟩:=h
  refine aE λU hU=>?_
  walk_at"l3"
  refine⟨C,_,_,_,rfl,hC,hn,rfl,_,De hp ha,?_⟩
  refine⟨by rw[fi,lJ];rfl,hU _ ?_⟩
  clear hU U
  walk_at"l3"
  refine⟨_,_,rfl,rfl,Vr (λx y=>bG (true,p) x (gm (true,p) a y)) (λx hx y yo=>?_) (by omega) q⟩
  walk_at"l3"
  refine⟨_,Dc hp ha (hy y yo),?_⟩
  show pX (x:Int) ((gm (true,p) a y:Nat):Int)=_
  rw[nX];rfl
noncomputable abbrev XU(K:Frag):bC:=λds Q=>∃(C:Addr) (p a:Nat) (xs ys:List Nat),ds=[uE C p,.lst false (aq xs),.int a,.lst false (aq ys)]/\eJ K C/\cG K C "prime"/\0<p/\a<64/\(∀y∈ys,y<64)/\xs.length<=1000/\Q (.lst true (aq (dh (λx y=>bG (false,p) x (gm (false,p) a y)) xs ys)))
theorem aB7(T:Txt K mg t):aU P w K mg base bf 1 t.Kn t.Ko ["self","row","a","other"] (bA (XU K)):=by
 refine bJ T.aC9 Wz ?_ ?_
 ·intro ds Q h
  obtain⟨C,p,a,xs,ys,rfl,hC,hn,hp,ha,hy,hl,q⟩:=h<;>rfl
 ·intro aK A outer s H E hr
  refine⟨_,(aF (aX (i:=4) Wz.nd rfl (bh rfl) (cV (j5 (K:=K) (bv 0))))
   (aG (aZ (dr [("prime",4),("a",2)] ["x","y"] rfl (mT rfl T.nh (af (bv 1) (af (bv 3) au))) (λ_ _ _ _=>(gC (i1:=2) (i2:=3) rfl (show(["prime","a","x","y"]:List Str).Nodup by decide +kernel) rfl (ao (lookup_relabel_local rfl)) rfl (ao (lookup_relabel_local rfl)) (by decide) (by decide) (bh (lookup_relabel_local rfl)) (bh (lookup_relabel_local rfl)))) (λ_ _ _ _=>dE) (λ_ _ _ _=>(aI dk (ae (aI gY (bv 2) (ae (aI gA (bv 1) (bv 3))))) (bv 0))) rfl ⟨rfl,⟨rfl,trivial⟩⟩ (λ_=>by repeat' (first | exact trivial | refine⟨.inl rfl,?_⟩ | refine⟨.inr (.inl rfl),?_⟩ | refine⟨.inr (.inr ⟨_,rfl⟩),?_⟩)) (λ_=>⟨⟨rfl,.inl rfl,.inl rfl,_,rfl,rfl⟩,⟨⟨rfl,.inl rfl,.inl rfl,_,rfl,rfl⟩,trivial⟩⟩) rfl (by decide +kernel))))),λds Q h=>?_⟩
  obtain⟨C,p,a,xs,ys,rfl,hC,hn,hp,ha,hy,hl,q⟩:=h
  refine aE λU hU=>?_
  walk_at"l3"
  refine⟨C,_,_,.int p,rfl,hC,hn,rfl,rfl,hU _ ?_⟩
  clear hU U
  walk_at"l3"
  refine⟨_,_,rfl,rfl,Vr (λx y=>bG (false,p) x (gm (false,p) a y)) (λx hx y yo=>?_) (by omega) q⟩
  have h2:=hy y yo
  walk_at"l3"
  refine⟨iq.ok (.inr ⟨by omega,by omega⟩),by omega,?_⟩
  have e:((x:Int)-((a*y%p:Nat):Int))%(p:Int)=((x:Int)-(a:Int)*y)%p:=by
   rw[qe,qf,Int.sub_emod,Int.emod_emod,<- Int.sub_emod]
  show _=(((((x:Int)-((a*y%p:Nat):Int))%(p:Int)).toNat:Nat):Int)
  rw[e,vf (jn _ (by omega))]
theorem XW(T:Txt K mg t){m:Bool × Nat}(hm:m∈aD):∃C ns zs sp,fD t.aV t.aW m=.obj C ns zs/\rO P w K mg base 1 "lessened" C sp/\("lessened":Str) ∉ ns/\∀(xs ys:List Nat) (a:Nat) (Q:D->Prop),a<aa m->(∀y∈ys,y<aa m)->xs.length<=1000->Q (.lst true (aq (dh (λx y=>bG m x (gm m a y)) xs ys)))->sp [.obj C ns zs,.lst false (aq xs),.int a,.lst false (aq ys)] Q:=by
 have hF:=cJ hm
 obtain⟨k,n⟩:=m
 cases k with
 | true=>exact⟨_,_,_,XT K,rfl,⟨T.gw,_,_,_,T.AK,aD8 T,T.aF6⟩,by decide,λxs ys a Q ha hy hl q=>⟨_,n,a,xs,ys,rfl,T.gw,T.pP,vZ hm,ha,hy,hl,q⟩⟩
 | false =>
  have kI:n<=64:=hF.hi
  have l2:2<=n:=hF.lo
  exact⟨_,_,_,XU K,rfl,⟨T.hW,_,_,_,T.AV,aB7 T,T.aD0⟩,by decide,λxs ys a Q ha hy hl q=>⟨_,n,a,xs,ys,rfl,T.hW,T.m9,by omega,dv (show a<n from ha) kI,λy h=>dv (show y<n from hy y h) kI,hl,q⟩⟩
noncomputable abbrev XX(K:Frag):bC:=λds Q=>∃(C:Addr) (p a b:Nat),ds=[uF C p,.int a,.int b]/\eJ K C/\cG K C "products"/\p∈gE/\a<aa (true,p)/\b<aa (true,p)/\Q (.int (gm (true,p) a b:Nat))
theorem aK7(T:Txt K mg t):aU P w K mg base bf 1 t.Kp t.Kq ["self","a","b"] (bA (XX K)):=by
 refine bJ T.aL9 aJ8 ?_ ?_
 ·intro ds Q h
  obtain⟨C,p,a,b,rfl,hC,hn,hp,ha,hb,q⟩:=h<;>rfl
 ·intro aK A outer s H E hr
  refine⟨_,(aG (aZ (cV (bK (bK (j5 (K:=K) (bv 0)) (bv 1) (λ_ _=>rfl)) (bv 2) (λ_ _=>rfl))))),λds Q h=>?_⟩
  obtain⟨C,p,a,b,rfl,hC,hn,hp,ha,hb,q⟩:=h
  walk_at"l3"
  refine⟨C,_,_,_,rfl,hC,hn,rfl,?_⟩
  exact⟨_,De hp ha,_,Dc hp ha hb,rfl,q⟩
noncomputable abbrev XY(K:Frag):bC:=λds Q=>∃(C:Addr) (p:Nat) (a b:Int),ds=[uE C p,.int a,.int b]/\eJ K C/\cG K C "prime"/\0<p/\IntMulOk a b/\Q (.int (a*b%p))
theorem aG1(T:Txt K mg t):aU P w K mg base bf 1 t.Kr t.Ks ["self","a","b"] (bA (XY K)):=by
 refine bJ T.aH7 aF2 ?_ ?_
 ·intro ds Q h
  obtain⟨C,p,a,b,rfl,hC,hn,hp,hm,q⟩:=h<;>rfl
 ·intro aK A outer s H E hr
  refine⟨_,(aG (aZ (aI dk (ae (aI gA (bv 1) (bv 2))) (j5 (K:=K) (bv 0))))),λds Q h=>?_⟩
  obtain⟨C,p,a,b,rfl,hC,hn,hp,hm,q⟩:=h
  walk_at"l3"
  exact⟨hm,C,_,_,.int p,rfl,hC,hn,rfl,by omega,q⟩
theorem cv9(T:Txt K mg t){m:Bool × Nat}(hm:m∈aD):∃C ns xs sp,fD t.aV t.aW m=.obj C ns xs/\rO P w K mg base 1 "times" C sp/\("times":Str) ∉ ns/\∀(a b:Nat) (Q:D->Prop),a<aa m->b<aa m->Q (.int (gm m a b:Nat))->sp [.obj C ns xs,.int a,.int b] Q:=by
 have hF:=cJ hm
 obtain⟨k,n⟩:=m
 cases k with
 | true=>exact⟨_,_,_,XX K,rfl,⟨T.gw,_,_,_,T.AO,aK7 T,T.aM0⟩,by decide,λa b Q ha hb q=>⟨_,n,a,b,rfl,T.gw,T.pP,vZ hm,ha,hb,q⟩⟩
 | false =>
  have kI:n<=64:=hF.hi
  refine⟨_,_,_,XY K,rfl,⟨T.hW,_,_,_,T.AZ,aG1 T,T.aH8⟩,by decide,λa b Q ha hb q=>?_⟩
  have CJ:a<n:=ha
  have zY:b<n:=hb
  refine⟨_,n,a,b,rfl,T.hW,T.m9,by omega,iq.ok (.inr ⟨by omega,by omega⟩),?_⟩
  have e:((gm (false,n) a b:Nat):Int)=(a:Int)*b%n:=by
   show((a*b%n:Nat):Int)=_
   rw[qe,qf]
  rw[<-e];exact q
noncomputable abbrev cD5(t:gU)(P:Program)(w:World)(K:Frag)(mg:Str->Option Value)(base:Heap):bC:=λds Q=>∃(m:Bool × Nat) (c:List Nat) (os:List (List Nat)),ds=[fD t.aV t.aW m,.lst false (aq c),.lst false (aH false os)]/\m∈aD/\nul c=false/\c.length<=64/\AllLt (aa m) c/\RT (aa m) c.length os/\os.length<=1000/\Q (.lst true (aH true (cy m c os)))
theorem Ml(T:Txt K mg t):aU P w K mg base bf 3 t.Kt t.Ku ["field","column","others"] (bA (cD5 t P w K mg base)):=by
 refine bJ T.DR xt ?_ ?_
 ·intro ds Q h
  obtain⟨m,c,os,rfl,hm,hn,hc,Mm,lQ,hol,q⟩:=h<;>rfl
 ·intro aK A outer s H E hr
  refine⟨_,(aF (aX (i:=3) xt.nd rfl (ao rfl) (cV (bK (ae (dr [] ["k","x"] rfl (uz rfl T.uW (af (bv 1) au)) (λ_ _ _ _=>(gC (i1:=0) (i2:=1) rfl (show(["k","x"]:List Str).Nodup by decide +kernel) rfl (ao (lookup_relabel_local rfl)) rfl (ao (lookup_relabel_local rfl)) (by decide) (by decide) (bh (lookup_relabel_local rfl)) (bh (lookup_relabel_local rfl)))) (λ_ _ _ _=>(zH (bR (mO (dF hr)) (bv 1) (ae aA) (bO _)))) (λ_ _ _ _=>(cV (bv 0))) rfl trivial (λ_=>by repeat' (first | exact trivial | refine⟨.inl rfl,?_⟩ | refine⟨.inr (.inl rfl),?_⟩ | refine⟨.inr (.inr ⟨_,rfl⟩),?_⟩)) (λ_=>trivial) rfl (by decide +kernel))) (ae aA) (λ_ _=>rfl))))
   (aF (aX (i:=4) xt.nd rfl (ao rfl) (Vl (P:=P) (w:=w) (K:=K) (mg:=mg) (base:=base) (n:=2) (bv 0) (hr.mono (by decide)) (af (ae aA) (af (bK (bv 1) (bv 3) (λ_ _=>rfl)) au))))
   (aF (aX (i:=5) xt.nd rfl (ao rfl) (eM dD))
   (aF (fQ eR rfl (Cv (cV (bv 2))) (cI (i:=6) xt.nd rfl (ao rfl))
    (aF (aX (i:=7) xt.nd rfl (ao rfl) (rS (P:=P) (w:=w) (K:=K) (mg:=mg) (base:=base) (n:=1) (bv 0) (hr.mono (by decide)) (af (bv 6) (af (ae (rS (P:=P) (w:=w) (K:=K) (mg:=mg) (base:=base) (n:=1) (bv 0) (hr.mono (by decide)) (af (bK (bv 6) (bv 3) (λ_ _=>rfl)) (af (bv 4) au)))) (af (bv 1) au)))))
    (aG (kD (i:=5) rfl (by first | exact ao rfl | exact bh (ao rfl)) (aI dy (ae (rJ (bv 7) tP (oO (bv 3)))) (ae (rJ (bv 7) (oO (ae (aI dy (bv 3) (ae aA)))) tP)))))))
   (aG (aZ (em 5))))))),λds Q h=>?_⟩
  obtain⟨m,c,os,rfl,hm,hn,hc,Mm,lQ,hol,q⟩:=h
  have dJ:=(cJ hm).lo
  obtain⟨pl,pn⟩:=IL hn
  have cp:=Mm.getD (show 0<aa m by omega) (aT c)
  have cx:∃x∈c,x≠0:=⟨_,dG pl 0,pn⟩
  refine aE λU hU=>?_
  walk_at"l3"
  refine Af (bg c.length) (λ(i:Nat)=>D.tup [.int (i:Int),.int ((c.getD i 0:Nat):Int)]) (λ(i:Nat)=>D.int (i:Int)) (λi=>c.getD i 0 != 0) (Vx c) (λa b h=>by injection h with h;simp at h;omega) (λi hi=>?_) (.inr λ_ _ _=>rfl) (by rw[dQ,sL];omega) ?_
  ·walk_at"l3"
   refine⟨?_,λ_=>trivial⟩
   by_cases h0:c.getD i 0=0
   ·rw[h0];rfl
   ·rw[decide_eq_false (by omega),bne_iff_ne.mpr h0];rfl
  dsimp only
  refine⟨.int (aT c:Nat),L3.HK (k:=0) (by rw[bQ,Vy cx];rfl),rfl,hU _ ?_⟩
  clear hU U
  refine aE λU hU=>?_
  walk_at"l3"
  refine⟨_,_,_,_,v3 _ _ m,XS T m,Vm m _ (by decide),.int (c.getD (aT c) 0:Nat),by rw[jG (by omega) (by omega),fX],m,1,c.getD (aT c) 0,by rw[v3];rfl,hm,dJ,cp,λz=>absurd z pn,λ_ iv XZ IM=>?_⟩
  have ei:m3 m (c.getD (aT c) 0)=iv:=Dn hm XZ IM
  refine⟨rfl,hU _ ?_⟩
  clear hU U
  refine aE λU hU=>?_
  walk_at"l3"
  refine⟨by decide,hU _ ?_⟩
  clear hU U
  refine aE λU hU=>?_
  walk_at"l3"
  refine fP.mk (λi δ=>∃o6 o7,δ=[some (fD t.aV t.aW m),some (D.lst false (aq c)),some (D.lst false (aH false os)),some (D.int (aT c)),some (D.int iv),some (D.lst true (aH true (cy m c (os.take i)))),o6,o7]) ⟨_,_,rfl⟩ ?_ ?_
  ·rintro i d δ hd ⟨o6,o7,rfl⟩
   obtain⟨hi,rfl⟩:=ch2 hd
   clear hd hU
   obtain⟨ol,oa⟩:=lQ _ (cM hi)
   have op:=oa.getD (show 0<aa m by omega) (aT c)
   obtain⟨C,ns,xs,sp,e1,e2,e3,e4⟩:=XW (P:=P) (w:=w) (base:=base) T hm
   refine aE λU hU=>?_
   walk_at"l3"
   obtain⟨C1,n1,x1,sp1,g1,g2,g3,g4⟩:=cv9 (P:=P) (w:=w) (base:=base) T hm
   refine⟨C,ns,xs,sp,e1,e2,e3,C1,n1,x1,sp1,g1,g2,g3,.int (os[i].getD (aT c) 0:Nat),by rw[jG (by omega) (by omega),fX],g4 _ iv _ op XZ ⟨rfl,e4 os[i] c (gm m (os[i].getD (aT c) 0) iv) _ (cj hm _ _) Mm (by omega) ⟨rfl,hU _ ?_⟩⟩⟩
   clear hU
   have ep:cy m c (os.take (i+1))=cy m c (os.take i)++[(dh (λx y=>bG m x (gm m (gm m (os[i].getD (aT c) 0) iv) y)) os[i] c).take (aT c)++(dh (λx y=>bG m x (gm m (gm m (os[i].getD (aT c) 0) iv) y)) os[i] c).drop (aT c+1)]:=by
    unfold cy
    rw[mf,aP hi,Rl,fM,dz,jN,ei]
   rw[ep]
   have ll:(dh (λx y=>bG m x (gm m (gm m (os[i].getD (aT c) 0) iv) y)) os[i] c).length<=64:=by rw[gM];omega
   generalize dh (λx y=>bG m x (gm m (gm m (os[i].getD (aT c) 0) iv) y)) os[i] c=lf at ll ⊢
   have pl2:(cy m c (os.take i)).length<=1000:=by rw[rX,gL];omega
   walk_at"l3"
   rw[Uu,show((aT c:Int)+1)=((aT c+1:Nat):Int) by omega,CL]
   exact⟨⟨_,rfl⟩,by rw[gL,iH];omega,by omega,_,_,uK true _ [lf.take (aT c)++lf.drop (aT c+1)],rfl,rfl⟩
  ·rintro δ ⟨o6,o7,rfl⟩
   refine hU _ ?_
   walk_at"l3"
   rw[sN]
   exact q
noncomputable def fI(o:Bool)(l:List Cs):List D:=l.map λs=>.tup [.lst o (aq s.1),.lst o (aH o s.2)]
theorem X0(o:Bool)(l:List Cs):(fI o l).map D.sh=fI false l:=by
 unfold fI
 rw[cm]
 refine qa λs _=>?_
 show(D.tup [.lst o (aq s.1),.lst o (aH o s.2)]).sh=_
 rw[jU,dz,dz,jN,jH,dj,dm]
theorem cz8(l:List Cs):(fI false l).all D.pl=true:=by
 rw[dw]
 intro d hd
 obtain⟨s,_,rfl⟩:=bE.mp hd
 show(D.tup [.lst false (aq s.1),.lst false (aH false s.2)]).pl=true
 rw[jT,dY,dY,fi,fi,kF,mZ];rfl
theorem ck1(o:Bool)(a b:List Cs):fI o a++fI o b=fI o (a++b):=by unfold fI;rw[fM]
theorem cx3{o:Bool}{l:List Cs}{i:Nat}{d:D}(hd:(fI o l)[i]?=some d):∃hi:i<l.length,d=.tup [.lst o (aq l[i].1),.lst o (aH o l[i].2)]:=by
 unfold fI at hd
 rw[bQ]at hd
 by_cases hi:i<l.length
 ·rw[aP hi]at hd
  exact⟨hi,(cX hd).symm⟩
 ·rw[fY (by omega)]at hd;cases hd
theorem ch9(o:Bool)(l:List Cs):dS 6 (.lst o (fI o l))=true:=by
 show(fI o l).all (dS 5)=true
 rw[dw]
 intro d hd
 obtain⟨s,_,rfl⟩:=bE.mp hd
 show([D.lst o (aq s.1),.lst o (aH o s.2)]).all (dS 4)=true
 rw[dY,dY,Ab 3 o s.1,Vv 2 o o s.2];rfl
theorem b02{m:Bool × Nat}{c:List Nat}{os:List (List Nat)}{N:Nat}(h:∀o∈os,o.length<=N):∀x∈cy m c os,x.length<=N:=λx hx=>by
 obtain⟨o,ho,rfl⟩:=bE.mp hx
 have:=h o ho
 rw[dO,gL,iH,gM]
 omega
theorem Mn{W:Nat}:∀{l:List Cs},(∀s∈l,s.2.length<=W)->(dU l).length<=l.length*W
 | [],_=>jM _
 | s::l,h=>by
  have ih:=Mn (λs hs=>h s (dZ _ hs))
  have h1:=h s (fU ..)
  show(fG s++dU l).length<=_
  rw[dO,show(fG s).length=s.2.length by unfold fG;rw[bB,dQ],gK,Nat.succ_mul]
  omega
noncomputable def Be:Option (List Nat)->D
 | some l=>.lst true (aq l)
 | none=>.az
noncomputable abbrev aP7(t:gU)(P:Program)(w:World)(K:Frag)(mg:Str->Option Value)(base:Heap):bC:=λds Q=>∃(m:Bool × Nat) (G:List (List Nat)),ds=[fD t.aV t.aW m,.lst false (aH false G)]/\m∈aD/\G.length<=64/\RT (aa m) (ah G) G/\0<ah G/\ah G<=6/\Q (Be (lR m G))
theorem aP8(T:Txt K mg t):aU P w K mg base bf 4 t.Kv t.Kw ["field","table"] (bA (aP7 t P w K mg base)):=by
 refine bJ T.Xa r9 ?_ ?_
 ·intro ds Q h
  obtain⟨m,G,rfl,hm,hG,hR,Bf,hw,q⟩:=h<;>rfl
 ·intro aK A outer s H E hr
  refine⟨_,(aF (aX (i:=2) r9.nd rfl (ao rfl) (aS ((Bd T).mono (by decide)) hr rfl T.Az T.yf.kp T.AA aN (af (bv 1) au)))
   (aF (aX (i:=3) r9.nd rfl (ao rfl) (eM (fB (zB (fB (eM dD) (fB (aS ((XO T).mono (by decide)) hr rfl T.W7 T.LU.kp T.W8 aN (af (bv 1) au)) dD))) dD)))
   (aF (zD eR (bR (mO (dF hr)) (bv 3) (ae (eM dD)) (bO _))
    (aF (aX (i:=4) r9.nd rfl (ao rfl) (eM dD))
    (qF 3 (aF (fQ eR rfl (Cv (cV (bv 3))) (gC (i1:=5) (i2:=6) rfl r9.nd rfl (ao rfl) rfl (ao rfl))
     (aG (fQ eR rfl (uz rfl T.uW (af (bv 6) au)) (gC (i1:=7) (i2:=8) rfl r9.nd rfl (ao rfl) rfl (ao rfl))
      (aF (aX (i:=9) r9.nd rfl (ao rfl) (aI dy (bv 5) (ae (eM (fB (aI dy (ae (aI gY (bv 2) (ae (fj (gZ) (by rfl) T.ib gW (af (bv 6) au))))) (bv 7)) dD)))))
      (aF (cu (jC (ae (aS ((D3 T).mono (by decide)) hr rfl T.DP T.AB.kp T.DQ aN (af (bv 8) au)))) (aG (aZ (em 9))) cH)
      (aG (kD (i:=4) rfl (by first | exact ao rfl | exact bh (ao rfl)) (zB (fB (em 9) (fB (aS ((Ml T).mono (by decide)) hr rfl T.LV T.DR.kp T.LW aN (af (bv 0) (af (bv 8) (af (ae (rJ (bv 6) (oO (ae (aI dy (bv 7) (ae aA)))) tP)) au)))) dD))))))))))
    (aG (aX (i:=3) r9.nd rfl (ao rfl) (em 4)))))))
   (aG (aZ eZ))))),λds Q h=>?_⟩
  obtain⟨m,G,rfl,hm,hG,hR,Bf,hw,q⟩:=h
  have dJ:=(cJ hm).lo
  refine aE λU hU=>?_
  walk_at"l3"
  refine⟨G,rfl,by omega,λr bq=>by rw[(hR r bq).1];omega,hU _ ?_⟩
  clear hU U
  refine aE λU hU=>?_
  walk_at"l3"
  refine⟨by decide,G,rfl,by omega,λr bq=>(hR r bq).1,by omega,by decide,by decide,hU _ ?_⟩
  clear hU U
  have Ls:=Lv.start hm Bf hR
  refine aE λU hU=>?_
  walk_at"l3"
  refine⟨λn δ=>∃(l:List Cs) (k:Nat) (o4 o5 o6 o7 o8 o9:Option D),δ=[some (fD t.aV t.aW m),some (D.lst false (aH false G)),some (D.int (ah G)),some (D.lst true (fI true l)),o4,o5,o6,o7,o8,o9]/\Lv m (jh G) (ah G) k l/\k+n=ah G+1/\uO m (ah G) n l=lR m G/\l.length<=6 ^ k/\∀s∈l,∀r∈s.2,r.length<=64,⟨ah G+1,[([],cK G)],0,_,_,_,_,_,_,rfl,Ls,by omega,rfl,bN _,λs hs r bq=>?_⟩,?_⟩
  ·rw[dP.mp hs]at bq
   have:=((wk (by omega) Bf hR).2.2 r bq).1
   omega
  rintro n δ ⟨l,k,o4,o5,o6,o7,o8,o9,rfl,L,hk,Mo,Bg,kJ⟩
  walk_at"l3"
  refine⟨by decide,⟨ch9 true l,rfl⟩,?_⟩
  by_cases l0:l=[]
  ·subst l0
   rw[show bP (D.lst true (fI true [])) (D.lst true [])=true from rfl,if_neg (by decide)]
   refine hU _ ?_
   walk_at"l3"
   have e0:lR m G=none:=by
    rw[<-Mo]
    cases n with
    | zero=>rfl
    | succ n=>rfl
   rw[e0]at q
   exact q
  have d0:bP (D.lst true (fI true l)) (D.lst true [])=false:=by
   cases l with
   | nil=>exact absurd rfl l0
   | cons s l=>rfl
  rw[d0,if_pos (by decide)]
  have Bh:∀s∈l,gv (ah G) s.1/\s.2.length<=6:=λs hs=>by
   have g:=(L.gs s hs).1
   have gl:=g.le
   exact⟨⟨g.inc,λx hx=>by have:=g.off x hx;omega⟩,by omega⟩
  obtain⟨n,rfl⟩:∃n',n=n'+1:=by
   cases n with
   | succ n=>exact⟨n,rfl⟩
   | zero =>
    exfalso
    cases l with
    | nil=>exact l0 rfl
    | cons s l =>
     have h1:=(Bh s (fU ..)).1.len
     have h2:=(L.gs s (fU ..)).2
     omega
  clear hU
  have k6:6 ^ k*6<=279936:=by
   have:6 ^ (k+1)<=6 ^ 7:=yD (by decide) (by omega)
   rw[nE]at this
   exact this
  have ec9:∀a,(dU (l.take a)).length<=279936:=λa=>by
   have h1:=Mn (W:=6) (l:=l.take a) λs hs=>(Bh s (nJ hs)).2
   have h2:(l.take a).length<=6 ^ k:=by rw[gL];omega
   have:=RJ 6 h2
   omega
  refine aE λU hU=>?_
  walk_at"l3"
  refine⟨by decide,hU _ ?_⟩
  clear hU
  refine⟨_,rfl,?_⟩
  rw[dj,X0]
  simp only[gP,gO]
  refine aE λU hU=>?_
  walk_at"l3"
  refine⟨cz8 l,?_⟩
  rw[X0]
  refine fP.mk (λa δ=>(∀z∈dU (l.take a),pI z=false)/\∃o5 o6 o7 o8 o9,δ=[some (fD t.aV t.aW m),some (D.lst false (aH false G)),some (D.int (ah G)),some (D.lst false (fI false l)),some (D.lst true (fI true ((dU (l.take a)).map (jg m (ah G))))),o5,o6,o7,o8,o9]) ⟨λz hz=>absurd hz ij,_,_,_,_,_,rfl⟩ ?_ ?_
  ·rintro a d δ hd ⟨rZ,o5,o6,o7,o8,o9,rfl⟩
   obtain⟨ha,rfl⟩:=cx3 hd
   clear hd hU
   have hs:=cM ha
   obtain⟨gs,gk⟩:=L.gs _ hs
   obtain⟨hh,Mp⟩:=gs.rt
   have g6:=(Bh _ hs).2
   have et:dU (l.take (a+1))=dU (l.take a)++fG l[a]:=by
    unfold dU
    rw[mf,aP ha,Rl,c75,List.flatMap_cons,List.flatMap_nil,lZ]
   rw[et]
   have X5:=ec9 (a+1)
   rw[et,dO]at X5
   generalize hS:l[a]=s0 at hs gs gk Mp g6 et X5 ⊢
   have l1:(fG s0).length=s0.2.length:=by unfold fG;rw[bB,dQ]
   walk_at"l3"
   refine fP.mk (λi δ=>(∀z∈(fG s0).take i,pI z=false)/\∃o7 o8 o9,δ=[some (fD t.aV t.aW m),some (D.lst false (aH false G)),some (D.int (ah G)),some (D.lst false (fI false l)),some (D.lst true (fI true ((dU (l.take a)++(fG s0).take i).map (jg m (ah G))))),some (D.lst false (aq s0.1)),some (D.lst false (aH false s0.2)),o7,o8,o9]) ⟨λz hz=>absurd hz ij,_,_,_,by rw[List.take_zero,lZ]⟩ ?_ ?_
   ·rintro i d δ hd ⟨Bi,o7,o8,o9,rfl⟩
    obtain⟨hi,rfl⟩:=Ik hd
    clear hd
    obtain⟨cl,ca⟩:=Mp _ (cM hi)
    have gc:s0.2.getD i []=s0.2[i]:=by rw[aQ,aP hi];rfl
    have gle:=gs.le
    have ei:(fG s0).take (i+1)=(fG s0).take i++[(s0,i)]:=by
     rw[mf]
     congr 1
     unfold fG
     rw[bQ,kL hi];rfl
    have hh6:hh<=64:=by have:=kJ _ hs _ (cM hi);omega
    have il1:=(Bh _ hs).1.len
    simp only[iZ,gP,gO]
    refine aE λU hU=>?_
    walk_at"l3"
    have eb:aq s0.1++[D.int ((ah G:Int)-(s0.2.length:Int)+(i:Int))]=aq (j8 (ah G) (s0,i)):=by
     unfold j8
     rw[cC,cC,fM]
     show _=_++[D.int ((ah G-s0.2.length+i:Nat):Int)]
     rw[show(ah G:Int)-(s0.2.length:Int)+(i:Int)=((ah G-s0.2.length+i:Nat):Int) by omega]
    rw[eb]
    refine⟨by decide,by omega,hU _ ?_⟩
    clear hU
    refine aE λU hU=>?_
    walk_at"l3"
    refine⟨s0.2[i],rfl,by omega,nul s0.2[i],rfl,?_⟩
    cases hz:nul s0.2[i]with
    | true =>
     rw[if_pos rfl]
     have ef:lR m G=some (j8 (ah G) (s0,i)):=by
      rw[<-Mo,uO,if_neg l0]
      have:(dU l).find? pI=some (s0,i):=by
       refine c69.mpr ⟨by show nul (s0.2.getD i [])=true;rw[gc];exact hz,dU (l.take a)++(fG s0).take i,(fG s0).drop (i+1)++dU (l.drop (a+1)),?_,λz Mq=>?_⟩
       ·have e1:dU l=dU (l.take (a+1))++dU (l.drop (a+1)):=by
         conv=>lhs;rw[<-RG (a+1) l]
         unfold dU
         rw[c75]
        have e2:fG s0=(fG s0).take i++(s0,i)::(fG s0).drop (i+1):=by
         conv=>lhs;rw[<-RG (i+1) (fG s0),ei,eV]
         rfl
        rw[e1,et]
        conv=>lhs;rw[e2]
        simp only[eV,nK]
       ·have:=(cg.mp Mq).elim (rZ z) (Bi z)
        rw[this];rfl
      rw[this];rfl
     rw[ef]at q
     exact q
    | false =>
     rw[if_neg (by decide)]
     refine hU _ ?_
     clear hU
     walk_at"l3"
     rw[show((i:Int)+1)=((i+1:Nat):Int) by omega,CL,ei]
     refine⟨⟨_,rfl⟩,m,s0.2[i],s0.2.drop (i+1),rfl,hm,hz,by omega,ca,λr bq=>by rw[cl];exact Mp r (nI bq),by rw[iH];omega,by rw[eT,pk];rfl,by decide,?_,λz Mq=>?_,_,_,_,?_,rfl,rfl,rfl⟩
     ·unfold fI
      rw[bB,bB,dO,gL]
      omega
     ·rcases cg.mp Mq with y | y
      ·exact Bi z y
      ·rw[dP.mp y]
       show nul (s0.2.getD i [])=false
       rw[gc];exact hz
     ·rw[<-eV,fM (l₁:=dU (l.take a)++(fG s0).take i),<- ck1]
      congr 1
      show _=[D.tup [.lst true (aq (jg m (ah G) (s0,i)).1),.lst true (aH true (jg m (ah G) (s0,i)).2)]]
      show _=[D.tup [.lst true (aq (j8 (ah G) (s0,i))),.lst true (aH true (cy m (s0.2.getD i []) (s0.2.drop (i+1))))]]
      rw[gc]
   ·rintro δ ⟨Bi,o7,o8,o9,rfl⟩
    rw[show(gu (aH false s0.2)).length=(fG s0).length by rw[uw,jc,l1],sN]at Bi ⊢
    exact⟨λz hz=>(cg.mp hz).elim (rZ z) (Bi z),_,_,_,_,_,rfl⟩
  ·rintro δ ⟨rZ,o5,o6,o7,o8,o9,rfl⟩
   refine hU _ ?_
   clear hU
   rw[show(fI false l).length=l.length by unfold fI;rw[bB],sN]at rZ ⊢
   walk_at"l3"
   have hf:(dU l).find? pI=none:=RB.mpr λz hz=>by rw[rZ z hz];decide
   refine⟨n,by omega,_,k+1,_,_,_,_,_,_,⟨rfl,rfl,rfl,rfl,rfl,rfl,rfl⟩,L.next hm (IV hm hR) rZ,by omega,?_,?_,λs hs r bq=>?_⟩
   ·rw[<-Mo,uO,if_neg l0,hf]
   ·rw[bB,nE]
    have:=Mn (W:=6) λs hs=>(Bh s hs).2
    exact eP this (RJ 6 Bg)
   ·obtain⟨z,hz,rfl⟩:=bE.mp hs
    exact b02 (λo ho=>kJ _ (wq.mp hz).1 o (nI ho)) r bq
noncomputable abbrev ci7:bC:=λds Q=>∃T:List (List Nat),ds=[.lst false (aH false T)]/\T.length<=1000/\(∀r∈T,r.length<=1000/\∃x∈r,x≠0)/\Q (.lst true (aq (T.map aT)))
theorem Mr(T:Txt K mg t):aU P w K mg base bf 1 t.Kx t.Ky ["rows"] (bA (ci7 )):=by
 refine bJ T.DS cm7 ?_ ?_
 ·intro ds Q h
  obtain⟨G,rfl,hG,hr,q⟩:=h<;>rfl
 ·intro aK A outer s H E hr
  refine⟨_,(aG (aZ (dr [] ["row"] rfl (gb (bv 0)) (λ_ _ _ _=>(cI (i:=0) (show(["row"]:List Str).Nodup by decide +kernel) rfl (ao (lookup_relabel_local rfl)) (by decide) (bh (lookup_relabel_local rfl)))) (λ_ _ _ _=>dE) (λ_ _ _ _=>(cV (bK (ae (dr [] ["place","x"] rfl (uz rfl T.uW (af (bv 0) au)) (λ_ _ _ _=>(gC (i1:=0) (i2:=1) rfl (show(["place","x"]:List Str).Nodup by decide +kernel) rfl (ao (lookup_relabel_local rfl)) rfl (ao (lookup_relabel_local rfl)) (by decide) (by decide) (bh (lookup_relabel_local rfl)) (bh (lookup_relabel_local rfl)))) (λ_ _ _ _=>(zH (bR (mO (dF hr)) (bv 1) (ae aA) (bO _)))) (λ_ _ _ _=>(cV (bv 0))) rfl trivial (λ_=>by repeat' (first | exact trivial | refine⟨.inl rfl,?_⟩ | refine⟨.inr (.inl rfl),?_⟩ | refine⟨.inr (.inr ⟨_,rfl⟩),?_⟩)) (λ_=>trivial) rfl (by decide +kernel))) (ae aA) (λ_ _=>rfl)))) rfl trivial (λ_=>by repeat' (first | exact trivial | refine⟨.inl rfl,?_⟩ | refine⟨.inr (.inl rfl),?_⟩ | refine⟨.inr (.inr ⟨_,rfl⟩),?_⟩)) (λ_=>trivial) rfl (by decide +kernel)))),λds Q h=>?_⟩
  obtain⟨G,rfl,hG,hr,q⟩:=h
  walk_at"l3"
  refine eA G (λr=>D.lst false (aq r)) (λr=>D.int (aT r:Nat)) (by rw[dm];rfl) (λa b h=>ph a b h) (λr bq=>?_) (.inr λr _=>rfl) (by rw[sL];omega) ?_
  ·obtain⟨h1,x,hx,h3⟩:=hr r bq
   walk_at"l3"
   refine Af (bg r.length) (λ(i:Nat)=>D.tup [.int (i:Int),.int ((r.getD i 0:Nat):Int)]) (λ(i:Nat)=>D.int (i:Int)) (λi=>r.getD i 0 != 0) (Vx r) (λa b h=>by injection h with h;simp at h;omega) (λi hi=>?_) (.inr λ_ _ _=>rfl) (by rw[dQ,sL];omega) ?_
   ·walk_at"l3"
    refine⟨?_,λ_=>trivial⟩
    by_cases h0:r.getD i 0=0
    ·rw[h0];rfl
    ·rw[decide_eq_false (by omega),bne_iff_ne.mpr h0];rfl
   ·refine⟨.int (aT r:Nat),L3.HK (k:=0) ?_,rfl,rfl⟩
    rw[bQ,Vy ⟨x,hx,h3⟩];rfl
  ·rw[cC,cm]at q
   exact q
noncomputable abbrev aP9:bC:=λds Q=>∃(T:List (List Nat)) (w:Nat),ds=[.lst false (aH false T),.int w]/\T.length<=1000/\w<=1000/\(∀r∈T,r.length<=1000/\∃x∈r,x≠0)/\Q (.lst true (aq (lN T w)))
theorem aQ0(T:Txt K mg t):aU P w K mg base bf 2 t.Kz t.KA ["rows","width"] (bA (aP9 )):=by
 refine bJ T.Xb WA ?_ ?_
 ·intro ds Q h
  obtain⟨G,w,rfl,hG,hw,hr,q⟩:=h<;>rfl
 ·intro aK A outer s H E hr
  refine⟨_,(aF (aX (i:=2) WA.nd rfl (bh rfl) (aS ((Mr T).mono (by decide)) hr rfl T.LX T.DS.kp T.LY aN (af (bv 0) au)))
   (aG (aZ (dr [("taken",2)] ["place"] rfl (kA rfl T.iG (af (bv 1) au)) (λ_ _ _ _=>(cI (i:=1) (show(["taken","place"]:List Str).Nodup by decide +kernel) rfl (ao (lookup_relabel_local rfl)) (by decide) (bh (lookup_relabel_local rfl)))) (λ_ _ _ _=>(zH (bR Vu (bv 1) (bv 0) (by with_unfolding_all rfl)))) (λ_ _ _ _=>(cV (bv 1))) rfl ⟨rfl,trivial⟩ (λ_=>by repeat' (first | exact trivial | refine⟨.inl rfl,?_⟩ | refine⟨.inr (.inl rfl),?_⟩ | refine⟨.inr (.inr ⟨_,rfl⟩),?_⟩)) (λ_=>⟨⟨rfl,.inl rfl,.inl rfl,_,rfl,rfl⟩,trivial⟩) rfl (by decide +kernel))))),λds Q h=>?_⟩
  obtain⟨G,w,rfl,hG,hw,hr,q⟩:=h
  refine aE λU hU=>?_
  walk_at"l3"
  refine⟨G,rfl,hG,hr,?_⟩
  refine hU _ ?_
  clear hU U
  walk_at"l3"
  refine⟨⟨by omega,by omega⟩,Af (bg w) (λ(i:Nat)=>D.int (i:Int)) (λ(i:Nat)=>D.int (i:Int)) (λj=>!(G.map aT).contains j) (uJ _ rfl) g5 (λj hj=>?_) (.inr λ_ _ _=>rfl) (by rw[dQ,sL];omega) ?_⟩
  ·walk_at"l3"
   exact⟨_,rfl,by rw[Im],λ_=>trivial⟩
  ·rw[cC]at q
   exact q
noncomputable abbrev X6:bC:=λds Q=>∃(d:D) (a b:Nat),ds=[d,.int a,.int b]/\Q (.int (a ^^^ b:Nat))
theorem aK8(T:Txt K mg t):aU P w K mg base bf 1 t.KC t.KD ["self","a","b"] (bA (X6 )):=by
 refine bJ T.aM1 aJ9 ?_ ?_
 ·intro ds Q h
  obtain⟨d,a,b,rfl,q⟩:=h<;>rfl
 ·intro aK A outer s H E hr
  refine⟨_,(aG (aZ (aI zJ (bv 1) (bv 2)))),λds Q h=>?_⟩
  obtain⟨d,a,b,rfl,q⟩:=h
  walk_at"l3"
  rw[nX];exact q
noncomputable abbrev X7(K:Frag):bC:=λds Q=>∃(C:Addr) (p:Nat) (a b:Int),ds=[uE C p,.int a,.int b]/\eJ K C/\cG K C "prime"/\0<p/\Q (.int ((a-b)%p))
theorem aG2(T:Txt K mg t):aU P w K mg base bf 1 t.KG t.KH ["self","a","b"] (bA (X7 K)):=by
 refine bJ T.aH9 aF3 ?_ ?_
 ·intro ds Q h
  obtain⟨C,p,a,b,rfl,hC,hn,hp,q⟩:=h<;>rfl
 ·intro aK A outer s H E hr
  refine⟨_,(aG (aZ (aI dk (ae (aI gY (bv 1) (bv 2))) (j5 (K:=K) (bv 0))))),λds Q h=>?_⟩
  obtain⟨C,p,a,b,rfl,hC,hn,hp,q⟩:=h
  walk_at"l3"
  refine⟨C,_,_,.int p,rfl,hC,hn,rfl,?_⟩
  exact⟨by omega,q⟩
theorem X8(T:Txt K mg t){m:Bool × Nat}(h0:0<m.2):∃C ns xs sp,fD t.aV t.aW m=.obj C ns xs/\rO P w K mg base 1 "minus" C sp/\("minus":Str) ∉ ns/\∀(a b:Nat) (Q:D->Prop),Q (.int (gl m a b))->sp [.obj C ns xs,.int a,.int b] Q:=by
 obtain⟨k,n⟩:=m
 cases k with
 | true=>exact⟨_,_,_,X6,rfl,⟨T.gw,_,_,_,T.AL,aK8 T,T.aM2⟩,by decide,λa b Q q=>⟨_,a,b,rfl,q⟩⟩
 | false=>exact⟨_,_,_,X7 K,rfl,⟨T.hW,_,_,_,T.AW,aG2 T,T.aI0⟩,by decide,λa b Q q=>⟨_,n,a,b,rfl,T.hW,T.m9,h0,q⟩⟩
noncomputable abbrev aD9(cb cp:Addr):bC:=λds Q=>∃(m:Bool × Nat) (T:List (List Nat)) (w:Nat),ds=[fD cb cp m,.lst false (aH false T),.int w]/\m∈aD/\T.length<=1000/\w<=1000/\RT (aa m) w T/\(∀r∈T,∃x∈r,x≠0)/\Q (.lst true (aH true (jI m T w)))
theorem aE0(T:Txt K mg t):aU P w K mg base bf 3 t.KI t.KJ ["field","rows","width"] (bA (aD9 t.aV t.aW)):=by
 refine bJ T.Xc xB ?_ ?_
 ·intro ds Q h
  obtain⟨m,G,wi,rfl,hm,hG,hw,hR,hr,q⟩:=h<;>rfl
 ·intro aK A outer s H E hr
  refine⟨_,(aF (aX (i:=3) xB.nd rfl (ao rfl) (aS ((Mr T).mono (by decide)) hr rfl T.LX T.DS.kp T.LY aN (af (bv 1) au)))
   (aF (aX (i:=4) xB.nd rfl (ao rfl) (eM dD))
   (qF 3 (aF (fQ eR rfl (Cv (aS ((aQ0 T).mono (by decide)) hr rfl T.d09 T.Xb.kp T.d11 aN (af (bv 1) (af (bv 2) au)))) (cI (i:=5) xB.nd rfl (ao rfl))
    (aF (aX (i:=6) xB.nd rfl (ao rfl) (aI gA (ae (eM (fB aA dD))) (bv 2)))
    (aF (zP (i:=6) rfl (by first | exact ao rfl | exact bh (ao rfl)) aA (bv 5))
    (aF (fQ eR rfl (mT rfl T.nh (af (bv 3) (af (bv 1) au))) (gC (i1:=7) (i2:=8) rfl xB.nd rfl (ao rfl) rfl (ao rfl))
     (aG (zP (i:=6) rfl (by first | exact ao rfl | exact bh (ao rfl)) (rS (P:=P) (w:=w) (K:=K) (mg:=mg) (base:=base) (n:=1) (bv 0) (hr.mono (by decide)) (af (ae aA) (af (bK (bv 8) (bv 5) (λ_ _=>rfl)) au))) (bv 7))))
    (aG (kD (i:=4) rfl (by first | exact ao rfl | exact bh (ao rfl)) (em 6)))))))
   (aG (aZ (em 4))))))),λds Q h=>?_⟩
  obtain⟨m,G,wi,rfl,hm,hG,hw,hR,hr,q⟩:=h
  have m0:=bX m hm
  have dJ:=(cJ hm).lo
  refine aE λU hU=>?_
  walk_at"l3"
  refine⟨G,rfl,hG,λr bq=>⟨by rw[(hR r bq).1];exact hw,hr r bq⟩,hU _ ?_⟩
  clear hU U
  refine aE λU hU=>?_
  walk_at"l3"
  refine⟨by decide,hU _ ?_⟩
  clear hU U
  refine⟨_,rfl,?_⟩
  rw[jH]
  simp only[gP,gO]
  refine aE λU hU=>?_
  walk_at"l3"
  refine⟨G,wi,rfl,hG,hw,λr bq=>⟨by rw[(hR r bq).1];exact hw,hr r bq⟩,?_⟩
  refine⟨_,rfl,?_⟩
  have hfp:∀j∈lN G wi,j<wi:=λj hj=>cL.mp (nt.mp hj).1
  have lfp:(lN G wi).length<=wi:=by
   have:=FP (λj=>!(G.map aT).contains j) (bg wi)
   rw[dQ]at this
   exact this
  rw[mV]
  refine fP.mk (λi δ=>∃o1 o2 o3 o4,δ=[some (fD t.aV t.aW m),some (D.lst false (aH false G)),some (D.int wi),some (D.lst false (aq (G.map aT))),some (D.lst true (aH true (((lN G wi).take i).map (jf m G wi)))),o1,o2,o3,o4]) ⟨_,_,_,_,rfl⟩ ?_ ?_
  ·rintro i d δ hd ⟨o1,o2,o3,o4,rfl⟩
   rw[cC,bQ]at hd
   obtain⟨f,hf,rfl⟩:=sQ.mp hd
   have hfw:=hfp f (u9 hf)
   clear hd
   refine aE λU hU=>?_
   walk_at"l3"
   have er:aL (bH wi 0)=aq (bH wi 0):=by
    rw[cC,FR];unfold aL;rw[FR];rfl
   rw[fX,er]
   refine⟨by decide,⟨by omega,by omega,by omega⟩,hU _ ?_⟩
   clear hU
   refine aE λU hU=>?_
   walk_at"l3"
   refine⟨_,f,rfl,?_,?_⟩
   ·rw[Di (by omega) (by rw[e5,pY];omega)];rfl
   rw[show(aq (bH wi 0)).set f (D.int 1)=aq ((bH wi 0).set f 1) from Dj _ _ 1]
   refine hU _ ?_
   clear hU
   refine aE λU hU=>?_
   walk_at"l3"
   refine⟨_,_,rfl,rfl,?_⟩
   refine fP.mk (λk δ=>∃o3 o4,δ=[some (fD t.aV t.aW m),some (D.lst false (aH false G)),some (D.int wi),some (D.lst false (aq (G.map aT))),some (D.lst true (aH true (((lN G wi).take i).map (jf m G wi)))),some (D.int f),some (D.lst true (aq ((((G.map aT).zip G).take k).foldl (λx z=>x.set z.1 (bG m 0 (z.2.getD f 0))) ((bH wi 0).set f 1)))),o3,o4]) ⟨_,_,rfl⟩ ?_ ?_
   ·rintro k d δ hd ⟨o3,o4,rfl⟩
    obtain⟨hk,rfl⟩:=VA hd
    clear hd
    obtain⟨lw,la⟩:=hR _ (cM hk)
    have xl:=Io (λz:Nat × List Nat=>z.1) (λz=>bG m 0 (z.2.getD f 0)) (((G.map aT).zip G).take k) ((bH wi 0).set f 1)
    rw[nB,pY]at xl
    obtain⟨C,ns,xs,sp,e1,e2,e3,e4⟩:=X8 (P:=P) (w:=w) (base:=base) T m0
    have hld:aT G[k]<wi:=by
     rw[<-lw]
     obtain⟨x,hx,h0⟩:=hr _ (cM hk)
     exact FG ⟨x,hx,by simpa using h0⟩
    have ga:=fE hm (a:=0) (b:=G[k].getD f 0) (by omega) (la.getD (by omega) f)
    walk_at"l3"
    refine⟨C,ns,xs,sp,e1,e2,e3,.int (G[k].getD f 0:Nat),by rw[jG (by omega) (by omega),fX],e4 0 (G[k].getD f 0) _ ⟨rfl,_,aT G[k],rfl,?_,_,_,?_,rfl,rfl⟩⟩
    ·rw[Di (by omega) (by rw[e5,xl];omega)];rfl
    ·rw[ga.1,Dj,mf,yL]
     have ez:((G.map aT).zip G)[k]?=some (aT G[k],G[k]):=by
      rw[yK,kN,bQ,aP hk];rfl
     rw[ez];rfl
   ·rintro δ ⟨o3,o4,rfl⟩
    refine hU _ ?_
    walk_at"l3"
    refine⟨⟨_,rfl⟩,by rw[bB,gL];omega,_,_,_,_,?_,rfl,rfl,rfl,rfl⟩
    rw[show((G.map aT).zip G).take (cR (aq (G.map aT)) (aH false G)).length=(G.map aT).zip G from sO (by unfold cR;rw[vg,gM,e5,jc];exact bN _),mf,hf,fM]
    exact uK true _ [jf m G wi f]
  ·rintro δ ⟨o1,o2,o3,o4,rfl⟩
   refine hU _ ?_
   walk_at"l3"
   rw[sN]
   exact q
noncomputable abbrev aR6:bC:=λds Q=>∃(T:List (List Nat)) (j:Nat),ds=[.lst false (aH false T),.int j]/\T.length<=1000/\(∀r∈T,j<r.length)/\Q (match j7 T j with | some i=>.int (i:Nat) | none=>.az)
theorem aR7(T:Txt K mg t):aU P w K mg base bf 1 t.KL t.KN ["rows","place"] (bA (aR6 )):=by
 refine bJ T.Xd WB ?_ ?_
 ·intro ds Q h
  obtain⟨G,j,rfl,hG,hr,q⟩:=h<;>rfl
 ·intro aK A outer s H E hr
  refine⟨_,(aF (fQ eR rfl (uz rfl T.uW (af (bv 0) au)) (gC (i1:=2) (i2:=3) rfl WB.nd rfl (ao rfl) rfl (ao rfl))
    (aG (cu (bR (mO (dF hr)) (bK (bv 3) (bv 1) (λ_ _=>rfl)) (ae aA) (bO _)) (aG (aZ (em 2))) cH)))
   (aG (aZ eZ))),λds Q h=>?_⟩
  obtain⟨G,j,rfl,hG,hr,q⟩:=h
  refine aE λU hU=>?_
  walk_at"l3"
  refine fP.mk (λi δ=>∃o1 o2,δ=[some (D.lst false (aH false G)),some (D.int j),o1,o2]/\∀k,k<i->(G.getD k []).getD j 0=0) ⟨_,_,rfl,λk hk=>absurd hk (FL k)⟩ ?_ ?_
  ·rintro i d δ hd ⟨o1,o2,rfl,hz⟩
   obtain⟨hi,rfl⟩:=Ik hd
   have hj:=hr _ (cM hi)
   have eg:G.getD i []=G[i]:=by rw[aQ,aP hi];rfl
   walk_at"l3"
   refine⟨.int (G[i].getD j 0:Nat),by rw[jG (by omega) (by omega),fX],rfl,?_⟩
   rw[lK]
   by_cases h0:G[i].getD j 0=0
   ·rw[if_neg (by rw[h0];decide)]
    refine⟨_,_,⟨rfl,rfl⟩,λk hk=>?_⟩
    by_cases e:k=i
    ·rw[e,eg];exact h0
    ·exact hz k (by omega)
   ·rw[if_pos (by rw[decide_eq_false (by omega)];rfl)]
    have ef:j7 G j=some i:=by
     unfold j7
     rw[c09]
     refine⟨hi,by simpa using h0,λk hk=>?_⟩
     have:=hz k hk
     rw[aQ (l:=G),aP (by omega)]at this
     simpa using this
    rw[ef]at q
    exact q
  ·rintro δ ⟨o1,o2,rfl,hz⟩
   refine hU _ ?_
   walk_at"l3"
   have ef:j7 G j=none:=by
    unfold j7
    rw[c66]
    intro r bq
    obtain⟨i,hi,rfl⟩:=gj bq
    have:=hz i (by rw[uw,jc];exact hi)
    rw[aQ (l:=G),aP hi]at this
    simpa using this
   rw[ef]at q
   exact q
noncomputable abbrev X9(K:Frag):bC:=λds Q=>∃(C:Addr) (p a:Nat) (xs:List Nat),ds=[uF C p,.int a,.lst false (aq xs)]/\eJ K C/\cG K C "products"/\p∈gE/\a<aa (true,p)/\(∀y∈xs,y<aa (true,p))/\xs.length<=1000/\Q (.lst true (aq (xs.map (gm (true,p) a))))
theorem aJ1(T:Txt K mg t):aU P w K mg base bf 1 t.KO t.KP ["self","a","row"] (bA (X9 K)):=by
 refine bJ T.aK3 WC ?_ ?_
 ·intro ds Q h
  obtain⟨C,p,a,xs,rfl,hC,hn,hp,ha,hy,hl,q⟩:=h<;>rfl
 ·intro aK A outer s H E hr
  refine⟨_,(aF (aX (i:=3) WC.nd rfl (bh rfl) (cV (bK (j5 (K:=K) (bv 0)) (bv 1) (λ_ _=>rfl))))
   (aG (aZ (dr [("by_a",3)] ["x"] rfl (gb (bv 2)) (λ_ _ _ _=>(cI (i:=1) (show(["by_a","x"]:List Str).Nodup by decide +kernel) rfl (ao (lookup_relabel_local rfl)) (by decide) (bh (lookup_relabel_local rfl)))) (λ_ _ _ _=>dE) (λ_ _ _ _=>(cV (bK (bv 0) (bv 1) (λ_ _=>rfl)))) rfl ⟨rfl,trivial⟩ (λ_=>by repeat' (first | exact trivial | refine⟨.inl rfl,?_⟩ | refine⟨.inr (.inl rfl),?_⟩ | refine⟨.inr (.inr ⟨_,rfl⟩),?_⟩)) (λ_=>⟨⟨rfl,.inl rfl,.inl rfl,_,rfl,rfl⟩,trivial⟩) rfl (by decide +kernel))))),λds Q h=>?_⟩
  obtain⟨C,p,a,xs,rfl,hC,hn,hp,ha,hy,hl,q⟩:=h
  refine aE λU hU=>?_
  walk_at"l3"
  refine⟨C,_,_,_,rfl,hC,hn,rfl,_,De hp ha,?_⟩
  refine⟨by rw[fi,lJ];rfl,hU _ ?_⟩
  clear hU U
  walk_at"l3"
  refine eA xs (λ(i:Nat)=>D.int (i:Int)) (λx=>D.int ((gm (true,p) a x:Nat):Int)) (mU xs) g5 (λx hx=>?_) (.inr λ_ _=>rfl) (by rw[sL];omega) ?_
  ·walk_at"l3"
   exact⟨_,Dc hp ha (hy x hx),rfl,rfl⟩
  ·rw[cC,cm]at q
   exact q
noncomputable abbrev Ya(K:Frag):bC:=λds Q=>∃(C:Addr) (p a:Nat) (xs:List Nat),ds=[uE C p,.int a,.lst false (aq xs)]/\eJ K C/\cG K C "prime"/\0<p/\a<64/\(∀y∈xs,y<64)/\xs.length<=1000/\Q (.lst true (aq (xs.map (gm (false,p) a))))
theorem aE1(T:Txt K mg t):aU P w K mg base bf 1 t.KQ t.KR ["self","a","row"] (bA (Ya K)):=by
 refine bJ T.aF7 WD ?_ ?_
 ·intro ds Q h
  obtain⟨C,p,a,xs,rfl,hC,hn,hp,ha,hy,hl,q⟩:=h<;>rfl
 ·intro aK A outer s H E hr
  refine⟨_,(aF (aX (i:=3) WD.nd rfl (bh rfl) (cV (j5 (K:=K) (bv 0))))
   (aG (aZ (dr [("prime",3),("a",1)] ["x"] rfl (gb (bv 2)) (λ_ _ _ _=>(cI (i:=2) (show(["prime","a","x"]:List Str).Nodup by decide +kernel) rfl (ao (lookup_relabel_local rfl)) (by decide) (bh (lookup_relabel_local rfl)))) (λ_ _ _ _=>dE) (λ_ _ _ _=>(aI dk (ae (aI gA (bv 1) (bv 2))) (bv 0))) rfl ⟨rfl,⟨rfl,trivial⟩⟩ (λ_=>by repeat' (first | exact trivial | refine⟨.inl rfl,?_⟩ | refine⟨.inr (.inl rfl),?_⟩ | refine⟨.inr (.inr ⟨_,rfl⟩),?_⟩)) (λ_=>⟨⟨rfl,.inl rfl,.inl rfl,_,rfl,rfl⟩,⟨⟨rfl,.inl rfl,.inl rfl,_,rfl,rfl⟩,trivial⟩⟩) rfl (by decide +kernel))))),λds Q h=>?_⟩
  obtain⟨C,p,a,xs,rfl,hC,hn,hp,ha,hy,hl,q⟩:=h
  refine aE λU hU=>?_
  walk_at"l3"
  refine⟨C,_,_,.int p,rfl,hC,hn,rfl,rfl,hU _ ?_⟩
  clear hU U
  walk_at"l3"
  refine eA xs (λ(i:Nat)=>D.int (i:Int)) (λx=>D.int ((gm (false,p) a x:Nat):Int)) (mU xs) g5 (λx hx=>?_) (.inr λ_ _=>rfl) (by rw[sL];omega) ?_
  ·have h2:=hy x hx
   walk_at"l3"
   refine⟨iq.ok (.inr ⟨by omega,by omega⟩),by omega,?_⟩
   show _=((a*x%p:Nat):Int)
   rw[qe,qf]
  ·rw[cC,cm]at q
   exact q
theorem ck4(T:Txt K mg t){m:Bool × Nat}(hm:m∈aD):∃C ns zs sp,fD t.aV t.aW m=.obj C ns zs/\rO P w K mg base 1 "scaled" C sp/\("scaled":Str) ∉ ns/\∀(xs:List Nat) (a:Nat) (Q:D->Prop),a<aa m->(∀y∈xs,y<aa m)->xs.length<=1000->Q (.lst true (aq (xs.map (gm m a))))->sp [.obj C ns zs,.int a,.lst false (aq xs)] Q:=by
 have hF:=cJ hm
 obtain⟨k,n⟩:=m
 cases k with
 | true=>exact⟨_,_,_,X9 K,rfl,⟨T.gw,_,_,_,T.AN,aJ1 T,T.aK4⟩,by decide,λxs a Q ha hy hl q=>⟨_,n,a,xs,rfl,T.gw,T.pP,vZ hm,ha,hy,hl,q⟩⟩
 | false =>
  have kI:n<=64:=hF.hi
  have l2:2<=n:=hF.lo
  exact⟨_,_,_,Ya K,rfl,⟨T.hW,_,_,_,T.AY,aE1 T,T.aF8⟩,by decide,λxs a Q ha hy hl q=>⟨_,n,a,xs,rfl,T.hW,T.m9,by omega,dv (show a<n from ha) kI,λy h=>dv (show y<n from hy y h) kI,hl,q⟩⟩
noncomputable abbrev aX0(cb cp:Addr):bC:=λds Q=>∃(m:Bool × Nat) (T:List (List Nat)) (l:List Nat) (j:Nat),ds=[fD cb cp m,.lst false (aH false T),.lst false (aq l),.int j]/\m∈aD/\T.length<=1000/\AllLt (aa m) l/\(∀r∈T,j<r.length/\r.length<=1000/\AllLt (aa m) r)/\Q (.lst true (aH true (T.map λr=>dh (λx y=>bG m x (gm m (r.getD j 0) y)) r l)))
theorem Yb(T:Txt K mg t):aU P w K mg base bf 2 t.KS t.KU ["field","rows","lead_row","place"] (bA (aX0 t.aV t.aW)):=by
 refine bJ T.LZ aW7 ?_ ?_
 ·intro ds Q h
  obtain⟨m,G,l,j,rfl,hm,hG,hl,hr,q⟩:=h<;>rfl
 ·intro aK A outer s H E hr
  refine⟨_,(aG (aZ (dr [("lead_row",2),("field",0),("place",3)] ["row"] rfl (gb (bv 1)) (λ_ _ _ _=>(cI (i:=3) (show(["lead_row","field","place","row"]:List Str).Nodup by decide +kernel) rfl (ao (lookup_relabel_local rfl)) (by decide) (bh (lookup_relabel_local rfl)))) (λ_ _ _ _=>dE) (λ_ _ _ _=>(rS (P:=P) (w:=w) (K:=K) (mg:=mg) (base:=base) (n:=1) (bv 1) (hr.mono (by decide)) (af (bv 3) (af (bK (bv 3) (bv 2) (λ_ _=>rfl)) (af (bv 0) au))))) rfl ⟨rfl,⟨rfl,⟨rfl,trivial⟩⟩⟩ (λ_=>by repeat' (first | exact trivial | refine⟨.inl rfl,?_⟩ | refine⟨.inr (.inl rfl),?_⟩ | refine⟨.inr (.inr ⟨_,rfl⟩),?_⟩)) (λ_=>⟨⟨rfl,.inl rfl,.inl rfl,_,rfl,rfl⟩,⟨⟨rfl,.inl rfl,.inl rfl,_,rfl,rfl⟩,⟨⟨rfl,.inl rfl,.inl rfl,_,rfl,rfl⟩,trivial⟩⟩⟩) rfl (by decide +kernel)))),λds Q h=>?_⟩
  obtain⟨m,G,l,j,rfl,hm,hG,hl,hr,q⟩:=h
  walk_at"l3"
  refine eA G (λr=>D.lst false (aq r)) (λr=>D.lst true (aq (dh (λx y=>bG m x (gm m (r.getD j 0) y)) r l))) (by rw[dm];rfl) (λa b h=>ph a b h) (λr bq=>?_) (.inr λr _=>fC _) (by rw[sL];omega) ?_
  ·obtain⟨h1,h2,h3⟩:=hr r bq
   obtain⟨C,ns,zs,sp,e1,e2,e3,e4⟩:=XW (P:=P) (w:=w) (base:=base) T hm
   walk_at"l3"
   refine⟨C,ns,zs,sp,e1,e2,e3,.int (r.getD j 0:Nat),by rw[jG (by omega) (by omega),fX],e4 _ _ _ _ (h3.getD (by have:=(cJ hm).lo;omega) j) hl h2 ⟨rfl,rfl⟩⟩
  ·rw[aH,cm]at q
   exact q
noncomputable abbrev aX1(t:gU)(P:Program)(w:World)(K:Frag)(mg:Str->Option Value)(base:Heap):bC:=λds Q=>∃(m:Bool × Nat) (G:List (List Nat)),ds=[fD t.aV t.aW m,.lst false (aH false G)]/\m∈aD/\G.length<=900/\RT (aa m) (ah G) G/\ah G<=900/\Q (.lst true (aH true (cE m G)))
theorem Yc(T:Txt K mg t):aU P w K mg base bf 3 t.KW t.KY ["field","table"] (bA (aX1 t P w K mg base)):=by
 refine bJ T.L0 se ?_ ?_
 ·intro ds Q h
  obtain⟨m,G,rfl,hm,hG,hR,hw,q⟩:=h<;>rfl
 ·intro aK A outer s H E hr
  refine⟨_,(aF (aX (i:=2) se.nd rfl (ao rfl) (eM dD))
   (aF (aX (i:=3) se.nd rfl (ao rfl) (cV (bv 1)))
   (aF (fQ eR rfl (kA rfl T.iG (af (ae (aS ((Bd T).mono (by decide)) hr rfl T.Az T.yf.kp T.AA aN (af (bv 1) au))) au)) (cI (i:=4) se.nd rfl (ao rfl))
    (qF 3 (aF (aX (i:=5) se.nd rfl (ao rfl) (aS ((aR7 T).mono (by decide)) hr rfl T.d19 T.Xd.kp T.d20 aN (af (bv 3) (af (bv 4) au))))
    (aG (cu (bR Hq (bv 5) (ae eZ) (bO _)) (aF (aX (i:=6) se.nd rfl (ao rfl) (rS (P:=P) (w:=w) (K:=K) (mg:=mg) (base:=base) (n:=1) (bv 0) (hr.mono (by decide)) (af (ae (Vl (P:=P) (w:=w) (K:=K) (mg:=mg) (base:=base) (n:=2) (bv 0) (hr.mono (by decide)) (af (ae aA) (af (bK (bK (bv 3) (bv 5) (λ_ _=>rfl)) (bv 4) (λ_ _=>rfl)) au)))) (af (bK (bv 3) (bv 5) (λ_ _=>rfl)) au))))
     (aF (aX (i:=3) se.nd rfl (ao rfl) (aS ((Yb T).mono (by decide)) hr rfl T.Xe T.LZ.kp T.Xf aN (af (bv 0) (af (ae (aI dy (ae (rJ (bv 3) tP (oO (bv 5)))) (ae (rJ (bv 3) (oO (ae (aI dy (bv 5) (ae aA)))) tP)))) (af (bv 6) (af (bv 4) au))))))
     (aG (aX (i:=2) se.nd rfl (ao rfl) (Vs (aS ((Yb T).mono (by decide)) hr rfl T.Xe T.LZ.kp T.Xf aN (af (bv 0) (af (bv 2) (af (bv 6) (af (bv 4) au))))) (eM (fB (em 6) dD))))))) cH)))))
   (aG (aZ (em 2)))))),λds Q h=>?_⟩
  obtain⟨m,G,rfl,hm,hG,hR,hw,q⟩:=h
  have dJ:=(cJ hm).lo
  refine aE λU hU=>?_
  walk_at"l3"
  refine⟨by decide,hU _ ?_⟩
  clear hU U
  refine aE λU hU=>?_
  walk_at"l3"
  refine hU _ ?_
  clear hU U
  refine aE λU hU=>?_
  walk_at"l3"
  refine⟨G,rfl,by omega,λr bq=>?_,?_⟩
  ·rw[(hR r bq).1];omega
  refine⟨_,rfl,⟨by omega,by omega⟩,?_⟩
  refine zQ (λk δ=>∃(o:Bool) (o1 o2 o3:Option D),δ=[some (fD t.aV t.aW m),some (D.lst false (aH false G)),some (D.lst true (aH true (je m G k).1)),some (D.lst o (aH o (je m G k).2)),o1,o2,o3]) ⟨false,none,none,none,rfl⟩ ?_ ?_
  ·rintro k δ hk ⟨o,o1,o2,o3,rfl⟩
   have I:=wc hm hR k
   rw[Il]
   generalize je m G k=s at I ⊢
   simp only[gN,oo,gP,gO,nM,nL,sT,exists_eq_left',dj,dm]
   clear hU
   have il:=I.l
   refine aE λU hU=>?_
   walk_at"l3"
   refine⟨s.2,k,rfl,by omega,λr bq=>by rw[(I.b r bq).1];omega,?_⟩
   cases e:j7 s.2 k with
   | none =>
    rw[show iD m s k=s by unfold iD;rw[e]]at hU
    refine hU _ ?_
    walk_at"l3"
    exact⟨false,_,_,_,⟨rfl,rfl⟩,rfl,rfl,rfl⟩
   | some i =>
    obtain⟨hi,h1,h2⟩:=Dq e
    have er:iD m s k=(gF m s.1 (eE m s.2 i k) k++[eE m s.2 i k],gF m (s.2.take i++s.2.drop (i+1)) (eE m s.2 i k) k):=by unfold iD;rw[e]
    rw[er]at hU
    refine hU _ ?_
    clear hU
    walk_at"l3"
    obtain⟨C,ns,xs,sp,e1,e2,e3,e4⟩:=ck4 (P:=P) (w:=w) (base:=base) T hm
    refine aE λU hU=>?_
    walk_at"l3"
    obtain⟨lw,lr⟩:=I.b _ (cM hi)
    have bk:=lr.getD (show 0<aa m by omega) k
    refine⟨C,ns,xs,sp,e1,e2,e3,_,_,_,_,v3 _ _ m,XS T m,Vm m _ (by decide),.lst false (aq s.2[i]),uM false hi,?_⟩
    dsimp only
    refine⟨.int (s.2[i].getD k 0:Nat),by rw[jG (by omega) (by omega),fX],m,1,s.2[i].getD k 0,by rw[v3];rfl,hm,dJ,bk,λz=>absurd z h1,λ_ f hf hfo=>⟨rfl,.lst false (aq s.2[i]),uM false hi,?_⟩⟩
    have ef:m3 m (s.2[i].getD k 0)=f:=Dn hm hf hfo
    rw[jH]
    refine e4 _ _ _ hf lr (by omega) ⟨by rw[fC,ft],hU _ ?_⟩
    have el:s.2[i].map (gm m f)=eE m s.2 i k:=by unfold eE;rw[h2,ef]
    rw[el]
    have ll:(eE m s.2 i k).length=ah G:=by rw[<-el,bB];exact lw
    have la:AllLt (aa m) (eE m s.2 i k):=λx hx=>by
     rw[<-el]at hx
     obtain⟨y,_,rfl⟩:=bE.mp hx
     exact cj hm _ _
    generalize eE m s.2 i k=ld at ll la ⊢
    clear hU
    refine aE λU hU=>?_
    walk_at"l3"
    have Ms:∀r∈s.2.take i++s.2.drop (i+1),r.length=ah G/\AllLt (aa m) r:=λr bq=>by
     rcases cg.mp bq with h | h
     ·exact I.b r (nJ h)
     ·exact I.b r (nI h)
    have pU:∀X:List (List Nat),(D.lst true (aH true X)).fr=true:=λX=>by rw[eT,pk];rfl
    rw[Uu,show((i:Int)+1)=((i+1:Nat):Int) by omega,CL,uK,dm]
    refine⟨by rw[gL,iH];omega,m,_,ld,k,rfl,hm,by rw[dO,gL,iH];omega,la,λr bq=>⟨by rw[(Ms r bq).1];exact hk,by rw[(Ms r bq).1];omega,(Ms r bq).2⟩,pU _,hU _ ?_⟩
    clear hU
    walk_at"l3"
    refine⟨m,s.1,ld,k,rfl,hm,by omega,la,λr bq=>⟨by rw[(I.a r bq).1];exact hk,by rw[(I.a r bq).1];omega,(I.a r bq).2⟩,pU _,by decide,_,_,rfl,rfl,?_,true,_,_,_,uK true _ [ld],⟨rfl,rfl⟩,rfl,rfl,rfl⟩
    rw[jc,bB]
    show s.1.length+1<=_
    omega
  ·rintro δ ⟨o,o1,o2,o3,rfl⟩
   refine hU _ ?_
   walk_at"l3"
   exact q
noncomputable abbrev aX6(t:gU)(P:Program)(w:World)(K:Frag)(mg:Str->Option Value)(base:Heap):bC:=λds Q=>∃(m:Bool × Nat) (G:List (List Nat)),ds=[fD t.aV t.aW m,.lst false (aH false G)]/\m∈aD/\G.length<=900/\RT (aa m) (ah G) G/\ah G<=900/\(∀r∈cE m G,∃x∈r,x≠0)/\Q (.lst true (aH true (jI m (cE m G) (ah G))))
theorem aX7(T:Txt K mg t):aU P w K mg base bf 4 t.KZ t.K0 ["field","table"] (bA (aX6 t P w K mg base)):=by
 refine bJ T.Xi aX3 ?_ ?_
 ·intro ds Q h
  obtain⟨m,G,rfl,hm,hG,hR,hw,hn,q⟩:=h<;>rfl
 ·intro aK A outer s H E hr
  refine⟨_,(aG (aZ (aS ((aE0 T).mono (by decide)) hr rfl T.d17 T.Xc.kp T.d18 aN (af (bv 0) (af (ae (aS ((Yc T).mono (by decide)) hr rfl T.Xg T.L0.kp T.Xh aN (af (bv 0) (af (bv 1) au)))) (af (ae (aS ((Bd T).mono (by decide)) hr rfl T.Az T.yf.kp T.AA aN (af (bv 1) au))) au)))))),λds Q h=>?_⟩
  obtain⟨m,G,rfl,hm,hG,hR,hw,hn,q⟩:=h
  walk_at"l3"
  refine⟨m,G,rfl,hm,hG,hR,hw,?_⟩
  have I:=wc hm hR (ah G)
  refine⟨G,rfl,by omega,λr bq=>by rw[(hR r bq).1];omega,m,cE m G,ah G,by rw[dj,dm,gB],hm,?_,by omega,I.a,hn,?_,q⟩
  ·show(je m G (ah G)).1.length<=1000
   have:=I.l
   omega
  ·rw[show ∀X:List (List Nat),(D.lst true (aH true X)).fr=true from λX=>by rw[eT,pk];rfl,ft]
noncomputable abbrev aU3:bC:=λds Q=>∃T:List (List Nat),ds=[.lst false (aH false T)]/\T.length<=1000/\Q (.lst true (aH true T))
theorem Bj(T:Txt K mg t):aU P w K mg base bf 1 t.K1 t.K2 ["_law_table_here"] (bA (aU3 )):=by
 refine bJ T.yg aS5 ?_ ?_
 ·intro ds Q h
  obtain⟨G,rfl,hG,q⟩:=h<;>rfl
 ·intro aK A outer s H E hr
  refine⟨_,(aG (aZ (dr [] ["_law_row"] rfl (gb (bv 0)) (λ_ _ _ _=>(cI (i:=0) (show(["_law_row"]:List Str).Nodup by decide +kernel) rfl (ao (lookup_relabel_local rfl)) (by decide) (bh (lookup_relabel_local rfl)))) (λ_ _ _ _=>dE) (λ_ _ _ _=>(CD (CF) (by rfl) T.uX tG (af (bv 0) au))) rfl trivial (λ_=>by repeat' (first | exact trivial | refine⟨.inl rfl,?_⟩ | refine⟨.inr (.inl rfl),?_⟩ | refine⟨.inr (.inr ⟨_,rfl⟩),?_⟩)) (λ_=>trivial) rfl (by decide +kernel)))),λds Q h=>?_⟩
  obtain⟨G,rfl,hG,q⟩:=h
  walk_at"l3"
  refine eA G (λr=>D.lst false (aq r)) (λr=>D.lst true (aq r)) (by rw[dm];rfl) (λa b h=>ph a b h) (λr bq=>?_) (.inr λr _=>fC r) (by rw[sL];omega) q
  walk_at"l3"
noncomputable abbrev aR8:bC:=λds Q=>∃i:Int,ds=[.int i]/\Q (.bl true)
theorem aR9(T:Txt K mg t):aU P w K mg base bf 1 t.K3 t.K4 ["_law_x"] (bA (aR8 )):=by
 refine bJ T.Xj aQ7 ?_ ?_
 ·intro ds Q h
  obtain⟨i,rfl,q⟩:=h<;>rfl
 ·intro aK A outer s H E hr
  refine⟨_,(aG (aZ (Cr (ae (zN (by rfl) T.A6 (by rfl) T.d64 cJ6 (bv 0))) (BY (cS9 (ae (zN (by rfl) T.A6 (by rfl) T.d63 cC1 (bv 0)))))))),λds Q h=>?_⟩
  obtain⟨i,rfl,q⟩:=h
  walk_at"l3"
  exact q
noncomputable abbrev aM8:bC:=λds Q=>∃(l:List Nat) (w n:Nat),ds=[.lst false (aq l),.int w,.int n]/\l.length=w/\w<=1000/\AllLt n l/\Q (.bl true)
theorem Yd(T:Txt K mg t):aU P w K mg base bf 2 t.K5 t.K6 ["_law_row","_law_wide","_law_many_here"] (bA (aM8 )):=by
 refine bJ T.L1 aL8 ?_ ?_
 ·intro ds Q h
  obtain⟨l,w,n,rfl,hl,hw,ha,q⟩:=h<;>rfl
 ·intro aK A outer s H E hr
  refine⟨_,(aF (cu (PW.pt (Cq (qy (jC (ae (zN (by rfl) T.A6 (by rfl) T.uX tG (bv 0))))) (BX (bR (mO (dF hr)) (ae (fj (gZ) (by rfl) T.ib gW (af (bv 0) au))) (bv 1) (bO _))))) (aG (aZ oi)) cH)
   (aG (aZ (fj (CG rfl) (by rfl) T.DX Cf (af (ae (dr [("_law_many_here",2)] ["_law_x"] rfl (gb (bv 0)) (λ_ _ _ _=>(cI (i:=1) (show(["_law_many_here","_law_x"]:List Str).Nodup by decide +kernel) rfl (ao (lookup_relabel_local rfl)) (by decide) (bh (lookup_relabel_local rfl)))) (λ_ _ _ _=>dE) (λ_ _ _ _=>(Cr (ae (aS ((aR9 T).mono (by decide)) hr rfl T.aT3 T.Xj.kp T.aT4 aN (af (bv 1) au))) (BY (Hu zK CB (ae aA) (bv 1) (bv 0))))) rfl ⟨rfl,trivial⟩ (λ_=>by repeat' (first | exact trivial | refine⟨.inl rfl,?_⟩ | refine⟨.inr (.inl rfl),?_⟩ | refine⟨.inr (.inr ⟨_,rfl⟩),?_⟩)) (λ_=>⟨⟨rfl,.inl rfl,.inl rfl,_,rfl,rfl⟩,trivial⟩) rfl (by decide +kernel))) au))))),λds Q h=>?_⟩
  obtain⟨l,w,n,rfl,hl,hw,ha,q⟩:=h
  refine aE λU hU=>?_
  walk_at"l3"
  rw[if_neg (by rw[hl];simp)]
  refine hU _ ?_
  clear hU U
  walk_at"l3"
  refine eA l (λ(i:Nat)=>D.int (i:Int)) (λ_=>D.bl true) (mU l) g5 (λi hi=>?_) (.inr λ_ _=>rfl) (by rw[sL];omega) ?_
  ·walk_at"l3"
   have:=ha i hi
   refine⟨i,rfl,true,rfl,?_⟩
   rw[if_pos rfl,if_pos (by omega)]
   omega
  ·refine⟨l.map λ_=>true,by unfold vR;rw[cm];rfl,?_⟩
   have e:(l.map λ_=>true).all id=true:=by simp
   rw[e];exact q
noncomputable abbrev aJ2:bC:=λds Q=>∃(T:List (List Nat)) (r w n:Nat),ds=[.lst false (aH false T),.int r,.int w,.int n]/\T.length=r/\r<=1000/\w<=1000/\RT n w T/\Q (.bl true)
theorem aJ3(T:Txt K mg t):aU P w K mg base bf 3 t.K7 t.K8 ["_law_table_here","_law_rows","_law_wide","_law_many_here"] (bA (aJ2 )):=by
 refine bJ T.Xm aG7 ?_ ?_
 ·intro ds Q h
  obtain⟨G,r,w,n,rfl,hG,hr,hw,hR,q⟩:=h<;>rfl
 ·intro aK A outer s H E hr
  refine⟨_,(aF (cu (PW.pt (Cq (qy (jC (ae (zN (by rfl) T.A6 (by rfl) T.uX tG (bv 0))))) (BX (bR (mO (dF hr)) (ae (fj (gZ) (by rfl) T.ib gW (af (bv 0) au))) (bv 1) (bO _))))) (aG (aZ oi)) cH)
   (aG (aZ (fj (CG rfl) (by rfl) T.DX Cf (af (ae (dr [("_law_wide",2),("_law_many_here",3)] ["_law_row"] rfl (gb (bv 0)) (λ_ _ _ _=>(cI (i:=2) (show(["_law_wide","_law_many_here","_law_row"]:List Str).Nodup by decide +kernel) rfl (ao (lookup_relabel_local rfl)) (by decide) (bh (lookup_relabel_local rfl)))) (λ_ _ _ _=>dE) (λ_ _ _ _=>(aS ((Yd T).mono (by decide)) hr rfl T.Xk T.L1.kp T.Xl aN (af (bv 2) (af (bv 0) (af (bv 1) au))))) rfl ⟨rfl,⟨rfl,trivial⟩⟩ (λ_=>by repeat' (first | exact trivial | refine⟨.inl rfl,?_⟩ | refine⟨.inr (.inl rfl),?_⟩ | refine⟨.inr (.inr ⟨_,rfl⟩),?_⟩)) (λ_=>⟨⟨rfl,.inl rfl,.inl rfl,_,rfl,rfl⟩,⟨⟨rfl,.inl rfl,.inl rfl,_,rfl,rfl⟩,trivial⟩⟩) rfl (by decide +kernel))) au))))),λds Q h=>?_⟩
  obtain⟨G,r,w,n,rfl,hG,hr,hw,hR,q⟩:=h
  refine aE λU hU=>?_
  walk_at"l3"
  rw[if_neg (by rw[hG];simp)]
  refine hU _ ?_
  clear hU U
  walk_at"l3"
  refine eA G (λr=>D.lst false (aq r)) (λ_=>D.bl true) (by rw[dm];rfl) (λa b h=>ph a b h) (λl qi=>?_) (.inr λ_ _=>rfl) (by rw[sL];omega) ?_
  ·walk_at"l3"
   exact⟨l,w,n,rfl,(hR l qi).1,hw,(hR l qi).2,rfl⟩
  ·refine⟨G.map λ_=>true,by unfold vR;rw[cm];rfl,?_⟩
   have e:(G.map λ_=>true).all id=true:=by simp
   rw[e];exact q
noncomputable abbrev aU4(t:gU)(P:Program)(w:World)(K:Frag)(mg:Str->Option Value)(base:Heap):bC:=λds Q=>∃(m:Bool × Nat) (ns:List Int) (T:List (List Nat)),ds=[da m,.fz (aL ns),fD t.aV t.aW m,.lst false (aH false T)]/\m∈aD/\0<T.length/\T.length<=64/\0<ah T/\ah T<=64/\RT (aa m) (ah T) T/\∀s:List Nat,s.length=ah T->AllLt (aa m) s->(∀r∈T,gd m r s=0)->Q (.lst true (aq s))
theorem aU5(T:Txt K mg t):aU P w K mg base bf 5 t.K9 t.La ["_law_told_here","_law_script","_law_field_here","_law_table_here"] (bA (aU4 t P w K mg base)):=by
 refine bJ T.Xn xO ?_ ?_
 ·intro ds Q h
  obtain⟨m,ns,T,rfl,hm,Mt,u0,Bf,hw,hT,q⟩:=h<;>rfl
 ·intro aK A outer s H E hr
  refine⟨_,(aF (aX (i:=4) xO.nd rfl (ao rfl) (fj (gZ) (by rfl) T.ib gW (af (bK (bv 3) (ae aA) (λ_ _=>rfl)) au)))
   (aF (aX (i:=5) xO.nd rfl (ao rfl) (aS ((aX7 T).mono (by decide)) hr rfl T.d25 T.Xi.kp T.d26 aN (af (bv 2) (af (ae (aS ((Bj T).mono (by decide)) hr rfl T.AD T.yg.kp T.AE aN (af (bv 3) au))) au))))
   (aF (cu (PW.pt (Cq (qy (jC (ae (zN (by rfl) T.A6 (by rfl) T.uX tG (bv 5))))) (BX (qy (jC (ae (aS ((aJ3 T).mono (by decide)) hr rfl T.aK5 T.Xm.kp T.aK6 aN (af (bv 5) (af (ae (fj (gZ) (by rfl) T.ib gW (af (bv 5) au))) (af (bv 4) (af (ae (aS ((nr T).mono (by decide)) hr rfl T.m6 T.lY.kp T.m8 aN (af (bv 0) au))) au))))))))))) (aG (aZ eZ)) cH)
   (aF (IA (i:=6) xO.nd rfl (ao rfl) [("_law_script",1),("_law_told_here",0)] ["_law_k"] rfl (kA rfl T.iG (af (ae (fj (gZ) (by rfl) T.ib gW (af (bv 5) au))) au)) (λ_ _ _ _=>(cI (i:=2) (show(["_law_script","_law_told_here","_law_k"]:List Str).Nodup by decide +kernel) rfl (ao (lookup_relabel_local rfl)) (by decide) (bh (lookup_relabel_local rfl)))) (λ_ _ _ _=>dE) (λ_ _ _ _=>(aI dk (ae (aS ((ie T).mono (by decide)) hr rfl T.hJ T.gI.kp T.hV aN (af (bv 0) (af (ae (aI dy (ae aA) (bv 2))) au)))) (ae (aS ((nr T).mono (by decide)) hr rfl T.m6 T.lY.kp T.m8 aN (af (bv 1) au))))) rfl ⟨rfl,⟨rfl,trivial⟩⟩ (λ_=>by repeat' (first | exact trivial | refine⟨.inl rfl,?_⟩ | refine⟨.inr (.inl rfl),?_⟩ | refine⟨.inr (.inr ⟨_,rfl⟩),?_⟩)) (λ_=>⟨⟨rfl,.inl rfl,.inl rfl,_,rfl,rfl⟩,⟨⟨rfl,.inl rfl,.inl rfl,_,rfl,rfl⟩,trivial⟩⟩) rfl (by decide +kernel))
   (aF (cu (bR (fS (dF hr)) (ae (aI dk (ae (aI iY (ae (aS ((ie T).mono (by decide)) hr rfl T.hJ T.gI.kp T.hV aN (af (bv 1) (af (ae aA) au)))) (ae aA))) (ae aA))) (ae aA) (bO _)) (aG (aX (i:=6) xO.nd rfl (ao rfl) (aS ((at2 T).mono (by decide)) hr rfl T.LN T.DO.kp T.LO aN (af (ae (aS ((ie T).mono (by decide)) hr rfl T.hJ T.gI.kp T.hV aN (af (bv 1) (af (ae aA) au)))) (af (ae (aS ((nr T).mono (by decide)) hr rfl T.m6 T.lY.kp T.m8 aN (af (bv 0) au))) (af (ae (fj (gZ) (by rfl) T.ib gW (af (bv 5) au))) au)))))) cH)
   (aF (aX (i:=7) xO.nd rfl (bh rfl) (aS ((XN T).mono (by decide)) hr rfl T.W3 T.LS.kp T.W4 aN (af (bv 0) (af (bv 6) (af (bv 5) (af (bv 4) au))))))
   (aF (cu (jC (ae (fj (cM7 rfl) (by rfl) T.d62 cE7 (af (ae (dr [("_law_told_here",0),("_law_sent_here",7)] ["_law_row"] rfl (gb (bv 3)) (λ_ _ _ _=>(cI (i:=2) (show(["_law_told_here","_law_sent_here","_law_row"]:List Str).Nodup by decide +kernel) rfl (ao (lookup_relabel_local rfl)) (by decide) (bh (lookup_relabel_local rfl)))) (λ_ _ _ _=>dE) (λ_ _ _ _=>(aS ((XM T).mono (by decide)) hr rfl T.W0 T.LR.kp T.W2 aN (af (bv 0) (af (bv 2) (af (bv 1) au))))) rfl ⟨rfl,⟨rfl,trivial⟩⟩ (λ_=>by repeat' (first | exact trivial | refine⟨.inl rfl,?_⟩ | refine⟨.inr (.inl rfl),?_⟩ | refine⟨.inr (.inr ⟨_,rfl⟩),?_⟩)) (λ_=>⟨⟨rfl,.inl rfl,.inl rfl,_,rfl,rfl⟩,⟨⟨rfl,.inl rfl,.inl rfl,_,rfl,rfl⟩,trivial⟩⟩) rfl (by decide +kernel))) au)))) (aG (aZ eZ)) cH)
   (aG (aZ (em 7)))))))))),λds Q h=>?_⟩
  obtain⟨m,ns,T,rfl,hm,Mt,u0,Bf,hw,hT,q⟩:=h
  have dJ:=(cJ hm).lo
  have Mj:=(cJ hm).hi
  have D2:=Aa m hm
  have w0:(T[0]).length=ah T:=(hT _ (cM Mt)).1
  refine aE λU hU=>?_
  walk_at"l3"
  refine⟨_,uM false Mt,?_⟩
  dsimp only
  rw[e5,w0]
  refine hU _ ?_
  clear hU U
  refine aE λU hU=>?_
  walk_at"l3"
  refine⟨T,rfl,by omega,?_⟩
  obtain⟨k1,k2⟩:=cQ6 hm hT
  have kw:∀xs:List Nat,xs.length=(jI m (cE m T) (ah T)).length->_:=λxs hx=>cw3 hm hT hx
  refine⟨m,T,by rw[dj,dm],hm,by omega,hT,by omega,cF2 hm hT,by rw[eT,pk,ka,ft],hU _ ?_⟩
  clear hU U
  generalize jI m (cE m T) (ah T)=G at k1 k2 kw ⊢
  refine aE λU hU=>?_
  walk_at"l3"
  refine⟨m,rfl,by omega,by omega,G,G.length,ah T,aa m,by rw[gB],rfl,by omega,by omega,k1,rfl,true,rfl,?_⟩
  rw[if_neg (by decide)]
  refine hU _ ?_
  clear hU U
  have Mg:∀z:Int,z%(aa m:Int)=(((z%(aa m:Int)).toNat:Nat):Int):=λz=>by
   have n0:=jn z (show(aa m:Int)≠0 by omega)
   omega
  have Mh:∀z:Int,(z%(aa m:Int)).toNat<aa m:=λz=>by
   have n1:=jo z (show(0:Int)<(aa m:Int) by omega)
   omega
  refine aE λU hU=>?_
  walk_at"l3"
  refine⟨⟨by omega,by omega⟩,eA (bg G.length) (λ(i:Nat)=>D.int (i:Int)) (λkk=>D.int (((dW ns ((3:Int)+(kk:Int))%(aa m:Int)).toNat:Nat):Int)) (uJ _ rfl) g5 (λkk hk=>?_) (.inr λ_ _=>rfl) (by rw[dQ,sL];omega) ?_⟩
  ·have:=cL.mp hk
   walk_at"l3"
   refine⟨ns,_,rfl,by omega,by omega,m,rfl,by omega,by omega,?_⟩
   exact⟨by omega,Mg _⟩
  obtain⟨xs,exs,gD,Bk⟩:∃xs:List Nat,((bg G.length).map λ(kk:Nat)=>D.int (((dW ns ((3:Int)+(kk:Int))%(aa m:Int)).toNat:Nat):Int))=aq xs/\AllLt (aa m) xs/\xs.length=G.length:=by
   refine⟨(bg G.length).map λ(kk:Nat)=>(dW ns ((3:Int)+(kk:Int))%(aa m:Int)).toNat,by rw[cC,cm];rfl,λa ha=>?_,by simp⟩
   obtain⟨k,_,rfl⟩:=bE.mp ha
   exact Mh _
  rw[exs]
  dsimp only[gP,gO]
  refine hU _ ?_
  clear hU U
  refine aE λU hU=>?_
  walk_at"l3"
  have st:∀xs:List Nat,AllLt (aa m) xs->xs.length=G.length->U [some (da m),some (D.fz (aL ns)),some (fD t.aV t.aW m),some (D.lst false (aH false T)),some (D.int (ah T)),some (D.lst true (aH true G)),some (D.lst true (aq xs)),none]:=by
   intro xs gD Bk
   refine hU _ ?_
   clear hU U
   have kz:=kw xs Bk
   have kl:=VQ hm (T:=G) (ah T) Bk
   have kn:=IF m xs G (ah T)
   refine aE λU hU=>?_
   walk_at"l3"
   refine⟨m,xs,G,ah T,rfl,hm,gD,by omega,Bk.symm,by omega,k1,fC _,hU _ ?_⟩
   clear hU U
   generalize pG m xs G (ah T)=c at kz kl kn ⊢
   refine aE λU hU=>?_
   walk_at"l3"
   refine eA T (λr=>D.lst false (aq r)) (λr=>D.int ((gd m r c:Nat):Int)) (by rw[dm];rfl) (λa b h=>ph a b h) (λr bq=>?_) (.inr λr _=>rfl) (by rw[sL];omega) ?_
   ·have zc:=(hT r bq).1
    walk_at"l3"
    exact⟨m,r,c,rfl,hm,by omega,by omega,(hT r bq).2,kl,rfl⟩
   refine⟨T.map λr=>((gd m r c:Nat):Int),by unfold aL;rw[cm];rfl,?_⟩
   rw[show(T.map λr=>((gd m r c:Nat):Int)).any (λx=>x != 0)=false by
    rw[List.any_eq_false]
    intro x hx
    obtain⟨r,bq,rfl⟩:=bE.mp hx
    rw[kz r bq];decide,if_neg (by decide)]
   refine hU _ ?_
   walk_at"l3"
   exact q c kn kl kz
  clear hU
  refine⟨ns,1,rfl,by decide,by decide,iX (by decide) (by decide),by decide,?_⟩
  split
  ·refine⟨ns,3,rfl,by decide,by decide,m,rfl,by omega,by omega,dW ns 3,aa m,G.length,by rw[gB,gB],by omega,by omega,by omega,λc lc hc=>⟨by rw[fC,ft],st c hc lc⟩⟩
  ·exact st xs gD Bk
noncomputable abbrev aU6:bC:=λds Q=>∃(m:Bool × Nat) (ns:List Int) (w:Nat),ds=[da m,.fz (aL ns),.int w]/\m∈aD/\w<=64/\∀y:List (Option Nat),y.length=w->(∀a,some a∈y->a<aa m)->Q (.lst true (df y))
theorem aU7(T:Txt K mg t):aU P w K mg base bf 2 t.Lb t.Lc ["_law_told_here","_law_script","_law_wide"] (bA (aU6 )):=by
 refine bJ T.Xo As ?_ ?_
 ·intro ds Q h
  obtain⟨m,ns,w,rfl,hm,hw,q⟩:=h<;>rfl
 ·intro aK A outer s H E hr
  refine⟨_,(aF (aX (i:=3) As.nd rfl (ao rfl) (eM dD))
   (aF (cu (bR (fS (dF hr)) (ae (aI dk (ae (aI iY (ae (aS ((ie T).mono (by decide)) hr rfl T.hJ T.gI.kp T.hV aN (af (bv 1) (af (ae aA) au)))) (ae aA))) (ae aA))) (ae aA) (bO _)) (aF (aX (i:=4) As.nd rfl (ao rfl) (aS ((at2 T).mono (by decide)) hr rfl T.LN T.DO.kp T.LO aN (af (ae (aS ((ie T).mono (by decide)) hr rfl T.hJ T.gI.kp T.hV aN (af (bv 1) (af (ae aA) au)))) (af (ae (aI dy (ae (aS ((nr T).mono (by decide)) hr rfl T.m6 T.lY.kp T.m8 aN (af (bv 0) au))) (ae aA))) (af (bv 2) au)))))
    (aG (aZ (dr [("_law_told_here",0)] ["_law_x"] rfl (gb (bv 4)) (λ_ _ _ _=>(cI (i:=1) (show(["_law_told_here","_law_x"]:List Str).Nodup by decide +kernel) rfl (ao (lookup_relabel_local rfl)) (by decide) (bh (lookup_relabel_local rfl)))) (λ_ _ _ _=>dE) (λ_ _ _ _=>(zA (bR (fS (dF hr)) (bv 1) (ae (aS ((nr T).mono (by decide)) hr rfl T.m6 T.lY.kp T.m8 aN (af (bv 0) au))) (bO _)) eZ (cV (bv 1)))) rfl ⟨rfl,trivial⟩ (λ_=>by repeat' (first | exact trivial | refine⟨.inl rfl,?_⟩ | refine⟨.inr (.inl rfl),?_⟩ | refine⟨.inr (.inr ⟨_,rfl⟩),?_⟩)) (λ_=>⟨⟨rfl,.inl rfl,.inl rfl,_,rfl,rfl⟩,trivial⟩) rfl (by decide +kernel))))) cH)
   (aF (fQ eR rfl (kA rfl T.iG (af (bv 2) au)) (cI (i:=5) As.nd rfl (ao rfl))
    (aF (aX (i:=6) As.nd rfl (ao rfl) (aS ((ie T).mono (by decide)) hr rfl T.hJ T.gI.kp T.hV aN (af (bv 1) (af (ae (aI dy (ae aA) (bv 5))) au))))
    (aG (cu (bR (fS (dF hr)) (ae (aI dk (bv 6) (ae aA))) (ae aA) (bO _)) (aG (kD (i:=3) rfl (by first | exact ao rfl | exact bh (ao rfl)) eZ)) (aG (cu (bR (fS (dF hr)) (ae (aI dk (ae (aI iY (ae (aS ((ie T).mono (by decide)) hr rfl T.hJ T.gI.kp T.hV aN (af (bv 1) (af (ae aA) au)))) (ae aA))) (ae aA))) (ae aA) (bO _)) (aG (kD (i:=3) rfl (by first | exact ao rfl | exact bh (ao rfl)) (aI dk (ae (aI iY (bv 6) (ae aA))) (ae aA)))) (aG (kD (i:=3) rfl (by first | exact ao rfl | exact bh (ao rfl)) (aI dk (ae (aI iY (bv 6) (ae aA))) (ae (aS ((nr T).mono (by decide)) hr rfl T.m6 T.lY.kp T.m8 aN (af (bv 0) au))))))))))))
   (aG (aZ (em 3)))))),λds Q h=>?_⟩
  obtain⟨m,ns,w,rfl,hm,hw,q⟩:=h
  have dJ:=(cJ hm).lo
  have Mj:=(cJ hm).hi
  have D2:=Aa m hm
  refine aE λU hU=>?_
  walk_at"l3"
  refine⟨by decide,hU _ ?_⟩
  clear hU U
  refine aE λU hU=>?_
  walk_at"l3"
  refine⟨ns,1,rfl,by decide,by decide,iX (by decide) (by decide),by decide,?_⟩
  split
  ·clear hU
   refine aE λU hU=>?_
   walk_at"l3"
   refine⟨ns,9,rfl,by decide,by decide,m,rfl,by omega,by omega,?_⟩
   dsimp only
   refine⟨dW ns 9,aa m+1,w,by rw[gB];rfl,by omega,by omega,hw,λc lc hc=>⟨by rw[fC,ft],hU _ ?_⟩⟩
   clear hU U
   walk_at"l3"
   refine eA c (λ(i:Nat)=>D.int (i:Int)) (λx=>iE (if x=aa m then none else some x)) (mU c) g5 (λx hx=>?_) (.inr λx _=>by split<;>rfl) (by rw[sL];omega) ?_
   ·walk_at"l3"
    refine⟨m,rfl,by omega,by omega,rfl,?_⟩
    rw[lK]
    by_cases c:x=aa m
    ·rw[if_pos (decide_eq_true (by omega)),if_pos c];rfl
    ·rw[if_neg (by rw[decide_eq_false (by omega)];decide),if_neg c];rfl
   ·rw[show(c.map λx=>iE (if x=aa m then none else some x))=df (c.map λx=>if x=aa m then none else some x) by unfold df;rw[cm];rfl]
    refine q _ (by rw[bB,lc]) λa ha=>?_
    obtain⟨x,hx,e⟩:=bE.mp ha
    split at e
    ·cases e
    ·cases e
     have:=hc _ hx
     omega
  ·refine hU _ ?_
   clear hU U
   refine aE λU hU=>?_
   walk_at"l3"
   refine⟨⟨by omega,by omega⟩,zQ (λi δ=>∃(y:List (Option Nat)) (o1 o2 o3:Option D),(y.length=i/\∀a,some a∈y->a<aa m)/\δ=[some (da m),some (D.fz (aL ns)),some (D.int w),some (D.lst true (df y)),o1,o2,o3]) ⟨[],_,_,_,⟨rfl,λa ha=>by cases ha⟩,rfl⟩ ?_ ?_⟩
   ·rintro i δ hi ⟨y,o1,o2,o3,⟨y1,y2⟩,rfl⟩
    simp only[gN,gP,gO]
    clear hU
    have yl:=Ja y
    have ap:∀v:Option Nat,(∀a,v=some a->a<aa m)->df y++[iE v]=df (y++[v])/\(y++[v]).length=i+1/\∀a,some a∈y++[v]->a<aa m:=λv hv=>by
     refine⟨by unfold df;rw[fM];rfl,by rw[dO,y1];rfl,λa ha=>?_⟩
     rcases cg.mp ha with h | h
     ·exact y2 a h
     ·exact hv a (dP.mp h).symm
    have Ye:∀z:Int,0<=z->z<(aa m:Int)->∃v:Option Nat,df y++[D.int z]=df (y++[v])/\(y++[v]).length=i+1/\∀a,some a∈y++[v]->a<aa m:=λz z0 z1=>by
     have:=ap (some z.toNat) λa ha=>by cases ha;omega
     rw[show iE (some z.toNat)=D.int z by show D.int _=_;rw[vf z0]]at this
     exact⟨_,this⟩
    refine aE λU hU=>?_
    walk_at"l3"
    refine⟨ns,_,rfl,by omega,by omega,hU _ ?_⟩
    clear hU
    generalize dW ns _=ch
    walk_at"l3"
    refine⟨by decide,?_⟩
    split
    ·obtain⟨a1,a2,a3⟩:=ap none λa ha=>by cases ha
     exact⟨⟨_,rfl⟩,by omega,_,_,_,_,⟨a2,a3⟩,a1,rfl,rfl,rfl⟩
    ·refine⟨ns,2,rfl,by decide,by decide,?_⟩
     dsimp only
     refine⟨iX (by decide) (by decide),by decide,?_⟩
     split
     ·obtain⟨v,a1,a2,a3⟩:=Ye (ch/8%2) (by omega) (by omega)
      exact⟨⟨_,rfl⟩,iX (by decide) (by decide),by decide,by omega,_,_,_,_,⟨a2,a3⟩,a1,rfl,rfl,rfl⟩
     ·have n0:=jn (ch/8) (show(aa m:Int)≠0 by omega)
      have n1:=jo (ch/8) (show(0:Int)<(aa m:Int) by omega)
      obtain⟨v,a1,a2,a3⟩:=Ye (ch/8%(aa m:Int)) n0 n1
      exact⟨⟨_,rfl⟩,iX (by decide) (by decide),m,rfl,by omega,by omega,by omega,by omega,_,_,_,_,⟨a2,a3⟩,a1,rfl,rfl,rfl⟩
   ·rintro δ ⟨y,o1,o2,o3,⟨y1,y2⟩,rfl⟩
    refine hU _ ?_
    walk_at"l3"
    exact q y y1 y2
noncomputable abbrev aQ1:bC:=λds Q=>∃(y:List (Option Nat)),ds=[.lst false (df y)]/\y.length<=1000/\Q (.lst true (aq (bD y)))
theorem aQ2(T:Txt K mg t):aU P w K mg base bf 1 t.Ld t.Le ["signs"] (bA (aQ1 )):=by
 refine bJ T.Xp aO9 ?_ ?_
 ·intro ds Q h
  obtain⟨y,rfl,hy,q⟩:=h<;>rfl
 ·intro aK A outer s H E hr
  refine⟨_,(aG (aZ (dr [] ["place","sign"] rfl (uz rfl T.uW (af (bv 0) au)) (λ_ _ _ _=>(gC (i1:=0) (i2:=1) rfl (show(["place","sign"]:List Str).Nodup by decide +kernel) rfl (ao (lookup_relabel_local rfl)) rfl (ao (lookup_relabel_local rfl)) (by decide) (by decide) (bh (lookup_relabel_local rfl)) (bh (lookup_relabel_local rfl)))) (λ_ _ _ _=>(zH (bR qY (bv 1) (ae eZ) (bO _)))) (λ_ _ _ _=>(cV (bv 0))) rfl trivial (λ_=>by repeat' (first | exact trivial | refine⟨.inl rfl,?_⟩ | refine⟨.inr (.inl rfl),?_⟩ | refine⟨.inr (.inr ⟨_,rfl⟩),?_⟩)) (λ_=>trivial) rfl (by decide +kernel)))),λds Q h=>?_⟩
  obtain⟨y,rfl,hy,q⟩:=h
  walk_at"l3"
  refine Af (bg y.length) (λ(i:Nat)=>D.tup [.int (i:Int),iE (y.getD i none)]) (λ(i:Nat)=>D.int (i:Int)) (λj=>decide (y[j]?=some none)) (ce9 y) (λa b h=>by injection h with h;simp at h;omega) (λi hi=>?_) (.inr λ_ _ _=>rfl) (by rw[dQ,sL];omega) ?_
  ·walk_at"l3"
   rw[uQ (cL.mp hi)]
   refine⟨?_,λ_=>trivial⟩
   cases y.getD i none with
   | none=>rfl
   | some a=>exact(decide_eq_false λz=>by cases z).symm
  ·rw[cC]at q
   exact q
noncomputable abbrev aG3:bC:=λds Q=>∃(y:List (Option Nat)),ds=[.lst false (df y)]/\y.length<=1000/\Q (.lst true (aq (de y)))
theorem aG4(T:Txt K mg t):aU P w K mg base bf 1 t.Lf t.Lg ["signs"] (bA (aG3 )):=by
 refine bJ T.Xq aF4 ?_ ?_
 ·intro ds Q h
  obtain⟨y,rfl,hy,q⟩:=h<;>rfl
 ·intro aK A outer s H E hr
  refine⟨_,(aG (aZ (dr [] ["sign"] rfl (gb (bv 0)) (λ_ _ _ _=>(cI (i:=0) (show(["sign"]:List Str).Nodup by decide +kernel) rfl (ao (lookup_relabel_local rfl)) (by decide) (bh (lookup_relabel_local rfl)))) (λ_ _ _ _=>dE) (λ_ _ _ _=>(zA (bR qY (bv 0) (ae eZ) (bO _)) aA (cV (bv 0)))) rfl trivial (λ_=>by repeat' (first | exact trivial | refine⟨.inl rfl,?_⟩ | refine⟨.inr (.inl rfl),?_⟩ | refine⟨.inr (.inr ⟨_,rfl⟩),?_⟩)) (λ_=>trivial) rfl (by decide +kernel)))),λds Q h=>?_⟩
  obtain⟨y,rfl,hy,q⟩:=h
  walk_at"l3"
  refine eA y iE (λs=>D.int ((s.getD 0:Nat):Int)) (uP y) cx1 (λs hs=>?_) (.inr λ_ _=>rfl) (by rw[sL];omega) ?_
  ·walk_at"l3"
   cases s with
   | none=>exact rfl
   | some a=>exact⟨rfl,rfl⟩
  ·unfold de at q
   rw[cC,cm]at q
   exact q
noncomputable abbrev Yf(K:Frag):bC:=λds Q=>∃(C:Addr) (p:Nat) (xs ys:List Nat),ds=[uF C p,.lst false (aq xs),.lst false (aq ys)]/\eJ K C/\cG K C "products"/\p∈gE/\xs.length=ys.length/\xs.length<=64/\(∀x∈xs,x<aa (true,p))/\(∀y∈ys,y<aa (true,p))/\Q (.int ((dh (gm (true,p)) xs ys).foldl (· ^^^ ·) 0:Nat))
theorem aO5(T:Txt K mg t):aU P w K mg base bf 1 t.Lh t.Li ["self","xs","ys"] (bA (Yf K)):=by
 refine bJ T.aP0 Au ?_ ?_
 ·intro ds Q h
  obtain⟨C,p,xs,ys,rfl,hC,hn,hp,hl,kJ,hx,hy,q⟩:=h<;>rfl
 ·intro aK A outer s H E hr
  refine⟨_,(aF (aX (i:=3) Au.nd rfl (ao rfl) (cV (j5 (K:=K) (bv 0))))
   (aF (aX (i:=4) Au.nd rfl (ao rfl) aA)
   (aF (fQ eR rfl (mT rfl T.nh (af (bv 1) (af (bv 2) au))) (gC (i1:=5) (i2:=6) rfl Au.nd rfl (ao rfl) rfl (ao rfl))
    (aG (zC (i:=4) Au.nd rfl (ao rfl) (bK (bK (bv 3) (bv 5) (λ_ _=>rfl)) (bv 6) (λ_ _=>rfl)) CA)))
   (aG (aZ (em 4)))))),λds Q h=>?_⟩
  obtain⟨C,p,xs,ys,rfl,hC,hn,hp,hl,kJ,hx,hy,q⟩:=h
  refine aE λU hU=>?_
  walk_at"l3"
  refine⟨C,_,_,_,rfl,hC,hn,rfl,by rw[fi,ca9];rfl,hU _ ?_⟩
  clear hU U
  refine aE λU hU=>?_
  walk_at"l3"
  refine hU _ ?_
  clear hU U
  refine aE λU hU=>?_
  walk_at"l3"
  refine⟨_,_,rfl,rfl,?_⟩
  refine fP.mk (λi δ=>∃o1 o2,δ=[some (uF C p),some (.lst false (aq xs)),some (.lst false (aq ys)),some (.lst false (pe (fl (true,p)) (eN (fl (true,p))))),some (.int (((dh (gm (true,p)) xs ys).take i).foldl (· ^^^ ·) 0:Nat)),o1,o2]) ⟨none,none,rfl⟩ ?_ ?_
  ·rintro i d δ hd ⟨o1,o2,rfl⟩
   obtain⟨hi,hj,rfl⟩:∃(hi:i<xs.length) (hj:i<ys.length),d=.tup [.int (xs[i]:Nat),.int (ys[i]:Nat)]:=by
    unfold cR at hd
    rw[cC,cC,yE]at hd
    by_cases hi:i<xs.length
    ·have hj:i<ys.length:=by omega
     rw[kN,aP hi,aP hj]at hd
     exact⟨hi,hj,(cX hd).symm⟩
    ·rw[fY (by simp;omega)]at hd;cases hd
   have e7:=hx xs[i] (cM _)
   have Bc:=hy ys[i] (cM _)
   walk_at"l3"
   refine⟨_,De hp e7,_,Dc hp e7 Bc,_,_,?_,rfl,rfl⟩
   rw[nX,List.take_succ,yL,kN,aP hi,aP hj];rfl
  ·rintro δ ⟨o1,o2,rfl⟩
   refine hU _ ?_
   walk_at"l3"
   have e:(cR (aq xs) (aq ys)).length=xs.length:=by unfold cR;rw[gM,e5,e5];omega
   rw[e,sO (by rw[gM];omega)]
   exact q
noncomputable abbrev Yg(K:Frag):bC:=λds Q=>∃(C:Addr) (p:Nat) (xs ys:List Int),ds=[uE C p,.lst false (aL xs),.lst false (aL ys)]/\eJ K C/\cG K C "prime"/\0<p/\xs.length=ys.length/\xs.length<=64/\(∀x∈xs,0<=x/\x<64)/\(∀y∈ys,0<=y/\y<64)/\Q (.int ((dh (· * ·) xs ys).sum%p))
theorem aK9(T:Txt K mg t):aU P w K mg base bf 1 t.Lj t.Lk ["self","xs","ys"] (bA (Yg K)):=by
 refine bJ T.aM3 aK0 ?_ ?_
 ·intro ds Q h
  obtain⟨C,p,xs,ys,rfl,hC,hn,hp,hl,kJ,hx,hy,q⟩:=h<;>rfl
 ·intro aK A outer s H E hr
  refine⟨_,(aG (aZ (aI dk (ae (fj (cR3 rfl) (by rfl) T.d65 cE5 (af (ae (dr [] ["x","y"] rfl (mT rfl T.nh (af (bv 1) (af (bv 2) au))) (λ_ _ _ _=>(gC (i1:=0) (i2:=1) rfl (show(["x","y"]:List Str).Nodup by decide +kernel) rfl (ao (lookup_relabel_local rfl)) rfl (ao (lookup_relabel_local rfl)) (by decide) (by decide) (bh (lookup_relabel_local rfl)) (bh (lookup_relabel_local rfl)))) (λ_ _ _ _=>dE) (λ_ _ _ _=>(aI gA (bv 0) (bv 1))) rfl trivial (λ_=>by repeat' (first | exact trivial | refine⟨.inl rfl,?_⟩ | refine⟨.inr (.inl rfl),?_⟩ | refine⟨.inr (.inr ⟨_,rfl⟩),?_⟩)) (λ_=>trivial) rfl (by decide +kernel))) au))) (j5 (K:=K) (bv 0))))),λds Q h=>?_⟩
  obtain⟨C,p,xs,ys,rfl,hC,hn,hp,hl,kJ,hx,hy,q⟩:=h
  walk_at"l3"
  refine⟨_,_,rfl,rfl,?_⟩
  refine Ig (xs.zip ys) (λz=>D.tup [.int z.1,.int z.2]) (λz=>D.int (z.1*z.2)) (Vi xs ys) (λa b h=>by injection h with h;simp at h;exact BJ h.1 h.2) (λz hz=>?_) Ih (.inr λ_ _=>rfl) (by rw[vg,sL];omega) ?_
  ·have z1:=hx z.1 (sC hz).1
   have z2:=hy z.2 (sC hz).2
   walk_at"l3"
   exact iq.ok (.inr ⟨by omega,by omega⟩)
  ·refine⟨(xs.zip ys).map λz=>z.1*z.2,?_,?_⟩
   ·unfold aL;rw[cm];rfl
   ·walk_at"l3"
    refine⟨C,_,_,.int p,rfl,hC,hn,rfl,?_⟩
    refine⟨by omega,?_⟩
    rw[List.map_zip_eq_zipWith]
    exact q
theorem cT4(T:Txt K mg t){m:Bool × Nat}(hm:m∈aD):∃C ns zs sp,fD t.aV t.aW m=.obj C ns zs/\rO P w K mg base 1 "dot" C sp/\("dot":Str) ∉ ns/\∀(xs ys:List Nat) (Q:D->Prop),xs.length=ys.length->xs.length<=64->(∀x∈xs,x<aa m)->(∀y∈ys,y<aa m)->Q (.int (gd m xs ys:Nat))->sp [.obj C ns zs,.lst false (aq xs),.lst false (aq ys)] Q:=by
 have hF:=cJ hm
 obtain⟨k,n⟩:=m
 cases k with
 | true=>exact⟨_,_,_,Yf K,rfl,⟨T.gw,_,_,_,T.AJ,aO5 T,T.aP1⟩,by decide,λxs ys Q hl kJ hx hy q=>⟨_,n,xs,ys,rfl,T.gw,T.pP,vZ hm,hl,kJ,hx,hy,q⟩⟩
 | false =>
  have kI:n<=64:=hF.hi
  have l2:2<=n:=hF.lo
  have cx:∀l:List Nat,(∀x∈l,x<aa (false,n))->∀z∈l.map (λ(n:Nat)=>(n:Int)),0<=z/\z<64:=λl h z hz=>by
   obtain⟨x,hx,rfl⟩:=bE.mp hz
   have:x<n:=h x hx
   omega
  refine⟨_,_,_,Yg K,rfl,⟨T.hW,_,_,_,T.AU,aK9 T,T.aM4⟩,by decide,λxs ys Q hl kJ hx hy q=>⟨_,n,xs.map (λ(n:Nat)=>(n:Int)),ys.map (λ(n:Nat)=>(n:Int)),rfl,T.hW,T.m9,by omega,by rw[bB,bB];exact hl,by rw[bB];exact kJ,cx xs hx,cx ys hy,?_⟩⟩
  have e:((gd (false,n) xs ys:Nat):Int)=(dh (· * ·) (xs.map λ(n:Nat)=>(n:Int)) (ys.map λ(n:Nat)=>(n:Int))).sum%n:=by
   unfold gd
   rw[Vn (by omega) _ _ (by omega),Rz,Vo,Vp,qe]
  rw[<-e];exact q
noncomputable abbrev aU8(t:gU):bC:=λds Q=>∃(m:Bool × Nat) (G:List (List Nat)) (c:List Nat),ds=[fD t.aV t.aW m,.lst false (aH false G),.lst false (aq c)]/\m∈aD/\RT (aa m) c.length G/\AllLt (aa m) c/\c.length<=64/\G.length<=64/\Q (.lst true (aq (G.map λr=>gd m r c)))
theorem aU9(T:Txt K mg t):aU P w K mg base bf 2 t.Ll t.Lm ["field","table","column"] (bA (aU8 t)):=by
 refine bJ T.Xr aS6 ?_ ?_
 ·intro ds Q h
  obtain⟨m,G,c,rfl,hm,hR,hc,gh,hG,q⟩:=h<;>rfl
 ·intro aK A outer s H E hr
  refine⟨_,(aG (aZ (dr [("column",2),("field",0)] ["row"] rfl (gb (bv 1)) (λ_ _ _ _=>(cI (i:=2) (show(["column","field","row"]:List Str).Nodup by decide +kernel) rfl (ao (lookup_relabel_local rfl)) (by decide) (bh (lookup_relabel_local rfl)))) (λ_ _ _ _=>dE) (λ_ _ _ _=>(rS (P:=P) (w:=w) (K:=K) (mg:=mg) (base:=base) (n:=1) (bv 1) (hr.mono (by decide)) (af (bv 2) (af (bv 0) au)))) rfl ⟨rfl,⟨rfl,trivial⟩⟩ (λ_=>by repeat' (first | exact trivial | refine⟨.inl rfl,?_⟩ | refine⟨.inr (.inl rfl),?_⟩ | refine⟨.inr (.inr ⟨_,rfl⟩),?_⟩)) (λ_=>⟨⟨rfl,.inl rfl,.inl rfl,_,rfl,rfl⟩,⟨⟨rfl,.inl rfl,.inl rfl,_,rfl,rfl⟩,trivial⟩⟩) rfl (by decide +kernel)))),λds Q h=>?_⟩
  obtain⟨m,G,c,rfl,hm,hR,hc,gh,hG,q⟩:=h
  have dJ:=(cJ hm).lo
  obtain⟨C,ns,xs,sp,e1,e2,e3,e4⟩:=cT4 (P:=P) (w:=w) (base:=base) T hm
  walk_at"l3"
  refine eA G (λr=>D.lst false (aq r)) (λr=>D.int ((gd m r c:Nat):Int)) (by rw[dm];rfl) (λa b h=>ph a b h) (λr bq=>?_) (.inr λr _=>rfl) (by rw[sL];omega) ?_
  ·walk_at"l3"
   exact⟨C,ns,xs,sp,e1,e2,e3,e4 _ _ _ (hR r bq).1 (by rw[(hR r bq).1];exact gh) (hR r bq).2 hc rfl⟩
  ·rw[cC,cm]at q
   exact q
theorem Yh(m:Bool × Nat)(p:Nat):∀(l:List Nat) (cs:List (List Nat)),jj m cs (l++[p])=if nul ((jj m cs l).getD p [])=true then jj m cs l else cy m ((jj m cs l).getD p []) (jj m cs l)
 | [],_=>rfl
 | q::l,cs=>Yh m p l (if nul (cs.getD q [])=true then cs else cy m (cs.getD q []) cs)
theorem Mu(o:Bool){T:List (List Nat)}{i:Nat}(h:i<T.length):eK (aH o T) (i:Int)=some (.lst o (aq (T.getD i []))):=by
 rw[uM o h,aQ,aP h];rfl
noncomputable abbrev aV0(t:gU)(P:Program)(w:World)(K:Frag)(mg:Str->Option Value)(base:Heap):bC:=λds Q=>∃(m:Bool × Nat) (cs:List (List Nat)) (aM:List Nat) (h:Nat),ds=[fD t.aV t.aW m,.lst false (aH false cs),.lst false (aq aM)]/\m∈aD/\h<=64/\RT (aa m) h cs/\(∀p∈aM,p<cs.length)/\cs.length<=1000/\aM.length<=1000/\∀o,Q (.lst o (aH o (jj m cs aM)))
theorem aV1(T:Txt K mg t):aU P w K mg base bf 4 t.Ln t.Lo ["field","columns","lost"] (bA (aV0 t P w K mg base)):=by
 refine bJ T.Xs Jq ?_ ?_
 ·intro ds Q h
  obtain⟨m,cs,aM,h,rfl,hm,hh,e8,hl,hc,Bg,q⟩:=h<;>rfl
 ·intro aK A outer s H E hr
  refine⟨_,(aF (fQ eR rfl (Cv (cV (bv 2))) (cI (i:=3) Jq.nd rfl (ao rfl))
    (aG (cu (qy (jC (ae (aS ((D3 T).mono (by decide)) hr rfl T.DP T.AB.kp T.DQ aN (af (bK (bv 1) (bv 3) (λ_ _=>rfl)) au))))) (aG (aX (i:=1) Jq.nd rfl (ao rfl) (aS ((Ml T).mono (by decide)) hr rfl T.LV T.DR.kp T.LW aN (af (bv 0) (af (bK (bv 1) (bv 3) (λ_ _=>rfl)) (af (bv 1) au)))))) cH)))
   (aG (aZ (em 1)))),λds Q h=>?_⟩
  obtain⟨m,cs,aM,h,rfl,hm,hh,e8,hl,hc,Bg,q⟩:=h
  refine aE λU hU=>?_
  walk_at"l3"
  refine fP.mk (λj δ=>∃(o:Bool) (o1:Option D),δ=[some (fD t.aV t.aW m),some (D.lst o (aH o (jj m cs (aM.take j)))),some (D.lst false (aq aM)),o1]) ⟨false,_,rfl⟩ ?_ ?_
  ·rintro j d δ hd ⟨o,o1,rfl⟩
   obtain⟨h1,rfl⟩:=cf2 hd
   clear hd hU
   have hp:=hl _ (cM h1)
   obtain⟨i1,⟨h',i2,i3⟩,_⟩:=Wi hm (ps:=aM.take j) e8 λp hp=>hl p (nJ hp)
   have sn:=Yh m aM[j] (aM.take j) cs
   rw[List.take_append_getElem h1]at sn
   rw[<-i1]at hp hc
   generalize jj m cs (aM.take j)=C at *
   obtain⟨c1,c2⟩:=i3.at hp
   walk_at"l3"
   refine⟨_,Mu o hp,C.getD aM[j] [],by rw[jH],by omega,by rw[show(D.bl _).fr=true from rfl,ft],_,rfl,?_⟩
   cases nc:nul (C.getD aM[j] [])with
   | true =>
    rw[if_pos nc]at sn
    rw[if_neg (by decide)]
    exact⟨o,_,⟨rfl,by rw[sn]⟩,rfl⟩
   | false =>
    rw[if_neg (by rw[nc];decide)]at sn
    rw[if_pos (by decide)]
    refine⟨_,Mu o hp,m,C.getD aM[j] [],C,by rw[jH],hm,nc,by omega,c2,by rw[c1];exact i3,hc,?_,true,_,by rw[sn],rfl⟩
    rw[eT,pk,ka,ft]
  ·rintro δ ⟨o,o1,rfl⟩
   refine hU _ ?_
   walk_at"l3"
   rw[sN]
   exact q o
noncomputable abbrev Bl(t:gU)(P:Program)(w:World)(K:Frag)(mg:Str->Option Value)(base:Heap)(n:Nat):bC:=λds Q=>∃(m:Bool × Nat) (cs:List (List Nat)) (d:List Nat) (k h:Nat),ds=[fD t.aV t.aW m,.lst false (aH false cs),.lst false (aq d),.int k]/\m∈aD/\k<n/\k<=64/\h<=64/\RT (aa m) h cs/\cs.length<=900/\d.length=h/\AllLt (aa m) d/\Q (m5 (fH m k cs d))
theorem Yi{t:gU}{P:Program}{w:World}{K:Frag}{mg:Str->Option Value}{base:Heap}{ds:List D}(Q:D->Prop)(h:Bl t P w K mg base 0 ds Q):False:=by
 obtain⟨_,_,_,_,_,_,_,h,_⟩:=h
 exact absurd h (FL _)
theorem bq7(T:Txt K mg t)(n:Nat)(ih:aU P w K mg base bf (4+n) t.yd t.ye ["field","columns","due","most"] (bA (Bl t P w K mg base n))):aU P w K mg base bf (4+(n+1)) t.yd t.ye ["field","columns","due","most"] (bA (Bl t P w K mg base (n+1))):=by
 refine bJ (k:=4+n) T.L4 Av ?_ ?_
 ·intro ds Q h
  obtain⟨m,cs,d,k,h,rfl,hm,hk,eh2,hh,e8,hc,hd,ad,q⟩:=h<;>rfl
 ·intro aK A outer s H E hr
  refine⟨_,(aF (cu (jC (ae (aS ((D3 T).mono (by omega)) hr rfl T.DP T.AB.kp T.DQ aN (af (bv 2) au)))) (aG (aZ (eM dD))) cH)
   (aF (cu (bR (fS (dF hr)) (bv 3) (ae aA) (bO _)) (aG (aZ eZ)) cH)
   (aF (fQ eR rfl (uz rfl T.uW (af (bv 1) au)) (gC (i1:=4) (i2:=5) rfl Av.nd rfl (bh rfl) rfl (ao rfl))
    (aG (cu (qy (jC (ae (aS ((D3 T).mono (by omega)) hr rfl T.DP T.AB.kp T.DQ aN (af (bv 5) au))))) (aF (aX (i:=6) Av.nd rfl (ao rfl) (zA (bR Ho (bv 3) (ae aA) (bO _)) (rJ (bv 1) (oO (ae (aI dy (bv 4) (ae aA)))) tP) (eM dD)))
     (aF (aX (i:=7) Av.nd rfl (ao rfl) (aS ((Ml T).mono (by omega)) hr rfl T.LV T.DR.kp T.LW aN (af (bv 0) (af (bv 5) (af (ae (aI dy (bv 6) (Ao (af (bv 2) au)))) au)))))
     (qF 7 (aF (aX (i:=8) Av.nd rfl (ao rfl) (aS ih hr rfl T.Xt T.L4.kp T.Xu aN (af (bv 0) (af (ae (rJ (bv 7) tP (oO (ae (Hv (ae aA)))))) (af (bK (bv 7) (ae (Hv (ae aA))) (λ_ _=>rfl)) (af (ae (aI gY (bv 3) (ae aA))) au))))))
     (aG (cu (bR Hq (bv 8) (ae eZ) (bO _)) (aG (aZ (aI dy (Ao (af (bv 4) au)) (ae (dr [("number",4)] ["k"] rfl (gb (bv 8)) (λ_ _ _ _=>(cI (i:=1) (show(["number","k"]:List Str).Nodup by decide +kernel) rfl (ao (lookup_relabel_local rfl)) (by decide) (bh (lookup_relabel_local rfl)))) (λ_ _ _ _=>dE) (λ_ _ _ _=>(aI dy (ae (aI dy (bv 0) (ae aA))) (bv 1))) rfl ⟨rfl,trivial⟩ (λ_=>by repeat' (first | exact trivial | refine⟨.inl rfl,?_⟩ | refine⟨.inr (.inl rfl),?_⟩ | refine⟨.inr (.inr ⟨_,rfl⟩),?_⟩)) (λ_=>⟨⟨rfl,.inl rfl,.inl rfl,_,rfl,rfl⟩,trivial⟩) rfl (by decide +kernel)))))) cH)))))) cH)))
   (aG (aZ eZ))))),λds Q h=>?_⟩
  obtain⟨m,cs,d,k,h,rfl,hm,hk,eh2,hh,e8,hc,hd,ad,q⟩:=h
  refine aE λU hU=>?_
  walk_at"l3"
  refine⟨d,rfl,by omega,_,rfl,?_⟩
  cases nd:nul d with
  | true =>
   rw[if_pos rfl]
   have e:fH m k cs d=some []:=by cases k<;>exact if_pos nd
   rw[e]at q
   exact⟨by decide,q⟩
  | false =>
  rw[if_neg (by decide)]
  have vJ:¬ nul d=true:=by rw[nd];decide
  refine hU _ ?_
  clear hU U
  refine aE λU hU=>?_
  walk_at"l3"
  cases k with
  | zero =>
   rw[if_pos (by rfl)]
   have e:fH m 0 cs d=none:=if_neg vJ
   rw[e]at q
   exact q
  | succ k =>
  rw[if_neg (by omega)]
  refine hU _ ?_
  clear hU U
  have en:fH m (k+1) cs d=(bg cs.length).findSome? λi=>if nul (cs.getD i [])=true then none else(fH m k (cy m (cs.getD i []) (cs.drop (i+1))) (p1 m (cs.getD i []) d)).map λS=>i::S.map (i+1 + ·):=if_neg vJ
  rw[en]at q
  clear en
  refine aE λU hU=>?_
  walk_at"l3"
  refine fP.mk (λj δ=>∃o1 o2 o3 o4 o5:Option D,(∀i,i<j->(if nul (cs.getD i [])=true then none else(fH m k (cy m (cs.getD i []) (cs.drop (i+1))) (p1 m (cs.getD i []) d)).map λS=>i::S.map (i+1 + ·))=none)/\δ=[some (fD t.aV t.aW m),some (D.lst false (aH false cs)),some (D.lst false (aq d)),some (D.int ((k+1:Nat):Int)),o1,o2,o3,o4,o5]) ⟨_,_,_,_,_,λi hi=>absurd hi (FL i),rfl⟩ ?_ ?_
  ·rintro j x δ hx ⟨o1,o2,o3,o4,o5,hn,rfl⟩
   obtain⟨h1,rfl⟩:=Ik hx
   have eg:cs[j]=cs.getD j []:=by rw[aQ,aP h1];rfl
   rw[eg]
   clear hx hU eg
   obtain⟨c1,c2⟩:=e8.at h1
   walk_at"l3"
   refine⟨cs.getD j [],rfl,by omega,_,rfl,?_⟩
   have more:∀y,(if nul (cs.getD j [])=true then none else(fH m k (cy m (cs.getD j []) (cs.drop (j+1))) (p1 m (cs.getD j []) d)).map λS=>j::S.map (j+1 + ·))=y->y=none->∀i,i<j+1->(if nul (cs.getD i [])=true then none else(fH m k (cy m (cs.getD i []) (cs.drop (i+1))) (p1 m (cs.getD i []) d)).map λS=>i::S.map (i+1 + ·))=none:=λy hy yo i hi=>by
    by_cases c:i<j
    ·exact hn i c
    ·obtain rfl:i=j:=by omega
     exact hy.trans yo
   cases nc:nul (cs.getD j [])with
   | true =>
    rw[if_neg (by decide)]
    exact⟨_,_,_,_,_,more _ (if_pos nc) rfl,rfl,rfl,rfl,rfl,rfl⟩
   | false =>
    rw[if_neg (by rw[nc];decide)]at more
    rw[if_pos (by decide)]
    refine aE λU hU=>?_
    walk_at"l3"
    have fin:∀B:List (List Nat),fH m k (cy m (cs.getD j []) B) (p1 m (cs.getD j []) d)=fH m k (cy m (cs.getD j []) (cs.drop (j+1))) (p1 m (cs.getD j []) d)->RT (aa m) h B->B.length<=900->U [some (fD t.aV t.aW m),some (D.lst false (aH false cs)),some (D.lst false (aq d)),some (D.int ((k+1:Nat):Int)),some (D.int j),some (D.lst false (aq (cs.getD j []))),some (D.lst true (aH false B)),o4,o5]:=by
     intro B eB hB lB
     refine hU _ ?_
     clear hU U
     refine aE λU hU=>?_
     walk_at"l3"
     refine⟨by decide,by omega,m,cs.getD j [],B++[d],?_,hm,nc,by omega,c2,by rw[c1];exact hB.app λx hx=>by rw[dP.mp hx];exact⟨hd,ad⟩,by rw[dO];exact eP (Nat.add_le_add_right lB 1) (by decide),by rw[eT,pk];rfl,hU _ ?_⟩
     ·rw[show [D.lst false (aq d)]=aH false [d] from rfl,uK,dm]
     clear hU U
     refine⟨_,rfl,?_⟩
     obtain⟨x1,x2⟩:=wu hm c1 hd ad nc
     have hF:=wo hm c1 hB nc
     have lF:=rX m (cs.getD j []) B
     rw[show cy m (cs.getD j []) (B++[d])=cy m (cs.getD j []) B++[p1 m (cs.getD j []) d] by rw[Jc,fM];rfl,dj,dm]
     have got:∀S,fH m k (cy m (cs.getD j []) B) (p1 m (cs.getD j []) d)=some S->Q (m5 (some (j::S.map (j+1 + ·)))):=λS e=>by
      rw[Wt (b:=j::S.map (j+1 + ·)) hn (by rw[if_neg (by rw[nc];decide),<- eB,e];rfl) h1]at q
      exact q
     have az:=λe:fH m k (cy m (cs.getD j []) B) (p1 m (cs.getD j []) d)=none=>more none (by rw[<-eB,e];rfl) rfl
     clear q more hn eB
     generalize cy m (cs.getD j []) B=F at got az hF lF ⊢
     generalize p1 m (cs.getD j []) d=x at got az x1 x2 ⊢
     refine aE λU hU=>?_
     walk_at"l3"
     refine⟨_,bW7 false F x,m,F,x,k,h-1,by rw[cg3,jH,show((k+1:Nat):Int)-1=(k:Int) by omega],hm,by omega,by omega,by omega,hF,by omega,x1,x2,wB _,hU _ ?_⟩
     clear hU U
     walk_at"l3"
     cases ex:fH m k F x with
     | none =>
      rw[if_neg (by exact fW)]
      exact⟨_,_,_,_,_,az ex,rfl,rfl,rfl,rfl,rfl⟩
     | some S =>
      have got:=got S ex
      have lS:=(Jf hm hF x1 x2 ex).1
      rw[if_pos (by exact rfl)]
      refine⟨by decide,aq S,rfl,eA S (λ(i:Nat)=>D.int (i:Int)) (λx=>D.int ((j+1+x:Nat):Int)) (mU S) g5 (λx hx=>?_) (.inr λ_ _=>rfl) (by rw[sL];omega) ?_⟩
      ·walk_at"l3"
       omega
      ·dsimp only
       rw[show(S.map λx=>D.int ((j+1+x:Nat):Int))=aq (S.map (j+1 + ·)) by rw[cC,cm];rfl]
       refine⟨⟨by rw[e5,bB];show 1+_<=_;omega,rfl,kF _⟩,?_⟩
       rw[show [D.int (j:Int)]=aq [j] from rfl,mW]
       exact got
    clear hU
    split
    ·rw[show((j:Int)+1)=((j+1:Nat):Int) by omega,CL]
     exact fin _ rfl (e8.drop _) (by rw[iH];omega)
    ·refine⟨by decide,fin [] ?_ (λx hx=>by cases hx) (by decide)⟩
     rw[show k=0 by omega]
     rfl
  ·rintro δ ⟨o1,o2,o3,o4,o5,hn,rfl⟩
   refine hU _ ?_
   walk_at"l3"
   rw[uw,jc]at hn
   rw[Ws hn]at q
   exact q
theorem Yj(T:Txt K mg t):∀n:Nat,aU P w K mg base bf (4+n) t.yd t.ye ["field","columns","due","most"] (bA (Bl t P w K mg base n))
 | 0=>⟨λ_ _ _ _ ⟨_,_,_,_,_,h,_⟩=>(Yi _ h).elim,λ_ _ _ _ _ _ _ _ _ _ _ _ _ ⟨_,_,_,_,_,h,_⟩=>(Yi _ h).elim⟩
 | n+1=>bq7 T n (Yj T n)
theorem aL0(T:Txt K mg t):aU P w K mg base bf 12 t.yd t.ye ["field","columns","due","most"] (bA (Bl t P w K mg base 8)):=Yj T 8
noncomputable abbrev aO6(t:gU)(P:Program)(w:World)(K:Frag)(mg:Str->Option Value)(base:Heap):bC:=λds Q=>∃(m:Bool × Nat) (T:List (List Nat)) (aM sums:List Nat) (k:Nat),ds=[fD t.aV t.aW m,.lst false (aH false T),.lst false (aq aM),.lst false (aq sums),.int k]/\m∈aD/\0<ah T/\ah T<=64/\RT (aa m) (ah T) T/\T.length<=64/\(∀p∈aM,p<ah T)/\aM.length<=64/\sums.length=T.length/\AllLt (aa m) sums/\k<=7/\Q (m5 (uR m T aM sums k))
theorem aO7(T:Txt K mg t):aU P w K mg base bf 13 t.Lp t.Lq ["field","table","lost","sums","most"] (bA (aO6 t P w K mg base)):=by
 refine bJ T.Xv DK ?_ ?_
 ·intro ds Q h
  obtain⟨m,T,aM,sums,k,rfl,hm,hw,D4,hT,u0,hl,Bg,ls,as,hk,q⟩:=h<;>rfl
 ·intro aK A outer s H E hr
  refine⟨_,(aF (aX (i:=5) DK.nd rfl (bh rfl) (aS ((aV1 T).mono (by decide)) hr rfl T.d45 T.Xs.kp T.d46 aN (af (bv 0) (af (cK9 (Vs (aS ((XO T).mono (by decide)) hr rfl T.W7 T.LU.kp T.W8 aN (af (bv 1) au)) (eM (fB (em 3) dD)))) (af (bv 2) au)))))
   (qF 5 (aF (aX (i:=6) DK.nd rfl (bh rfl) (dr [("lost",2)] ["place"] rfl (kA rfl T.iG (af (ae (aI gY (ae (fj (gZ) (by rfl) T.ib gW (af (bv 5) au))) (ae aA))) au)) (λ_ _ _ _=>(cI (i:=1) (show(["lost","place"]:List Str).Nodup by decide +kernel) rfl (ao (lookup_relabel_local rfl)) (by decide) (bh (lookup_relabel_local rfl)))) (λ_ _ _ _=>(zH (bR Vu (bv 1) (bv 0) (by with_unfolding_all rfl)))) (λ_ _ _ _=>(cV (bv 1))) rfl ⟨rfl,trivial⟩ (λ_=>by repeat' (first | exact trivial | refine⟨.inl rfl,?_⟩ | refine⟨.inr (.inl rfl),?_⟩ | refine⟨.inr (.inr ⟨_,rfl⟩),?_⟩)) (λ_=>⟨⟨rfl,.inl rfl,.inl rfl,_,rfl,rfl⟩,trivial⟩) rfl (by decide +kernel)))
   (qF 6 (aF (aX (i:=7) DK.nd rfl (ao rfl) (aS ((aL0 T).mono (by decide)) hr rfl T.Xt T.L4.kp T.Xu aN (af (bv 0) (af (ae (dr [("columns",5)] ["place"] rfl (gb (bv 6)) (λ_ _ _ _=>(cI (i:=1) (show(["columns","place"]:List Str).Nodup by decide +kernel) rfl (ao (lookup_relabel_local rfl)) (by decide) (bh (lookup_relabel_local rfl)))) (λ_ _ _ _=>dE) (λ_ _ _ _=>(cV (bK (bv 0) (bv 1) (λ_ _=>rfl)))) rfl ⟨rfl,trivial⟩ (λ_=>by repeat' (first | exact trivial | refine⟨.inl rfl,?_⟩ | refine⟨.inr (.inl rfl),?_⟩ | refine⟨.inr (.inr ⟨_,rfl⟩),?_⟩)) (λ_=>⟨⟨rfl,.inl rfl,.inl rfl,_,rfl,rfl⟩,trivial⟩) rfl (by decide +kernel))) (af (bK (bv 5) (ae (Hv (ae aA))) (λ_ _=>rfl)) (af (bv 4) au))))))
   (aG (aZ (zA (bR qY (bv 7) (ae eZ) (bO _)) eZ (dr [("others",6)] ["number"] rfl (gb (bv 7)) (λ_ _ _ _=>(cI (i:=1) (show(["others","number"]:List Str).Nodup by decide +kernel) rfl (ao (lookup_relabel_local rfl)) (by decide) (bh (lookup_relabel_local rfl)))) (λ_ _ _ _=>dE) (λ_ _ _ _=>(cV (bK (bv 0) (bv 1) (λ_ _=>rfl)))) rfl ⟨rfl,trivial⟩ (λ_=>by repeat' (first | exact trivial | refine⟨.inl rfl,?_⟩ | refine⟨.inr (.inl rfl),?_⟩ | refine⟨.inr (.inr ⟨_,rfl⟩),?_⟩)) (λ_=>⟨⟨rfl,.inl rfl,.inl rfl,_,rfl,rfl⟩,trivial⟩) rfl (by decide +kernel)))))))))),λds Q h=>?_⟩
  obtain⟨m,T,aM,sums,k,rfl,hm,hw,D4,hT,u0,hl,Bg,ls,as,hk,q⟩:=h
  have dJ:=(cJ hm).lo
  obtain⟨t1,t2,t3⟩:=wk (N:=aa m) (by omega) hw hT
  refine aE λU hU=>?_
  walk_at"l3"
  refine⟨T,rfl,by omega,λr hr=>(hT r hr).1,by omega,?_⟩
  have Mv:(aH true (cK T)++[D.lst false (aq sums)]).map D.sh=aH false (cK T++[sums]):=by
   rw[fM,dm,show [D.lst false (aq sums)].map D.sh=aH false [sums] by rw[List.map_singleton,jH];rfl,uK]
  have lc:(cK T++[sums]).length=ah T+1:=by rw[dO,t1];rfl
  obtain⟨i1,h',i2,i3,i4,i5,i6,_⟩:=Ji hm hw hT hl ls as
  refine⟨by decide,_,_,rfl,rfl,by rw[jc,t1];show ah T+1<=_;omega,m,cK T++[sums],aM,T.length,by rw[Mv,dm],hm,u0,t3.app λx hx=>by rw[dP.mp hx];exact⟨ls,as⟩,λp hp=>by rw[lc];have:=hl p hp;omega,by omega,by omega,λo=>⟨by rw[Mv,mZ];rfl,hU _ ?_⟩⟩
  clear hU U Mv
  refine⟨_,rfl,?_⟩
  rw[dj,dm]
  have eC:wC m T aM sums=jj m (cK T++[sums]) aM:=rfl
  rw[<-eC]
  unfold uR at q
  generalize wC m T aM sums=C at i1 i3 i4 i5 i6 q ⊢
  clear eC
  refine aE λU hU=>?_
  walk_at"l3"
  refine⟨⟨by omega,by omega⟩,Af (bg (ah T)) (λ(i:Nat)=>D.int (i:Int)) (λ(i:Nat)=>D.int (i:Int)) (λp=>decide (p ∉ aM)) (uJ _ (by omega)) g5 (λj hj=>?_) (.inr λ_ _ _=>rfl) (by rw[dQ,sL];omega) ?_⟩
  ·walk_at"l3"
   refine⟨_,rfl,?_,λ_=>trivial⟩
   rw[Im,List.contains_eq_mem,decide_not]
  rw[show((bg (ah T)).filter λp=>decide (p ∉ aM))=cP (ah T) aM from rfl,<- cC]
  dsimp only[gP,gO]
  have ol:(cP (ah T) aM).length<=ah T:=eP (FP ..) (by rw[dQ];exact bN _)
  refine hU _ ?_
  clear hU U
  refine⟨_,rfl,?_⟩
  rw[jH]
  refine aE λU hU=>?_
  dsimp only[mI,mH,mG,ku,mF,nM,nL,gP,gO]
  unfold mJ ou
  dsimp only[ku,nM,nL,iU]
  refine⟨_,rfl,eA (cP (ah T) aM) (λ(i:Nat)=>D.int (i:Int)) (λp=>D.lst false (aq (C.getD p []))) (mU _) g5 (λp hp=>?_) (.inl ?_) (by rw[sL];omega) ?_⟩
  ·have:=(wz.mp hp).1
   walk_at"l3"
   exact⟨_,Mu false (by omega),by rw[fi,kF];rfl,rfl⟩
  ·show((D.lst false (aq _)).pl&&((D.lst false (aH false C)).pl&&true))=true
   rw[fi,fi,kF,mZ];rfl
  rw[show((cP (ah T) aM).map λp=>D.lst false (aq (C.getD p [])))=aH false ((cP (ah T) aM).map λp=>C.getD p []) by unfold aH;rw[cm];rfl]
  have la:=Wr false i1
  generalize C.getD (ah T) []=x at i5 i6 q la ⊢
  generalize eO:(cP (ah T) aM).map (λp=>C.getD p [])=O at i4 q ⊢
  have lO:O.length=(cP (ah T) aM).length:=by rw[<-eO,bB]
  walk_at"l3"
  refine⟨_,la,m,O,x,k,h',by rw[jH],hm,by omega,by omega,by omega,i4,by omega,i5,i6,wB _,hU _ ?_⟩
  clear hU U
  cases en:fH m k O x with
  | none =>
   rw[en]at q
   walk_at"l3"
   rw[if_pos (by exact rfl)]
   exact q
  | some S =>
   rw[en]at q
   obtain⟨s1,s2,s3,_⟩:=Jf hm i4 i5 i6 en
   rw[show m5 (some S)=D.lst true (aq S) from rfl]
   walk_at"l3"
   refine eA S (λ(i:Nat)=>D.int (i:Int)) (λi=>D.int (((cP (ah T) aM).getD i 0:Nat):Int)) (mU S) g5 (λi hi=>?_) (.inr λ_ _=>rfl) (by rw[sL];omega) ?_
   ·have:=s3 i hi
    walk_at"l3"
    exact⟨_,jG (by omega) (by omega),rfl,by rw[fX]⟩
   ·rw[show(S.map λi=>D.int (((cP (ah T) aM).getD i 0:Nat):Int))=aq (S.map λi=>(cP (ah T) aM).getD i 0) by rw[cC,cm];rfl]
    exact q
theorem Yk(m:Bool × Nat)(p x:Nat):∀{ps xs l:List Nat},xs.length=ps.length->eU m l (ps++[p]) (xs++[x])=(eU m l ps xs).set p (bG m (cf (eU m l ps xs) p) x)
 | [],[],l,_=>by simp only[nC,eU]
 | _::ps,_::xs,l,h=>by
  simp only[nK,eU]
  exact Yk m p x (by simpa using h)
theorem Yl{m:Bool × Nat}(hm:m∈aD):∀{ps xs l:List Nat},AllLt (aa m) l->AllLt (aa m) xs->AllLt (aa m) (eU m l ps xs)/\(eU m l ps xs).length=l.length
 | [],_,l,h,_=>by unfold eU;exact⟨h,rfl⟩
 | _::_,[],l,h,_=>by unfold eU;exact⟨h,rfl⟩
 | p::ps,x::xs,l,hl,hx=>by
  rw[eU]
  have:=Yl hm (ps:=ps) (xs:=xs) (l:=l.set p (bG m (cf l p) x)) (λa ha=>by
   rcases yG ha with h1 | rfl
   ·exact hl a h1
   ·exact(fE hm (bY hm hl p) (hx x fU)).2.1) λa ha=>hx a (dZ _ ha)
  rw[nB]at this
  exact this
noncomputable abbrev aV2(cb cp:Addr):bC:=λds Q=>∃(m:Bool × Nat) (l ps xs:List Nat),ds=[fD cb cp m,.lst false (aq l),.lst false (aq ps),.lst false (aq xs)]/\m∈aD/\AllLt (aa m) l/\AllLt (aa m) xs/\xs.length=ps.length/\(∀p∈ps,p<l.length)/\l.length<=1000/\ps.length<=1000/\Q (.lst true (aq (eU m l ps xs)))
theorem aV3(T:Txt K mg t):aU P w K mg base bf 2 t.Lr t.Lu ["field","word","places","signs"] (bA (aV2 t.aV t.aW)):=by
 refine bJ T.Xw Jr ?_ ?_
 ·intro ds Q h
  obtain⟨m,l,ps,xs,rfl,hm,hl,hx,tN,hp,Bb,Ma,q⟩:=h<;>rfl
 ·intro aK A outer s H E hr
  refine⟨_,(aF (aX (i:=4) Jr.nd rfl (ao rfl) (CD (CF) (by rfl) T.uX tG (af (bv 1) au)))
   (aF (fQ eR rfl (mT rfl T.nh (af (bv 2) (af (bv 3) au))) (gC (i1:=5) (i2:=6) rfl Jr.nd rfl (ao rfl) rfl (ao rfl))
    (aG (zP (i:=4) rfl (by first | exact ao rfl | exact bh (ao rfl)) (rS (P:=P) (w:=w) (K:=K) (mg:=mg) (base:=base) (n:=1) (bv 0) (hr.mono (by decide)) (af (bK (bv 4) (bv 5) (λ_ _=>rfl)) (af (bv 6) au))) (bv 5))))
   (aG (aZ (em 4))))),λds Q h=>?_⟩
  obtain⟨m,l,ps,xs,rfl,hm,hl,hx,tN,hp,Bb,Ma,q⟩:=h
  refine aE λU hU=>?_
  walk_at"l3"
  refine hU _ ?_
  clear hU U
  refine aE λU hU=>?_
  walk_at"l3"
  refine⟨_,_,rfl,rfl,?_⟩
  refine fP.mk (λj δ=>∃o3 o4,δ=[some (fD t.aV t.aW m),some (D.lst false (aq l)),some (D.lst false (aq ps)),some (D.lst false (aq xs)),some (D.lst true (aq (eU m l (ps.take j) (xs.take j)))),o3,o4]) ⟨_,_,rfl⟩ ?_ ?_
  ·rintro j d δ hd ⟨o3,o4,rfl⟩
   obtain⟨h1,h2,rfl⟩:=cB0 hd
   clear hd
   walk_at"l3"
   obtain⟨C,ns,zs,sp,e1,e2,e3,e4⟩:=X8 (P:=P) (w:=w) (base:=base) T (bX m hm)
   obtain⟨b1,b2⟩:=Yl hm (ps:=ps.take j) (xs:=xs.take j) hl λa ha=>hx a (nJ ha)
   have Ym:=hp _ (cM h1)
   rw[<-b2]at Ym
   refine⟨C,ns,zs,sp,e1,e2,e3,.int ((eU m l (ps.take j) (xs.take j)).getD ps[j] 0:Nat),by rw[jG (by omega) (by omega),fX],?_⟩
   refine e4 _ _ _ ⟨rfl,_,_,rfl,Di (by omega) (by rw[e5,fX];exact Ym),_,_,?_,rfl,rfl⟩
   rw[(fE hm (b1.getD (by have:=(cJ hm).lo;omega) _) (hx _ (cM h2))).1,fX,Dj,mf,mf,aP h1,aP h2]
   exact congrArg aq (Yk m _ _ (by rw[gL,gL];omega)).symm
  ·rintro δ ⟨o3,o4,rfl⟩
   rw[ch7,sO (by omega),sO (by omega)]
   refine hU _ ?_
   walk_at"l3"
   exact q
noncomputable abbrev aW4:bC:=λds Q=>∃(G:List (List Nat)) (u:List Nat),ds=[.lst false (aH false G),.lst false (aq u)]/\G.length<=1000/\(∀r∈G,r.length<=1000)/\Q (.lst true (aH true (cW G u)))
theorem aW5(T:Txt K mg t):aU P w K mg base bf 1 t.Lw t.Lx ["table","due"] (bA (aW4 )):=by
 refine bJ T.Xx aV5 ?_ ?_
 ·intro ds Q h
  obtain⟨G,u,rfl,hG,hr,q⟩:=h<;>rfl
 ·intro aK A outer s H E hr
  refine⟨_,(aG (aZ (dr [] ["row","x"] rfl (mT rfl T.nh (af (bv 0) (af (bv 1) au))) (λ_ _ _ _=>(gC (i1:=0) (i2:=1) rfl (show(["row","x"]:List Str).Nodup by decide +kernel) rfl (ao (lookup_relabel_local rfl)) rfl (ao (lookup_relabel_local rfl)) (by decide) (by decide) (bh (lookup_relabel_local rfl)) (bh (lookup_relabel_local rfl)))) (λ_ _ _ _=>dE) (λ_ _ _ _=>(aI dy (bv 0) (Ao (af (bv 1) au)))) rfl trivial (λ_=>by repeat' (first | exact trivial | refine⟨.inl rfl,?_⟩ | refine⟨.inr (.inl rfl),?_⟩ | refine⟨.inr (.inr ⟨_,rfl⟩),?_⟩)) (λ_=>trivial) rfl (by decide +kernel)))),λds Q h=>?_⟩
  obtain⟨G,u,rfl,hG,hr,q⟩:=h
  walk_at"l3"
  refine⟨_,_,rfl,rfl,?_⟩
  refine Ig (G.zip u) (λz=>D.tup [.lst false (aq z.1),.int ((z.2:Nat):Int)]) (λz=>D.lst true (aq (z.1++[z.2]))) (ch1 G u) (λa b h=>?_) (λz hz=>?_) Ih (.inr λz _=>fC _) (by rw[vg,sL];omega) ?_
  ·injection h with h
   simp only[sU,D.lst.injEq,D.int.injEq,and_true,true_and]at h
   exact BJ (Vt h.1) (by omega)
  ·have hl:=hr _ (sC hz).1
   walk_at"l3"
   exact⟨by decide,by omega,mW z.1 [z.2]⟩
  ·unfold cW aH at q
   rw[vd]at q
   rw[yK,vd]
   exact q
noncomputable def Mw:Option (List Nat)->D
 | some l=>.lst true (aq l)
 | none=>.az
noncomputable abbrev aX8(t:gU)(P:Program)(w:World)(K:Frag)(mg:Str->Option Value)(base:Heap):bC:=λds Q=>∃(m:Bool × Nat) (G:List (List Nat)) (u:List Nat),ds=[fD t.aV t.aW m,.lst false (aH false G),.lst false (aq u)]/\m∈aD/\0<G.length/\G.length<=900/\u.length=G.length/\RT (aa m) (ah G) G/\AllLt (aa m) u/\ah G<=800/\(∀r∈cE m (cW G u),∃x∈r,x≠0)/\Q (Mw (wj m G u))
theorem aX9(T:Txt K mg t):aU P w K mg base bf 4 t.Ly t.Lz ["field","table","due"] (bA (aX8 t P w K mg base)):=by
 refine bJ T.Xy x8 ?_ ?_
 ·intro ds Q h
  obtain⟨m,G,u,rfl,hm,Yn,hG,hu,hR,Yo,hw,hn,q⟩:=h<;>rfl
 ·intro aK A outer s H E hr
  refine⟨_,(aF (aX (i:=3) x8.nd rfl (ao rfl) (aS ((Bd T).mono (by decide)) hr rfl T.Az T.yf.kp T.AA aN (af (bv 1) au)))
   (aF (aX (i:=4) x8.nd rfl (ao rfl) (aS ((Yc T).mono (by decide)) hr rfl T.Xg T.L0.kp T.Xh aN (af (bv 0) (af (ae (aS ((aW5 T).mono (by decide)) hr rfl T.d51 T.Xx.kp T.d52 aN (af (bv 1) (af (bv 2) au)))) au))))
   (aF (aX (i:=5) x8.nd rfl (ao rfl) (aS ((Mr T).mono (by decide)) hr rfl T.LX T.DS.kp T.LY aN (af (bv 4) au)))
   (qF 5 (qF 4 (aF (cu (bR cP5 (bv 3) (bv 5) (by with_unfolding_all rfl)) (aG (aZ eZ)) cH)
   (aF (aX (i:=6) x8.nd rfl (ao rfl) (aI gA (ae (eM (fB aA dD))) (bv 3)))
   (aF (fQ eR rfl (mT rfl T.nh (af (bv 5) (af (bv 4) au))) (gC (i1:=7) (i2:=8) rfl x8.nd rfl (ao rfl) rfl (ao rfl))
    (aG (zP (i:=6) rfl (by first | exact ao rfl | exact bh (ao rfl)) (cV (bK (bv 8) (bv 3) (λ_ _=>rfl))) (bv 7))))
   (aG (aZ (em 6))))))))))),λds Q h=>?_⟩
  obtain⟨m,G,u,rfl,hm,Yn,hG,hu,hR,Yo,hw,hn,q⟩:=h
  have dJ:=(cJ hm).lo
  refine aE λU hU=>?_
  walk_at"l3"
  refine⟨G,rfl,by omega,λr bq=>by rw[(hR r bq).1];omega,hU _ ?_⟩
  clear hU U
  refine aE λU hU=>?_
  walk_at"l3"
  refine⟨G,u,rfl,by omega,λr bq=>by rw[(hR r bq).1];omega,?_⟩
  obtain⟨w1,w2,w3⟩:=IG Yn hu hR Yo
  have w4:=w3
  rw[<-w1]at w4
  have I:=wc hm w4 (ah (cW G u))
  have il:(cE m (cW G u)).length<=900:=by
   show(je m (cW G u) (ah (cW G u))).1.length<=900
   have:=I.l
   omega
  have ia:RT (aa m) (ah G+1) (cE m (cW G u)):=by rw[<-w1];exact I.a
  have pU:∀X:List (List Nat),(D.lst true (aH true X)).fr=true:=λX=>by rw[eT,pk];rfl
  refine⟨m,cW G u,by rw[dj,dm],hm,by omega,w4,by omega,by rw[pU,ft],hU _ ?_⟩
  clear hU U
  unfold wj at q
  generalize cE m (cW G u)=R at il ia hn q ⊢
  refine aE λU hU=>?_
  walk_at"l3"
  refine⟨R,rfl,by omega,λr bq=>⟨by rw[(ia r bq).1];omega,hn r bq⟩,fC _,hU _ ?_⟩
  clear hU U
  refine⟨_,rfl,_,rfl,?_⟩
  rw[jH]
  simp only[gP,gO,dj,dm]
  refine aE λU hU=>?_
  walk_at"l3"
  refine⟨_,rfl,?_⟩
  have mc:=Im (ah G) (R.map aT)
  split
  ·rename_i h
   rw[decide_eq_true h]at mc
   rw[if_pos mc.symm]at q
   exact q
  rename_i h
  rw[decide_eq_false h]at mc
  rw[if_neg (by rw[<-mc];decide)]at q
  refine hU _ ?_
  clear hU U
  refine aE λU hU=>?_
  walk_at"l3"
  have er:aL (bH (ah G) 0)=aq (bH (ah G) 0):=by
   rw[cC,FR];unfold aL;rw[FR];rfl
  rw[fX,er]
  refine⟨by decide,⟨by omega,by omega,by omega⟩,hU _ ?_⟩
  clear hU U
  refine aE λU hU=>?_
  walk_at"l3"
  refine⟨_,_,rfl,rfl,?_⟩
  refine fP.mk (λk δ=>∃o3 o4,δ=[some (fD t.aV t.aW m),some (D.lst false (aH false G)),some (D.lst false (aq u)),some (D.int (ah G)),some (D.lst false (aH false R)),some (D.lst false (aq (R.map aT))),some (D.lst true (aq ((((R.map aT).zip R).take k).foldl (λx z=>x.set z.1 (z.2.getD (ah G) 0)) (bH (ah G) 0)))),o3,o4]) ⟨_,_,rfl⟩ ?_ ?_
  ·rintro k d δ hd ⟨o3,o4,rfl⟩
   obtain⟨hk,rfl⟩:=VA hd
   clear hd
   obtain⟨lw,la⟩:=ia _ (cM hk)
   have xl:=Io (λz:Nat × List Nat=>z.1) (λz=>z.2.getD (ah G) 0) (((R.map aT).zip R).take k) (bH (ah G) 0)
   rw[pY]at xl
   have hld:aT R[k]<ah G:=by
    obtain⟨x,hx,h0⟩:=hn _ (cM hk)
    have h1:aT R[k]<R[k].length:=FG ⟨x,hx,by simpa using h0⟩
    have h2:aT R[k]≠ah G:=λz=>by
     have:(R.map aT).contains (ah G)=true:=BK.mpr (bE.mpr ⟨R[k],cM hk,z⟩)
     rw[<-mc]at this;cases this
    omega
   walk_at"l3"
   refine⟨.int (R[k].getD (ah G) 0:Nat),by rw[jG (by omega) (by omega),fX],?_⟩
   refine⟨rfl,_,aT R[k],rfl,?_,_,_,?_,rfl,rfl⟩
   ·rw[Di (by omega) (by rw[e5,xl];omega)];rfl
   ·rw[Dj,mf,yL]
    have ez:((R.map aT).zip R)[k]?=some (aT R[k],R[k]):=by
     rw[yK,kN,bQ,aP hk];rfl
    rw[ez];rfl
  ·rintro δ ⟨o3,o4,rfl⟩
   refine hU _ ?_
   walk_at"l3"
   rw[show((R.map aT).zip R).take (cR (aq (R.map aT)) (aH false R)).length=(R.map aT).zip R from sO (by unfold cR;rw[vg,gM,e5,jc];exact bN _)]
   exact q
noncomputable abbrev aY0:bC:=λds Q=>∃(G:List (List Nat)) (F:List Nat) (N w:Nat),ds=[.lst false (aH false G),.lst false (aq F)]/\RT N w G/\(∀j∈F,j<w)/\G.length<=1000/\F.length<=1000/\Q (.lst true (aH true (ji G F)))
theorem aY1(T:Txt K mg t):aU P w K mg base bf 1 t.LA t.LB ["table","places"] (bA (aY0 )):=by
 refine bJ T.Xz aX4 ?_ ?_
 ·intro ds Q h
  obtain⟨G,F,N,wi,rfl,hR,hF,hG,hFl,q⟩:=h<;>rfl
 ·intro aK A outer s H E hr
  refine⟨_,(aG (aZ (dr [("places",1)] ["row"] rfl (gb (bv 0)) (λ_ _ _ _=>(cI (i:=1) (show(["places","row"]:List Str).Nodup by decide +kernel) rfl (bh rfl) (by decide) (ao rfl))) (λ_ _ _ _=>dE) (by exact λ_ _ _ _=>(dr [("row",1)] ["j"] rfl (gb (bv 0)) (λ_ _ _ _=>(cI (i:=1) (show(["row","j"]:List Str).Nodup by decide +kernel) rfl (ao (lookup_relabel_local rfl)) (by decide) (bh (lookup_relabel_local rfl)))) (λ_ _ _ _=>dE) (λ_ _ _ _=>(cV (bK (bv 0) (bv 1) (λ_ _=>rfl)))) rfl ⟨rfl,trivial⟩ (λ_=>by repeat' (first | exact trivial | refine⟨.inl rfl,?_⟩ | refine⟨.inr (.inl rfl),?_⟩ | refine⟨.inr (.inr ⟨_,rfl⟩),?_⟩)) (λ_=>⟨⟨rfl,.inl rfl,.inl rfl,_,rfl,rfl⟩,trivial⟩) rfl (by decide +kernel))) rfl ⟨rfl,trivial⟩ (λ_=>by repeat' (first | exact trivial | refine⟨.inl rfl,?_⟩ | refine⟨.inr (.inl rfl),?_⟩ | refine⟨.inr (.inr ⟨_,rfl⟩),?_⟩)) (λ_=>⟨⟨rfl,.inl rfl,.inl rfl,_,rfl,rfl⟩,trivial⟩) rfl (by decide +kernel)))),λds Q h=>?_⟩
  obtain⟨G,F,N,wi,rfl,hR,hF,hG,hFl,q⟩:=h
  walk_at"l3"
  refine eA G (λr=>D.lst false (aq r)) (λr=>D.lst true (aq (F.map λj=>r.getD j 0))) (by rw[dm];rfl) (λa b h=>ph a b h) (λr bq=>?_) (.inr λr _=>fC _) (by rw[sL];omega) ?_
  ·have hl:=(hR r bq).1
   walk_at"l3"
   refine eA F (λ(i:Nat)=>D.int (i:Int)) (λ(j:Nat)=>D.int ((r.getD j 0:Nat):Int)) (mU _) g5 (λj hj=>?_) (.inr λ_ _=>rfl) (by rw[sL];omega) ?_
   ·have:=hF j hj
    walk_at"l3"
    exact⟨.int (r.getD j 0:Nat),by rw[jG (by omega) (by omega),fX],rfl,rfl⟩
   ·rw[cC,cm];rfl
  ·unfold ji aH at q
   rw[cm]at q
   exact q
noncomputable abbrev aW6(t:gU)(P:Program)(w:World)(K:Frag)(mg:Str->Option Value)(base:Heap):bC:=λds Q=>∃(m:Bool × Nat) (T:List (List Nat)) (room:Nat) (y:List (Option Nat)),ds=[fD t.aV t.aW m,.lst false (aH false T),.int room,.lst false (df y)]/\m∈aD/\0<ah T/\ah T<=64/\RT (aa m) (ah T) T/\T.length<=64/\(∀a,some a∈y->a<aa m)/\y.length=ah T/\room<=15/\Q (m5 (jK m T room y))
theorem Mx(T:Txt K mg t):aU P w K mg base bf 14 t.LC t.LD ["field","table","room","word"] (bA (aW6 t P w K mg base)):=by
 refine bJ T.DT yb ?_ ?_
 ·intro ds Q h
  obtain⟨m,T,room,y,rfl,hm,hw,D4,hT,u0,hy,ly,ei6,q⟩:=h<;>rfl
 ·intro aK A outer s H E hr
  refine⟨_,(aF (aX (i:=4) yb.nd rfl (ao rfl) (aS ((aQ2 T).mono (by decide)) hr rfl T.d35 T.Xp.kp T.d36 aN (af (bv 3) au)))
   (aF (cu (bR TV (ae (fj (gZ) (by rfl) T.ib gW (af (bv 4) au))) (bv 2) (bO _)) (aG (aZ eZ)) cH)
   (aF (aX (i:=5) yb.nd rfl (ao rfl) (aS ((aG4 T).mono (by decide)) hr rfl T.d37 T.Xq.kp T.d38 aN (af (bv 3) au)))
   (aF (aX (i:=6) yb.nd rfl (ao rfl) (aS ((aU9 T).mono (by decide)) hr rfl T.d43 T.Xr.kp T.d44 aN (af (bv 0) (af (bv 1) (af (bv 5) au)))))
   (aF (aX (i:=7) yb.nd rfl (ao rfl) (aS ((aO7 T).mono (by decide)) hr rfl T.d47 T.Xv.kp T.d48 aN (af (bv 0) (af (bv 1) (af (bv 4) (af (bv 6) (af (ae (aI iY (ae (aI gY (ae (aI gY (bv 2) (ae aA))) (ae (fj (gZ) (by rfl) T.ib gW (af (bv 4) au))))) (ae aA))) au)))))))
   (aF (cu (bR qY (bv 7) (ae eZ) (bO _)) (aG (aZ eZ)) cH)
   (aF (aX (i:=8) yb.nd rfl (ao rfl) (aI dy (bv 4) (bv 7)))
   (aF (cu (bR (fS (dF hr)) (bv 8) (ae (eM dD)) (bO _)) (aG (aZ (em 5))) cH)
   (aG (aZ (aS ((aV3 T).mono (by decide)) hr rfl T.d49 T.Xw.kp T.d50 aN (af (bv 0) (af (bv 5) (af (bv 8) (af (ae (aS ((aX9 T).mono (by decide)) hr rfl T.d53 T.Xy.kp T.d54 aN (af (bv 0) (af (ae (aS ((aY1 T).mono (by decide)) hr rfl T.d55 T.Xz.kp T.d56 aN (af (bv 1) (af (bv 8) au)))) (af (bv 6) au))))) au))))))))))))))),λds Q h=>?_⟩
  obtain⟨m,T,room,y,rfl,hm,hw,D4,hT,u0,hy,ly,ei6,q⟩:=h
  have dJ:=(cJ hm).lo
  have kl:=Aq hm hy
  have kn:=IZ y
  obtain⟨l1,l2⟩:=IY y
  have ll:(bD y).length<=y.length:=eP (FP ..) (by rw[dQ];exact bN _)
  have Yp:∀l:List Nat,((df y).all D.pl||(D.lst true (aq l)).fr)=true:=λl=>by rw[fC,ft]
  have T0:0<T.length:=by
   unfold ah at hw
   cases T with
   | nil=>cases hw
   | cons _ _=>exact RI _
  unfold jK at q
  refine aE λU hU=>?_
  walk_at"l3"
  refine⟨y,by rw[uP],by omega,Yp _,hU _ ?_⟩
  clear hU U
  refine aE λU hU=>?_
  walk_at"l3"
  by_cases h1:room<=(L3.bD y).length
  ·rw[if_pos (by omega)]
   rw[if_pos h1]at q
   exact q
  rw[if_neg (by omega)]
  rw[if_neg h1]at q
  refine hU _ ?_
  clear hU U
  refine aE λU hU=>?_
  walk_at"l3"
  refine⟨y,by rw[uP],by omega,Yp _,hU _ ?_⟩
  clear hU U
  refine aE λU hU=>?_
  walk_at"l3"
  have D6:=DE hm T (de y)
  refine⟨m,T,de y,rfl,hm,by rw[kn,ly];exact hT,kl,by omega,by omega,fC _,hU _ ?_⟩
  clear hU U
  rw[show(T.map λr=>gd m r (de y))=gH m T (de y) from rfl]
  refine aE λU hU=>?_
  walk_at"l3"
  refine⟨iX (by decide) (by decide),m,T,L3.bD y,gH m T (de y),(room-1-(L3.bD y).length)/2,by rw[show(((room-1-(L3.bD y).length)/2:Nat):Int)=((room:Int)-1-((L3.bD y).length:Int))/2 by omega],hm,hw,D4,hT,u0,λp hp=>by rw[<-ly];exact l2 p hp,by omega,D6.1,D6.2,by omega,wB _,hU _ ?_⟩
  clear hU U
  refine aE λU hU=>?_
  walk_at"l3"
  cases eW:uR m T (L3.bD y) (gH m T (de y)) ((room-1-(L3.bD y).length)/2)with
  | none =>
   rw[eW]at q
   rw[if_pos (by exact rfl)]
   exact q
  | some W =>
  rw[eW]at q
  obtain⟨w1,w2,w3,w4,w5⟩:=Jj hm hw hT hy ly eW
  rw[if_neg (by exact fW),show m5 (some W)=D.lst true (aq W) from rfl]
  refine hU _ ?_
  clear hU U
  refine aE λU hU=>?_
  walk_at"l3"
  refine⟨by omega,hU _ ?_⟩
  clear hU U
  have pl:(L3.bD y++W).length<=100:=by rw[dO];omega
  dsimp only at q
  generalize L3.bD y++W=ps at *
  refine aE λU hU=>?_
  walk_at"l3"
  have ed:bP (D.lst true (aq ps)) (D.lst true [])=decide (ps=[]):=uI true true ps []
  rw[ed]
  refine⟨by decide,rfl,?_⟩
  by_cases p0:ps=[]
  ·rw[if_pos p0]at q
   rw[if_pos (decide_eq_true p0)]
   exact q
  rw[if_neg p0]at q
  rw[if_neg (by rw[decide_eq_false p0];decide)]
  refine hU _ ?_
  clear hU U ed
  obtain⟨X,x1,x2,x3,_⟩:=w5 p0
  rw[x1]at q
  have wp:=Wo (T:=T) (F:=ps) T0
  obtain⟨g1,g2⟩:=V7 (F:=ps) (show 0<aa m by omega) hT
  have rr:∀r∈cE m (cW (ji T ps) (gH m T (de y))),∃x∈r,x≠0:=by
   obtain⟨w1,w2,w3⟩:=IG (G:=ji T ps) (u:=gH m T (de y)) (by omega) (by omega) (by rw[wp];exact g1) D6.2
   rw[<-w1]at w3
   obtain⟨⟨Hd,I⟩,iR,_,_⟩:=we hm w3
   intro r bq
   obtain⟨i,hi,rfl⟩:=gj bq
   have:=(I.wg hm iR hi).2
   rwa [aQ,aP hi]at this
  walk_at"l3"
  refine⟨T,ps,aa m,ah T,rfl,hT,w3,by omega,by omega,by rw[eT,pk];rfl,m,ji T ps,gH m T (de y),by rw[dj,dm],hm,by omega,by omega,by omega,by rw[wp];exact g1,D6.2,by omega,rr,?_,?_⟩
  ·rw[x1,show Mw (some X)=D.lst true (aq X) from rfl,fC,ft]
  ·rw[x1,show Mw (some X)=D.lst true (aq X) from rfl,jH]
   exact⟨m,de y,ps,X,rfl,hm,kl,x3,x2,λp hp=>by rw[kn,ly];exact w3 p hp,by omega,by omega,fC _,q⟩
theorem cz5{y:List (Option Nat)}{s:List Nat}{j:Nat}{d:D}(h:(cR (df y) (aq s))[j]?=some d):j<y.length/\j<s.length/\d=.tup [iE (y.getD j none),.int ((cf s j:Nat):Int)]:=by
 unfold cR df at h
 rw[cC,kN,bQ,bQ]at h
 by_cases h1:j<y.length
 ·by_cases h2:j<s.length
  ·rw[uQ h1,aP h2]at h
   refine⟨h1,h2,(cX h).symm.trans ?_⟩
   unfold cf
   rw[aQ (l:=s),aP h2];rfl
  ·rw[fY (l:=s) (by omega),uQ h1]at h;cases h
 ·rw[fY (l:=y) (by omega)]at h;cases h
theorem cj6(m:Bool × Nat)(b:Nat)(s:List Nat)(y:List (Option Nat))(j:Nat):df ((bg j).map λj=>(y.getD j none).map λx=>gp m (gm m b x) (cf s j))++[iE ((y.getD j none).map λx=>gp m (gm m b x) (cf s j))]=df ((bg (j+1)).map λj=>(y.getD j none).map λx=>gp m (gm m b x) (cf s j)):=by
 unfold df
 rw[FH,fM,fM];rfl
noncomputable abbrev aS0:bC:=λds Q=>∃(m:Bool × Nat) (y:List (Option Nat)) (b:Nat) (s:List Nat),ds=[da m,.lst false (df y),.int b,.lst false (aq s)]/\m∈aD/\s.length=y.length/\y.length<=64/\b<aa m/\(∀a,some a∈y->a<aa m)/\Q (.lst true (df (jk m b s y)))
theorem Yq(T:Txt K mg t):aU P w K mg base bf 2 t.LF t.LG ["_law_told_here","_law_word_here","_law_by","_law_sent_here"] (bA (aS0 )):=by
 refine bJ T.L7 Js ?_ ?_
 ·intro ds Q h
  obtain⟨m,y,b,s,rfl,hm,ls,hyl,hb,hy,q⟩:=h<;>rfl
 ·intro aK A outer s H E hr
  refine⟨_,(aF (aX (i:=4) Js.nd rfl (ao rfl) (eM dD))
   (aF (fQ eR rfl (mT rfl T.nh (af (bv 1) (af (bv 3) au))) (gC (i1:=5) (i2:=6) rfl Js.nd rfl (ao rfl) rfl (ao rfl))
    (aG (cu (bR qY (bv 5) (ae eZ) (bO _)) (aG (kD (i:=4) rfl (by first | exact ao rfl | exact bh (ao rfl)) eZ)) (aG (kD (i:=4) rfl (by first | exact ao rfl | exact bh (ao rfl)) (aS ((XI T).mono (by decide)) hr rfl T.WW T.LP.kp T.WX aN (af (bv 0) (af (ae (aS ((XJ T).mono (by decide)) hr rfl T.WY T.LQ.kp T.WZ aN (af (bv 0) (af (bv 2) (af (bv 5) au))))) (af (bv 6) au)))))))))
   (aG (aZ (em 4))))),λds Q h=>?_⟩
  obtain⟨m,y,b,s,rfl,hm,ls,hyl,hb,hy,q⟩:=h
  have m0:=bX m hm
  refine aE λU hU=>?_
  walk_at"l3"
  refine⟨by decide,hU _ ?_⟩
  clear hU U
  refine aE λU hU=>?_
  walk_at"l3"
  refine⟨_,_,rfl,rfl,I0 y,fP.mk (λj δ=>∃(o1 o2:Option D),δ=[some (da m),some (D.lst false (df y)),some (D.int b),some (D.lst false (aq s)),some (D.lst true (df ((bg j).map λj=>(y.getD j none).map λx=>gp m (gm m b x) (cf s j)))),o1,o2]) ⟨_,_,rfl⟩ ?_ ?_⟩
  ·rintro j d δ hd ⟨o1,o2,rfl⟩
   obtain⟨h1,h2,rfl⟩:=cz5 hd
   clear hd hU
   have ap:=cj6 m b s y j
   have al:(df ((bg j).map λj=>(y.getD j none).map λx=>gp m (gm m b x) (cf s j))).length=j:=by rw[Ja,bB,dQ]
   cases ev:y.getD j none with
   | none =>
    rw[ev]at ap
    walk_at"l3"
    rw[if_pos (by exact rfl)]
    exact⟨⟨_,rfl⟩,by omega,_,_,ap,rfl,rfl⟩
   | some a =>
    rw[ev]at ap
    have ha:=Wd hy j a ev
    walk_at"l3"
    rw[if_neg (by exact fW)]
    exact⟨⟨_,rfl⟩,m,b,a,rfl,hm,hb,ha,rfl,m,_,_,rfl,m0,rfl,by omega,_,_,ap,rfl,rfl⟩
  ·rintro δ ⟨o1,o2,rfl⟩
   refine hU _ ?_
   walk_at"l3"
   rw[show(cR (df y) (aq s)).length=y.length by unfold cR;rw[gM,Ja,e5,ls,sP]]
   exact q
theorem cI6(T:Txt K mg t)(hB:Bm mg base):aU P w K mg base bf 15 t.LH t.LJ ["_law_script"] (zT [t.lV,t.lW] (bA (Ud ))):=by
 refine UX T.d57 jl ?_ ?_
 ·intro ds Q h
  obtain⟨ns,rfl,hl,q⟩:=h<;>rfl
 ·intro aK A outer s H E hT hr
  refine⟨_,(aF (aX (i:=1) jl.nd rfl (ao rfl) (aS ((aT6 T).mono (by decide)) hr rfl T.aV6 T.WH.kp T.aV7 aN (af (ae (aS ((ie T).mono (by decide)) hr rfl T.hJ T.gI.kp T.hV aN (af (bv 0) (af (ae aA) au)))) au)))
   (aF (aX (i:=2) jl.nd rfl (ao rfl) (cx7 hT ((aR2 T hB).mono (by decide)) hr rfl T.aS8 T.WV.kp T.aS9 aN (af (bv 1) au)))
   (aF (aX (i:=3) jl.nd rfl (ao rfl) (aI dy (ae aA) (ae (aI dk (ae (aS ((ie T).mono (by decide)) hr rfl T.hJ T.gI.kp T.hV aN (af (bv 0) (af (ae aA) au)))) (ae aA)))))
   (aF (aX (i:=4) jl.nd rfl (ao rfl) (aI dy (ae aA) (ae (aI dk (ae (aI iY (ae (aS ((ie T).mono (by decide)) hr rfl T.hJ T.gI.kp T.hV aN (af (bv 0) (af (ae aA) au)))) (ae aA))) (ae aA)))))
   (aF (aX (i:=5) jl.nd rfl (ao rfl) (aS ((aG0 T).mono (by decide)) hr rfl T.aH4 T.W6.kp T.aH5 aN (af (bv 1) (af (bv 0) (af (bv 3) (af (bv 4) au))))))
   (aF (aX (i:=6) jl.nd rfl (ao rfl) aA)
   (aF (aX (i:=7) jl.nd rfl (ao rfl) (aS ((aP8 T).mono (by decide)) hr rfl T.d07 T.Xa.kp T.d08 aN (af (bv 2) (af (ae (aS ((Bj T).mono (by decide)) hr rfl T.AD T.yg.kp T.AE aN (af (bv 5) au))) au))))
   (aF (cu (bR Hq (bv 7) (ae eZ) (bO _)) (aG (aX (i:=6) jl.nd rfl (ao rfl) (fj (gZ) (by rfl) T.ib gW (af (bv 7) au)))) cH)
   (aF (aX (i:=8) jl.nd rfl (ao rfl) (aI dy (ae aA) (ae (aI dk (ae (aI iY (ae (aS ((ie T).mono (by decide)) hr rfl T.hJ T.gI.kp T.hV aN (af (bv 0) (af (ae aA) au)))) (ae aA))) (bv 6)))))
   (aF (aX (i:=9) jl.nd rfl (ao rfl) (aS ((aU5 T).mono (by decide)) hr rfl T.aV8 T.Xn.kp T.aV9 aN (af (bv 1) (af (bv 0) (af (bv 2) (af (bv 5) au))))))
   (aF (cu (bR qY (bv 9) (ae eZ) (bO _)) (aG (aZ oi)) cH)
   (aF (aX (i:=10) jl.nd rfl (ao rfl) (aS ((aU7 T).mono (by decide)) hr rfl T.aW0 T.Xo.kp T.aW1 aN (af (bv 1) (af (bv 0) (af (bv 4) au)))))
   (aF (aX (i:=11) jl.nd rfl (ao rfl) (aI dy (ae aA) (ae (aI dk (ae (aS ((ie T).mono (by decide)) hr rfl T.hJ T.gI.kp T.hV aN (af (bv 0) (af (ae aA) au)))) (ae (aI gY (ae (aS ((nr T).mono (by decide)) hr rfl T.m6 T.lY.kp T.m8 aN (af (bv 1) au))) (ae aA)))))))
   (aF (aX (i:=12) jl.nd rfl (ao rfl) (aS ((Mx T).mono (by decide)) hr rfl T.L5 T.DT.kp T.L6 aN (af (bv 2) (af (ae (aS ((Bj T).mono (by decide)) hr rfl T.AD T.yg.kp T.AE aN (af (bv 5) au))) (af (bv 8) (af (ae (CD (CF) (by rfl) T.uX tG (af (bv 10) au))) au))))))
   (aF (aX (i:=13) jl.nd rfl (ao rfl) (aS ((Mx T).mono (by decide)) hr rfl T.L5 T.DT.kp T.L6 aN (af (bv 2) (af (ae (aS ((Bj T).mono (by decide)) hr rfl T.AD T.yg.kp T.AE aN (af (bv 5) au))) (af (bv 8) (af (ae (aS ((Yq T).mono (by decide)) hr rfl T.XA T.L7.kp T.XB aN (af (bv 1) (af (bv 10) (af (bv 11) (af (bv 9) au)))))) au))))))
   (aF (cu (bR qY (bv 12) (ae eZ) (bO _)) (aG (aZ (Cp qY (bv 13) (ae eZ) (bO _)))) cH)
   (aF (cu (PW.pt (Cq (qy (jC (ae (aS ((Yd T).mono (by decide)) hr rfl T.Xk T.L1.kp T.Xl aN (af (bv 12) (af (bv 4) (af (ae (aS ((nr T).mono (by decide)) hr rfl T.m6 T.lY.kp T.m8 aN (af (bv 1) au))) au))))))) (BX (bR (mO (dF hr)) (bv 13) (ae (aS ((Yq T).mono (by decide)) hr rfl T.XA T.L7.kp T.XB aN (af (bv 1) (af (bv 12) (af (bv 11) (af (bv 9) au)))))) (bO _))))) (aG (aZ oi)) cH)
   (aG (aZ (Cp (fS (dF hr)) (ae (aS ((Mx T).mono (by decide)) hr rfl T.L5 T.DT.kp T.L6 aN (af (bv 2) (af (ae (aS ((Bj T).mono (by decide)) hr rfl T.AD T.yg.kp T.AE aN (af (bv 5) au))) (af (bv 6) (af (ae (CD (CF) (by rfl) T.uX tG (af (bv 10) au))) au)))))) (bv 12) (bO _))))))))))))))))))))),λds Q h=>?_⟩
  obtain⟨ns,rfl,hl,q⟩:=h
  refine aE λU hU=>?_
  walk_at"l3"
  refine⟨ns,0,rfl,by decide,by decide,_,rfl,rfl,hU _ ?_⟩
  clear hU U
  generalize hmm:rT (dW ns 0)=m
  have hm:m∈aD:=by rw[<-hmm];exact cl3 _
  have hF:=cJ hm
  have dJ:=hF.lo
  have Mj:=hF.hi
  have D2:=Aa m hm
  refine aE λU hU=>?_
  walk_at"l3"
  refine⟨m,rfl,hm,hU _ ?_⟩
  clear hU U
  refine aE λU hU=>?_
  walk_at"l3"
  refine⟨ns,1,rfl,by decide,by decide,by decide,?_⟩
  obtain⟨r,er,Al,hr4⟩:∃k:Nat,1+dW ns 1%3=k/\1<=k/\k<=3:=⟨(1+dW ns 1%3).toNat,by omega,by omega,by omega⟩
  rw[er]
  refine hU _ ?_
  clear hU U
  refine aE λU hU=>?_
  walk_at"l3"
  refine⟨ns,1,rfl,by decide,by decide,iX (by decide) (by decide),by decide,?_⟩
  obtain⟨wi,ew,hw2,hw5⟩:∃k:Nat,2+dW ns 1/3%4=k/\2<=k/\k<=5:=⟨(2+dW ns 1/3%4).toNat,by omega,by omega,by omega⟩
  rw[ew]
  refine hU _ ?_
  clear hU U
  refine aE λU hU=>?_
  walk_at"l3"
  refine⟨m,ns,r,wi,rfl,hm,by omega,by omega,by omega,λT lT hT=>?_⟩
  have T0:T≠[]:=λz=>by rw[z]at lT;exact absurd lT (by show ¬ (0=r);omega)
  have eW:=cA4 hT T0
  rw[<-eW]at hT
  have pU:∀X:List (List Nat),(D.lst true (aH true X)).fr=true:=λX=>by rw[eT,pk];rfl
  refine hU _ ?_
  clear hU U
  refine aE λU hU=>?_
  walk_at"l3"
  refine hU _ ?_
  clear hU U
  refine aE λU hU=>?_
  walk_at"l3"
  have ff:∀o,(Be o).fr=true:=λo=>by cases o with | none=>rfl | some l=>exact fC l
  refine⟨T,rfl,by omega,pU _,m,T,by rw[dj,dm],hm,by omega,hT,by omega,by omega,by rw[ff,ft],hU _ ?_⟩
  clear hU U
  refine aE λU hU=>?_
  walk_at"l3"
  have st:∀d:Nat,1<=d->d<=13->(∀S,gv (ah T) S->S.length<d->pJ m (jh T) S)->U [some (D.fz (aL ns)),some (da m),some (fD t.aV t.aW m),some (D.int r),some (D.int wi),some (D.lst true (aH true T)),some (D.int d),some (Be (lR m T)),none,none,none,none,none,none]:=by
   intro d d1 d13 hD
   refine hU _ ?_
   clear hU U
   generalize Be (lR m T)=oF
   refine aE λU hU=>?_
   walk_at"l3"
   refine⟨ns,2,rfl,by decide,by decide,?_⟩
   dsimp only
   obtain⟨room,em,m1,md⟩:∃k:Nat,1+dW ns 2/8%(d:Int)=k/\1<=k/\k<=d:=by
    have n0:=jn (dW ns 2/8) (show(d:Int)≠0 by omega)
    have n1:=jo (dW ns 2/8) (show(0:Int)<(d:Int) by omega)
    exact⟨(1+dW ns 2/8%(d:Int)).toNat,by omega,by omega,by omega⟩
   rw[em]
   refine⟨iX (by decide) (by decide),by omega,hU _ ?_⟩
   clear hU U
   refine aE λU hU=>?_
   walk_at"l3"
   refine⟨m,ns,T,rfl,hm,by omega,by omega,by omega,by omega,hT,λc lc hc cz=>⟨fC _,hU _ ?_⟩⟩
   clear hU U
   refine aE λU hU=>?_
   walk_at"l3"
   refine hU _ ?_
   clear hU U
   refine aE λU hU=>?_
   walk_at"l3"
   refine⟨m,ns,wi,rfl,hm,by omega,λy ly hy=>?_⟩
   refine hU _ ?_
   clear hU U
   have yfr:∀z:List (Option Nat),(D.lst true (df z)).fr=true:=λz=>by
    rw[eT,ka]
    refine dw.mpr λd hd=>?_
    obtain⟨a,_,rfl⟩:=bE.mp hd
    cases a<;>rfl
   refine aE λU hU=>?_
   walk_at"l3"
   refine⟨ns,14,rfl,by decide,by decide,m,rfl,by omega,by omega,?_⟩
   dsimp only
   obtain⟨b,eb,b1,bm⟩:∃k:Nat,1+dW ns 14%((aa m:Int)-1)=k/\1<=k/\k<aa m:=by
    have n0:=jn (dW ns 14) (show(aa m:Int)-1≠0 by omega)
    have n1:=jo (dW ns 14) (show(0:Int)<(aa m:Int)-1 by omega)
    exact⟨(1+dW ns 14%((aa m:Int)-1)).toNat,by omega,by omega,by omega⟩
   rw[eb]
   refine⟨by omega,hU _ ?_⟩
   clear hU U
   have sq:y.length=ah T:=by omega
   have ni:=λw=>Jk (w:=w) (room:=room) hm (by omega) hT hy sq λS hS hl=>hD S hS (by omega)
   have nj:=λw=>Jk (w:=w) (room:=d) hm (by omega) hT hy sq hD
   have nm:=λw=>Jk (w:=w) (room:=room) (y:=jk m b c y) hm (by omega) hT (Wv hm hc) ((uT ..).trans sq) λS hS hl=>hD S hS (by omega)
   refine aE λU hU=>?_
   walk_at"l3"
   refine⟨T,rfl,by omega,pU _,I0 y,m,T,room,y,by rw[dj,dm,uP],hm,by omega,by omega,hT,by omega,hy,sq,by omega,by rw[wB,ft],hU _ ?_⟩
   clear hU U
   refine aE λU hU=>?_
   walk_at"l3"
   refine⟨T,rfl,by omega,pU _,m,y,b,c,by rw[uP],hm,by omega,by omega,bm,hy,?_⟩
   refine⟨yfr _,m,T,room,jk m b c y,by rw[dj,dj,dm,uP],hm,by omega,by omega,hT,by omega,Wv hm hc,(uT ..).trans sq,by omega,by rw[wB,ft],hU _ ?_⟩
   clear hU U
   have em:∀w,w.length=ah T->AllLt (aa m) w->(jK m T room y=some w↔jK m T room (jk m b c y)=some (jL m b c w)):=λw lw aw=>(ni w).trans ((cO7 hm hT sq lc lw hy hc aw cz bm (by omega)).trans (nm _).symm)
   refine aE λU hU=>?_
   walk_at"l3"
   cases e1:jK m T room y with
   | none =>
    have e2:jK m T room (jk m b c y)=none:=by
     cases e2:jK m T room (jk m b c y)with
     | none=>rfl
     | some v =>
      have nv:=(nm v).mp e2
      obtain⟨w,w1,w2,w3⟩:=cC7 hm lc (nv.ln.trans ((uT ..).trans sq)) hc nv.lt bm (by omega)
      have:=(em w w1 w2).mpr (by rw[w3];exact e2)
      rw[e1]at this
      cases this
    rw[e2,if_pos (by exact rfl)]
    exact q
   | some w1 =>
   have n1:=(ni w1).mp e1
   have lw:=n1.ln
   have e2:=(em w1 (by omega) n1.lt).mp e1
   rw[e2,if_neg (by exact fW),show m5 (some w1)=D.lst true (aq w1) from rfl,show m5 (some (jL m b c w1))=D.lst true (aq (jL m b c w1)) from rfl]
   refine hU _ ?_
   clear hU U
   refine aE λU hU=>?_
   walk_at"l3"
   refine⟨m,rfl,by omega,by omega,w1,wi,aa m,by rw[gB],by omega,by omega,n1.lt,rfl,true,rfl,?_⟩
   rw[if_neg (by decide)]
   have ow:∀w:List Nat,df (w.map some)=aq w:=λw=>by unfold df;rw[cm,cC];rfl
   refine⟨m,w1.map some,b,c,by rw[ow],hm,by rw[bB];omega,by rw[bB];omega,bm,λa ha=>?_,?_⟩
   ·obtain⟨x,hx,e⟩:=bE.mp ha
    cases e
    exact n1.lt _ hx
   rw[cD3,ow]
   refine⟨fC _,Ab 5 true _,?_⟩
   rw[uI,decide_eq_true rfl,if_neg (by decide)]
   refine hU _ ?_
   clear hU U
   walk_at"l3"
   have e3:jK m T d y=some w1:=(nj w1).mpr ⟨n1.ln,n1.lt,n1.z,by have:=n1.uS;omega⟩
   refine⟨T,rfl,by omega,pU _,I0 y,m,T,d,y,by rw[dj,dm,uP],hm,by omega,by omega,hT,by omega,hy,sq,by omega,by rw[wB,ft],?_⟩
   rw[e3,show m5 (some w1)=D.lst true (aq w1) from rfl]
   rw[uI,decide_eq_true rfl]
   exact⟨Ab 5 true _,q⟩
  clear hU
  cases eF:lR m T with
  | none =>
   rw[if_neg (by exact fW)]
   have:=st 13 (by decide) (by decide) λS hS _=>cx0 hm (by omega) hT eF S hS
   rw[eF]at this
   exact this
  | some F =>
   obtain⟨f1,f2,_,f4⟩:=cx8 hm (by omega) hT eF
   have lf:=f1.len
   have:=st F.length (by omega) (by omega) λS hS hl=>f4 S hS (.inl hl)
   rw[eF]at this
   rw[if_pos (by exact rfl),show Be (some F)=D.lst true (aq F) from rfl]
   walk_at"l3"
   exact this
end
set_option maxHeartbeats 0 in
theorem all_mk{l:PySem.W.OpenLaw}{w:World}{K:Frag}{h:Heap}{mg:Str->Option Value}{fa:Addr}{ts:List Addr}(X:K.In h)(G:h.Ns mainGlobals mg)(hfa:mg "law"=some (.ref fa))
  {od0 an0:Option Addr} {sl0:Array (Option Value)} {oc0 kV0 dc0 pm0 Yr ct0:Value} {f0:Addr}
  {od1 an1:Option Addr} {sl1:Array (Option Value)} {oc1 kV1 dc1 pm1 Ys ct1:Value} {f1:Addr}
  {IU an2:Option Addr} {sl2:Array (Option Value)} {oc2 kV2 dc2 pm2 Yt ct2:Value} {f2:Addr}
  {od3 an3:Option Addr} {sl3:Array (Option Value)} {oc3 kV3 dc3 pm3 Yu ct3:Value} {f3:Addr}
  {od4 an4:Option Addr} {sl4:Array (Option Value)} {oc4 kV4 dc4 pm4 Yv ct4:Value} {f4:Addr}
  {od5 an5:Option Addr} {sl5:Array (Option Value)} {oc5 kV5 dc5 pm5 Yw ct5:Value} {f5:Addr}
  {od6 an6:Option Addr} {sl6:Array (Option Value)} {oc6 kV6 dc6 pm6 Yx ct6:Value} {f6:Addr}
  {od7 an7:Option Addr} {sl7:Array (Option Value)} {oc7 kV7 dc7 pm7 ct7:Value} {f7:Addr}
  {Bo lV:Addr} {aJ4:Option Addr} {aJ5:Array (Option Value)} {Yy:Array Value} {aJ6:Value}
  {od8 an8:Option Addr} {sl8:Array (Option Value)} {oc8 kV8 dc8 pm8 Yz ct8:Value} {f8:Addr}
  {od9 an9:Option Addr} {sl9:Array (Option Value)} {oc9 kV9 dc9 pm9 YA ct9:Value} {f9:Addr}
  {es2 es3:Option Addr} {es4:Array (Option Value)} {es5 es6 es7 es8 YB es9:Value} {D7:Addr}
  {et0 et1:Option Addr} {et2:Array (Option Value)} {et3 et4 et5 et6 YC et7:Value} {D8:Addr}
  {et8 et9:Option Addr} {eu0:Array (Option Value)} {eu1 eu2 eu3 eu4 YD eu5:Value} {mK:Addr}
  {eu6 eu7:Option Addr} {eu8:Array (Option Value)} {eu9 ev0 ev1 ev2 ev3:Value} {yp:Addr}
  {Bp lW:Addr} {aM9:Option Addr} {aN0:Array (Option Value)} {YE:Array Value} {aN1:Value}
  {ev7 ev8:Option Addr} {ev9:Array (Option Value)} {ew0 ew1 ew2 ew3 YF ew4:Value} {D9:Addr}
  {ew5 ew6:Option Addr} {ew7:Array (Option Value)} {ew8 ew9 ex0 ex1 YG ex2:Value} {Ea:Addr}
  {ex3 ex4:Option Addr} {ex5:Array (Option Value)} {ex6 ex7 ex8 ex9 YH ey0:Value} {Eb:Addr}
  {ey1 ey2:Option Addr} {ey3:Array (Option Value)} {ey4 ey5 ey6 ey7 YI ey8:Value} {Ec:Addr}
  {ey9 ez0:Option Addr} {ez1:Array (Option Value)} {ez2 ez3 ez4 ez5 YJ ez6:Value} {Ee:Addr}
  {ez7 ez8:Option Addr} {ez9:Array (Option Value)} {eA0 eA1 eA2 eA3 YK eA4:Value} {Ef:Addr}
  {eA5 eA6:Option Addr} {eA7:Array (Option Value)} {eA8 eA9 eB0 eB1 YL eB2:Value} {Eg:Addr}
  {eB3 eB4:Option Addr} {eB5:Array (Option Value)} {eB6 eB7 eB8 eB9 YM eC0:Value} {Eh:Addr}
  {eC1 eC2:Option Addr} {eC3:Array (Option Value)} {eC4 eC5 eC6 eC7 YN eC8:Value} {Ei:Addr}
  {eC9 eD0:Option Addr} {eD1:Array (Option Value)} {eD2 eD3 eD4 eD5 YO eD6:Value} {Ej:Addr}
  {eD7 eD8:Option Addr} {eD9:Array (Option Value)} {eE0 eE1 eE2 eE3 YQ eE4:Value} {vM:Addr}
  {eE5 eE6:Option Addr} {eE7:Array (Option Value)} {eE8 eE9 eF0 eF1 YR eF2:Value} {Ek:Addr}
  {eF3 eF4:Option Addr} {eF5:Array (Option Value)} {eF6 eF7 eF8 eF9 YS eG0:Value} {El:Addr}
  {eG1 eG2:Option Addr} {eG3:Array (Option Value)} {eG4 eG5 eG6 eG7 YT eG8:Value} {sr:Addr}
  {eG9 eH0:Option Addr} {eH1:Array (Option Value)} {eH2 eH3 eH4 eH5 YU eH6:Value} {yq:Addr}
  {eH7 eH8:Option Addr} {eH9:Array (Option Value)} {eI0 eI1 eI2 eI3 YV eI4:Value} {yr:Addr}
  {eI5 eI6:Option Addr} {eI7:Array (Option Value)} {eI8 eI9 eJ0 eJ1 YW eJ2:Value} {yt:Addr}
  {eJ3 eJ4:Option Addr} {eJ5:Array (Option Value)} {eJ6 eJ7 eJ8 eJ9 YX eK0:Value} {yu:Addr}
  {eK1 eK2:Option Addr} {eK3:Array (Option Value)} {eK4 eK5 eK6 eK7 YY eK8:Value} {Em:Addr}
  {eK9 eL0:Option Addr} {eL1:Array (Option Value)} {eL2 eL3 eL4 eL5 YZ eL6:Value} {Eo:Addr}
  {eL7 eL8:Option Addr} {eL9:Array (Option Value)} {eM0 eM1 eM2 eM3 Y0 eM4:Value} {Ep:Addr}
  {eM5 eM6:Option Addr} {eM7:Array (Option Value)} {eM8 eM9 eN0 eN1 Y1 eN2:Value} {Er:Addr}
  {eN3 eN4:Option Addr} {eN5:Array (Option Value)} {eN6 eN7 eN8 eN9 Y2 eO0:Value} {yv:Addr}
  {eO1 eO2:Option Addr} {eO3:Array (Option Value)} {eO4 eO5 eO6 eO7 Y3 eO8:Value} {yw:Addr}
  {eO9 eP0:Option Addr} {eP1:Array (Option Value)} {eP2 eP3 eP4 eP5 Y4 eP6:Value} {Es:Addr}
  {eP7 eP8:Option Addr} {eP9:Array (Option Value)} {eQ0 eQ1 eQ2 eQ3 Y5 eQ4:Value} {Et:Addr}
  {eQ5 eQ6:Option Addr} {eQ7:Array (Option Value)} {eQ8 eQ9 eR0 eR1 Y6 eR2:Value} {yx:Addr}
  {eR3 eR4:Option Addr} {eR5:Array (Option Value)} {eR6 eR7 eR8 eR9 Y7 eS0:Value} {yy:Addr}
  {eS1 eS2:Option Addr} {eS3:Array (Option Value)} {eS4 eS5 eS6 eS7 Y8 eS8:Value} {Eu:Addr}
  {eS9 eT0:Option Addr} {eT1:Array (Option Value)} {eT2 eT3 eT4 eT5 Y9 eT6:Value} {Ew:Addr}
  {eT7 eT8:Option Addr} {eT9:Array (Option Value)} {eU0 eU1 eU2 eU3 Za eU4:Value} {Ey:Addr}
  {eU5 eU6:Option Addr} {eU7:Array (Option Value)} {eU8 eU9 eV0 eV1 Zb eV2:Value} {Ez:Addr}
  {eV3 eV4:Option Addr} {eV5:Array (Option Value)} {eV6 eV7 eV8 eV9 Zc eW0:Value} {EA:Addr}
  {eW1 eW2:Option Addr} {eW3:Array (Option Value)} {eW4 eW5 eW6 eW7 Zd eW8:Value} {EB:Addr}
  {eW9 eX0:Option Addr} {eX1:Array (Option Value)} {eX2 eX3 eX4 eX5 Ze eX6:Value} {EC:Addr}
  {eX7 eX8:Option Addr} {eX9:Array (Option Value)} {eY0 eY1 eY2 eY3 Zf eY4:Value} {ED:Addr}
  {eY5 eY6:Option Addr} {eY7:Array (Option Value)} {eY8 eY9 eZ0 eZ1 Zg eZ2:Value} {EE:Addr}
  {eZ3 eZ4:Option Addr} {eZ5:Array (Option Value)} {eZ6 eZ7 eZ8 eZ9 Zh e00:Value} {EF:Addr}
  {e01 e02:Option Addr} {e03:Array (Option Value)} {e04 e05 e06 e07 Zi e08:Value} {EG:Addr}
  {e09 e10:Option Addr} {e11:Array (Option Value)} {e12 e13 e14 e15 Zj e16:Value} {yz:Addr}
  {e17 e18:Option Addr} {e19:Array (Option Value)} {e20 e21 e22 e23 Zk e24:Value} {yA:Addr}
  {e25 e26:Option Addr} {e27:Array (Option Value)} {e28 e29 e30 e31 Zl e32:Value} {EH:Addr}
  {e33 e34:Option Addr} {e35:Array (Option Value)} {e36 e37 e38 e39 Zm e40:Value} {EI:Addr}
  {e41 e42:Option Addr} {e43:Array (Option Value)} {e44 e45 e46 e47 Zn e48:Value} {EJ:Addr}
  {e49 e50:Option Addr} {e51:Array (Option Value)} {e52 e53 e54 e55 Zo e56:Value} {EK:Addr}
  {e57 e58:Option Addr} {e59:Array (Option Value)} {e60 e61 e62 e63 Zp e64:Value} {EL:Addr}
  {e65 e66:Option Addr} {e67:Array (Option Value)} {e68 e69 e70 e71 Zq e72:Value} {EM:Addr}
  {e73 e74:Option Addr} {e75:Array (Option Value)} {e76 e77 e78 e79 Zr e80:Value} {EN:Addr}
  {e81 e82:Option Addr} {e83:Array (Option Value)} {e84 e85 e86 e87 Zs e88:Value} {EO:Addr}
  {e89 e90:Option Addr} {e91:Array (Option Value)} {e92 e93 e94 e95 Zt e96:Value} {ER:Addr}
  {e97 e98:Option Addr} {e99:Array (Option Value)} {fa0 fa1 fa2 fa3 Zu fa4:Value} {ES:Addr}
  {fa5 Zv:Option Addr} {fa6:Array (Option Value)} {fa7 Zw Zx Zy Mz Zz:Value} {MA:Addr}
  {aV iF lX aW:Addr}
  (A7:nsIn K mainGlobals "BitField"=some (some (.ref aV)))
  (A8:nsIn K mainGlobals "ByNought"=some (some (.ref iF)))
  (yn:nsIn K mainGlobals "Field"=some (some (.ref lX)))
  (A9:nsIn K mainGlobals "PrimeField"=some (some (.ref aW)))
  (a0:nsIn K mainGlobals "_law_told"=some (some (.ref f0)))
  (l0:K.lookup f0=some ⟨oc0,od0,.func (fnOf "_law_told" "_law_told" (bx wD) (br wD) (aB wD) .none kV0 dc0 pm0 an0 Yr ct0),sl0⟩)
  (c0:codeIn K Yr "_law_told"=true)
  (k0:keepIn K (.ref f0)=true)
  (a1:nsIn K mainGlobals "powers_of"=some (some (.ref f1)))
  (l1:K.lookup f1=some ⟨oc1,od1,.func (fnOf "powers_of" "powers_of" (bx wF) (br wF) (aB wF) .none kV1 dc1 pm1 an1 Ys ct1),sl1⟩)
  (c1:codeIn K Ys "powers_of"=true)
  (k1:keepIn K (.ref f1)=true)
  (a2:nsIn K mainGlobals "step_powers"=some (some (.ref f2)))
  (l2:K.lookup f2=some ⟨oc2,IU,.func (fnOf "step_powers" "step_powers" (bx wG) (br wG) (aB wG) .none kV2 dc2 pm2 an2 Yt ct2),sl2⟩)
  (c2:codeIn K Yt "step_powers"=true)
  (k2:keepIn K (.ref f2)=true)
  (a3:nsIn K mainGlobals "logs_of"=some (some (.ref f3)))
  (l3:K.lookup f3=some ⟨oc3,od3,.func (fnOf "logs_of" "logs_of" (bx wH) (br wH) (aB wH) .none kV3 dc3 pm3 an3 Yu ct3),sl3⟩)
  (c3:codeIn K Yu "logs_of"=true)
  (k3:keepIn K (.ref f3)=true)
  (a4:findIn K (.ref lX) "step_power"=some (some (.ref f4)))
  (l4:K.lookup f4=some ⟨oc4,od4,.func (fnOf "step_power" "Field.step_power" (bx wI) (br wI) (aB wI) .none kV4 dc4 pm4 an4 Yv ct4),sl4⟩)
  (c4:codeIn K Yv "Field.step_power"=true)
  (k4:keepIn K (.ref f4)=true)
  (a5:findIn K (.ref lX) "__init__"=some (some (.ref f5)))
  (l5:K.lookup f5=some ⟨oc5,od5,.func (fnOf "__init__" "Field.__init__" (bx wJ) (br wJ) (aB wJ) .none kV5 dc5 pm5 an5 Yw ct5),sl5⟩)
  (c5:codeIn K Yw "Field.__init__"=true)
  (k5:keepIn K (.ref f5)=true)
  (a6:nsIn K mainGlobals "makes_prime_field"=some (some (.ref f6)))
  (l6:K.lookup f6=some ⟨oc6,od6,.func (fnOf "makes_prime_field" "makes_prime_field" (bx wK) (br wK) (aB wK) .none kV6 dc6 pm6 an6 Yx ct6),sl6⟩)
  (c6:codeIn K Yx "makes_prime_field"=true)
  (k6:keepIn K (.ref f6)=true)
  (a7:findIn K (.ref aW) "__init__"=some (some (.ref f7)))
  (l7:K.lookup f7=some ⟨oc7,od7,.func (fnOf "__init__" "PrimeField.__init__" (bx pL) (br pL) (aB pL) .none kV7 dc7 pm7 an7 (.ref Bo) ct7),sl7⟩)
  (c7:codeIn K (.ref Bo) "PrimeField.__init__"=true)
  (k7:keepIn K (.ref f7)=true)
  (ZA:K.lookup Bo=some ⟨aJ6,aJ4,.fields Yy,aJ5⟩)
  (ZC:Yy[11]?=some (.ref lV))
  (MB:codeHdIn K Bo lV=true)
  (a8:nsIn K mainGlobals "product_rows"=some (some (.ref f8)))
  (l8:K.lookup f8=some ⟨oc8,od8,.func (fnOf "product_rows" "product_rows" (bx wL) (br wL) (aB wL) .none kV8 dc8 pm8 an8 Yz ct8),sl8⟩)
  (c8:codeIn K Yz "product_rows"=true)
  (k8:keepIn K (.ref f8)=true)
  (a9:nsIn K mainGlobals "bits_divided"=some (some (.ref f9)))
  (l9:K.lookup f9=some ⟨oc9,od9,.func (fnOf "bits_divided" "bits_divided" (bx wM) (br wM) (aB wM) .none kV9 dc9 pm9 an9 YA ct9),sl9⟩)
  (c9:codeIn K YA "bits_divided"=true)
  (k9:keepIn K (.ref f9)=true)
  (MC:nsIn K mainGlobals "stands_alone"=some (some (.ref D7)))
  (MD:K.lookup D7=some ⟨es5,es2,.func (fnOf "stands_alone" "stands_alone" (bx wO) (br wO) (aB wO) .none es6 es7 es8 es3 YB es9),es4⟩)
  (ME:codeIn K YB "stands_alone"=true)
  (MF:keepIn K (.ref D7)=true)
  (MG:nsIn K mainGlobals "makes_bit_field"=some (some (.ref D8)))
  (MH:K.lookup D8=some ⟨et3,et0,.func (fnOf "makes_bit_field" "makes_bit_field" (bx wQ) (br wQ) (aB wQ) .none et4 et5 et6 et1 YC et7),et2⟩)
  (MI:codeIn K YC "makes_bit_field"=true)
  (MJ:keepIn K (.ref D8)=true)
  (MK:nsIn K mainGlobals "bits_times"=some (some (.ref mK)))
  (ML:K.lookup mK=some ⟨eu1,et8,.func (fnOf "bits_times" "bits_times" (bx wR) (br wR) (aB wR) .none eu2 eu3 eu4 et9 YD eu5),eu0⟩)
  (MM:codeIn K YD "bits_times"=true)
  (MN:keepIn K (.ref mK)=true)
  (ZD:findIn K (.ref aV) "__init__"=some (some (.ref yp)))
  (MP:K.lookup yp=some ⟨eu9,eu6,.func (fnOf "__init__" "BitField.__init__" (bx pM) (br pM) (aB pM) .none ev0 ev1 ev2 eu7 (.ref Bp) ev3),eu8⟩)
  (MQ:codeIn K (.ref Bp) "BitField.__init__"=true)
  (MR:keepIn K (.ref yp)=true)
  (ZE:K.lookup Bp=some ⟨aN1,aM9,.fields YE,aN0⟩)
  (ZF:YE[11]?=some (.ref lW))
  (MS:codeHdIn K Bp lW=true)
  (MT:nsIn K mainGlobals "_law_field"=some (some (.ref D9)))
  (MU:K.lookup D9=some ⟨ew0,ev7,.func (fnOf "_law_field" "_law_field" (bx wU) (br wU) (aB wU) .none ew1 ew2 ew3 ev8 YF ew4),ev9⟩)
  (MV:codeIn K YF "_law_field"=true)
  (MW:keepIn K (.ref D9)=true)
  (MX:nsIn K mainGlobals "_law_digits"=some (some (.ref Ea)))
  (MY:K.lookup Ea=some ⟨ew8,ew5,.func (fnOf "_law_digits" "_law_digits" (bx wV) (br wV) (aB wV) .none ew9 ex0 ex1 ew6 YG ex2),ew7⟩)
  (MZ:codeIn K YG "_law_digits"=true)
  (M0:keepIn K (.ref Ea)=true)
  (M1:nsIn K mainGlobals "_law_plus"=some (some (.ref Eb)))
  (M3:K.lookup Eb=some ⟨ex6,ex3,.func (fnOf "_law_plus" "_law_plus" (bx wW) (br wW) (aB wW) .none ex7 ex8 ex9 ex4 YH ey0),ex5⟩)
  (M4:codeIn K YH "_law_plus"=true)
  (M5:keepIn K (.ref Eb)=true)
  (M6:nsIn K mainGlobals "_law_times"=some (some (.ref Ec)))
  (M7:K.lookup Ec=some ⟨ey4,ey1,.func (fnOf "_law_times" "_law_times" (bx wX) (br wX) (aB wX) .none ey5 ey6 ey7 ey2 YI ey8),ey3⟩)
  (M8:codeIn K YI "_law_times"=true)
  (M9:keepIn K (.ref Ec)=true)
  (Na:nsIn K mainGlobals "_law_dot"=some (some (.ref Ee)))
  (Nb:K.lookup Ee=some ⟨ez2,ey9,.func (fnOf "_law_dot" "_law_dot" (bx wZ) (br wZ) (aB wZ) .none ez3 ez4 ez5 ez0 YJ ez6),ez1⟩)
  (Nc:codeIn K YJ "_law_dot"=true)
  (Nd:keepIn K (.ref Ee)=true)
  (Nf:nsIn K mainGlobals "_law_by_row"=some (some (.ref Ef)))
  (Ng:K.lookup Ef=some ⟨eA0,ez7,.func (fnOf "_law_by_row" "_law_by_row" (bx w6) (br w6) (aB w6) .none eA1 eA2 eA3 ez8 YK eA4),ez9⟩)
  (Nh:codeIn K YK "_law_by_row"=true)
  (Ni:keepIn K (.ref Ef)=true)
  (Nj:nsIn K mainGlobals "_law_cell"=some (some (.ref Eg)))
  (Nl:K.lookup Eg=some ⟨eA8,eA5,.func (fnOf "_law_cell" "_law_cell" (bx w9) (br w9) (aB w9) .none eA9 eB0 eB1 eA6 YL eB2),eA7⟩)
  (Nm:codeIn K YL "_law_cell"=true)
  (Nn:keepIn K (.ref Eg)=true)
  (Np:nsIn K mainGlobals "_law_many"=some (some (.ref Eh)))
  (Nq:K.lookup Eh=some ⟨eB6,eB3,.func (fnOf "_law_many" "_law_many" (bx xa) (br xa) (aB xa) .none eB7 eB8 eB9 eB4 YM eC0),eB5⟩)
  (Nr:codeIn K YM "_law_many"=true)
  (Nt:keepIn K (.ref Eh)=true)
  (Nu:nsIn K mainGlobals "_law_table"=some (some (.ref Ei)))
  (Nv:K.lookup Ei=some ⟨eC4,eC1,.func (fnOf "_law_table" "_law_table" (bx xb) (br xb) (aB xb) .none eC5 eC6 eC7 eC2 YN eC8),eC3⟩)
  (Nw:codeIn K YN "_law_table"=true)
  (Nx:keepIn K (.ref Ei)=true)
  (Ny:nsIn K mainGlobals "_law_drawn_table"=some (some (.ref Ej)))
  (Nz:K.lookup Ej=some ⟨eD2,eC9,.func (fnOf "_law_drawn_table" "_law_drawn_table" (bx xg) (br xg) (aB xg) .none eD3 eD4 eD5 eD0 YO eD6),eD1⟩)
  (NA:codeIn K YO "_law_drawn_table"=true)
  (NB:keepIn K (.ref Ej)=true)
  (NC:nsIn K mainGlobals "width_of"=some (some (.ref vM)))
  (ND:K.lookup vM=some ⟨eE0,eD7,.func (fnOf "width_of" "width_of" (bx xh) (br xh) (aB xh) .none eE1 eE2 eE3 eD8 YQ eE4),eD9⟩)
  (NF:codeIn K YQ "width_of"=true)
  (NG:keepIn K (.ref vM)=true)
  (NH:nsIn K mainGlobals "turned"=some (some (.ref Ek)))
  (NI:K.lookup Ek=some ⟨eE8,eE5,.func (fnOf "turned" "turned" (bx xi) (br xi) (aB xi) .none eE9 eF0 eF1 eE6 YR eF2),eE7⟩)
  (NJ:codeIn K YR "turned"=true)
  (NK:keepIn K (.ref Ek)=true)
  (NL:nsIn K mainGlobals "is_nought"=some (some (.ref El)))
  (NM:K.lookup El=some ⟨eF6,eF3,.func (fnOf "is_nought" "is_nought" (bx xj) (br xj) (aB xj) .none eF7 eF8 eF9 eF4 YS eG0),eF5⟩)
  (NN:codeIn K YS "is_nought"=true)
  (NO:keepIn K (.ref El)=true)
  (ZG:findIn K (.ref lX) "over"=some (some (.ref sr)))
  (NP:K.lookup sr=some ⟨eG4,eG1,.func (fnOf "over" "Field.over" (bx xk) (br xk) (aB xk) .none eG5 eG6 eG7 eG2 YT eG8),eG3⟩)
  (NQ:codeIn K YT "Field.over"=true)
  (Bq:keepIn K (.ref sr)=true)
  (ZH:findIn K (.ref aV) "lessened"=some (some (.ref yq)))
  (NR:K.lookup yq=some ⟨eH2,eG9,.func (fnOf "lessened" "BitField.lessened" (bx xm) (br xm) (aB xm) .none eH3 eH4 eH5 eH0 YU eH6),eH1⟩)
  (NS:codeIn K YU "BitField.lessened"=true)
  (ET:keepIn K (.ref yq)=true)
  (ZI:findIn K (.ref aW) "lessened"=some (some (.ref yr)))
  (NT:K.lookup yr=some ⟨eI0,eH7,.func (fnOf "lessened" "PrimeField.lessened" (bx xn) (br xn) (aB xn) .none eI1 eI2 eI3 eH8 YV eI4),eH9⟩)
  (NU:codeIn K YV "PrimeField.lessened"=true)
  (EU:keepIn K (.ref yr)=true)
  (ZJ:findIn K (.ref aV) "times"=some (some (.ref yt)))
  (NV:K.lookup yt=some ⟨eI8,eI5,.func (fnOf "times" "BitField.times" (bx xo) (br xo) (aB xo) .none eI9 eJ0 eJ1 eI6 YW eJ2),eI7⟩)
  (NW:codeIn K YW "BitField.times"=true)
  (EV:keepIn K (.ref yt)=true)
  (ZK:findIn K (.ref aW) "times"=some (some (.ref yu)))
  (NX:K.lookup yu=some ⟨eJ6,eJ3,.func (fnOf "times" "PrimeField.times" (bx xp) (br xp) (aB xp) .none eJ7 eJ8 eJ9 eJ4 YX eK0),eJ5⟩)
  (NY:codeIn K YX "PrimeField.times"=true)
  (EW:keepIn K (.ref yu)=true)
  (NZ:nsIn K mainGlobals "past"=some (some (.ref Em)))
  (N0:K.lookup Em=some ⟨eK4,eK1,.func (fnOf "past" "past" (bx xq) (br xq) (aB xq) .none eK5 eK6 eK7 eK2 YY eK8),eK3⟩)
  (N1:codeIn K YY "past"=true)
  (N2:keepIn K (.ref Em)=true)
  (N3:nsIn K mainGlobals "first_bound"=some (some (.ref Eo)))
  (N4:K.lookup Eo=some ⟨eL2,eK9,.func (fnOf "first_bound" "first_bound" (bx xu) (br xu) (aB xu) .none eL3 eL4 eL5 eL0 YZ eL6),eL1⟩)
  (N5:codeIn K YZ "first_bound"=true)
  (N6:keepIn K (.ref Eo)=true)
  (N7:nsIn K mainGlobals "leads"=some (some (.ref Ep)))
  (N8:K.lookup Ep=some ⟨eM0,eL7,.func (fnOf "leads" "leads" (bx xv) (br xv) (aB xv) .none eM1 eM2 eM3 eL8 Y0 eM4),eL9⟩)
  (N9:codeIn K Y0 "leads"=true)
  (Oa:keepIn K (.ref Ep)=true)
  (Ob:nsIn K mainGlobals "free_places"=some (some (.ref Er)))
  (Oc:K.lookup Er=some ⟨eM8,eM5,.func (fnOf "free_places" "free_places" (bx xw) (br xw) (aB xw) .none eM9 eN0 eN1 eM6 Y1 eN2),eM7⟩)
  (Od:codeIn K Y1 "free_places"=true)
  (Oe:keepIn K (.ref Er)=true)
  (ZL:findIn K (.ref aV) "minus"=some (some (.ref yv)))
  (Of:K.lookup yv=some ⟨eN6,eN3,.func (fnOf "minus" "BitField.minus" (bx xx) (br xx) (aB xx) .none eN7 eN8 eN9 eN4 Y2 eO0),eN5⟩)
  (Og:codeIn K Y2 "BitField.minus"=true)
  (EX:keepIn K (.ref yv)=true)
  (ZM:findIn K (.ref aW) "minus"=some (some (.ref yw)))
  (Oh:K.lookup yw=some ⟨eO4,eO1,.func (fnOf "minus" "PrimeField.minus" (bx xy) (br xy) (aB xy) .none eO5 eO6 eO7 eO2 Y3 eO8),eO3⟩)
  (Oi:codeIn K Y3 "PrimeField.minus"=true)
  (EY:keepIn K (.ref yw)=true)
  (Oj:nsIn K mainGlobals "kernel_of_reduced"=some (some (.ref Es)))
  (Ol:K.lookup Es=some ⟨eP2,eO9,.func (fnOf "kernel_of_reduced" "kernel_of_reduced" (bx xA) (br xA) (aB xA) .none eP3 eP4 eP5 eP0 Y4 eP6),eP1⟩)
  (Om:codeIn K Y4 "kernel_of_reduced"=true)
  (Oo:keepIn K (.ref Es)=true)
  (Oq:nsIn K mainGlobals "first_with"=some (some (.ref Et)))
  (Ot:K.lookup Et=some ⟨eQ0,eP7,.func (fnOf "first_with" "first_with" (bx xC) (br xC) (aB xC) .none eQ1 eQ2 eQ3 eP8 Y5 eQ4),eP9⟩)
  (Ou:codeIn K Y5 "first_with"=true)
  (Ov:keepIn K (.ref Et)=true)
  (ZN:findIn K (.ref aV) "scaled"=some (some (.ref yx)))
  (Ow:K.lookup yx=some ⟨eQ8,eQ5,.func (fnOf "scaled" "BitField.scaled" (bx xD) (br xD) (aB xD) .none eQ9 eR0 eR1 eQ6 Y6 eR2),eQ7⟩)
  (Ox:codeIn K Y6 "BitField.scaled"=true)
  (EZ:keepIn K (.ref yx)=true)
  (ZO:findIn K (.ref aW) "scaled"=some (some (.ref yy)))
  (Oy:K.lookup yy=some ⟨eR6,eR3,.func (fnOf "scaled" "PrimeField.scaled" (bx xE) (br xE) (aB xE) .none eR7 eR8 eR9 eR4 Y7 eS0),eR5⟩)
  (Oz:codeIn K Y7 "PrimeField.scaled"=true)
  (E1:keepIn K (.ref yy)=true)
  (OA:nsIn K mainGlobals "cleared"=some (some (.ref Eu)))
  (OB:K.lookup Eu=some ⟨eS4,eS1,.func (fnOf "cleared" "cleared" (bx xF) (br xF) (aB xF) .none eS5 eS6 eS7 eS2 Y8 eS8),eS3⟩)
  (OC:codeIn K Y8 "cleared"=true)
  (OD:keepIn K (.ref Eu)=true)
  (OE:nsIn K mainGlobals "reduced"=some (some (.ref Ew)))
  (OF:K.lookup Ew=some ⟨eT2,eS9,.func (fnOf "reduced" "reduced" (bx xG) (br xG) (aB xG) .none eT3 eT4 eT5 eT0 Y9 eT6),eT1⟩)
  (OG:codeIn K Y9 "reduced"=true)
  (OH:keepIn K (.ref Ew)=true)
  (OI:nsIn K mainGlobals "kernel"=some (some (.ref Ey)))
  (OJ:K.lookup Ey=some ⟨eU0,eT7,.func (fnOf "kernel" "kernel" (bx xH) (br xH) (aB xH) .none eU1 eU2 eU3 eT8 Za eU4),eT9⟩)
  (OK:codeIn K Za "kernel"=true)
  (OL:keepIn K (.ref Ey)=true)
  (OM:nsIn K mainGlobals "_law_copy"=some (some (.ref Ez)))
  (ON:K.lookup Ez=some ⟨eU8,eU5,.func (fnOf "_law_copy" "_law_copy" (bx xI) (br xI) (aB xI) .none eU9 eV0 eV1 eU6 Zb eV2),eU7⟩)
  (OO:codeIn K Zb "_law_copy"=true)
  (OP:keepIn K (.ref Ez)=true)
  (OQ:nsIn K mainGlobals "_law_whole"=some (some (.ref EA)))
  (OR:K.lookup EA=some ⟨eV6,eV3,.func (fnOf "_law_whole" "_law_whole" (bx xJ) (br xJ) (aB xJ) .none eV7 eV8 eV9 eV4 Zc eW0),eV5⟩)
  (OS:codeIn K Zc "_law_whole"=true)
  (OT:keepIn K (.ref EA)=true)
  (OU:nsIn K mainGlobals "_law_row_kind"=some (some (.ref EB)))
  (OV:K.lookup EB=some ⟨eW4,eW1,.func (fnOf "_law_row_kind" "_law_row_kind" (bx xK) (br xK) (aB xK) .none eW5 eW6 eW7 eW2 Zd eW8),eW3⟩)
  (OW:codeIn K Zd "_law_row_kind"=true)
  (OX:keepIn K (.ref EB)=true)
  (OY:nsIn K mainGlobals "_law_table_kind"=some (some (.ref EC)))
  (OZ:K.lookup EC=some ⟨eX2,eW9,.func (fnOf "_law_table_kind" "_law_table_kind" (bx xM) (br xM) (aB xM) .none eX3 eX4 eX5 eX0 Ze eX6),eX1⟩)
  (O0:codeIn K Ze "_law_table_kind"=true)
  (O1:keepIn K (.ref EC)=true)
  (O2:nsIn K mainGlobals "_law_sent"=some (some (.ref ED)))
  (O3:K.lookup ED=some ⟨eY0,eX7,.func (fnOf "_law_sent" "_law_sent" (bx xN) (br xN) (aB xN) .none eY1 eY2 eY3 eX8 Zf eY4),eX9⟩)
  (O4:codeIn K Zf "_law_sent"=true)
  (O5:keepIn K (.ref ED)=true)
  (O6:nsIn K mainGlobals "_law_word"=some (some (.ref EE)))
  (O7:K.lookup EE=some ⟨eY8,eY5,.func (fnOf "_law_word" "_law_word" (bx xP) (br xP) (aB xP) .none eY9 eZ0 eZ1 eY6 Zg eZ2),eY7⟩)
  (O8:codeIn K Zg "_law_word"=true)
  (O9:keepIn K (.ref EE)=true)
  (Pa:nsIn K mainGlobals "lost_places"=some (some (.ref EF)))
  (Pb:K.lookup EF=some ⟨eZ6,eZ3,.func (fnOf "lost_places" "lost_places" (bx xQ) (br xQ) (aB xQ) .none eZ7 eZ8 eZ9 eZ4 Zh e00),eZ5⟩)
  (Pc:codeIn K Zh "lost_places"=true)
  (Pd:keepIn K (.ref EF)=true)
  (Pe:nsIn K mainGlobals "noughts_for_lost"=some (some (.ref EG)))
  (Pf:K.lookup EG=some ⟨e04,e01,.func (fnOf "noughts_for_lost" "noughts_for_lost" (bx xR) (br xR) (aB xR) .none e05 e06 e07 e02 Zi e08),e03⟩)
  (Pg:codeIn K Zi "noughts_for_lost"=true)
  (Ph:keepIn K (.ref EG)=true)
  (ZP:findIn K (.ref aV) "dot"=some (some (.ref yz)))
  (Pj:K.lookup yz=some ⟨e12,e09,.func (fnOf "dot" "BitField.dot" (bx xS) (br xS) (aB xS) .none e13 e14 e15 e10 Zj e16),e11⟩)
  (Pk:codeIn K Zj "BitField.dot"=true)
  (E2:keepIn K (.ref yz)=true)
  (ZQ:findIn K (.ref aW) "dot"=some (some (.ref yA)))
  (Pl:K.lookup yA=some ⟨e20,e17,.func (fnOf "dot" "PrimeField.dot" (bx xT) (br xT) (aB xT) .none e21 e22 e23 e18 Zk e24),e19⟩)
  (Pm:codeIn K Zk "PrimeField.dot"=true)
  (E3:keepIn K (.ref yA)=true)
  (Pn:nsIn K mainGlobals "by_column"=some (some (.ref EH)))
  (Po:K.lookup EH=some ⟨e28,e25,.func (fnOf "by_column" "by_column" (bx xU) (br xU) (aB xU) .none e29 e30 e31 e26 Zl e32),e27⟩)
  (Pp:codeIn K Zl "by_column"=true)
  (Pq:keepIn K (.ref EH)=true)
  (Pr:nsIn K mainGlobals "past_lost"=some (some (.ref EI)))
  (Pt:K.lookup EI=some ⟨e36,e33,.func (fnOf "past_lost" "past_lost" (bx xV) (br xV) (aB xV) .none e37 e38 e39 e34 Zm e40),e35⟩)
  (Pu:codeIn K Zm "past_lost"=true)
  (Pw:keepIn K (.ref EI)=true)
  (Px:nsIn K mainGlobals "numbers_within"=some (some (.ref EJ)))
  (Py:K.lookup EJ=some ⟨e44,e41,.func (fnOf "numbers_within" "numbers_within" (bx xW) (br xW) (aB xW) .none e45 e46 e47 e42 Zn e48),e43⟩)
  (Pz:codeIn K Zn "numbers_within"=true)
  (PB:keepIn K (.ref EJ)=true)
  (PC:nsIn K mainGlobals "wrong_places"=some (some (.ref EK)))
  (PD:K.lookup EK=some ⟨e52,e49,.func (fnOf "wrong_places" "wrong_places" (bx xX) (br xX) (aB xX) .none e53 e54 e55 e50 Zo e56),e51⟩)
  (PF:codeIn K Zo "wrong_places"=true)
  (PH:keepIn K (.ref EK)=true)
  (PJ:nsIn K mainGlobals "taken_off"=some (some (.ref EL)))
  (PK:K.lookup EL=some ⟨e60,e57,.func (fnOf "taken_off" "taken_off" (bx xY) (br xY) (aB xY) .none e61 e62 e63 e58 Zp e64),e59⟩)
  (PL:codeIn K Zp "taken_off"=true)
  (PM:keepIn K (.ref EL)=true)
  (PN:nsIn K mainGlobals "with_due"=some (some (.ref EM)))
  (PQ:K.lookup EM=some ⟨e68,e65,.func (fnOf "with_due" "with_due" (bx xZ) (br xZ) (aB xZ) .none e69 e70 e71 e66 Zq e72),e67⟩)
  (PR:codeIn K Zq "with_due"=true)
  (PU:keepIn K (.ref EM)=true)
  (PV:nsIn K mainGlobals "solved"=some (some (.ref EN)))
  (PX:K.lookup EN=some ⟨e76,e73,.func (fnOf "solved" "solved" (bx x6) (br x6) (aB x6) .none e77 e78 e79 e74 Zr e80),e75⟩)
  (PY:codeIn K Zr "solved"=true)
  (PZ:keepIn K (.ref EN)=true)
  (P0:nsIn K mainGlobals "picked"=some (some (.ref EO)))
  (P1:K.lookup EO=some ⟨e84,e81,.func (fnOf "picked" "picked" (bx x9) (br x9) (aB x9) .none e85 e86 e87 e82 Zs e88),e83⟩)
  (P2:codeIn K Zs "picked"=true)
  (P4:keepIn K (.ref EO)=true)
  (P5:nsIn K mainGlobals "near_row"=some (some (.ref ER)))
  (P6:K.lookup ER=some ⟨e92,e89,.func (fnOf "near_row" "near_row" (bx ya) (br ya) (aB ya) .none e93 e94 e95 e90 Zt e96),e91⟩)
  (P7:codeIn K Zt "near_row"=true)
  (P8:keepIn K (.ref ER)=true)
  (P9:nsIn K mainGlobals "_law_moved"=some (some (.ref ES)))
  (kI:K.lookup ES=some ⟨fa0,e97,.func (fnOf "_law_moved" "_law_moved" (bx yc) (br yc) (aB yc) .none fa1 fa2 fa3 e98 Zu fa4),e99⟩)
  (Qa:codeIn K Zu "_law_moved"=true)
  (Qb:keepIn K (.ref ES)=true)
  (E4:nsIn K mainGlobals "law"=some (some (.ref MA)))
  (Qc:K.lookup MA=some ⟨fa7,fa5,.func (fnOf "law" "law" (bx pO) (br pO) (aB pO) .none Zw Zx Zy Zv Mz Zz),fa6⟩)
  (Qe:codeIn K Mz "law"=true)
  (Qf:keepIn K (.ref MA)=true)
  (E5:PySem.W.plainGet K aV Str.empty=true)
  (E6:PySem.W.hasDictIn K aV=true)
  (E7:PySem.W.plainOver K aV=true)
  (E8:findIn K (.ref aV) "__setattr__"=some (some (.builtin "object.__setattr__")))
  (AF:PySem.W.makesIn K aV=true)
  (Qg:findIn K (.ref aV) "__init__"=some (some (.ref yp)))
  (Qh:isFn K (.ref yp)=true)
  (Qi:keepIn K (.ref aV)=true)
  (Qj:findIn K (.ref aV) "__class__"=some (some (.builtin "object.__class__")))
  (Qk:specialIn K (.builtin "object.__class__") "__get__"=some (some (.builtin "getset_descriptor.__get__")))
  (Ql:takesIn K (.builtin "object.__class__")=some true)
  (Qm:mroIn K aV (.type "object")=some true)
  (AG:findIn K (.ref aV) "bits"=some none)
  (sg:findIn K (.ref aV) "logs"=some none)
  (yh:findIn K (.ref aV) "many"=some none)
  (uU:findIn K (.ref aV) "powers"=some none)
  (DU:findIn K (.ref aV) "prime"=some none)
  (pP:findIn K (.ref aV) "products"=some none)
  (AH:findIn K (.ref aV) "step"=some none)
  (AI:findIn K (.ref aV) "wide"=some none)
  (AJ:findIn K (.ref aV) "dot"=some (some (.ref yz)))
  (Qn:isFn K (.ref yz)=true)
  (AK:findIn K (.ref aV) "lessened"=some (some (.ref yq)))
  (Qo:isFn K (.ref yq)=true)
  (AL:findIn K (.ref aV) "minus"=some (some (.ref yv)))
  (Qp:isFn K (.ref yv)=true)
  (AM:findIn K (.ref aV) "over"=some (some (.ref sr)))
  (Qq:isFn K (.ref sr)=true)
  (AN:findIn K (.ref aV) "scaled"=some (some (.ref yx)))
  (Qr:isFn K (.ref yx)=true)
  (yi:findIn K (.ref aV) "step_power"=some (some (.ref f4)))
  (Qs:isFn K (.ref f4)=true)
  (AO:findIn K (.ref aV) "times"=some (some (.ref yt)))
  (Qt:isFn K (.ref yt)=true)
  (E9:PySem.W.plainGet K aW Str.empty=true)
  (Fb:PySem.W.hasDictIn K aW=true)
  (Fc:PySem.W.plainOver K aW=true)
  (Fd:findIn K (.ref aW) "__setattr__"=some (some (.builtin "object.__setattr__")))
  (AQ:PySem.W.makesIn K aW=true)
  (Qu:findIn K (.ref aW) "__init__"=some (some (.ref f7)))
  (Qv:isFn K (.ref f7)=true)
  (Qw:keepIn K (.ref aW)=true)
  (Qx:findIn K (.ref aW) "__class__"=some (some (.builtin "object.__class__")))
  (Qy:specialIn K (.builtin "object.__class__") "__get__"=some (some (.builtin "getset_descriptor.__get__")))
  (Qz:takesIn K (.builtin "object.__class__")=some true)
  (QB:mroIn K aW (.type "object")=some true)
  (DV:findIn K (.ref aW) "bits"=some none)
  (uV:findIn K (.ref aW) "logs"=some none)
  (yj:findIn K (.ref aW) "many"=some none)
  (yk:findIn K (.ref aW) "powers"=some none)
  (m9:findIn K (.ref aW) "prime"=some none)
  (DW:findIn K (.ref aW) "products"=some none)
  (AR:findIn K (.ref aW) "step"=some none)
  (AS:findIn K (.ref aW) "wide"=some none)
  (AU:findIn K (.ref aW) "dot"=some (some (.ref yA)))
  (QC:isFn K (.ref yA)=true)
  (AV:findIn K (.ref aW) "lessened"=some (some (.ref yr)))
  (QD:isFn K (.ref yr)=true)
  (AW:findIn K (.ref aW) "minus"=some (some (.ref yw)))
  (QE:isFn K (.ref yw)=true)
  (AX:findIn K (.ref aW) "over"=some (some (.ref sr)))
  (QF:isFn K (.ref sr)=true)
  (AY:findIn K (.ref aW) "scaled"=some (some (.ref yy)))
  (QG:isFn K (.ref yy)=true)
  (ym:findIn K (.ref aW) "step_power"=some (some (.ref f4)))
  (QH:isFn K (.ref f4)=true)
  (AZ:findIn K (.ref aW) "times"=some (some (.ref yu)))
  (QI:isFn K (.ref yu)=true)
  (QJ:specialIn K (.ref lX) "__getattribute__"=some (some (.builtin "type.__getattribute__")))
  (QK:PySem.W.readsIn K lX (.type "type")=true)
  (QL:PySem.W.findCls K (.ref lX) (.type "type") "__init__"=some (.val (.ref f5)))
  (QM:nsIn K mainGlobals "all"=some none)
  (QN:nsIn K mainGlobals "any"=some none)
  (QO:nsIn K mainGlobals "bool"=some none)
  (QP:nsIn K mainGlobals "enumerate"=some none)
  (QQ:nsIn K mainGlobals "int"=some none)
  (QR:nsIn K mainGlobals "isinstance"=some none)
  (QS:nsIn K mainGlobals "len"=some none)
  (QT:nsIn K mainGlobals "list"=some none)
  (QU:nsIn K mainGlobals "range"=some none)
  (QV:nsIn K mainGlobals "sum"=some none)
  (QW:nsIn K mainGlobals "zip"=some none)
  (QX:(PySem.W.clsIn K iF).isSome=true)
  (ZR:PySem.W.typeIn K (.ref iF)=some (.type "type"))
  (QY:PySem.W.excIn K iF [.type "ValueError",.type "Exception",.type "BaseException",.type "object"] "ValueError.__new__"=true)
  (QZ:findIn K (.ref iF) "__getattribute__"=some (some (.builtin "BaseException.__getattribute__")))
  (Q0:findIn K (.ref iF) "__getattr__"=some none)
  (Q1:findIn K (.ref iF) "__class__"=some (some (.builtin "object.__class__")))
  (Q2:specialIn K (.builtin "object.__class__") "__get__"=some (some (.builtin "getset_descriptor.__get__")))
  (Q3:takesIn K (.builtin "object.__class__")=some true)
  (Q4:mroIn K iF (.type "object")=some true)
  (Q5:mroIn K iF (.type "BaseException")=some true)
  (nl:K.all (λp=>Hz p.2)=true)
  (sub:∀P∈[lV,lW],P∈ts) :
  ∃fd:FuncData,(∀(s:Shared) (v:Value),BindsTo s fd ⟨[v],[]⟩ [("_law_script",v)])/\∀base:Heap,K.In base->base.Ns mainGlobals mg->Bm mg base->aU l.prog w K mg base bf 15 fa fd ["_law_script"] (CP ts K):=by
 have e:=hfa.symm.trans (mg_of X G E4)
 cases e
 have F0:=bF (st:=wD) l0 c0 k0
 have b0:=F0.binds (ps:=["_law_cell_here"]) λ_ _ _ _ _ _=>g8 (λ_=>rfl)
 have F1:=bF (st:=wF) l1 c1 k1
 have b1:=F1.binds (ps:=["a","product"]) λ_ _ _ _ _ _=>g9 (λ_ _=>rfl)
 have F2:=bF (st:=wG) l2 c2 k2
 have b2:=F2.binds (ps:=["many","product"]) λ_ _ _ _ _ _=>g9 (λ_ _=>rfl)
 have F3:=bF (st:=wH) l3 c3 k3
 have b3:=F3.binds (ps:=["powers"]) λ_ _ _ _ _ _=>g8 (λ_=>rfl)
 have F4:=bF (st:=wI) l4 c4 k4
 have b4:=F4.binds (ps:=["self","n"]) λ_ _ _ _ _ _=>g9 (λ_ _=>rfl)
 have F5:=bF (st:=wJ) l5 c5 k5
 have b5:=F5.binds (ps:=["self","many","product"]) λ_ _ _ _ _ _=>fF (λ_ _ _=>rfl)
 have F6:=bF (st:=wK) l6 c6 k6
 have b6:=F6.binds (ps:=["prime"]) λ_ _ _ _ _ _=>g8 (λ_=>rfl)
 have F7:=bF (st:=pL) l7 c7 k7
 have b7:=F7.binds (ps:=["self","prime"]) λ_ _ _ _ _ _=>g9 (λ_ _=>rfl)
 have F8:=bF (st:=wL) l8 c8 k8
 have b8:=F8.binds (ps:=["powers","logs"]) λ_ _ _ _ _ _=>g9 (λ_ _=>rfl)
 have F9:=bF (st:=wM) l9 c9 k9
 have b9:=F9.binds (ps:=["a","b"]) λ_ _ _ _ _ _=>g9 (λ_ _=>rfl)
 have ZS:=bF (st:=wO) MD ME MF
 have b10:=ZS.binds (ps:=["a"]) λ_ _ _ _ _ _=>g8 (λ_=>rfl)
 have ZT:=bF (st:=wQ) MH MI MJ
 have b11:=ZT.binds (ps:=["bits"]) λ_ _ _ _ _ _=>g8 (λ_=>rfl)
 have ZU:=bF (st:=wR) ML MM MN
 have b12:=ZU.binds (ps:=["a","b"]) λ_ _ _ _ _ _=>g9 (λ_ _=>rfl)
 have ZV:=bF (st:=pM) MP MQ MR
 have b13:=ZV.binds (ps:=["self","bits"]) λ_ _ _ _ _ _=>g9 (λ_ _=>rfl)
 have ZW:=bF (st:=wU) MU MV MW
 have b14:=ZW.binds (ps:=["_law_told_here"]) λ_ _ _ _ _ _=>g8 (λ_=>rfl)
 have ZX:=bF (st:=wV) MY MZ M0
 have b15:=ZX.binds (ps:=["_law_cell_here","_law_base","_law_count"]) λ_ _ _ _ _ _=>fF (λ_ _ _=>rfl)
 have ZY:=bF (st:=wW) M3 M4 M5
 have b16:=ZY.binds (ps:=["_law_told_here","_law_a","_law_b"]) λ_ _ _ _ _ _=>fF (λ_ _ _=>rfl)
 have ZZ:=bF (st:=wX) M7 M8 M9
 have b17:=ZZ.binds (ps:=["_law_told_here","_law_a","_law_b"]) λ_ _ _ _ _ _=>fF (λ_ _ _=>rfl)
 have Z0:=bF (st:=wZ) Nb Nc Nd
 have b18:=Z0.binds (ps:=["_law_told_here","_law_xs","_law_ys"]) λ_ _ _ _ _ _=>fF (λ_ _ _=>rfl)
 have Z1:=bF (st:=w6) Ng Nh Ni
 have b19:=Z1.binds (ps:=["_law_told_here","_law_xs","_law_table_here","_law_wide"]) λ_ _ _ _ _ _=>kH (λ_ _ _ _=>rfl)
 have Z2:=bF (st:=w9) Nl Nm Nn
 have b20:=Z2.binds (ps:=["_law_script","_law_k"]) λ_ _ _ _ _ _=>g9 (λ_ _=>rfl)
 have Z3:=bF (st:=xa) Nq Nr Nt
 have b21:=Z3.binds (ps:=["_law_told_here"]) λ_ _ _ _ _ _=>g8 (λ_=>rfl)
 have Z4:=bF (st:=xb) Nv Nw Nx
 have b22:=Z4.binds (ps:=["_law_told_here","_law_script","_law_begin","_law_rows","_law_wide","_law_way"]) λ_ _ _ _ _ _=>cM3 (λ_ _ _ _ _ _=>rfl)
 have Z5:=bF (st:=xg) Nz NA NB
 have b23:=Z5.binds (ps:=["_law_told_here","_law_script","_law_rows","_law_wide"]) λ_ _ _ _ _ _=>kH (λ_ _ _ _=>rfl)
 have Z6:=bF (st:=xh) ND NF NG
 have b24:=Z6.binds (ps:=["table"]) λ_ _ _ _ _ _=>g8 (λ_=>rfl)
 have Z7:=bF (st:=xi) NI NJ NK
 have b25:=Z7.binds (ps:=["table"]) λ_ _ _ _ _ _=>g8 (λ_=>rfl)
 have Z8:=bF (st:=xj) NM NN NO
 have b26:=Z8.binds (ps:=["column"]) λ_ _ _ _ _ _=>g8 (λ_=>rfl)
 have Z9:=bF (st:=xk) NP NQ Bq
 have b27:=Z9.binds (ps:=["self","a","b"]) λ_ _ _ _ _ _=>fF (λ_ _ _=>rfl)
 have γ:=bF (st:=xm) NR NS ET
 have b28:=γ.binds (ps:=["self","row","a","other"]) λ_ _ _ _ _ _=>kH (λ_ _ _ _=>rfl)
 have ε:=bF (st:=xn) NT NU EU
 have b29:=ε.binds (ps:=["self","row","a","other"]) λ_ _ _ _ _ _=>kH (λ_ _ _ _=>rfl)
 have ζ:=bF (st:=xo) NV NW EV
 have b30:=ζ.binds (ps:=["self","a","b"]) λ_ _ _ _ _ _=>fF (λ_ _ _=>rfl)
 have η:=bF (st:=xp) NX NY EW
 have b31:=η.binds (ps:=["self","a","b"]) λ_ _ _ _ _ _=>fF (λ_ _ _=>rfl)
 have θ:=bF (st:=xq) N0 N1 N2
 have b32:=θ.binds (ps:=["field","column","others"]) λ_ _ _ _ _ _=>fF (λ_ _ _=>rfl)
 have ι:=bF (st:=xu) N4 N5 N6
 have b33:=ι.binds (ps:=["field","table"]) λ_ _ _ _ _ _=>g9 (λ_ _=>rfl)
 have μ:=bF (st:=xv) N8 N9 Oa
 have b34:=μ.binds (ps:=["rows"]) λ_ _ _ _ _ _=>g8 (λ_=>rfl)
 have ν:=bF (st:=xw) Oc Od Oe
 have b35:=ν.binds (ps:=["rows","width"]) λ_ _ _ _ _ _=>g9 (λ_ _=>rfl)
 have ξ:=bF (st:=xx) Of Og EX
 have b36:=ξ.binds (ps:=["self","a","b"]) λ_ _ _ _ _ _=>fF (λ_ _ _=>rfl)
 have ο:=bF (st:=xy) Oh Oi EY
 have b37:=ο.binds (ps:=["self","a","b"]) λ_ _ _ _ _ _=>fF (λ_ _ _=>rfl)
 have π:=bF (st:=xA) Ol Om Oo
 have b38:=π.binds (ps:=["field","rows","width"]) λ_ _ _ _ _ _=>fF (λ_ _ _=>rfl)
 have ρ:=bF (st:=xC) Ot Ou Ov
 have b39:=ρ.binds (ps:=["rows","place"]) λ_ _ _ _ _ _=>g9 (λ_ _=>rfl)
 have τ:=bF (st:=xD) Ow Ox EZ
 have b40:=τ.binds (ps:=["self","a","row"]) λ_ _ _ _ _ _=>fF (λ_ _ _=>rfl)
 have υ:=bF (st:=xE) Oy Oz E1
 have b41:=υ.binds (ps:=["self","a","row"]) λ_ _ _ _ _ _=>fF (λ_ _ _=>rfl)
 have χ:=bF (st:=xF) OB OC OD
 have b42:=χ.binds (ps:=["field","rows","lead_row","place"]) λ_ _ _ _ _ _=>kH (λ_ _ _ _=>rfl)
 have ω:=bF (st:=xG) OF OG OH
 have b43:=ω.binds (ps:=["field","table"]) λ_ _ _ _ _ _=>g9 (λ_ _=>rfl)
 have Γ:=bF (st:=xH) OJ OK OL
 have b44:=Γ.binds (ps:=["field","table"]) λ_ _ _ _ _ _=>g9 (λ_ _=>rfl)
 have Δ:=bF (st:=xI) ON OO OP
 have b45:=Δ.binds (ps:=["_law_table_here"]) λ_ _ _ _ _ _=>g8 (λ_=>rfl)
 have Θ:=bF (st:=xJ) OR OS OT
 have b46:=Θ.binds (ps:=["_law_x"]) λ_ _ _ _ _ _=>g8 (λ_=>rfl)
 have Λ:=bF (st:=xK) OV OW OX
 have b47:=Λ.binds (ps:=["_law_row","_law_wide","_law_many_here"]) λ_ _ _ _ _ _=>fF (λ_ _ _=>rfl)
 have Ξ:=bF (st:=xM) OZ O0 O1
 have b48:=Ξ.binds (ps:=["_law_table_here","_law_rows","_law_wide","_law_many_here"]) λ_ _ _ _ _ _=>kH (λ_ _ _ _=>rfl)
 have Φ:=bF (st:=xN) O3 O4 O5
 have b49:=Φ.binds (ps:=["_law_told_here","_law_script","_law_field_here","_law_table_here"]) λ_ _ _ _ _ _=>kH (λ_ _ _ _=>rfl)
 have Ψ:=bF (st:=xP) O7 O8 O9
 have b50:=Ψ.binds (ps:=["_law_told_here","_law_script","_law_wide"]) λ_ _ _ _ _ _=>fF (λ_ _ _=>rfl)
 have Ω:=bF (st:=xQ) Pb Pc Pd
 have b51:=Ω.binds (ps:=["signs"]) λ_ _ _ _ _ _=>g8 (λ_=>rfl)
 have F52:=bF (st:=xR) Pf Pg Ph
 have b52:=F52.binds (ps:=["signs"]) λ_ _ _ _ _ _=>g8 (λ_=>rfl)
 have F53:=bF (st:=xS) Pj Pk E2
 have b53:=F53.binds (ps:=["self","xs","ys"]) λ_ _ _ _ _ _=>fF (λ_ _ _=>rfl)
 have F54:=bF (st:=xT) Pl Pm E3
 have b54:=F54.binds (ps:=["self","xs","ys"]) λ_ _ _ _ _ _=>fF (λ_ _ _=>rfl)
 have F55:=bF (st:=xU) Po Pp Pq
 have b55:=F55.binds (ps:=["field","table","column"]) λ_ _ _ _ _ _=>fF (λ_ _ _=>rfl)
 have F56:=bF (st:=xV) Pt Pu Pw
 have b56:=F56.binds (ps:=["field","columns","lost"]) λ_ _ _ _ _ _=>fF (λ_ _ _=>rfl)
 have F57:=bF (st:=xW) Py Pz PB
 have b57:=F57.binds (ps:=["field","columns","due","most"]) λ_ _ _ _ _ _=>kH (λ_ _ _ _=>rfl)
 have F58:=bF (st:=xX) PD PF PH
 have b58:=F58.binds (ps:=["field","table","lost","sums","most"]) λ_ _ _ _ _ _=>VU (λ_ _ _ _ _=>rfl)
 have F59:=bF (st:=xY) PK PL PM
 have b59:=F59.binds (ps:=["field","word","places","signs"]) λ_ _ _ _ _ _=>kH (λ_ _ _ _=>rfl)
 have F60:=bF (st:=xZ) PQ PR PU
 have b60:=F60.binds (ps:=["table","due"]) λ_ _ _ _ _ _=>g9 (λ_ _=>rfl)
 have F61:=bF (st:=x6) PX PY PZ
 have b61:=F61.binds (ps:=["field","table","due"]) λ_ _ _ _ _ _=>fF (λ_ _ _=>rfl)
 have F62:=bF (st:=x9) P1 P2 P4
 have b62:=F62.binds (ps:=["table","places"]) λ_ _ _ _ _ _=>g9 (λ_ _=>rfl)
 have F63:=bF (st:=ya) P6 P7 P8
 have b63:=F63.binds (ps:=["field","table","room","word"]) λ_ _ _ _ _ _=>kH (λ_ _ _ _=>rfl)
 have F64:=bF (st:=yc) kI Qa Qb
 have b64:=F64.binds (ps:=["_law_told_here","_law_word_here","_law_by","_law_sent_here"]) λ_ _ _ _ _ _=>kH (λ_ _ _ _=>rfl)
 have F65:=bF (st:=pO) Qc Qe Qf
 have b65:=F65.binds (ps:=["_law_script"]) λ_ _ _ _ _ _=>g8 (λ_=>rfl)
 have T:Txt K mg ⟨f0,_,f1,_,f2,_,f3,_,f4,_,f5,_,f6,_,f7,_,f8,_,f9,_,D7,_,D8,_,mK,_,yp,_,D9,_,Ea,_,Eb,_,Ec,_,Ee,_,Ef,_,Eg,_,Eh,_,Ei,_,Ej,_,vM,_,Ek,_,El,_,sr,_,yq,_,yr,_,yt,_,yu,_,Em,_,Eo,_,Ep,_,Er,_,yv,_,yw,_,Es,_,Et,_,yx,_,yy,_,Eu,_,Ew,_,Ey,_,Ez,_,EA,_,EB,_,EC,_,ED,_,EE,_,EF,_,EG,_,yz,_,yA,_,EH,_,EI,_,EJ,_,EK,_,EL,_,EM,_,EN,_,EO,_,ER,_,ES,_,fa,_,Bo,lV,Bp,lW,aV,iF,lX,aW⟩:=⟨F0,mg_of X G a0,b0,F1,mg_of X G a1,b1,F2,mg_of X G a2,b2,F3,mg_of X G a3,b3,F4,b4,F5,b5,F6,mg_of X G a6,b6,F7,b7,F8,mg_of X G a8,b8,F9,mg_of X G a9,b9,ZS,mg_of X G MC,b10,ZT,mg_of X G MG,b11,ZU,mg_of X G MK,b12,ZV,b13,ZW,mg_of X G MT,b14,ZX,mg_of X G MX,b15,ZY,mg_of X G M1,b16,ZZ,mg_of X G M6,b17,Z0,mg_of X G Na,b18,Z1,mg_of X G Nf,b19,Z2,mg_of X G Nj,b20,Z3,mg_of X G Np,b21,Z4,mg_of X G Nu,b22,Z5,mg_of X G Ny,b23,Z6,mg_of X G NC,b24,Z7,mg_of X G NH,b25,Z8,mg_of X G NL,b26,Z9,b27,γ,b28,ε,b29,ζ,b30,η,b31,θ,mg_of X G NZ,b32,ι,mg_of X G N3,b33,μ,mg_of X G N7,b34,ν,mg_of X G Ob,b35,ξ,b36,ο,b37,π,mg_of X G Oj,b38,ρ,mg_of X G Oq,b39,τ,b40,υ,b41,χ,mg_of X G OA,b42,ω,mg_of X G OE,b43,Γ,mg_of X G OI,b44,Δ,mg_of X G OM,b45,Θ,mg_of X G OQ,b46,Λ,mg_of X G OU,b47,Ξ,mg_of X G OY,b48,Φ,mg_of X G O2,b49,Ψ,mg_of X G O6,b50,Ω,mg_of X G Pa,b51,F52,mg_of X G Pe,b52,F53,b53,F54,b54,F55,mg_of X G Pn,b55,F56,mg_of X G Pr,b56,F57,mg_of X G Px,b57,F58,mg_of X G PC,b58,F59,mg_of X G PJ,b59,F60,mg_of X G PN,b60,F61,mg_of X G PV,b61,F62,mg_of X G P0,b62,F63,mg_of X G P5,b63,F64,mg_of X G P9,b64,F65,mg_of X G E4,b65,rfl,MB,rfl,MS,⟨E5,E6,E7,E8⟩,⟨AF,Qg,Qh,Qi⟩,⟨⟨E5,E6,E7,E8⟩,Qj,Qk,Ql,Qm⟩,AG,sg,yh,uU,DU,pP,AH,AI,⟨AJ,Qn,E2⟩,⟨AK,Qo,ET⟩,⟨AL,Qp,EX⟩,⟨AM,Qq,Bq⟩,⟨AN,Qr,EZ⟩,⟨yi,Qs,k4⟩,⟨AO,Qt,EV⟩,⟨E9,Fb,Fc,Fd⟩,⟨AQ,Qu,Qv,Qw⟩,⟨⟨E9,Fb,Fc,Fd⟩,Qx,Qy,Qz,QB⟩,DV,uV,yj,yk,m9,DW,AR,AS,⟨AU,QC,E3⟩,⟨AV,QD,EU⟩,⟨AW,QE,EY⟩,⟨AX,QF,Bq⟩,⟨AY,QG,E1⟩,⟨ym,QH,k4⟩,⟨AZ,QI,EW⟩,⟨QJ,QK,QL,k5⟩,mg_none_of X G QM,mg_none_of X G QN,mg_none_of X G QO,mg_none_of X G QP,mg_none_of X G QQ,mg_none_of X G QR,mg_none_of X G QS,mg_none_of X G QT,mg_none_of X G QU,mg_none_of X G QV,mg_none_of X G QW,mg_of X G A7,mg_of X G A8,mg_of X G yn,mg_of X G A9,cN3 (mg_of X G A8) QY,⟨QX,QZ,Q0,Q1,Q2,Q3,Q4,Q5⟩⟩
 exact⟨fnOf "law" "law" (bx pO) (br pO) (aB pO) .none Zw Zx Zy Zv Mz Zz,λs v=>.of_eq rfl,λbase _ _ hB=>(cI6 T hB).imp λvs H Q E h=>let z:=cf8 nl h;⟨λP hP=>z.1 P (sub P hP),z.2⟩⟩
theorem aJ7{K:Frag}{h:Heap}{c f k P:Addr}{od an:Option Addr}{sl:Array (Option Value)}{oc kV dc pm ct kt:Value}{ko:Option Addr}{ks:Array (Option Value)}{kf:Array Value}(X:K.In h)(a:nsIn K mainGlobals "PrimeField"=some (some (.ref c)))(b:findIn K (.ref c) "__init__"=some (some (.ref f)))
  (l:K.lookup f=some ⟨oc,od,.func (fnOf "__init__" "PrimeField.__init__" (bx pL) (br pL) (aB pL) .none kV dc pm an (.ref k) ct),sl⟩) (lk:K.lookup k=some ⟨kt,ko,.fields kf,ks⟩) (lp:kf[11]?=some (.ref P)) (n:K.lookup P=none) (e:codeHdIn K k P=true):K.lookup P=none/\∃c,CodeHd h c P:=⟨n,k,PySem.W.codeHd_of_K X e⟩
theorem aN2{K:Frag}{h:Heap}{c f k P:Addr}{od an:Option Addr}{sl:Array (Option Value)}{oc kV dc pm ct kt:Value}{ko:Option Addr}{ks:Array (Option Value)}{kf:Array Value}(X:K.In h)(a:nsIn K mainGlobals "BitField"=some (some (.ref c)))(b:findIn K (.ref c) "__init__"=some (some (.ref f)))
  (l:K.lookup f=some ⟨oc,od,.func (fnOf "__init__" "BitField.__init__" (bx pM) (br pM) (aB pM) .none kV dc pm an (.ref k) ct),sl⟩) (lk:K.lookup k=some ⟨kt,ko,.fields kf,ks⟩) (lp:kf[11]?=some (.ref P)) (n:K.lookup P=none) (e:codeHdIn K k P=true):K.lookup P=none/\∃c,CodeHd h c P:=⟨n,k,PySem.W.codeHd_of_K X e⟩
theorem walk{l:PySem.W.OpenLaw}{q:Program}{loose:List Str}{XP:(Str->Option Value)->Heap->Prop}{YP:World->Heap->Prop}{d:DefRec}{K:Params->Frag}{ts:List Addr}(hn:l.most=some 63)(ze:d.params.defaults=[])
  (hY:∀(w:World) (h:Heap),YP w h->(K w.params).In h/\∀P∈ts,h.get? P=some (PySem.W.tabObj #[]))
  (hC:∀(w:World) (h:Heap),(K w.params).In h->∀P∈ts,(K w.params).lookup P=none/\∃c,CodeHd h c P)
  (F:∀(w:World) (mg:Str->Option Value) (fa:Addr) (h:Heap),(K w.params).In h->h.Ns mainGlobals mg->mg d.name=some (.ref fa) ->
   ∃fd:FuncData,(∀(s:Shared) (u:Value),BindsTo s fd ⟨[u],[]⟩ [("_law_script",u)])/\∀base:Heap,(K w.params).In base->base.Ns mainGlobals mg->Bm mg base->aU l.prog w (K w.params) mg base bf 15 fa fd ["_law_script"] (CP ts (K w.params))) :
  PySem.W.WalkO q loose XP YP l.row.toRowW d [] (λf vs=>PySem.call f vs) :=
 L2.dE1 (n:=63) (k:=15) (x:="_law_script") (CX:=λ_=>bf) (sp:=λw=>CP ts (K w.params)) hn (by decide) ze ⟨rfl,by decide,by decide⟩ hY hC F (λ_ _ a ns hl hO hS=>⟨a,ns,rfl,hO,hS,hl,λ_=>rfl⟩) λ_ _ _ _ _ z=>z
end HK31
set_option genInjectivity false in
set_option genSizeOf false in
structure PySem.W.Fast:Prop where
 (tw7562757597090443264 tw9395455480140144704 tw14556415417573814368 tw17106329414245850272 tw7359495704478881984 tw4817330518279004448 tw1847419919783026016 tw3740183983945224576 tw1404473446298672512 tw11146603461118312864 tw11515183845893296576 tw3206630053074779680 tw4926192671010574880 tw11095651401105277536 tw11344055616621611616 tw12416149359703331424 tw11726715745427957376 tw15287686903420227232 tw9182869595976455904 tw11742096287406757632 tw12059912612808082240 tw1298177473915014976 tw17503589440339818368 tw8280931457126544385 tw11443595322449453057 tw8627687418940805153 tw16343751438667761761 tw12586847203748156545 tw17934075421144467585 tw4718741778747963585 tw573578289983174881 tw469575503755363553 tw12968918398155966689 tw9233018119630991617 tw4143188380491060545 tw9126923776366301537 tw17232692931519145313 tw14779959802572709281 tw4970416205483399585 tw2836222684633687585:True)
 (tw16520498671916179009 tw10512070841170133601 tw2666924982909042337 tw240635578686298881 tw3703294363007738625 tw13432306803105852225 tw8036970552816695137 tw10994909894308945761 tw3411636390473476065 tw907254394186708994 tw2136663880019301410 tw9903007541788117090 tw11957839047533350082 tw7919277550404792514 tw14698115817437004098 tw12440555902742912322 tw16482309677376612706 tw16764805611102253410 tw4330030373410810242 tw1334634621587434946 tw12153811910591523330 tw136869924898482722 tw14450105897519511074 tw15670072518508655202 tw13730166780131304034 tw13038132895907119778 tw8672053297135674082 tw17530456031704859426 tw2912543028767595330 tw8369362619615871842 tw1145466922775218018 tw13798697475763865442 tw13208527252774020962 tw14700460808221570946 tw15655332288970047362 tw16417348472205126594 tw16861567401293305794 tw3116339888013321186 tw1582770025429446659 tw152501958969201699:True)
 (tw4000090895130308643 tw5799827103503903811 tw12518360766541976675 tw5479314340161674403 tw8200239148945011907 tw272313373144189219 tw17663260366031565123 tw1809655661400462723 tw14225953766976249251 tw2473994944212981283 tw5910242095138190915 tw17285689849128437315 tw3560586804300465763 tw17269801251014121123 tw586080232084780739 tw735002908621950691 tw16443975122441934595 tw16562349271376679683 tw9588739120299809603 tw4276267337058066339 tw15861880142041945059 tw17133909834602825699 tw1008866443791048708 tw10078587683050109956 tw14831583432955287588 tw13241062763065808996 tw6799266040447024228 tw16236092289756158052 tw13920772261789650084 tw2431232960263815396 tw232345701480614116 tw15003908909343036644 tw13743509792953439492 tw3477491024511681956 tw3653874295123252676 tw4901005074550496708 tw10079718945490478564 tw9907498228074102276 tw11403621274159804932 tw9448984553773923844:True)
 (tw15042699059378724452 tw680011413152673444 tw17223033710079249092 tw13568876649521681124 tw425263180387810020 tw6796779108841656164 tw7192552691620328292 tw4351378903802675044 tw10076847239409339268 tw4413193326650000453 tw3791712293624813637 tw3176958105116057797 tw7320720682965541061 tw11185391791882547429 tw2988627265508721893 tw17673575851038607621 tw4202265505615284485 tw9307322796056668453 tw1628683427346537957 tw10363506750005863973 tw9469864923205934661 tw13460044777502027397 tw15812016332075121317 tw11818970633804482277 tw6877264286293879557 tw13808494898044516133 tw16839704348103533381 tw4052173113470776133 tw3558454623634214853 tw9255325190443211910 tw13951509423660733606 tw1595324218558450854 tw4402697521869564102 tw7876596239166429382 tw13964294106319346886 tw17035021029607765190 tw7548624276750483750 tw12085090121314040134 tw13160839237746210214 tw10558008855959367110:True)
 (tw12444922406636753382 tw7857773446394647014 tw8950356245297456614 tw8292432798538696198 tw16095402389994316326 tw7745328471289964070 tw11245778590528222758 tw14358918485713357382 tw17296842391922431590 tw3433756782027616038 tw12615245515046995750 tw12384759631811103526 tw1431410844816014118 tw8799760934263153478 tw11675752775638481766 tw4128553311563984774 tw15885254624090577830 tw721636694048039047 tw417728248151518471 tw12278522545598130439 tw14181597766609350983 tw8874354939985440135 tw4798329230771451271 tw15760785408946254279 tw14339735962197078599 tw11275667500441524967 tw2025152021717798663 tw4211699361934740327 tw11211266950216450951 tw16404449322522017671 tw6109407228568982439 tw16122379209513063399 tw6685785514374892552 tw18364248248751439880 tw17213863329461985416 tw8746686492359441576 tw4558328126889284840 tw10712540174621185288 tw3660069608449221896 tw17871778357634792776:True)
 (tw13389625170016617832 tw3746388714992589256 tw5671896486238278120 tw9020020424717477384 tw4852850713711517224 tw17876746219952503368 tw6789904907921640072 tw7219326640789175976 tw8427608021572468392 tw7536690106997927656 tw16006867893603396360 tw17774904748450926408 tw3841539398346079112 tw2736556402734268296 tw7274471832273464232 tw10037183311211676648 tw8909144850568302568 tw2908402314883039208 tw8969961434640688233 tw2281180575153604777 tw10136798190874447049 tw4669482717784919273 tw12733996893450959081 tw7921442245288785161 tw11702915003437613353 tw15248057488066573609 tw15553572631541009737 tw13363392995370519881 tw3001577076289432937 tw7518055151582028169 tw3691178312884161961 tw12773308452458850761 tw4910415934450875881 tw3236686729437218313 tw1605381683939208745 tw18089357892786987593 tw18357972166490567241 tw10523051133240954505 tw8127578183967443625 tw15202256829462359753:True)
 (tw3836903842901382921 tw9274814567661053737 tw12776888076607702889 tw7357898092624748586 tw2720325245598417962 tw10594489094995627050 tw7364507335422343338 tw8932272069888165066 tw13508101732971534538 tw18372716338096076074 tw14853608050664609194 tw677521428337420746 tw11204364178159630794 tw1148563847355540970 tw1480715105549249034 tw10781729878044948010 tw6913738601266986538 tw14856835449130995306 tw12510149905351212810 tw14776992736429146954 tw6841089259890846602 tw4302028339433262986 tw8827537156217948074 tw122637084236173226 tw11864023387152728075 tw18386861813025176587 tw467209844702638123 tw4511199316449683627 tw8044669489500650667 tw10472243625367665835 tw13886838857692609739 tw8714577042156700907 tw1782157065381267691 tw9978590728477528299 tw10360348056635401451 tw9021039686757941547 tw16585936579561424171 tw14447870990352747819 tw13397086288801790315 tw7323470987192301963:True)
 (tw7656862567823180171 tw18239800161057276331 tw13808373656976357835 tw16524744130744613387 tw16397728367959023147 tw11422920504959059499 tw3038291365901466155 tw9178089865219407467 tw12931647101287769739 tw5493017855777310347 tw13221756858396165803 tw2637521275406134987 tw18116881619430542155 tw721598812370030443 tw7854175685498547115 tw14708946491309176747 tw17912177209053077451 tw13225431232231270347 tw1012950881676191691 tw7856438796221838283 tw3900895441230583852 tw6935195485023684684 tw11138751909276354892 tw16326751747861648716 tw5853148529419556268 tw5738954370808268204 tw10982621870679419436 tw1881908039998344812 tw16790996824092460652 tw2164952945467197068 tw9501513237377283724 tw8287672966526409388 tw8806323940632333100 tw5939783643984043852 tw15365047899113890636 tw385852292723649549 tw14593887879139176461 tw7754317895768196141 tw8766742701716850733 tw16934240419166438477:True)
 (tw3663499579138145421 tw14832355985443117229 tw18245528372579748013 tw1362559284641067277 tw1051519969109172557 tw14161931873543582125 tw8843522347373950413 tw11520564850530175469 tw743928982273612269 tw15840713878223092269 tw6725965356696895021 tw13668529862659661 tw15965964658369314413 tw11764900142989781613 tw13140579100364586797 tw5478086821581537069 tw15187419663430226829 tw15229269026300381133 tw7797294226293136365 tw6410605401424393230 tw6955346282891182126 tw13550075814606962766 tw18365476680984420430 tw7382543375552623758 tw3492513480919024846 tw6748119007065231662 tw10270758966118231470 tw16595899762034826670 tw8118256764685754830 tw14839425331191795182 tw7323732448081986126 tw618913223555480142 tw7726458286750319246 tw17503575466662282926 tw8356177924283452078 tw8538241711443720910 tw6257616374336278222 tw14487071744114893614 tw8239239957795046222 tw4417080854026508110:True)
 (tw13038683496775937998 tw14337413484153337967 tw16076279170437464239 tw10636419057017437359 tw10996837081464583407 tw17364672510596745487 tw4909103462794927375 tw4394575051352058159 tw723545393681932623 tw17896324048025707951 tw9212461273874590127 tw12022723340227542575 tw6315795881645555247 tw16857023235498636911 tw14179672298424454927 tw11916013970875490095 tw1611871349837483919 tw9001069984328245199 tw8850961063618197616 tw9886145019974424816 tw8283769735925249392 tw1041450922113107408 tw1847495783066007056 tw10403821555191477840 tw10277271716757115472 tw7879015183114854000 tw4075477092119476880 tw146440300059418288 tw103819090272244496 tw13597471549544479536 tw4191933311271292784 tw15910628101759431536 tw12119005681760995248 tw9294875033504888752 tw5249417925470796817 tw6215698220405306449 tw9619635374894996593 tw14305125393188056177 tw16028011523372683409 tw2911502548653351153:True)
 (tw5071768464217614641 tw10043813512663918929 tw8170658361898995089 tw10409079463180942737 tw10077727508229121457 tw7095577119000531473 tw7055785300831439473 tw719444414717309649 tw17342955917163680689 tw10652979162074406865 tw17554029410305703954 tw5124817198973188114 tw3136505062628465714 tw14729753845610764402 tw12520640398086049938 tw6170512514709045426 tw13610732232330803378 tw8777007186199836882 tw7865057557733155154 tw10277644498625249650 tw15709217510586250610 tw14122759192321978770 tw11474328213523242450 tw11172377486055255570 tw948577909791573522 tw5176988496594696754 tw815570942852735602 tw2619668069031891666 tw2906823197420752626 tw15220216815026542322 tw17132542251994930994 tw2109364967803222962 tw10725453759746676722 tw14940574044523610098 tw15747803912802672723 tw13335763878478274643 tw14945970380081625171 tw9265489081299355763 tw3002603892198535283 tw7556335352300485779:True)
 (tw10078578585017052339 tw164444759953723603 tw6710776789569349907 tw16040008551817588019 tw16093481524230622579 tw1776243971710651763 tw3346185216492780083 tw1468150125544849971 tw13611270276378208851 tw4323886265307127443 tw1264496219593944755 tw18235884181147840179 tw13250769799682715347 tw11221984126896455379 tw10992230968272434963 tw15735113355169205043 tw6173667601353620275 tw10307650136542170035 tw4881446809572330419 tw1278526595918027763 tw11394141105663867988 tw17999091944328408212 tw12941353287803500692 tw4557639606398654644 tw16714547922718173364 tw1539965459566951604 tw1300207811955885268 tw1695019128273070292 tw6858582958152350932 tw8159720619817696532 tw3572305174213490996 tw11705166512626778516 tw8534836829801263668 tw12180844523559079508 tw8033539544625300116 tw11564691522420369044 tw6974486426419239636 tw3326177958447277780 tw2017746726060850932 tw12537487737907171156:True)
 (tw2792830240534830964 tw12737394896670087060 tw14446572373540620212 tw8234275502814672852 tw14559631990252521493 tw16472260194210451541 tw9751791156787616885 tw9860835722187337877 tw7451637889542529269 tw7475920953962450165 tw6294773685689945397 tw7245294171964847413 tw819687614412234133 tw16152853053462104501 tw16314559672606815701 tw14151244177191937621 tw17752805668068408981 tw212485729488997109 tw11619826588861361909 tw10582312077103972149 tw10454824487125710645 tw12990651513788629877 tw11051152250605057909 tw17543762530320896949 tw16806558099561276341 tw2262311557480824854 tw7377586312622535734 tw13467112605899415606 tw13373933812496506966 tw5596507133362569334 tw15718393722389573750 tw16784718739312463990 tw12488423910103379062 tw3357211683466792118 tw17832296243813672118 tw12916213271677822166 tw17258827993542345974 tw4354432655714840822 tw17161246223416177942 tw15269370898500846998:True)
 (tw6887866727077619094 tw15658980147454480822 tw12347783074780938774 tw8839613762839547446 tw12887051725957619254 tw3058899553673711286 tw7628097037708562166 tw11542179996157940502 tw10402246554374743830 tw17698308092444029718 tw17574842252389042006 tw5790698421443896214 tw16485124841734027158 tw11511943811377784790 tw1461551243694641142 tw9961108601936437335 tw6479431076110305399 tw17371703895742057623 tw1971864037249689751 tw1546546109354260631 tw18038675073871522071 tw11470644621596346647 tw6516667214149584183 tw1552781036590362999 tw1087616341487709591 tw13055423056772891127 tw8645921737655701015 tw505428446112015959 tw9333655255422040663 tw15877412254205904503 tw3039151564584462039 tw10766570393396400887 tw5780428771896719095 tw13428427213625207575 tw15058733637652887319 tw12130930717204561687 tw214653018190289719 tw13302152257312182071 tw647612109085349751 tw14109353022377115607:True)
 (tw2775836043020093399 tw5306399497614013431 tw5498679307301779480 tw2030255989204082744 tw13949723423144536120 tw459102551231324248 tw11985477923080914072 tw8537362356314005656 tw10368711056496916664 tw10887593363207040216 tw3901124416210253016 tw4030218177751853304 tw2183162969631150328 tw10269789108277766456 tw8508365428551489880 tw44227093021895000 tw868453743354312024 tw965753692180196728 tw12643794290157794712 tw11184173437482387896 tw14105697724088564216 tw797591424688045592 tw12491840451666435704 tw15692417904817950360 tw7545860407352843992 tw6815068118525959928 tw11929150181246314296 tw16789445102414007128 tw12017354007882952632 tw10552971428565347545 tw8482327623740009721 tw4931908654583077113 tw14958238414227902841 tw11101807589176113529 tw10405637862900956537 tw17255783420175164825 tw10307857735600723385 tw18501618953790041 tw17663443396169690713 tw7963896773005803097:True)
 (tw53762486201157241 tw8684332292818773657 tw7622875666759690969 tw12564071118597369593 tw808740102660052793 tw1786048856418985817 tw7532392366204030937 tw17591105364284199962 tw5875336260290605082 tw12209903207172035642 tw4522892543293574234 tw15210751492793732218 tw8942627020932591770 tw8201477561843444890 tw45565484975139066 tw17149328193469384986 tw14052915104910604634 tw7057814566142301562 tw16964774840340569466 tw7733102368513231290 tw458334577697369594 tw13995531023376432634 tw5062748201005253146 tw9211556453105483290 tw9004698029344874010 tw788019291777729114 tw13880675295296004730 tw8829100959497607866 tw1717799892204791514 tw9276841797408685914 tw901153982348265370 tw13791367387332189178 tw2199959554011759675 tw4163914833317636155 tw17988970710125520955 tw14867586659245034651 tw7222331788576283803 tw9416964951251414267 tw18331824895338509563 tw15213800026877038907:True)
 (tw12052111516079661371 tw9753763272383178139 tw15502072938114110875 tw10017881663349505467 tw5803233198059962811 tw11951994670350640603 tw7766128013651439067 tw980315985822143995 tw18016499601520226875 tw9000937583217928859 tw10912785007710873307 tw16390955497775655771 tw8511125931353605019 tw6294374566293195739 tw9612663545727522876 tw8296471986710507612 tw15387732043917063260 tw7175262836757197948 tw3603732202334746780 tw5834728371151591612 tw12255045978620005628 tw13739387994071063804 tw18018578000012179708 tw5378090938768295196 tw7195198596339285276 tw5928533128371671356 tw2028213547627526460 tw5823411815226391964 tw12876468906806233500 tw1398823862967366044 tw5990298379142044124 tw14531062853103582716 tw3025212431203362332 tw3248114924990164572 tw2342886120426555100 tw16590651382084971260 tw12426231192032711452 tw586847983203786524 tw6944309801760959324 tw8373372191880820765:True)
 (tw6746815453194318877 tw13323781915805711389 tw6826144217340061789 tw11450380623730338909 tw10716860081033717917 tw2151705896092797181 tw12729752900564790557 tw5471561080890401117 tw9875256972531097981 tw5477233531746231709 tw14732223037746580957 tw4268718343146379805 tw13845209780037626429 tw7969521067413909117 tw18333929082969408125 tw6763519051696573149 tw12565379128492131101 tw17726263762280638269 tw5051456188503076701 tw7733090400629635933 tw11132667492698686365 tw12005093160756761501 tw13208217125313453021 tw16426163503416571901 tw13828916343484330014 tw641316080211203134 tw4287466849759890526 tw13512429418508339294 tw2631182396763904126 tw1243165627306310782 tw15406238480636200190 tw10441362910557046046 tw15780799660607226174 tw5741313793354577246 tw6164449620240272766 tw3203549629603042686 tw15852137920716302846 tw8612193155969259038 tw16419263993712121406 tw5543575929902573150:True)
 (tw4561224735885902558 tw9737768384559651614 tw3047476025933708126 tw12723374665849461758 tw5515184445182151775 tw12410488401765545055 tw936143664516820063 tw8345337997197709503 tw1132919604556040447 tw16492480977310588191 tw15331393511583688063 tw3319979866980917663 tw5444885454414576031 tw15700597676177160703 tw14298595376982817279 tw7375308005204405791 tw7482529372470031903 tw10085385247704876671 tw2919597324041906879 tw12788229282131678943 tw10988684863888516831 tw4749343178815677215 tw15474043007969913663 tw8529121241203561311 tw13788942614150008799 tw9866951818810668377:True)
open PySem PySem.W PyProof.Rows
set_option maxRecDepth 100000 in
set_option maxHeartbeats 0 in
theorem PySem.Challenge.cw_mendfield_k31_whole_moved_holds : PySem.Challenge.rw_mendfield_k31_whole_moved.Holds := by
 w_on;o_law;k_head;(case hw=>w_witness2)
 k_fill
 refine HK31.walk (l:=PySem.Challenge.rw_mendfield_k31_whole_moved) rfl rfl (λw h Y=>⟨PySem.W.km_in_of Y,PySem.W.km_tabs_of Y⟩) ?C ?F
 case C =>
  intro w h hX
  repeat' (first | exact List.forall_mem_nil _ | refine List.forall_mem_cons.mpr ⟨?_,?_⟩)
  all_goals first | (refine' HK31.aJ7 hX ?a ?b ?l ?lk ?lp ?n ?e;(case a=>k_is);(case b=>k_is);(case l=>k_is);(case lk=>k_is);(case lp=>first | rfl | with_unfolding_all rfl);(case n=>kernel_rfl);(case e=>kernel_rfl)) | (refine' HK31.aN2 hX ?a ?b ?l ?lk ?lp ?n ?e;(case a=>k_is);(case b=>k_is);(case l=>k_is);(case lk=>k_is);(case lp=>first | rfl | with_unfolding_all rfl);(case n=>kernel_rfl);(case e=>kernel_rfl))
 case F =>
  intro w mg fa h KX G zf
  refine' HK31.all_mk KX G zf ?A7 ?A8 ?yn ?A9 ?a0 ?l0 ?c0 ?k0 ?a1 ?l1 ?c1 ?k1 ?a2 ?l2 ?c2 ?k2 ?a3 ?l3 ?c3 ?k3 ?a4 ?l4 ?c4 ?k4 ?a5 ?l5 ?c5 ?k5 ?a6 ?l6 ?c6 ?k6 ?a7 ?l7 ?c7 ?k7 ?ZA ?ZC ?MB ?a8 ?l8 ?c8 ?k8 ?a9 ?l9 ?c9 ?k9 ?MC ?MD ?ME ?MF ?MG ?MH ?MI ?MJ ?MK ?ML ?MM ?MN ?ZD ?MP ?MQ ?MR ?ZE ?ZF ?MS ?MT ?MU ?MV ?MW ?MX ?MY ?MZ ?M0 ?M1 ?M3 ?M4 ?M5 ?M6 ?M7 ?M8 ?M9 ?Na ?Nb ?Nc ?Nd ?Nf ?Ng ?Nh ?Ni ?Nj ?Nl ?Nm ?Nn ?Np ?Nq ?Nr ?Nt ?Nu ?Nv ?Nw ?Nx ?Ny ?Nz ?NA ?NB ?NC ?ND ?NF ?NG ?NH ?NI ?NJ ?NK ?NL ?NM ?NN ?NO ?ZG ?NP ?NQ ?Bq ?ZH ?NR ?NS ?ET ?ZI ?NT ?NU ?EU ?ZJ ?NV ?NW ?EV ?ZK ?NX ?NY ?EW ?NZ ?N0 ?N1 ?N2 ?N3 ?N4 ?N5 ?N6 ?N7 ?N8 ?N9 ?Oa ?Ob ?Oc ?Od ?Oe ?ZL ?Of ?Og ?EX ?ZM ?Oh ?Oi ?EY ?Oj ?Ol ?Om ?Oo ?Oq ?Ot ?Ou ?Ov ?ZN ?Ow ?Ox ?EZ ?ZO ?Oy ?Oz ?E1 ?OA ?OB ?OC ?OD ?OE ?OF ?OG ?OH ?OI ?OJ ?OK ?OL ?OM ?ON ?OO ?OP ?OQ ?OR ?OS ?OT ?OU ?OV ?OW ?OX ?OY ?OZ ?O0 ?O1 ?O2 ?O3 ?O4 ?O5 ?O6 ?O7 ?O8 ?O9 ?Pa ?Pb ?Pc ?Pd ?Pe ?Pf ?Pg ?Ph ?ZP ?Pj ?Pk ?E2 ?ZQ ?Pl ?Pm ?E3 ?Pn ?Po ?Pp ?Pq ?Pr ?Pt ?Pu ?Pw ?Px ?Py ?Pz ?PB ?PC ?PD ?PF ?PH ?PJ ?PK ?PL ?PM ?PN ?PQ ?PR ?PU ?PV ?PX ?PY ?PZ ?P0 ?P1 ?P2 ?P4 ?P5 ?P6 ?P7 ?P8 ?P9 ?kI ?Qa ?Qb ?E4 ?Qc ?Qe ?Qf ?E5 ?E6 ?E7 ?E8 ?AF ?Qg ?Qh ?Qi ?Qj ?Qk ?Ql ?Qm ?AG ?sg ?yh ?uU ?DU ?pP ?AH ?AI ?AJ ?Qn ?AK ?Qo ?AL ?Qp ?AM ?Qq ?AN ?Qr ?yi ?Qs ?AO ?Qt ?E9 ?Fb ?Fc ?Fd ?AQ ?Qu ?Qv ?Qw ?Qx ?Qy ?Qz ?QB ?DV ?uV ?yj ?yk ?m9 ?DW ?AR ?AS ?AU ?QC ?AV ?QD ?AW ?QE ?AX ?QF ?AY ?QG ?ym ?QH ?AZ ?QI ?QJ ?QK ?QL ?QM ?QN ?QO ?QP ?QQ ?QR ?QS ?QT ?QU ?QV ?QW ?QX ?ZR ?QY ?QZ ?Q0 ?Q1 ?Q2 ?Q3 ?Q4 ?Q5 ?nl ?sub
  (case A7=>k_is)
  (case A8=>k_is)
  (case yn=>k_is)
  (case A9=>k_is)
  (case a0=>k_is)
  (case l0=>k_is)
  (case c0=>k_is)
  (case k0=>k_is)
  (case a1=>k_is)
  (case l1=>k_is)
  (case c1=>k_is)
  (case k1=>k_is)
  (case a2=>k_is)
  (case l2=>k_is)
  (case c2=>k_is)
  (case k2=>k_is)
  (case a3=>k_is)
  (case l3=>k_is)
  (case c3=>k_is)
  (case k3=>k_is)
  (case a4=>k_is)
  (case l4=>k_is)
  (case c4=>k_is)
  (case k4=>k_is)
  (case a5=>k_is)
  (case l5=>k_is)
  (case c5=>k_is)
  (case k5=>k_is)
  (case a6=>k_is)
  (case l6=>k_is)
  (case c6=>k_is)
  (case k6=>k_is)
  (case a7=>k_is)
  (case l7=>k_is)
  (case c7=>k_is)
  (case k7=>k_is)
  (case ZA=>k_is)
  (case ZC=>first | rfl | with_unfolding_all rfl)
  (case MB=>kernel_rfl)
  (case a8=>k_is)
  (case l8=>k_is)
  (case c8=>k_is)
  (case k8=>k_is)
  (case a9=>k_is)
  (case l9=>k_is)
  (case c9=>k_is)
  (case k9=>k_is)
  (case MC=>k_is)
  (case MD=>k_is)
  (case ME=>k_is)
  (case MF=>k_is)
  (case MG=>k_is)
  (case MH=>k_is)
  (case MI=>k_is)
  (case MJ=>k_is)
  (case MK=>k_is)
  (case ML=>k_is)
  (case MM=>k_is)
  (case MN=>k_is)
  (case ZD=>k_is)
  (case MP=>k_is)
  (case MQ=>k_is)
  (case MR=>k_is)
  (case ZE=>k_is)
  (case ZF=>first | rfl | with_unfolding_all rfl)
  (case MS=>kernel_rfl)
  (case MT=>k_is)
  (case MU=>k_is)
  (case MV=>k_is)
  (case MW=>k_is)
  (case MX=>k_is)
  (case MY=>k_is)
  (case MZ=>k_is)
  (case M0=>k_is)
  (case M1=>k_is)
  (case M3=>k_is)
  (case M4=>k_is)
  (case M5=>k_is)
  (case M6=>k_is)
  (case M7=>k_is)
  (case M8=>k_is)
  (case M9=>k_is)
  (case Na=>k_is)
  (case Nb=>k_is)
  (case Nc=>k_is)
  (case Nd=>k_is)
  (case Nf=>k_is)
  (case Ng=>k_is)
  (case Nh=>k_is)
  (case Ni=>k_is)
  (case Nj=>k_is)
  (case Nl=>k_is)
  (case Nm=>k_is)
  (case Nn=>k_is)
  (case Np=>k_is)
  (case Nq=>k_is)
  (case Nr=>k_is)
  (case Nt=>k_is)
  (case Nu=>k_is)
  (case Nv=>k_is)
  (case Nw=>k_is)
  (case Nx=>k_is)
  (case Ny=>k_is)
  (case Nz=>k_is)
  (case NA=>k_is)
  (case NB=>k_is)
  (case NC=>k_is)
  (case ND=>k_is)
  (case NF=>k_is)
  (case NG=>k_is)
  (case NH=>k_is)
  (case NI=>k_is)
  (case NJ=>k_is)
  (case NK=>k_is)
  (case NL=>k_is)
  (case NM=>k_is)
  (case NN=>k_is)
  (case NO=>k_is)
  (case ZG=>k_is)
  (case NP=>k_is)
  (case NQ=>k_is)
  (case Bq=>k_is)
  (case ZH=>k_is)
  (case NR=>k_is)
  (case NS=>k_is)
  (case ET=>k_is)
  (case ZI=>k_is)
  (case NT=>k_is)
  (case NU=>k_is)
  (case EU=>k_is)
  (case ZJ=>k_is)
  (case NV=>k_is)
  (case NW=>k_is)
  (case EV=>k_is)
  (case ZK=>k_is)
  (case NX=>k_is)
  (case NY=>k_is)
  (case EW=>k_is)
  (case NZ=>k_is)
  (case N0=>k_is)
  (case N1=>k_is)
  (case N2=>k_is)
  (case N3=>k_is)
  (case N4=>k_is)
  (case N5=>k_is)
  (case N6=>k_is)
  (case N7=>k_is)
  (case N8=>k_is)
  (case N9=>k_is)
  (case Oa=>k_is)
  (case Ob=>k_is)
  (case Oc=>k_is)
  (case Od=>k_is)
  (case Oe=>k_is)
  (case ZL=>k_is)
  (case Of=>k_is)
  (case Og=>k_is)
  (case EX=>k_is)
  (case ZM=>k_is)
  (case Oh=>k_is)
  (case Oi=>k_is)
  (case EY=>k_is)
  (case Oj=>k_is)
  (case Ol=>k_is)
  (case Om=>k_is)
  (case Oo=>k_is)
  (case Oq=>k_is)
  (case Ot=>k_is)
  (case Ou=>k_is)
  (case Ov=>k_is)
  (case ZN=>k_is)
  (case Ow=>k_is)
  (case Ox=>k_is)
  (case EZ=>k_is)
  (case ZO=>k_is)
  (case Oy=>k_is)
  (case Oz=>k_is)
  (case E1=>k_is)
  (case OA=>k_is)
  (case OB=>k_is)
  (case OC=>k_is)
  (case OD=>k_is)
  (case OE=>k_is)
  (case OF=>k_is)
  (case OG=>k_is)
  (case OH=>k_is)
  (case OI=>k_is)
  (case OJ=>k_is)
  (case OK=>k_is)
  (case OL=>k_is)
  (case OM=>k_is)
  (case ON=>k_is)
  (case OO=>k_is)
  (case OP=>k_is)
  (case OQ=>k_is)
  (case OR=>k_is)
  (case OS=>k_is)
  (case OT=>k_is)
  (case OU=>k_is)
  (case OV=>k_is)
  (case OW=>k_is)
  (case OX=>k_is)
  (case OY=>k_is)
  (case OZ=>k_is)
  (case O0=>k_is)
  (case O1=>k_is)
  (case O2=>k_is)
  (case O3=>k_is)
  (case O4=>k_is)
  (case O5=>k_is)
  (case O6=>k_is)
  (case O7=>k_is)
  (case O8=>k_is)
  (case O9=>k_is)
  (case Pa=>k_is)
  (case Pb=>k_is)
  (case Pc=>k_is)
  (case Pd=>k_is)
  (case Pe=>k_is)
  (case Pf=>k_is)
  (case Pg=>k_is)
  (case Ph=>k_is)
  (case ZP=>k_is)
  (case Pj=>k_is)
  (case Pk=>k_is)
  (case E2=>k_is)
  (case ZQ=>k_is)
  (case Pl=>k_is)
  (case Pm=>k_is)
  (case E3=>k_is)
  (case Pn=>k_is)
  (case Po=>k_is)
  (case Pp=>k_is)
  (case Pq=>k_is)
  (case Pr=>k_is)
  (case Pt=>k_is)
  (case Pu=>k_is)
  (case Pw=>k_is)
  (case Px=>k_is)
  (case Py=>k_is)
  (case Pz=>k_is)
  (case PB=>k_is)
  (case PC=>k_is)
  (case PD=>k_is)
  (case PF=>k_is)
  (case PH=>k_is)
  (case PJ=>k_is)
  (case PK=>k_is)
  (case PL=>k_is)
  (case PM=>k_is)
  (case PN=>k_is)
  (case PQ=>k_is)
  (case PR=>k_is)
  (case PU=>k_is)
  (case PV=>k_is)
  (case PX=>k_is)
  (case PY=>k_is)
  (case PZ=>k_is)
  (case P0=>k_is)
  (case P1=>k_is)
  (case P2=>k_is)
  (case P4=>k_is)
  (case P5=>k_is)
  (case P6=>k_is)
  (case P7=>k_is)
  (case P8=>k_is)
  (case P9=>k_is)
  (case kI=>k_is)
  (case Qa=>k_is)
  (case Qb=>k_is)
  (case E4=>k_is)
  (case Qc=>k_is)
  (case Qe=>k_is)
  (case Qf=>k_is)
  (case E5=>k_is)
  (case E6=>k_is)
  (case E7=>k_is)
  (case E8=>k_is)
  (case AF=>k_is)
  (case Qg=>k_is)
  (case Qh=>k_is)
  (case Qi=>k_is)
  (case Qj=>k_is)
  (case Qk=>k_is)
  (case Ql=>k_is)
  (case Qm=>k_is)
  (case AG=>k_is)
  (case sg=>k_is)
  (case yh=>k_is)
  (case uU=>k_is)
  (case DU=>k_is)
  (case pP=>k_is)
  (case AH=>k_is)
  (case AI=>k_is)
  (case AJ=>k_is)
  (case Qn=>k_is)
  (case AK=>k_is)
  (case Qo=>k_is)
  (case AL=>k_is)
  (case Qp=>k_is)
  (case AM=>k_is)
  (case Qq=>k_is)
  (case AN=>k_is)
  (case Qr=>k_is)
  (case yi=>k_is)
  (case Qs=>k_is)
  (case AO=>k_is)
  (case Qt=>k_is)
  (case E9=>k_is)
  (case Fb=>k_is)
  (case Fc=>k_is)
  (case Fd=>k_is)
  (case AQ=>k_is)
  (case Qu=>k_is)
  (case Qv=>k_is)
  (case Qw=>k_is)
  (case Qx=>k_is)
  (case Qy=>k_is)
  (case Qz=>k_is)
  (case QB=>k_is)
  (case DV=>k_is)
  (case uV=>k_is)
  (case yj=>k_is)
  (case yk=>k_is)
  (case m9=>k_is)
  (case DW=>k_is)
  (case AR=>k_is)
  (case AS=>k_is)
  (case AU=>k_is)
  (case QC=>k_is)
  (case AV=>k_is)
  (case QD=>k_is)
  (case AW=>k_is)
  (case QE=>k_is)
  (case AX=>k_is)
  (case QF=>k_is)
  (case AY=>k_is)
  (case QG=>k_is)
  (case ym=>k_is)
  (case QH=>k_is)
  (case AZ=>k_is)
  (case QI=>k_is)
  (case QJ=>k_is)
  (case QK=>k_is)
  (case QL=>k_is)
  (case QM=>k_is)
  (case QN=>k_is)
  (case QO=>k_is)
  (case QP=>k_is)
  (case QQ=>k_is)
  (case QR=>k_is)
  (case QS=>k_is)
  (case QT=>k_is)
  (case QU=>k_is)
  (case QV=>k_is)
  (case QW=>k_is)
  (case QX=>first | k_is | rfl | decide)
  (case ZR=>k_is)
  (case QY=>k_exc)
  (case QZ=>k_is)
  (case Q0=>k_is)
  (case Q1=>k_is)
  (case Q2=>k_is)
  (case Q3=>k_is)
  (case Q4=>k_is)
  (case Q5=>k_is)
  (case nl=>first | k_is | rfl | decide)
  (case sub=>decide)
