import PyProof.Rows.All
import Wide.All
import OpenK.AllK
import Wide.FinOn
import Lean
import PyProof.EqAt
import PyProof.EqKinds
import PyProof.TupleCall
import PyProof.NeKinds
import PyProof.Rows.Range3
import PyProof.FitsBits
import PyProof.StationsW
import PyProof.NsDelKeeps
import PyProof.Rows.CatchOwn
import KE.KTryMore
import PyProof.ExcArgsOwn
import PyProof.ExcAttrAll.ValueError
import OpenK.KOwn
import PyProof.ZipIter
import PyProof.WalksEnum
import PyProof.EnumMake
import KE.KIntText
import PyProof.Conv_int
import PyProof.StrWalks
import PyProof.StrLawsFirst
import KE.KLam
import KE.KNestM
import KE.KRevIter
import PyProof.ListRange
import PyProof.Rows.SortWalk
import PyProof.Rows.SetFrom
import PyProof.FactsAll.set
import PyProof.Rows.SeqMore
import PyProof.FString
import PySem.Challenge.RW_mendfield_k30_near_row
open Array renaming length_toList→yQ,append_assoc→BE,getElem?_eq_some_iff→RJ,toList_append→dd5
open Bool renaming and_eq_true→eQ,false_ne_true→gg,or_true→gy,true_and→kg,and_true→ki,false_and→sT,or_false→sX,eq_iff_iff→tf,not_false→vA,not_true→vB,true_or→vC,false_or→vD,false_eq_true→vE
open Classical renaming byContradiction→FG
open Decidable renaming byContradiction→y8
open Eq renaming trans→qk
open False renaming elim→gb
open ForInStep renaming yield→FH
open Int renaming toNat_natCast→fO,emod_nonneg→jl,emod_lt_of_pos→jm,natAbs_natCast→jn,natCast_emod→qi,toNat_of_nonneg→tG,natCast_mul→vw,natCast_add→FV,natCast_nonneg→RB,zero_add→RX,fdiv_eq_ediv_of_nonneg→db0
open List renaming getElem?_eq_getElem→aJ,getD_eq_getElem?_getD→aK,range→aZ,length_map→br,mem_map→bE,replicate→bF,getElem?_map→bP,mem_append→bY,map_map→bZ,mem_cons→cA,getElem_mem→cB,mem_range→cS,zipWith→cZ,all_eq_true→dv,length_range→dB,map_cons→dE,size_toArray→dO,length_append→dS,all_cons→dU,mem_singleton→dW,mem_cons_of_mem→dY,append_assoc→eV,mem_append_right→fc,mem_cons_self→fZ,map_append→gh,set_cons_zero→gi,set_cons_succ→gj,getElem_of_mem→gx,lookup_cons→gG,mem_append_left→gP,length_cons→gR,getElem?_eq_none→gU,length_take→ig,not_mem_nil→ij,length_zipWith→ik,getElem?_eq_some_iff→ji,nodup_cons→jj,length_drop→jk,map_nil→jM,getElem?_range→kh,append_nil→mn,take_add_one→mr,all_map→mv,zip→mw,getElem?_zipWith→mx,mem_filter→nE,lookup→nF,length_set→nG,nil_append→nH,cons.inj→nM,map_congr_left→nN,cons_append→nO,getElem?_cons_zero→nQ,getElem?_cons_succ→nR,length_replicate→p7,perm_append_comm→qe,mem_of_mem_drop→qf,mem_of_mem_take→qg,all_nil→qh,length_zip→qj,of_mem_zip→sU,getElem?_append_right→sV,getElem?_append_left→sW,replicate_succ→sZ,foldl_cons→s8,take_length→tu,take_of_length_le→tw,map_zipWith→tE,zipWith_map→tF,cons.injEq→tJ,getElem?_set_ne→vk,mem_of_getElem?→vo,flatten_cons→vp,getElem_map→vx,length_nil→vz,getElem?_mapIdx→yT,mem_or_eq_of_mem_set→yV,foldl_append→y6,filterMap_cons→BD,getElem?_replicate→BI,map→BP,ext_getElem→BQ,contains_iff_mem→BR,pairwise_cons→BU,pairwise_append→BV,length_filter_le→BW,getElem?_set_self→Fw,length→Fx,reverse_cons→FA,length_singleton→FC,any_eq_true→FI,append_eq_nil_iff→FN,append_inj→FP,mem_replicate→FQ,ext_getElem?→FT,getElem?_drop→FU,mem_map_of_mem→FW,findIdx_lt_length_of_exists→FX,range_succ→FY,pairwise_iff_getElem→Gb,nodup_range→Ge,map_replicate→Gh,any_eq_false→RD,Pairwise.nil→RF,Sublist.refl→RL,set_set→RM,mem_of_find?_eq_some→RP,map_drop→RQ,map_take→RU,drop_eq_nil_of_le→RV,any_map→RY,sum_cons→R0,zipWith_cons_cons→R1,filter_map→R4,filter_congr→R5,find?_eq_none→R6,getElem_zip→R8,getElem_range→R9,pairwise_singleton→Sa,pairwise_map→Sb,take_append_drop→Sd,mem_filterMap→da9,getElem?_take_of_lt→db2,length_reverse→db3,set_eq_of_length_le→db9,eq_nil_iff_forall_not_mem→dd0,filter_eq_self→dd1,range_succ_eq_map→dd2,getElem?_take→dd3,getElem_zipWith→dd4,zip_cons_cons→dd6,sublist_cons_self→dd7,findIdx_getElem→dd8,findIdx?_eq_some_iff_getElem→dd9,findIdx?_eq_none_iff→de0,pairwise_lt_range→de1,find?_eq_some_iff_append→de2,length_eq_zero_iff→de3,mem_erase_of_ne→de4,length_erase_of_mem→de5,findSome?_eq_none_iff→de6,filter_eq_nil_iff→de8,flatMap_append→df0
open Nat renaming le_refl→bM,lt_of_lt_of_le→dA,le_trans→eG,ne_of_lt→ft,lt_irrefl→fM,zero_le→jL,shiftLeft_eq→kN,xor_zero→mq,mul_comm→nI,pow_succ→nJ,testBit_xor→nK,lt_of_le_of_lt→nL,zero_xor→p9,xor_assoc→s9,min_self→tD,mul_assoc→vq,mod_lt→vv,two_pow_pos→yR,pow_le_pow_right→yS,not_lt→yU,mul_mod→yW,mod_eq_of_lt→yX,mod_add_mod→yY,succ.inj→y7,le_of_lt→BC,le_of_eq→BG,lt_succ_self→BH,add_comm→BK,eq_of_testBit_eq→BL,testBit_zero→BM,strongRecOn→BN,xor_self→BO,le_of_succ_le→BS,testBit_lt_two_pow→FD,testBit_succ→FE,lt_trans→FF,add_assoc→FR,sub_self→Ga,not_lt_zero→Gd,one_shiftLeft→Gg,ne_of_gt→RA,xor_comm→RG,testBit_and→RH,lt_succ_of_lt→RW,mod_mod→RZ,zero_add→R3,lt_or_ge→R7,zero_lt_one→Se,succ_pos→Sf,testBit_eq_decide_div_mod_eq→db4,shiftLeft_xor_distrib→db5,mul_lt_mul_right→db6,testBit_shiftLeft→db7,shiftRight_eq_div_pow→db8,mul_le_mul_right→de9
open Ne renaming symm→fA
open Option renaming some.inj→cT,getD_none→p8,getD_some→qa,map_some→tH,some.injEq→tI,map_eq_some_iff→vt,map_none→vy,isNone→Gf,toList_some→RN,isSome_iff_exists→db1,map_eq_none_iff→de7
open Or renaming inl→ao,inr→aX
open Prod renaming ext→yZ
open PyProof renaming Rows.callWith_type1→BF
open PySem renaming Heap.lt_size→bU,PassesOwn.never→eX,Value.ref→fL,Heap.get?_push_of_some→fN,Heap.get?_push_size→gQ,Value.int→pY,Builtin.bitAnd→pZ,Builtin.bitXor→p5,Value.none→sS,Heap.get?_update_other→sY,Heap.size_push→vn,Obj.mapSeq→BJ,Value.bool→Fv,Heap.get?_update_self→Fy,SeqAt.EqAt→Fz,Obj.data_mapFields→FJ,Value.type.inj→FK,Builtin.Str.strSliceIndices→FL,NameKind.cell→FZ,Builtin.List.listTooLong→RE,Obj.isFreed_of_fields→RI,Heap.MadeExcOf→RK,Calls.Name_function_global→da8
open Sum renaming inl→vi,inr→vj
open True renaming intro→vm
set_option Elab.async false
set_option linter.all false
set_option maxRecDepth 100000
local macro_rules | `(tactic| omega)=>`(tactic| lia)
noncomputable section
namespace L2
open PySem PySem.Spec PyProof.Rows
abbrev Key:=Sum Int Str
def Sg:Key->Value->Bool
 | .inl k,v=>Value.isInt k v
 | .inr x,v=>Value.isStrOf x v
def c05(w:World):Key->Int
 | .inl k=>hashInt k
 | .inr x=>hashStr w x
theorem nS:∀{k:Key} {v:Value},Sg k v=true->(∃i t,k=vi i/\v=pY i t)\/(∃x t,k=vj x/\v=Value.str x t)
 | .inl i,v,h=>by
  obtain⟨t,e⟩:=Value.isInt_shape (k:=i) (v:=v) h
  exact .inl ⟨i,t,rfl,e⟩
 | .inr x,v,h=>by
  obtain⟨t,e⟩:=Value.isStrOf_shape (x:=x) (v:=v) h
  exact .inr ⟨x,t,rfl,e⟩
theorem cP6(a b:Int):decide ((vi a:Key)=vi b)=(a==b):=by
 by_cases e:a=b
 ·subst e;simp
 ·have h:¬ (vi a:Key)=vi b:=λq=>e (Sum.inl.inj q)
  rw[decide_eq_false h]
  exact(beq_eq_false_iff_ne.mpr e).symm
theorem cK4(a b:Str):decide ((vj a:Key)=vj b)=decide (a=b):=by
 by_cases e:a=b
 ·subst e;simp
 ·have h:¬ (vj a:Key)=vj b:=λq=>e (Sum.inr.inj q)
  rw[decide_eq_false h,decide_eq_false e]
theorem cN4(a:Int)(b:Str):decide ((vi a:Key)=vj b)=false:=decide_eq_false (λq=>nomatch q)
theorem cJ8(a:Str)(b:Int):decide ((vj a:Key)=vi b)=false:=decide_eq_false (λq=>nomatch q)
def Sh(prog:Program)(w:World):PySem.KeyKind prog w Key where
 is:=Sg
 hash:=c05 w
 inj:=λv a b ha hb=>by
  rcases nS ha with⟨i,t,rfl,rfl⟩ | ⟨x,t,rfl,rfl⟩
  ·rcases nS hb with⟨j,u,rfl,e⟩ | ⟨y,u,rfl,e⟩
   ·injection e with e1 _;rw[e1]
   ·exact nomatch e
  ·rcases nS hb with⟨j,u,rfl,e⟩ | ⟨y,u,rfl,e⟩
   ·exact nomatch e
   ·injection e with e1 _;rw[e1]
 byValue:=λk v h=>by
  rcases nS h with⟨i,t,rfl,rfl⟩ | ⟨x,t,rfl,rfl⟩<;>rfl
 pyHash:=λhv h=>by
  rcases nS hv with⟨i,t,rfl,rfl⟩ | ⟨x,t,rfl,rfl⟩
  ·exact wpAny_pyHash_int h
  ·exact wpAny_pyHash_str h
 eqBool:=λhu hv h=>by
  rcases nS hu with⟨i,t,rfl,rfl⟩ | ⟨x,t,rfl,rfl⟩
  ·rcases nS hv with⟨j,u,rfl,rfl⟩ | ⟨y,u,rfl,rfl⟩
   ·rw[cP6]at h;exact wpAny_eqBool_int h
   ·rw[cN4]at h;exact SeqAt.EqAt.int_str i t y u _ _ _ _ h
  ·rcases nS hv with⟨j,u,rfl,rfl⟩ | ⟨y,u,rfl,rfl⟩
   ·rw[cJ8]at h;exact SeqAt.EqAt.str_int x t j u _ _ _ _ h
   ·rw[cK4]at h;exact wpAny_eqBool_str h
 «strs»:=λk x t v h=>by
  rcases nS h with⟨i,u,rfl,e⟩ | ⟨y,u,rfl,e⟩
  ·exact nomatch e
  ·injection e with e1 _
   subst e1
   cases v<;>rfl
end L2
namespace L2
open PySem PySem.Spec PyProof.Rows
inductive V where
 | ay | bl (b:Bool) | int (i:Int) | str (x:Str) | BX (b:Array UInt8) | tK (b:UInt64) | ref (a:Addr) | ty (n:String)
 deriving DecidableEq
def RelV:V->Value->Prop
 | .ay,u=>u=sS
 | .bl b,u=>u=Fv b
 | .int i,u=>∃t,u=pY i t
 | .str x,u=>∃t,u=Value.str x t
 | .BX b,u=>∃t,u=Value.bytes b t
 | .tK b,u=>∃t,u=Value.float b t
 | .ref a,u=>u=fL a
 | .ty n,u=>u=Value.type n
abbrev Vals:List V->List Value->Prop:=Paired RelV
theorem Vals.length{xs:List V}{us:List Value}(r:Vals xs us):xs.length=us.length:=Paired.length r
theorem Vals.get:∀{xs:List V} {us:List Value} {i:Nat} {x:V},Vals xs us->xs[i]?=some x->∃u,us[i]?=some u/\RelV x u
 | _,_,_,_,.nil,e=>by simp at e
 | _,_,0,_,.cons r _,e=>by simp at e;subst e;exact⟨_,rfl,r⟩
 | _,_,i+1,x,.cons _ t,e=>by
  obtain⟨u,h1,h2⟩:=Vals.get (i:=i) (x:=x) t (by simpa using e)
  exact⟨u,by simpa using h1,h2⟩
theorem Vals.set{x:V}{u:Value}(r:RelV x u):∀{xs:List V} {us:List Value} (i:Nat),Vals xs us->Vals (xs.set i x) (us.set i u)
 | _,_,_,.nil=>.nil
 | _,_,0,.cons _ t=>.cons r t
 | _,_,i+1,.cons q t=>.cons q (Vals.set r i t)
theorem Vals.append:∀{xs ys:List V} {us ws:List Value},Vals xs us->Vals ys ws->Vals (xs++ys) (us++ws)
 | _,_,_,_,.nil,s=>s
 | _,_,_,_,.cons r t,s=>.cons r (Vals.append t s)
theorem Vals.take:∀{xs:List V} {us:List Value} (n:Nat),Vals xs us->Vals (xs.take n) (us.take n)
 | _,_,0,_=>.nil
 | _,_,_+1,.nil=>.nil
 | _,_,n+1,.cons r t=>.cons r (Vals.take n t)
theorem Vals.drop:∀{xs:List V} {us:List Value} (n:Nat),Vals xs us->Vals (xs.drop n) (us.drop n)
 | _,_,0,r=>r
 | _,_,_+1,.nil=>.nil
 | _,_,n+1,.cons _ t=>Vals.drop n t
def my:Option V->Option Value->Prop
 | some v,some u=>RelV v u
 | none,none=>True
 | _,_=>False
def KV{κ:Type}:List (κ × V)->List (κ × Value)->Prop:=Paired λ(p:κ × V) (q:κ × Value)=>p.1=q.1/\RelV p.2 q.2
def kV:Key->V
 | .inl i=>.int i
 | .inr x=>.str x
inductive HO where
 | lst (xs:List V)
 | tup (xs:List V)
 | dK (dP:List (Key × V)) | dT (dP:List (List Key × V))
 | set (S:Int->Bool) (n:Nat)
 | ins (C dx:Addr) (fs:List (Str × V))
 | own (x:Addr)
 | xd (fs:List (Str × V))
 | met (f x:Addr)
 | y9 (lo hi:Int)
 | cq (o:Obj) (u:HO)
 | dM (ps:Array Value)
 | ext (φ:Heap->Prop)
abbrev Hp:=Addr->Option HO
def upd(H:Hp)(a:Addr)(o:HO):Hp:=λb=>if b=a then some o else H b
theorem cH{H:Hp}{a:Addr}{o:HO}:upd H a o a=some o:=by unfold upd;rw[if_pos rfl]
theorem bx{H:Hp}{a b:Addr}{o:HO}(h:b≠a):upd H a o b=H b:=by unfold upd;rw[if_neg h]
theorem fB{H:Hp}{a b:Addr}{o:HO}(h:H a=some o)(h':H b=none):a≠b:=by
 intro e;subst e;rw[h]at h';cases h'
section
variable(P:Program)(w:World)
def eH(H:Hp)(h:Heap)(a:Addr):HO->Prop
 | .lst xs=>xs.length<=sizeLine/\∃(its:List Value) (n:Nat),Vals xs its/\h.get? a=some { cls:=.type "list",data:=.seq its.toArray n }
 | .tup xs=>xs.length<=sizeLine/\∃its:List Value,Vals xs its/\IsTup h a its.toArray
 | .dK dP=>dP.length<=sizeLine/\(a==sysModules)=false/\∃vs,KV dP vs/\h.DictOf (Sh P w) a vs
 | .dT dP=>dP.length<=sizeLine/\(a==sysModules)=false/\∃xs:List (List Key × Addr × Value),
   Paired (λ(p:List Key × V) (q:List Key × Addr × Value)=>p.1=q.1/\H q.2.1=some (.tup (p.1.map kV))/\RelV p.2 q.2.2) dP xs /\
   ∃o es ep,h.get? a=some o/\o.ExactDict/\o.data=.dict es ep/\es.toList=xs.map (entryOfKey (tupleKind (Sh P w)))/\(xs.map (·.1)).Nodup
 | .set S n=>h.SetOf (intKind P w) a S n
 | .ins C dx fs=>H dx=some (.own a)/\fs.length<=1000/\dx≠a/\h.get? a=some (PySem.W.instObj C dx) /\
   ∃mA,h.Ns1 dx mA/\(∀f,my (fs.lookup f) (mA f))/\PySem.Within mA (fs.map (·.1))
 | .own _=>∃o,h.get? a=some o
 | .xd fs=>∃mA,h.Ns1 a mA/\∀f,my (fs.lookup f) (mA f)
 | .y9 lo hi=>∃t u v,h.get? a=some { cls:=.type "range",data:=.fields #[.int lo t,.int hi u,.int 1 v] }
 | .cq o u=>h.get? a=some o/\eH H h a u
 | .dM ps=>h.get? a=some { cls:=.none,data:=.fields ps }/\TriplesOk ps.toList/\∀pos cv,codeAmong pos ps.toList=some cv->∃c φ,cv=.ref c/\H c=some (.ext φ)/\∀h',φ h'->∃q,h'.CodeRec (.ref c) q
 | .met f x=>h.get? a=some (PySem.W.methodObj (.ref f) (.ref x))
 | .ext φ=>φ h/\(∃o,h.get? a=some o)/\∀h1 h2:Heap,φ h1->(∀b o,(b=a\/H b=some (.own a))->h1.get? b=some o->h2.get? b=some o)->φ h2
def cU(H:Hp)(h:Heap):Prop:=∀a o,H a=some o->eH P w H h a o
end
section
variable{P:Program}{w:World}{H H':Hp}{h h':Heap}{a:Addr}{o:HO}
theorem eH.lt(x:eH P w H h a o):a<h.objs.size:=by
 cases o with
 | lst xs=>obtain⟨_,_,_,_,e⟩:=x;exact bU e
 | tup xs=>obtain⟨_,_,_,p⟩:=x;exact p.lt
 | dK dP=>obtain⟨_,_,_,_,o,_,_,e,_⟩:=x;exact bU e
 | dT dP=>obtain⟨_,_,_,_,o,_,_,e,_⟩:=x;exact bU e
 | set S n=>obtain⟨o,_,_,_,e,_⟩:=x;exact bU e
 | ins C dx fs=>obtain⟨_,_,_,e,_⟩:=x;exact bU e
 | own y=>obtain⟨_,e⟩:=x;exact bU e
 | xd fs=>obtain⟨_,⟨_,_,_,e,_⟩,_⟩:=x;exact bU e
 | y9 lo hi=>obtain⟨_,_,_,e⟩:=x;exact bU e
 | cq ob u=>obtain⟨e,_⟩:=x;exact bU e
 | dM ps=>exact bU (show h.get? a=some _ from x.1)
 | met f y=>exact bU (show h.get? a=some _ from x)
 | ext φ=>obtain⟨_,⟨_,e⟩,_⟩:=x;exact bU e
theorem Paired.Gi{α β:Type}{F G:α->β->Prop}:∀{l₁:List α} {l₂:List β},Paired F l₁ l₂->(∀a b,F a b->G a b)->Paired G l₁ l₂
 | _,_,.nil,_=>.nil
 | _,_,.cons r t,f=>.cons (f _ _ r) (Paired.Gi t f)
theorem eH.kO(x:eH P w H h a o)(k:∀b u,(b=a\/H b=some (.own a))->h.get? b=some u->h'.get? b=some u)
  (ho:∀b,H b=some (.own a)->H' b=some (.own a)) (ht:∀b xs,H b=some (.tup xs)->H' b=some (.tup xs)) (hx:∀b φ,H b=some (.ext φ)->H' b=some (.ext φ)):eH P w H' h' a o:=by
 induction o with
 | lst xs=>obtain⟨z,its,n,r,e⟩:=x;exact⟨z,its,n,r,k _ _ (.inl rfl) e⟩
 | tup xs=>obtain⟨z,its,r,ob,e,c⟩:=x;exact⟨z,its,r,ob,k _ _ (.inl rfl) e,c⟩
 | dK dP=>obtain⟨z,y,vs,r,ob,es,ep,e,c⟩:=x;exact⟨z,y,vs,r,ob,es,ep,k _ _ (.inl rfl) e,c⟩
 | dT dP =>
  obtain⟨z,y,xs,r,ob,es,ep,e,c⟩:=x
  exact⟨z,y,xs,Paired.Gi r λp q z=>⟨z.1,ht _ _ z.2.1,z.2.2⟩,ob,es,ep,k _ _ (.inl rfl) e,c⟩
 | set S n=>obtain⟨ob,es,ep,t,e,c⟩:=x;exact⟨ob,es,ep,t,k _ _ (.inl rfl) e,c⟩
 | ins C dx fs =>
  obtain⟨d,z,ne,e,mA,⟨od,es,ep,e2,c⟩,r⟩:=x
  exact⟨ho _ d,z,ne,k _ _ (.inl rfl) e,mA,⟨od,es,ep,k _ _ (.inr d) e2,c⟩,r⟩
 | own y=>obtain⟨ob,e⟩:=x;exact⟨ob,k _ _ (.inl rfl) e⟩
 | xd fs=>obtain⟨mA,⟨od,es,ep,e,c⟩,r⟩:=x;exact⟨mA,⟨od,es,ep,k _ _ (.inl rfl) e,c⟩,r⟩
 | y9 lo hi=>obtain⟨t,u,v,e⟩:=x;exact⟨t,u,v,k _ _ (.inl rfl) e⟩
 | cq ob u ih=>obtain⟨e,q⟩:=x;exact⟨k _ _ (.inl rfl) e,ih q⟩
 | dM ps =>
  obtain⟨e,t,c⟩:=x
  refine⟨k a _ (.inl rfl) e,t,λpos cv q=>?_⟩
  obtain⟨d,φ,e1,e2,e3⟩:=c pos cv q
  exact⟨d,φ,e1,hx _ _ e2,e3⟩
 | met f y =>
  have e:h.get? a=some (PySem.W.methodObj (.ref f) (.ref y)):=x
  show h'.get? a=some (PySem.W.methodObj (.ref f) (.ref y))
  exact k a _ (.inl rfl) e
 | ext φ=>obtain⟨p,⟨o,e⟩,st⟩:=x;exact⟨st _ _ p λb o hb q=>k _ _ hb q,⟨o,k _ _ (.inl rfl) e⟩,λh1 h2 p1 kk=>st h1 h2 p1 λb o hb q=>kk b o (hb.imp id (ho b)) q⟩
theorem cU.lt(x:cU P w H h)(e:H a=some o):a<h.objs.size:=(x a o e).lt
theorem cU.fresh(x:cU P w H h)(e:h.objs.size<=a):H a=none:=by
 cases q:H a with
 | none=>rfl
 | some u=>exact absurd (dA (x.lt q) e) (fM _)
theorem cU.kept(x:cU P w H h)(k:∀b u,h.get? b=some u->h'.get? b=some u):cU P w H h':=λa o e =>
 (x a o e).kO (λb u _ q=>k b u q) (λ_ q=>q) (λ_ _ q=>q) λ_ _ q=>q
theorem cU.laid(x:cU P w H h)(k:∀b u,h.get? b=some u->h'.get? b=some u)(hp:h.objs.size<=a)(new:eH P w (upd H a o) h' a o):cU P w (upd H a o) h':=λb u e=>by
 have hn:=x.fresh hp
 by_cases hb:b=a
 ·subst hb;rw[cH]at e;cases e;exact new
 ·rw[bx hb]at e
  exact(x b u e).kO (λc v _ q=>k c v q) (λc q=>by rw[bx (fB q hn)];exact q) (λc xs q=>by rw[bx (fB q hn)];exact q) λc xs q=>by rw[bx (fB q hn)];exact q
end
def Rd(H:Hp)(a:Addr)(u:HO):Prop:=H a=some u\/∃o,H a=some (.cq o u)
theorem Rd.ok{P:Program}{w:World}{H:Hp}{h:Heap}{a:Addr}{u:HO}(r:Rd H a u)(x:cU P w H h):eH P w H h a u:=by
 rcases r with r | ⟨o,r⟩
 ·exact x a u r
 ·obtain⟨_,q⟩:=x a _ r
  exact q
def BY:Option HO->Prop
 | some (.lst _)=>True
 | some (.dK _)=>True
 | some (.dT _)=>True
 | some (.set _ _)=>True
 | some (.ins _ _ _)=>True
 | _=>False
section
variable{P:Program}{w:World}{H:Hp}{h h':Heap}{x e:Addr}{o':HO}
theorem cU.write(ok:cU P w H h)(mu:BY (H x))(he:e=x\/H e=some (.own x))(k:∀b u,b≠e->h.get? b=some u->h'.get? b=some u)(vF:∃u,h'.get? e=some u)
  (new:eH P w (upd H x o') h' x o'):cU P w (upd H x o') h':=λb u q=>by
 have Si:∀c y,H c=some (.own y)->c≠x:=λc y r z=>by subst z;rw[r]at mu;exact mu
 have df6:∀c xs,H c=some (.tup xs)->c≠x:=λc xs r z=>by subst z;rw[r]at mu;exact mu
 by_cases hb:b=x
 ·subst hb;rw[cH]at q;cases q;exact new
 ·rw[bx hb]at q
  by_cases tL:b=e
  ·have q':H b=some (.own x):=by
    rcases he with z | z
    ·exact absurd (tL.trans z) hb
    ·rw[tL];exact z
   rw[q]at q';cases q'
   obtain⟨v,hv⟩:=vF
   exact⟨v,by rw[tL];exact hv⟩
  ·refine(ok b u q).kO (λc v hc r=>k c v ?_ r) (λc r=>by rw[bx (Si c b r)];exact r) (λc xs r=>by rw[bx (df6 c xs r)];exact r) λc φ r=>by rw[bx (λz=>by rw[z]at r;rw[r]at mu;exact mu)];exact r
   rcases hc with rfl | hc
   ·exact tL
   ·rintro rfl
    rcases he with z | z
    ·exact Si c b hc z
    ·rw[hc]at z;cases z;exact hb rfl
end
structure Un(fs ex:List Addr)(H H':Hp)(h h':Heap):Prop where
 keep:∀b o,h.get? b=some o->H b=none->b ∉ fs->b ∉ ex->h'.get? b=some o
 slot:∀b o,h.get? b=some o->H b=none->b∈fs->b ∉ ex->∃sl,h'.get? b=some { o with slots:=sl }
 free:∀b o,h.get? b=some o->H b=none->b ∉ ex->H' b=none
 there:∀b o,h.get? b=some o->b ∉ ex->∃o',h'.get? b=some o'
 kj:∀b xs,H b=some (.tup xs)->H' b=some (.tup xs)
 jN:∀b o u,H b=some (.cq o u)->H' b=some (.cq o u)
 iM:∀b ps,H b=some (.dM ps)->∃more,H' b=some (.dM (ps++more))
section
variable{fs fs' ex ex':List Addr}{H H1 H2:Hp}{h h1 h2 h':Heap}{a x e:Addr}{o:HO}
theorem Un.any(u:Un fs ex H H1 h h1){b:Addr}{ob:Obj}(q:h.get? b=some ob)(n:H b=none)(hx:b ∉ ex):∃sl,h1.get? b=some { ob with slots:=sl }:=by
 by_cases hb:b∈fs
 ·exact u.slot b ob q n hb hx
 ·exact⟨ob.slots,u.keep b ob q n hb hx⟩
theorem Un.kept(k:∀b u,h.get? b=some u->h'.get? b=some u):Un fs ex H H h h' :=
 ⟨λb ob q _ _ _=>k b ob q,λb ob q _ _ _=>⟨ob.slots,k b ob q⟩,λ_ _ _ n _=>n,λb ob q _=>⟨ob,k b ob q⟩,λ_ _ q=>q,λ_ _ _ q=>q,λ_ ps q=>⟨#[],by rw[q];simp⟩⟩
theorem Un.refl:Un fs ex H H h h:=Un.kept λ_ _ q=>q
theorem Un.laid(k:∀b u,h.get? b=some u->h'.get? b=some u)(hp:h.objs.size<=a)(hn:H a=none):Un fs ex H (upd H a o) h h' where
 keep:=λb u q _ _ _=>k b u q
 slot:=λb u q _ _ _=>⟨u.slots,k b u q⟩
 free:=λb u q n _=>by rw[bx (ft (dA (bU q) hp))];exact n
 there:=λb u q _=>⟨u,k b u q⟩
 kj:=λb xs q=>by rw[bx (fB q hn)];exact q
 jN:=λb u xs q=>by rw[bx (fB q hn)];exact q
 iM:=λb ps q=>⟨#[],by rw[bx (fB q hn),q];simp⟩
theorem Un.write(mu:BY (H x))(he:e=x\/H e=some (.own x))(k:∀b u,b≠e->h.get? b=some u->h'.get? b=some u)(vF:∃u,h'.get? e=some u):Un fs ex H (upd H x o) h h':=by
 have hx:∀b,H b=none->b≠x:=λb n z=>by subst z;rw[n]at mu;exact mu
 have hb:∀b,H b=none->b≠e:=λb n z=>by
  subst z
  rcases he with r | r
  ·exact hx b n r
  ·rw[n]at r;cases r
 have hm:∀b u,H b=some u->¬ BY (some u)->b≠x:=λb u q nm z=>by subst z;rw[q]at mu;exact nm mu
 refine⟨λb u q n _ _=>k b u (hb b n) q,λb u q n _ _=>⟨u.slots,k b u (hb b n) q⟩,λb u q n _=>by rw[bx (hx b n)];exact n,λb u q _=>?_,
  λb xs q=>by rw[bx (hm b _ q λz=>z)];exact q,λb u xs q=>by rw[bx (hm b _ q λz=>z)];exact q,λb ps q=>⟨#[],by rw[bx (hm b _ q λz=>z),q];simp⟩⟩
 by_cases tL:b=e
 ·subst tL;exact vF
 ·exact⟨u,k b u tL q⟩
end
def BZ(h:Heap)(H:Hp):List Addr:=(aZ h.objs.size).filter λa=>(H a).isSome
def mB(h:Heap)(H:Hp):Heap:=PySem.W.hideAll h (BZ h H)
theorem ca9(h:Heap)(H:Hp):(mB h H).objs.size=h.objs.size:=PySem.W.hideAll_size _ _
theorem cp7{h:Heap}{H:Hp}{b:Addr}{o:Obj}(e:h.get? b=some o)(n:H b=none):(mB h H).get? b=some o :=
 PySem.W.hideAll_get _ e λhm=>by
  have q:(H b).isSome=true:=(nE.mp hm).2
  rw[n]at q;simp at q
theorem cG8{h:Heap}{H:Hp}{b:Addr}{o:Obj}(e:(mB h H).get? b=some o):h.get? b=some o/\H b=none:=by
 have e':h.get? b=some o:=PySem.W.of_hideAll (BZ h H) e
 refine⟨e',?_⟩
 cases q:H b with
 | none=>rfl
 | some x =>
  have hm:b∈BZ h H:=nE.mpr ⟨cS.mpr (bU e'),by simp[q]⟩
  have z:(mB h H).get? b=none:=PySem.W.hideAll_none (BZ h H) hm
  rw[z]at e;cases e
end L2
namespace L2
open PySem PySem.Spec PyProof.Rows
structure Mod(K:PySem.W.Frag)(mg:Str->Option Value)(base:Heap):Prop where
 nU:K.In base
 glob:base.Ns mainGlobals mg
 blt:∃mb,base.Ns builtinsNs mb/\∀x:Str,x≠"__name__"->mb x=bootBuiltins x
 nolimit:base.NoLimit
structure Cx where
 prog:Program
 w:World
 K:PySem.W.Frag
 mg:Str->Option Value
 base:Heap
 A:Around
 N:List Str
 cV:Shared
 kP:Hp
 env:Env
 outer:List Env
 stack:List Env
 ex:List Addr
 fn:Str->Bool
 calm:Bool
 pn:List (Addr × Obj)
 xe:Value->Shared->Prop
def eI(l:List Env):List Addr:=l.filterMap (·.frame)
abbrev Cx.fs(X:Cx):List Addr:=eI X.outer
def mC(sc:Scope)(x:Str):Prop:=sc.names.lookup x=some .local\/sc.names.lookup x=some .cell\/sc.names.lookup x=some .free
def Loc(sc:Scope)(x:Str):Prop:=sc.names.lookup x=some .local\/sc.names.lookup x=some .cell
def cZ0(env:Env)(h:Heap)(m:Str->Option Value)(x:Str)(u:Value):Prop :=
 (env.kindOf x=some .local/\m x=some u)\/((env.kindOf x=some .cell\/env.kindOf x=some .free)/\∃c,env.cells.lookup x=some c/\h.IsCell c (some u))
structure Cx.Ok(X:Cx):Prop where
 mod:Mod X.K X.mg X.base
 kind:X.env.scope.kind=.function
 glob:X.env.globals=mainGlobals
 blt:X.env.builtins=builtinsNs
 above:X.cV.heap.objs.size<=X.env.locals
 inj:∀x y c,X.env.cells.lookup x=some c->X.env.cells.lookup y=some c->x=y
 has:∀x,(X.env.kindOf x=some .cell\/X.env.kindOf x=some .free)->∃c,X.env.cells.lookup x=some c
 tM:∀x c,X.fn x=true->X.env.cells.lookup x=some c->X.cV.heap.objs.size<=c
 hd:X.calm=true->X.A.handled=none
 frames:X.A.frames=some X.stack
 za:X.stack=X.outer\/(X.stack=X.env::X.outer/\X.env.frame=some X.env.locals)
 zb:∀b∈X.ex,b≠X.env.locals/\∀x c,X.env.cells.lookup x=some c->c≠b
 bs:∀b o,X.base.get? b=some o->X.cV.heap.get? b=some o/\X.kP b=none
 km:X.base.objs.size<=X.cV.heap.objs.size
 vG:∀b o,X.base.get? b=some o->b ∉ X.ex
 vH:∀b∈X.ex,b ∉ X.fs
 gW:X.cV.heap.FunFrames X.base X.outer
 kq:∀b∈X.fs,X.kP b=none
structure Inv(X:Cx)(pins:List (Addr × Obj))(σ:List (Option V))(H:Hp)(s:Shared):Prop where
 ok:X.Ok
 os:s.os=X.cV.os
 bare:AllBare s.gens
 base:Un X.fs X.ex X.kP H X.cV.heap s.heap
 loc:∃m,s.heap.Ns X.env.locals m/\∀(i:Nat) (x:Str) (v:V),X.N[i]?=some x->σ[i]?=some (some v)->mC X.env.scope x->∃u,RelV v u/\cZ0 X.env s.heap m x u
 cell:∀x c,X.env.cells.lookup x=some c->∃v,s.heap.IsCell c v
 free:H X.env.locals=none
 jO:∀x c,X.env.cells.lookup x=some c->H c=none
 pin:∀p∈X.pn++pins,s.heap.get? p.1=some p.2/\H p.1=none/\p.1≠X.env.locals/\p.1 ∉ X.fs/\∀v,p.2.data≠.cell v
 aO:cU X.prog X.w H s.heap
 len:σ.length=X.N.length
section
variable{X:Cx}{pins:List (Addr × Obj)}{σ:List (Option V)}{H H':Hp}{s:Shared}{h':Heap}
theorem Cx.Ok.dg2(ok:X.Ok){b:Addr}{o:Obj}(e:X.base.get? b=some o):b ∉ X.fs:=λhb=>by
 have:=(ok.gW.mem hb).1
 rw[e]at this;cases this
theorem Inv.bs(I:Inv X pins σ H s):∀b o,X.base.get? b=some o->s.heap.get? b=some o/\H b=none:=λb o e =>
 ⟨I.base.keep b o (I.ok.bs b o e).1 (I.ok.bs b o e).2 (I.ok.dg2 e) (I.ok.vG b o e),I.base.free b o (I.ok.bs b o e).1 (I.ok.bs b o e).2 (I.ok.vG b o e)⟩
theorem Inv.bk(I:Inv X pins σ H s):∀b o,X.base.get? b=some o->s.heap.get? b=some o:=λb o e=>(I.bs b o e).1
theorem Inv.mod(I:Inv X pins σ H s):Mod X.K X.mg X.base:=I.ok.mod
theorem Inv.dF(I:Inv X pins σ H s):X.K.In s.heap:=I.ok.mod.nU.keeps I.bk
theorem Inv.lt(I:Inv X pins σ H s):X.env.locals<s.heap.objs.size:=let⟨_,hn,_⟩:=I.loc;hn.lt
theorem Inv.sz(I:Inv X pins σ H s):X.cV.heap.objs.size<=s.heap.objs.size:=eG I.ok.above (BC I.lt)
theorem Inv.Sj(I:Inv X pins σ H s){a:Addr}(h:s.heap.objs.size<=a):a ∉ X.fs:=λhb=>by
 obtain⟨_,o,ho,_⟩:=I.ok.gW.mem hb
 exact absurd (dA (bU ho) (eG I.sz h)) (fM _)
theorem Inv.ql(I:Inv X pins σ H s):∀x c,X.env.cells.lookup x=some c->c≠X.env.locals:=λx c e z=>by
 obtain⟨v,o,ho,hd⟩:=I.cell x c e
 obtain⟨m,⟨o',es,ep,kQ,zc,_⟩,_⟩:=I.loc
 rw[z,kQ]at ho;cases ho;rw[zc]at hd;cases hd
theorem Inv.gW(I:Inv X pins σ H s):s.heap.FunFrames X.base X.outer:=by
 have all:∀(l:List Env),(∀b∈eI l,b∈X.fs)->X.cV.heap.FunFrames X.base l->s.heap.FunFrames X.base l:=by
  intro l
  induction l with
  | nil=>intro _ _;trivial
  | cons env r ih =>
   intro hs hl
   obtain⟨hk,⟨L,o,hf,hn,ho,hd⟩,hr⟩:=hl
   have hL:L∈X.fs:=hs L (by unfold eI;rw[BD,hf];exact fZ)
   obtain⟨sl,e⟩:=I.base.slot L o ho (I.ok.kq L hL) hL λz=>I.ok.vH L z hL
   exact⟨hk,⟨L,_,hf,hn,e,hd⟩,ih (λb hb=>hs b (by unfold eI;rw[BD,hf];exact dY _ hb)) hr⟩
 exact all X.outer (λ_ hb=>hb) I.ok.gW
theorem Inv.stack(I:Inv X pins σ H s):s.heap.FunFrames X.base X.stack:=by
 rcases I.ok.za with e | ⟨e,hf⟩
 ·rw[e];exact I.gW
 ·rw[e]
  obtain⟨m,hn,_⟩:=I.loc
  refine .cons (by rw[I.ok.kind];decide) hf hn ?_ I.gW
  exact Heap.get?_none_of_le (eG I.ok.km I.ok.above)
theorem Inv.B0(I:Inv X pins σ H s):∀b∈eI X.stack,b∈X.env.locals::X.fs:=λb hb=>by
 rcases I.ok.za with e | ⟨e,hf⟩
 ·rw[e]at hb;exact dY _ hb
 ·rw[e]at hb
  unfold eI at hb
  rw[BD,hf]at hb
  exact hb
theorem Inv.Gj(I:Inv X pins σ H s):∀b∈eI X.stack,H b=none:=λb hb=>by
 rcases cA.mp (I.B0 b hb)with e | hb
 ·rw[e];exact I.free
 ·obtain⟨_,o,ho,_⟩:=I.ok.gW.mem hb
  exact I.base.free b o ho (I.ok.kq b hb) λz=>I.ok.vH b z hb
theorem Inv.step{g':Array GenState}{t':Nat}{d':Drawn}{ch:List Addr}(I:Inv X pins σ H s)
  (mD:∀b∈ch,(b∈X.ex\/X.cV.heap.objs.size<=b)/\b≠X.env.locals/\(∀x c,X.env.cells.lookup x=some c->c≠b)/\∀p∈X.pn++pins,p.1≠b)
  (keep:∀b o,b≠X.env.locals->b ∉ X.fs->b ∉ ch->s.heap.get? b=some o->H b=none->h'.get? b=some o)
  (slot:∀b o,b≠X.env.locals->b∈X.fs->b ∉ ch->s.heap.get? b=some o->H b=none->∃sl,h'.get? b=some { o with slots:=sl }) (free:∀b o,b ∉ ch->s.heap.get? b=some o->H b=none->H' b=none)
  (there:∀b o,b ∉ ch->s.heap.get? b=some o->∃o',h'.get? b=some o')
  (kj:∀b xs,H b=some (.tup xs)->H' b=some (.tup xs)) (jN:∀b o u,H b=some (.cq o u)->H' b=some (.cq o u)) (iM:∀b ps,H b=some (.dM ps)->∃more,H' b=some (.dM (ps++more)))
  (ns:∀m,s.heap.Ns X.env.locals m->h'.Ns X.env.locals m) (aO:cU X.prog X.w H' h') (hg:AllBare g') :
  Inv X pins σ H' { s with heap:=h',gens:=g',drawn:=d',toks:=t' }:=by
 have B3:∀b o,X.cV.heap.get? b=some o->b≠X.env.locals:=λb o e=>ft (dA (bU e) I.ok.above)
 have vI:∀b o,X.cV.heap.get? b=some o->b ∉ X.ex->b ∉ ch:=λb o e hx hb=>by
  rcases(mD b hb).1 with z | z
  ·exact hx z
  ·exact absurd (dA (bU e) z) (fM _)
 have cellK:∀x c,X.env.cells.lookup x=some c->∀v,s.heap.IsCell c v->h'.IsCell c v:=λx c e v ⟨o,ho,hd⟩=>by
  have zd:c ∉ ch:=λz=>(mD c z).2.2.1 x c e rfl
  by_cases hc:c∈X.fs
  ·obtain⟨sl,q⟩:=slot c o (I.ql x c e) hc zd ho (I.jO x c e)
   exact⟨_,q,hd⟩
  ·exact⟨o,keep c o (I.ql x c e) hc zd ho (I.jO x c e),hd⟩
 refine⟨I.ok,I.os,hg,⟨λb o e n hb hx=>?_,λb o e n hb hx=>?_,λb o e n hx=>?_,λb o e hx=>?_,λb xs e=>kj b xs (I.base.kj b xs e),λb o xs e=>jN b o xs (I.base.jN b o xs e),λb ps e=>?_⟩,?_,λx c e=>?_,?_,λx c e=>?_,λp hp=>?_,aO,I.len⟩
 ·exact keep b o (B3 b o e) hb (vI b o e hx) (I.base.keep b o e n hb hx) (I.base.free b o e n hx)
 ·obtain⟨sl,e1⟩:=I.base.slot b o e n hb hx
  obtain⟨sl',e2⟩:=slot b _ (B3 b o e) hb (vI b o e hx) e1 (I.base.free b o e n hx)
  exact⟨sl',e2⟩
 ·obtain⟨o',e1⟩:=I.base.there b o e hx
  exact free b o' (vI b o e hx) e1 (I.base.free b o e n hx)
 ·obtain⟨o',e1⟩:=I.base.there b o e hx
  exact there b o' (vI b o e hx) e1
 ·obtain⟨m1,e1⟩:=I.base.iM b ps e
  obtain⟨m2,e2⟩:=iM b _ e1
  exact⟨m1++m2,by rw[e2,BE]⟩
 ·obtain⟨m,hn,hl⟩:=I.loc
  refine⟨m,ns m hn,λi x v e1 e2 e3=>?_⟩
  obtain⟨u,r,l⟩:=hl i x v e1 e2 e3
  refine⟨u,r,?_⟩
  rcases l with l | ⟨k,c,e,z⟩
  ·exact .inl l
  ·exact .inr ⟨k,c,e,cellK x c e _ z⟩
 ·obtain⟨v,z⟩:=I.cell x c e
  exact⟨v,cellK x c e v z⟩
 ·obtain⟨m,⟨o,_,_,ho,_⟩,_⟩:=I.loc
  exact free _ o (λz=>(mD _ z).2.1 rfl) ho I.free
 ·obtain⟨v,o,ho,hd⟩:=I.cell x c e
  exact free c o (λz=>(mD c z).2.2.1 x c e rfl) ho (I.jO x c e)
 ·obtain⟨e,n,ne,nf,d⟩:=I.pin p hp
  have zd:p.1 ∉ ch:=λz=>(mD p.1 z).2.2.2 p hp rfl
  exact⟨keep p.1 p.2 ne nf zd e n,free p.1 p.2 zd e n,ne,nf,d⟩
theorem Inv.un{t':Nat}(I:Inv X pins σ H s)(u:Un X.fs [] H H' s.heap h')(aO:cU X.prog X.w H' h'):Inv X pins σ H' { s with heap:=h',toks:=t' }:=by
 obtain⟨m,⟨o,es,ep,ho,r⟩,_⟩:=id I.loc
 obtain⟨sl,hL⟩:=u.any ho I.free (by simp)
 exact I.step (g':=s.gens) (d':=s.drawn) (ch:=[]) (λ_ z=>nomatch z) (λb o _ hb _ e n=>u.keep b o e n hb (by simp)) (λb o _ hb _ e n=>u.slot b o e n hb (by simp)) (λb o _ e n=>u.free b o e n (by simp)) (λb o _ e=>u.there b o e (by simp)) u.kj u.jN u.iM (λm' hm=>by
  obtain⟨o',Gk,Gm,kQ,r'⟩:=hm
  rw[ho]at kQ;cases kQ
  exact⟨_,Gk,Gm,hL,r'⟩) aO I.bare
theorem Inv.call{g':Array GenState}{t':Nat}{d':Drawn}{ch:List Addr}(I:Inv X pins σ H s)(u:Un (eI X.stack) ch H H' s.heap h')(aO:cU X.prog X.w H' h')(hg:AllBare g')
  (mD:∀b∈ch,(b∈X.ex\/X.cV.heap.objs.size<=b)/\b≠X.env.locals/\(∀x c,X.env.cells.lookup x=some c->c≠b)/\∀p∈X.pn++pins,p.1≠b) :
  Inv X pins σ H' { s with heap:=h',gens:=g',drawn:=d',toks:=t' }:=by
 obtain⟨m,⟨o,es,ep,ho,r⟩,_⟩:=id I.loc
 obtain⟨sl,hL⟩:=u.any ho I.free λz=>(mD _ z).2.1 rfl
 exact I.step (ch:=ch) mD (λb o hL hb hc e n=>u.keep b o e n (λz=>(cA.mp (I.B0 b z)).elim hL hb) hc) (λb o _ _ hc e n=>u.any e n hc) (λb o hc e n=>u.free b o e n hc) (λb o hc e=>u.there b o e hc) u.kj u.jN u.iM (λm' hm=>by
  obtain⟨o',Gk,Gm,kQ,r'⟩:=hm
  rw[ho]at kQ;cases kQ
  exact⟨_,Gk,Gm,hL,r'⟩) aO hg
theorem Inv.turned{t':Nat}{it:Addr}(I:Inv X pins σ H s)(k:∀b o,b≠it->s.heap.get? b=some o->h'.get? b=some o)(hn:H it=none)(hL:it≠X.env.locals)
  (h1:it∈X.ex\/X.cV.heap.objs.size<=it) (h2:∀x c,X.env.cells.lookup x=some c->c≠it) (h3:∀p∈X.pn++pins,p.1≠it):Inv X pins σ H { s with heap:=h',toks:=t' }:=by
 have qm:∀b u,H b=some u->b≠it:=λb u e z=>by rw[z,hn]at e;cases e
 refine I.step (g':=s.gens) (d':=s.drawn) (ch:=[it]) (λb hb=>?_) (λb o _ _ hc e _=>k b o (λz=>hc (by simp[z])) e) (λb o _ _ hc e _=>⟨o.slots,k b o (λz=>hc (by simp[z])) e⟩) (λ_ _ _ _ n=>n)
  (λb o hc e=>⟨o,k b o (λz=>hc (by simp[z])) e⟩) (λ_ _ e=>e) (λ_ _ _ e=>e) (λb ps e=>⟨#[],by rw[e];simp⟩) (λm hm=>?_) (λb u e=>?_) I.bare
 ·have e:b=it:=by simpa using hb
  subst e
  exact⟨h1,hL,h2,h3⟩
 ·obtain⟨o,es,ep,ho,r⟩:=hm
  exact⟨o,es,ep,k _ o (fA hL) ho,r⟩
 ·refine(I.aO b u e).kO (λc v hc q=>k c v ?_ q) (λ_ q=>q) (λ_ _ q=>q) λ_ _ q=>q
  rcases hc with z | z
  ·rw[z];exact qm b u e
  ·exact qm c _ z
theorem Inv.tok(I:Inv X pins σ H s)(t:Nat):Inv X pins σ H { s with toks:=t }:=I.un (h':=s.heap) (t':=t) Un.refl I.aO
theorem Inv.kept{t':Nat}(I:Inv X pins σ H s)(k:∀b u,s.heap.get? b=some u->h'.get? b=some u):Inv X pins σ H { s with heap:=h',toks:=t' }:=I.un (Un.kept k) (I.aO.kept k)
theorem Inv.laid{a:Addr}{o:HO}{t':Nat}(I:Inv X pins σ H s)(k:∀b u,s.heap.get? b=some u->h'.get? b=some u)(hp:s.heap.objs.size<=a)(new:eH X.prog X.w (upd H a o) h' a o) :
  Inv X pins σ (upd H a o) { s with heap:=h',toks:=t' }:=I.un (Un.laid k hp (I.aO.fresh hp)) (I.aO.laid k hp new)
theorem Inv.write{x e:Addr}{o:HO}{t':Nat}(I:Inv X pins σ H s)(mu:BY (H x))(he:e=x\/H e=some (.own x))(k:∀b u,b≠e->s.heap.get? b=some u->h'.get? b=some u)(vF:∃u,h'.get? e=some u)
  (new:eH X.prog X.w (upd H x o) h' x o):Inv X pins σ (upd H x o) { s with heap:=h',toks:=t' }:=I.un (Un.write mu he k vF) (I.aO.write mu he k vF new)
theorem Inv.weak{aN:List (Option V)}(I:Inv X pins σ H s)(hl:aN.length=σ.length)(w:∀(i:Nat) v,aN[i]?=some (some v)->σ[i]?=some (some v)):Inv X pins aN H s :=
 ⟨I.ok,I.os,I.bare,I.base,let⟨m,hn,qo⟩:=I.loc;⟨m,hn,λi x v e1 e2 e3=>qo i x v e1 (w i v e2) e3⟩,I.cell,I.free,I.jO,I.pin,I.aO,hl.trans I.len⟩
theorem Inv.Sk{Gp:List (Addr × Obj)}(I:Inv X pins σ H s)(h:∀p∈Gp,s.heap.get? p.1=some p.2/\H p.1=none/\p.1≠X.env.locals/\p.1 ∉ X.fs/\∀v,p.2.data≠.cell v):Inv X Gp σ H s :=
 ⟨I.ok,I.os,I.bare,I.base,I.loc,I.cell,I.free,I.jO,λp hp=>(bY.mp hp).elim (λz=>I.pin p (gP _ z)) (h p),I.aO,I.len⟩
theorem Sl{N:List Str}(hN:N.Nodup){i j:Nat}{x:Str}(a:N[i]?=some x)(b:N[j]?=some x):i=j:=by
 obtain⟨h1,e1⟩:=ji.mp a
 obtain⟨h2,e2⟩:=ji.mp b
 exact(List.getElem_inj hN).mp (e1.trans e2.symm)
theorem cc7{M:Model}{A:Around}{E:Value->Shared->Prop}{i:Nat}{x:Str}{v:V}{u:Value}{Q:Unit->Shared->Prop}(I:Inv X pins σ H s)(hN:X.N.Nodup)(hi:X.N[i]?=some x)(hx:Loc X.env.scope x)(r:RelV v u)
  (h:∀s',Inv X pins (σ.set i (some v)) H s'->(∃a,Heap.SameBut a s.heap s'.heap/\(a=X.env.locals\/X.env.cells.lookup x=some a))->Q () s') (hf:X.fn x=true\/X.env.scope.names.lookup x=some .local:=by first | exact .inl rfl | exact .inr rfl | assumption):wpAny M A (storeName X.env x u) Q E s:=by
 obtain⟨m,hn,hl⟩:=id I.loc
 have dg5:(X.env.scope.kind==.class||(X.env.scope.kind==.module&&X.env.locals != X.env.globals))=false:=by rw[I.ok.kind];rfl
 have Sm:i<σ.length:=by rw[I.len];exact(ji.mp hi).1
 have ql:=I.ql
 have tracked:∀{a:Addr} {h':Heap},(∃o,s.heap.get? a=some o/\H a=none)->Heap.SameBut a s.heap h'->cU X.prog X.w H h':=λ{a h'} ha hs b ob e=>by
  obtain⟨_,_,Sn⟩:=ha
  refine(I.aO b ob e).kO (λc w' hc q=>(hs.2 c ?_).trans q) (λ_ q=>q) (λ_ _ q=>q) λ_ _ q=>q
  rintro rfl
  rcases hc with rfl | hc
  ·rw[Sn]at e;cases e
  ·rw[Sn]at hc;cases hc
 rcases hx with hk | hk
 ·refine wpAny_storeName_local hk hn (λh' hn' hs=>?_) dg5
  obtain⟨oL,_,_,hoL,_⟩:=id hn
  refine h _ ⟨I.ok,I.os,I.bare,⟨λb o e n hb hx=>?_,λb o e n hb hx=>?_,I.base.free,λb o e hx=>?_,I.base.kj,I.base.jN,I.base.iM⟩,⟨_,hn',λj y v' e1 e2 e3=>?_⟩,λy c e=>?_,I.free,I.jO,λp hp=>?_,tracked ⟨oL,hoL,I.free⟩ hs,by simpa using I.len⟩ ⟨_,hs,.inl rfl⟩
  ·exact(hs.2 b (ft (dA (bU e) I.ok.above))).trans (I.base.keep b o e n hb hx)
  ·obtain⟨sl,e1⟩:=I.base.slot b o e n hb hx
   exact⟨sl,(hs.2 b (ft (dA (bU e) I.ok.above))).trans e1⟩
  ·obtain⟨o',e1⟩:=I.base.there b o e hx
   exact⟨o',(hs.2 b (ft (dA (bU e) I.ok.above))).trans e1⟩
  ·by_cases hj:j=i
   ·subst hj
    rw[hi]at e1;cases e1
    rw[Fw Sm]at e2
    cases e2
    exact⟨u,r,.inl ⟨hk,by simp⟩⟩
   ·rw[vk (fA hj)]at e2
    obtain⟨u',r',q⟩:=hl j y v' e1 e2 e3
    refine⟨u',r',?_⟩
    rcases q with⟨k,e⟩ | ⟨k,c,e,z⟩
    ·refine .inl ⟨k,?_⟩
     have:y≠x:=λe=>hj (Sl hN e1 (e ▸ hi))
     simp[this,e]
    ·exact .inr ⟨k,c,e,z.sameBut hs (ql y c e)⟩
  ·obtain⟨w',z⟩:=I.cell y c e
   exact⟨w',z.sameBut hs (ql y c e)⟩
  ·obtain⟨e,n,ne,nf,d⟩:=I.pin p hp
   exact⟨(hs.2 p.1 ne).trans e,n,ne,nf,d⟩
 ·have ze:X.fn x=true:=by
   rcases hf with z | z
   ·exact z
   ·rw[z]at hk;cases hk
  obtain⟨c,hc⟩:=I.ok.has x (.inl hk)
  obtain⟨w',z⟩:=I.cell x c hc
  refine wpAny_storeName_cell I.ok.kind hk hc z (λh' zf hs=>?_)
  obtain⟨oc,jo,dg8⟩:=id z
  refine h { s with heap:=h' } ⟨I.ok,I.os,I.bare,⟨λb o e n hb hx=>?_,λb o e n hb hx=>?_,I.base.free,λb o e hx=>?_,I.base.kj,I.base.jN,I.base.iM⟩,⟨m,hn.sameBut hs (fA (ql x c hc)),λj y v' e1 e2 e3=>?_⟩,λy c' e=>?_,I.free,I.jO,λp hp=>?_,tracked ⟨oc,jo,I.jO x c hc⟩ hs,by simpa using I.len⟩ ⟨c,hs,.inr hc⟩
  ·exact(hs.2 b (ft (dA (bU e) (I.ok.tM x c ze hc)))).trans (I.base.keep b o e n hb hx)
  ·obtain⟨sl,e1⟩:=I.base.slot b o e n hb hx
   exact⟨sl,(hs.2 b (ft (dA (bU e) (I.ok.tM x c ze hc)))).trans e1⟩
  ·obtain⟨o',e1⟩:=I.base.there b o e hx
   exact⟨o',(hs.2 b (ft (dA (bU e) (I.ok.tM x c ze hc)))).trans e1⟩
  ·by_cases hj:j=i
   ·subst hj
    rw[hi]at e1;cases e1
    rw[Fw Sm]at e2
    cases e2
    exact⟨u,r,.inr ⟨.inl hk,c,hc,zf⟩⟩
   ·rw[vk (fA hj)]at e2
    obtain⟨u',r',q⟩:=hl j y v' e1 e2 e3
    refine⟨u',r',?_⟩
    rcases q with q | ⟨k,c',e,z'⟩
    ·exact .inl q
    ·refine .inr ⟨k,c',e,z'.sameBut hs ?_⟩
     rintro rfl
     exact hj (Sl hN e1 (I.ok.inj _ _ _ e hc ▸ hi))
  ·by_cases So:c'=c
   ·subst So;exact⟨_,zf⟩
   ·obtain⟨w2,z2⟩:=I.cell y c' e
    exact⟨w2,z2.sameBut hs So⟩
  ·obtain⟨e,n,ne,nf,d⟩:=I.pin p hp
   refine⟨(hs.2 p.1 ?_).trans e,n,ne,nf,d⟩
   intro q
   rw[q,jo]at e
   have q':oc=p.2:=cT e
   exact d w' (by rw[<-q'];exact dg8)
theorem Gq{M:Model}{A:Around}{E:Value->Shared->Prop}{i:Nat}{x:Str}{v:V}{u:Value}{Q:Unit->Shared->Prop}(I:Inv X pins σ H s)(hN:X.N.Nodup)(hi:X.N[i]?=some x)(hx:Loc X.env.scope x)(r:RelV v u)
  (h:∀s',Inv X pins (σ.set i (some v)) H s'->Q () s') (hf:X.fn x=true\/X.env.scope.names.lookup x=some .local:=by first | exact .inl rfl | exact .inr rfl | assumption):wpAny M A (storeName X.env x u) Q E s :=
 cc7 I hN hi hx r (λs' I' _=>h s' I') hf
theorem Inv.dg9{s':Shared}{ch:List Addr}(I:Inv X pins σ H s)(ho:s'.os=s.os)(u:Un (eI X.stack) ch H H' s.heap s'.heap)(aO:cU X.prog X.w H' s'.heap)(hg:AllBare s'.gens)
  (mD:∀b∈ch,(b∈X.ex\/X.cV.heap.objs.size<=b)/\b≠X.env.locals/\(∀x c,X.env.cells.lookup x=some c->c≠b)/\∀p∈X.pn++pins,p.1≠b):Inv X pins σ H' s':=by
 obtain⟨h',g',d',t',o'⟩:=s'
 have e:o'=s.os:=ho
 subst e
 exact I.call (g':=g') (t':=t') (d':=d') u aO hg mD
end
abbrev XK:=Value->Option Addr->Hp->Prop
abbrev St:=List (Option V)
abbrev VK:=V->Hp->Prop
abbrev TE:=St->Hp->VK->Prop
abbrev TT:=St->Hp->(Bool->Hp->Prop)->Prop
abbrev TA:=St->Hp->(List V->Hp->Prop)->Prop
structure Ends where
 nx:St->Hp->Prop
 rt:VK
 bk:St->Hp->Prop:=λ_ _=>False
 ct:St->Hp->Prop:=λ_ _=>False
abbrev TS:=Ends->St->Hp->Prop
def EP(X:Cx)(pins:List (Addr × Obj))(σ:St)(Q:VK)(u:Value)(s':Shared):Prop:=∃v H',Inv X pins σ H' s'/\RelV v u/\Q v H'
def TP(X:Cx)(pins:List (Addr × Obj))(σ:St)(Q:Bool->Hp->Prop)(b:Bool)(s':Shared):Prop:=∃H',Inv X pins σ H' s'/\Q b H'
def AP(X:Cx)(pins:List (Addr × Obj))(σ:St)(Q:List V->Hp->Prop)(us:List Value)(s':Shared):Prop:=∃vs H',Inv X pins σ H' s'/\Vals vs us/\Q vs H'
def SP(X:Cx)(pins:List (Addr × Obj))(D:Ends)(f:Flow)(s':Shared):Prop :=
 match f with
 | .next=>∃aN H',Inv X pins aN H' s'/\D.nx aN H'
 | .brk=>∃aN H',Inv X pins aN H' s'/\D.bk aN H'
 | .cont=>∃aN H',Inv X pins aN H' s'/\D.ct aN H'
 | .ret u=>∃v aN H',Inv X pins aN H' s'/\RelV v u/\D.rt v H'
def PE(X:Cx)(e:Expr)(t:TE):Prop :=
 ∀(pins:List (Addr × Obj)) (s:Shared) (σ:St) (H:Hp) (Q:VK),Inv X pins σ H s->t σ H Q->wpAny (model X.prog X.w) X.A (eval e X.env) (EP X pins σ Q) X.xe s
def PT(X:Cx)(e:Expr)(t:TT):Prop :=
 ∀(pins:List (Addr × Obj)) (s:Shared) (σ:St) (H:Hp) (Q:Bool->Hp->Prop),Inv X pins σ H s->t σ H Q->wpAny (model X.prog X.w) X.A (isTrue e X.env (eval e X.env)) (TP X pins σ Q) X.xe s
def PW(X:Cx)(e:Expr)(t:TT):Prop :=
 ∀(whole:Sem Value) (pins:List (Addr × Obj)) (s:Shared) (σ:St) (H:Hp) (Q:Bool->Hp->Prop),Inv X pins σ H s->t σ H Q->wpAny (model X.prog X.w) X.A (isTrue e X.env whole) (TP X pins σ Q) X.xe s
theorem PW.pt{X:Cx}{e:Expr}{t:TT}(h:PW X e t):PT X e t:=h _
def PA(X:Cx)(es:List Expr)(t:TA):Prop :=
 ∀(pos:Pos) (pins:List (Addr × Obj)) (s:Shared) (σ:St) (H:Hp) (Q:List V->Hp->Prop),Inv X pins σ H s->t σ H Q->wpAny (model X.prog X.w) X.A (spliced (backTo pos (starEach es X.env))) (AP X pins σ Q) X.xe s
def PS(X:Cx)(st:Stmt)(t:TS):Prop :=
 ∀(pins:List (Addr × Obj)) (s:Shared) (σ:St) (H:Hp) (D:Ends),Inv X pins σ H s->t D σ H->wpAny (model X.prog X.w) X.A (exec st X.env) (SP X pins D) X.xe s
def PSs(X:Cx)(st:List Stmt)(t:TS):Prop :=
 ∀(pins:List (Addr × Obj)) (s:Shared) (σ:St) (H:Hp) (D:Ends),Inv X pins σ H s->t D σ H->wpAny (model X.prog X.w) X.A (execs st X.env) (SP X pins D) X.xe s
theorem bc{α:Type}{t:Sem α}{Q Q':α->Shared->Prop}{M:Model}{A:Around}{E:Value->Shared->Prop}{s:Shared}(h:wpAny M A t Q E s)(hQ:∀a s,Q a s->Q' a s):wpAny M A t Q' E s:=wpAny_mono h hQ λ_ _ x=>x
end L2
namespace L2
open PySem PySem.Spec PyProof.Rows
section
variable{X:Cx}
def Sq(i:Nat):TE:=λσ H Q=>∃v,σ[i]?=some (some v)/\Q v H
def tC(v:V):TE:=λ_ H Q=>Q v H
theorem tN{i:Nat}{x:Str}{pos:Pos}(hN:X.N[i]?=some x)(hv:mC X.env.scope x)(hd:(x==("__debug__":Str))=false:=by decide)(da:(x==("__classdict__":Str))=false:=by decide):PE X (.Name x pos) (Sq i):=by
 intro pins s σ H Q I h
 obtain⟨v,e,h⟩:=h
 obtain⟨m,hn,hl⟩:=I.loc
 obtain⟨u,r,l⟩:=hl i x v hN e hv
 have fin:EP X pins σ Q u s:=⟨v,H,I,r,h⟩
 rcases l with⟨hk,hm⟩ | ⟨hk,c,hc,B4⟩
 ·exact wpAny_Name (wpAny_loadName_local I.ok.kind hk hn hm fin) hd
 ·rcases hk with hk | hk
  ·exact wpAny_Name (wpAny_loadName_cell I.ok.kind hk hc B4 fin) hd
  ·exact wpAny_Name (wpAny_loadName_free I.ok.kind hk hc B4 fin da) hd
theorem zh{i j pos}:PE X (.Constant (.int i) j pos) (tC (.int i)):=λ_ _ _ H _ I h=>wpAny_Constant_int ⟨.int i,H,I.tok _,⟨_,rfl⟩,h⟩
theorem cV0{b j pos}:PE X (.Constant (.bool b) j pos) (tC (.bl b)):=λ_ _ _ H _ I h=>Constant_bool ⟨.bl b,H,I,rfl,h⟩
theorem cK2{j pos}:PE X (.Constant .none j pos) (tC .ay):=λ_ _ _ H _ I h=>Constant_none ⟨.ay,H,I,rfl,h⟩
theorem cI0{x j pos}:PE X (.Constant (.str x) j pos) (tC (.str x)):=λ_ _ _ H _ I h=>Calls.Constant_str ⟨.str x,H,I.tok _,⟨_,rfl⟩,h⟩
def Gl(X:Cx)(x:Str):Prop:=X.env.kindOf x=some .globalImplicit
theorem B5{E:Value->Shared->Prop}{pins:List (Addr × Obj)}{s:Shared}{σ:St}{H:Hp}{x:Str}{u:Value}{pos:Pos}{Q:Value->Shared->Prop}(I:Inv X pins σ H s)(hg:Gl X x)(hm:X.mg x=some u)(h:Q u s)
  (hd:(x==("__debug__":Str))=false:=by decide):wpAny (model X.prog X.w) X.A (eval (.Name x pos) X.env) Q E s :=
 da8 I.ok.kind hg (Calls.loadGlobal_global (by rw[I.ok.glob];exact I.mod.glob.keeps I.bk) hm h) hd
theorem by4{E:Value->Shared->Prop}{pins:List (Addr × Obj)}{s:Shared}{σ:St}{H:Hp}{x:Str}{u:Value}{pos:Pos}{Q:Value->Shared->Prop}(I:Inv X pins σ H s)(hg:Gl X x)(hm:X.mg x=none)(hv:bootBuiltins x=some u)(h:Q u s)
  (hn:x≠"__name__":=by decide) (hd:(x==("__debug__":Str))=false:=by decide):wpAny (model X.prog X.w) X.A (eval (.Name x pos) X.env) Q E s:=by
 obtain⟨mb,h1,h2⟩:=I.mod.blt
 exact da8 I.ok.kind hg (Calls.loadGlobal_builtin (by rw[I.ok.glob];exact I.mod.glob.keeps I.bk) hm (by rw[I.ok.blt];exact h1.keeps I.bk) ((h2 x hn).trans hv) h) hd
theorem cA0{x:Str}{v:V}{u:Value}{pos:Pos}(hg:Gl X x)(hm:X.mg x=none)(hv:bootBuiltins x=some u)(r:RelV v u)(hn:x≠"__name__":=by decide)(hd:(x==("__debug__":Str))=false:=by decide):PE X (.Name x pos) (tC v) :=
 λ_ _ _ H _ I h=>by4 I hg hm hv ⟨v,H,I,r,h⟩ hn hd
variable{a b:Expr}{ta tb:TE}{pos:Pos}
def tB(t:TE):TT:=λσ H Q=>t σ H λx H1=>∃c,x=.bl c/\Q c H1
theorem Gr{e:Expr}{t:TE}(h:PE X e t)(he:∀whole,isTrue e X.env whole=(do let v<-whole;standAt e.pos;holding [v] (truthy v)):=by intro _;rfl):PT X e (tB t):=by
 intro pins s σ H Q I hw
 refine isTrue_plain (bc (h pins s σ H _ I hw) λv s1 ⟨x,H1,I1,r1,q1⟩=>?_) (he _)
 obtain⟨d,rfl,q⟩:=q1
 cases r1
 exact wpAny_truthy_bool ⟨H1,I1,q⟩
variable{tA B6:TT}{rest:List Expr}
def c07(t u:TT):TT:=λσ H Q=>t σ H λc H1=>if c=true then u σ H1 Q else Q false H1
def tOr(t u:TT):TT:=λσ H Q=>t σ H λc H1=>if c=true then Q true H1 else u σ H1 Q
def c00(t:TT):TT:=λσ H Q=>t σ H λc H1=>Q (!c) H1
theorem Sr(ha:PT X a tA):PW X (.BoolOp .And [a] pos) tA:=by
 intro wh pins s σ H Q I h
 refine isTrue_and (bc (ha pins s σ H Q I h) λc s1 e=>?_)
 cases c with
 | true=>exact isTrue_and_nil e
 | false=>exact e
theorem tO(ha:PT X a tA):PW X (.BoolOp .Or [a] pos) tA:=by
 intro wh pins s σ H Q I h
 refine isTrue_or (bc (ha pins s σ H Q I h) λc s1 e=>?_)
 cases c with
 | false=>exact isTrue_or_nil e
 | true=>exact e
theorem cO6(ha:PT X a tA)(hb:PW X (.BoolOp .And (b::rest) pos) B6):PW X (.BoolOp .And (a::b::rest) pos) (c07 tA B6):=by
 intro wh pins s σ H Q I h
 refine isTrue_and (bc (ha pins s σ H _ I h) λc s1 ⟨H1,I1,q1⟩=>?_)
 cases c with
 | true=>exact hb wh pins s1 σ H1 Q I1 q1
 | false=>exact⟨H1,I1,q1⟩
theorem cT9(ha:PT X a tA)(hb:PW X (.BoolOp .Or (b::rest) pos) B6):PW X (.BoolOp .Or (a::b::rest) pos) (tOr tA B6):=by
 intro wh pins s σ H Q I h
 refine isTrue_or (bc (ha pins s σ H _ I h) λc s1 ⟨H1,I1,q1⟩=>?_)
 cases c with
 | true=>exact⟨H1,I1,q1⟩
 | false=>exact hb wh pins s1 σ H1 Q I1 q1
theorem Gu(ha:PT X a tA):PT X (.UnaryOp .Not a pos) (c00 tA):=by
 intro pins s σ H Q I h
 exact isTrue_not (ha pins s σ H (λc H1=>Q (!c) H1) I h)
def cR7(ta tb:TE):TE:=λσ H Q=>ta σ H λx H1=>∃c,x=.bl c/\if c=true then tb σ H1 Q else Q (.bl false) H1
def cU2(ta:TE):TE:=λσ H Q=>ta σ H λx H1=>∃c,x=.bl c/\Q (.bl (!c)) H1
theorem zi{op}{t:TE}(h:PE X a t):PE X (.BoolOp op [a] pos) t:=λpins s σ H Q I hw=>BoolOp_one (h pins s σ H Q I hw)
theorem cO3(ha:PE X a ta)(hb:PE X (.BoolOp .And (b::rest) pos) tb):PE X (.BoolOp .And (a::b::rest) pos) (cR7 ta tb):=by
 intro pins s σ H Q I h
 refine BoolOp_and (bc (ha pins s σ H _ I h) λv s1 ⟨x,H1,I1,r1,q1⟩=>?_)
 obtain⟨c,rfl,q1⟩:=q1
 cases r1
 refine wpAny_truthy_bool ?_
 cases c with
 | true=>exact hb pins s1 σ H1 Q I1 q1
 | false=>exact⟨.bl false,H1,I1,rfl,q1⟩
theorem cJ2(ha:PE X a ta):PE X (.UnaryOp .Not a pos) (cU2 ta):=by
 intro pins s σ H Q I h
 refine UnaryOp_ (bc (ha pins s σ H _ I h) λv s1 ⟨x,H1,I1,r1,q1⟩=>?_)
 obtain⟨c,rfl,q1⟩:=q1
 cases r1
 exact not_of (wpAny_truthy_bool ⟨.bl (!c),H1,I1,rfl,q1⟩)
def tIf(t:TT)(ta tb:TE):TE:=λσ H Q=>t σ H λc H1=>if c=true then ta σ H1 Q else tb σ H1 Q
theorem cp0{c:Expr}(hc:PT X c tA)(ha:PE X a ta)(hb:PE X b tb):PE X (.IfExp c a b pos) (tIf tA ta tb):=by
 intro pins s σ H Q I h
 refine wpAny_IfExp (bc (hc pins s σ H _ I h) λd s1 ⟨H1,I1,q1⟩=>?_)
 cases d with
 | true=>exact ha pins s1 σ H1 Q I1 q1
 | false=>exact hb pins s1 σ H1 Q I1 q1
end
end L2
namespace L2
open PySem PySem.Spec PyProof.Rows
def bQ(K:PySem.W.Frag)(H:Hp)(a:Addr)(xs:List V):Prop :=
 Rd H a (.lst xs) \/
  ∃(o:Obj) (its:Array Value) (n:Nat),K.lookup a=some o/\o.cls=.type "list"/\o.dict=none/\o.data=.seq its n/\its.size<=sizeLine/\Vals xs its.toList
def iq(K:PySem.W.Frag)(H:Hp)(a:Addr)(xs:List V):Prop :=
 Rd H a (.tup xs) \/
  ∃(o:Obj) (its:Array Value) (n:Nat),K.lookup a=some o/\o.cls=.type "tuple"/\o.data=.seq its n/\its.size<=sizeLine/\Vals xs its.toList
def c06:Value->Option V
 | .none=>some .ay
 | .bool b=>some (.bl b)
 | .int i _=>some (.int i)
 | .str x _=>some (.str x)
 | .bytes b _=>some (.BX b)
 | .float b _=>some (.tK b)
 | .ref a=>some (.ref a)
 | .type n=>some (.ty n)
 | _=>none
theorem RelV.abs{x:V}{u:Value}(r:RelV x u):c06 u=some x:=by
 cases x with
 | ay=>cases r;rfl
 | bl _=>cases r;rfl
 | int _=>obtain⟨t,rfl⟩:=r;rfl
 | str _=>obtain⟨t,rfl⟩:=r;rfl
 | BX _=>obtain⟨t,rfl⟩:=r;rfl
 | tK _=>obtain⟨t,rfl⟩:=r;rfl
 | ref _=>cases r;rfl
 | ty _=>cases r;rfl
theorem RelV.inj{x y:V}{u:Value}(r:RelV x u)(q:RelV y u):x=y:=cT (r.abs.symm.trans q.abs)
theorem Vals.inj:∀{xs ys:List V} {us:List Value},Vals xs us->Vals ys us->xs=ys
 | _,_,_,.nil,.nil=>rfl
 | _,_,_,.cons r t,.cons r' t'=>by rw[r.inj r',Vals.inj t t']
section
variable{X:Cx}{pins:List (Addr × Obj)}{σ:St}{H:Hp}{s:Shared}{a:Addr}{xs ys:List V}
theorem bQ.of{K:PySem.W.Frag}(h:H a=some (.lst xs)):bQ K H a xs:=.inl (.inl h)
theorem iq.of{K:PySem.W.Frag}(h:H a=some (.tup xs)):iq K H a xs:=.inl (.inl h)
theorem Inv.list(I:Inv X pins σ H s)(h:bQ X.K H a xs):∃its:List Value,Vals xs its/\PlainL s.heap a its.toArray/\xs.length<=sizeLine:=by
 rcases h with h | ⟨o,its,n,hk,hc,hd,hs,hz,r⟩
 ·obtain⟨z,its,n,r,e⟩:=h.ok I.aO
  exact⟨its,r,⟨_,n,e,rfl,rfl,rfl⟩,z⟩
 ·refine⟨its.toList,r,⟨o,n,I.dF a o hk,hc,hd,by simpa using hs⟩,?_⟩
  have e:=r.length
  simp only[yQ]at e
  omega
theorem Inv.tuple(I:Inv X pins σ H s)(h:iq X.K H a xs):∃its:List Value,Vals xs its/\IsTup s.heap a its.toArray/\xs.length<=sizeLine:=by
 rcases h with h | ⟨o,its,n,hk,hc,hs,hz,r⟩
 ·obtain⟨z,its,r,p⟩:=h.ok I.aO
  exact⟨its,r,p,z⟩
 ·refine⟨its.toList,r,⟨o,I.dF a o hk,hc,n,by simpa using hs⟩,?_⟩
  have e:=r.length
  simp only[yQ]at e
  omega
theorem Inv.B7(I:Inv X pins σ H s)(h:bQ X.K H a xs)(h':bQ X.K H a ys):xs=ys:=by
 obtain⟨its,r,⟨o,n,e,_,_,d⟩,_⟩:=I.list h
 obtain⟨its',r',⟨o',n',e',_,_,d'⟩,_⟩:=I.list h'
 rw[e]at e';cases e'
 rw[d]at d'
 injection d' with d1 _
 have:its=its':=by simpa using congrArg Array.toList d1
 subst this
 exact r.inj r'
end
abbrev Cx.kr(X:Cx)(E:Value->Shared->Prop):Cx:={ X with xe:=E }
abbrev Cx.gX(X:Cx):Cx:=X.kr λ_ _=>False
theorem Cx.Ok.kr{X:Cx}(ok:X.Ok)(E:Value->Shared->Prop):(X.kr E).Ok :=
 ⟨ok.mod,ok.kind,ok.glob,ok.blt,ok.above,ok.inj,ok.has,ok.tM,ok.hd,ok.frames,ok.za,ok.zb,ok.bs,ok.km,ok.vG,ok.vH,ok.gW,ok.kq⟩
theorem Cx.Ok.mE{X:Cx}{E:Value->Shared->Prop}(ok:(X.kr E).Ok):X.Ok :=
 ⟨ok.mod,ok.kind,ok.glob,ok.blt,ok.above,ok.inj,ok.has,ok.tM,ok.hd,ok.frames,ok.za,ok.zb,ok.bs,ok.km,ok.vG,ok.vH,ok.gW,ok.kq⟩
section
variable{X:Cx}{pins:List (Addr × Obj)}{σ:St}{H:Hp}{s:Shared}{E:Value->Shared->Prop}
theorem Inv.kr(I:Inv X pins σ H s)(E:Value->Shared->Prop):Inv (X.kr E) pins σ H s:=⟨I.ok.kr E,I.os,I.bare,I.base,I.loc,I.cell,I.free,I.jO,I.pin,I.aO,I.len⟩
theorem Inv.mE(I:Inv (X.kr E) pins σ H s):Inv X pins σ H s:=⟨I.ok.mE,I.os,I.bare,I.base,I.loc,I.cell,I.free,I.jO,I.pin,I.aO,I.len⟩
theorem SP.mE{D:Ends}{f:Flow}{s':Shared}(h:SP (X.kr E) pins D f s'):SP X pins D f s':=by
 cases f with
 | next=>obtain⟨aN,H',I,q⟩:=h;exact⟨aN,H',I.mE,q⟩
 | brk=>obtain⟨aN,H',I,q⟩:=h;exact⟨aN,H',I.mE,q⟩
 | cont=>obtain⟨aN,H',I,q⟩:=h;exact⟨aN,H',I.mE,q⟩
 | ret u=>obtain⟨v,aN,H',I,r,q⟩:=h;exact⟨v,aN,H',I.mE,r,q⟩
theorem PE.gX{e:Expr}{t:TE}(h:PE X.gX e t):PE X e t:=λpins s σ H Q I hw =>
 wpAny_mono (h pins s σ H Q (I.kr _) hw) (λ_ _ ⟨v,H',I',r,q⟩=>⟨v,H',I'.mE,r,q⟩) λ_ _ z=>gb z
theorem PSs.gX{st:List Stmt}{t:TS}(h:PSs X.gX st t):PSs X st t:=λpins s σ H D I hw =>
 wpAny_mono (h pins s σ H D (I.kr _) hw) (λ_ _ q=>q.mE) λ_ _ z=>gb z
end
section
variable{X:Cx}{st:Stmt}{rest:List Stmt}{t u:TS}{e:Expr}{te:TE}{pos:Pos}
def cW3:TS:=λD σ H=>D.nx σ H
def cZ5(t u:TS):TS:=λD σ H=>t { D with nx:=u D } σ H
theorem Gv:PSs X [] cW3:=λ_ _ σ H _ I h=>wpAny_execs_nil ⟨σ,H,I,h⟩
theorem kR(h1:PS X st t)(h2:PSs X rest u):PSs X (st::rest) (cZ5 t u):=by
 intro pins s σ H D I h
 refine wpAny_execs_cons (bc (h1 pins s σ H { D with nx:=u D } I h) λf s1 q=>?_)
 cases f with
 | next =>
  obtain⟨aN,H',I',q⟩:=q
  exact h2 pins s1 aN H' D I' q
 | ret v=>exact q
 | brk=>exact q
 | cont=>exact q
theorem vJ(h1:PS X st t):PSs X [st] t:=by
 intro pins s σ H D I h
 refine wpAny_execs_cons (bc (h1 pins s σ H D I h) λf s1 q=>?_)
 cases f with
 | next=>exact wpAny_execs_nil q
 | ret v=>exact q
 | brk=>exact q
 | cont=>exact q
theorem Inv.quiet{pins:List (Addr × Obj)}{σ:St}{H:Hp}{s:Shared}(I:Inv X pins σ H s):interactive X.env=false:=by simp[interactive,I.ok.kind]
def cV5(te:TE):TS:=λD σ H=>te σ H λ_ H1=>D.nx σ H1
theorem B8(he:PE X e te)(hs:swapsWith e none pos.line X.env=pure false:=by rfl):PS X (.Expr e pos) (cV5 te):=by
 intro pins s σ H D I h
 exact wpAny_Expr_any (bc (he pins s σ H _ I h) λv s1 ⟨x,H1,I1,r1,q1⟩=>⟨σ,H1,I1,q1⟩) I.quiet hs
def c03(te:TE):TS:=λD σ H=>te σ H D.rt
theorem cO4(he:PE X e te):PS X (.Return (some e) pos) (c03 te):=by
 intro pins s σ H D I h
 exact wpAny_Return_some (bc (he pins s σ H _ I h) λv s1 ⟨x,H1,I1,r1,q1⟩=>⟨x,σ,H1,I1,r1,q1⟩)
def cZ9(c:TT)(t u:TS):TS:=λD σ H=>c σ H λb H1=>if b=true then t D σ H1 else u D σ H1
theorem Gw{c:Expr}{a b:List Stmt}{tc:TT}(hc:PT X c tc)(ha:PSs X a t)(hb:PSs X b u):PS X (.If c a b pos) (cZ9 tc t u):=by
 intro pins s σ H D I h
 refine wpAny_If (bc (hc pins s σ H _ I h) λd s1 ⟨H1,I1,q1⟩=>?_)
 cases d with
 | true=>exact ha pins s1 σ H1 D I1 q1
 | false=>exact hb pins s1 σ H1 D I1 q1
def cP1:TS:=λ_ _ _=>False
theorem Ss:PS X st cP1:=λ_ _ _ _ _ _ h=>h.elim
end
abbrev TG:=V->St->Hp->(St->Hp->Prop)->Prop
abbrev tP:=List V->St->Hp->(St->Hp->Prop)->Prop
def PG(X:Cx)(target:Expr)(t:TG):Prop :=
 ∀(pins:List (Addr × Obj)) (s:Shared) (σ:St) (H:Hp) (v:V) (u:Value) (Q:St->Hp->Prop),Inv X pins σ H s->RelV v u->t v σ H Q ->
  wpAny (model X.prog X.w) X.A (assign target X.env u) (λ_ s'=>∃aN H',Inv X pins aN H' s'/\Q aN H') X.xe s
def B9(X:Cx)(ts:List Expr)(t:tP):Prop :=
 ∀(pins:List (Addr × Obj)) (s:Shared) (σ:St) (H:Hp) (vs:List V) (us:List Value) (Q:St->Hp->Prop),Inv X pins σ H s->Vals vs us->t vs σ H Q ->
  wpAny (model X.prog X.w) X.A (assignInOrder ((assignEach ts X.env).map (·.2)) us) (λ_ s'=>∃aN H',Inv X pins aN H' s'/\Q aN H') X.xe s
abbrev Gx:=V->V->V->Hp->(Hp->Prop)->Prop
def Su(X:Cx)(t:Gx):Prop :=
 ∀(pins:List (Addr × Obj)) (s:Shared) (σ:St) (H:Hp) (o i v:V) (ov iv u:Value) (Q:Hp->Prop),Inv X pins σ H s->RelV o ov->RelV i iv->RelV v u->t o i v H Q ->
  wpAny (model X.prog X.w) X.A (setItem ov iv u) (λ_ s'=>∃H',Inv X pins σ H' s'/\Q H') X.xe s
abbrev Gz:=V->V->Hp->VK->Prop
def PIp(X:Cx)(op:Operator)(t:Gz):Prop :=
 ∀(pins:List (Addr × Obj)) (s:Shared) (σ:St) (H:Hp) (x y:V) (v u:Value) (Q:VK),Inv X pins σ H s->RelV x v->RelV y u->t x y H Q ->
  wpAny (model X.prog X.w) X.A (inplaceOp op v u) (EP X pins σ Q) X.xe s
section
variable{X:Cx}{pos:Pos}
def Ca(i:Nat):TG:=λv σ H Q=>Q (σ.set i (some v)) H
theorem Cb{i:Nat}{x:Str}(hN:X.N.Nodup)(hi:X.N[i]?=some x)(hx:Loc X.env.scope x)(hf:X.fn x=true\/X.env.scope.names.lookup x=some .local:=by first | exact .inl rfl | exact .inr rfl | assumption):PG X (.Name x pos) (Ca i):=by
 intro pins s σ H v u Q I r h
 exact wpAny_assign_Name (Gq I hN hi hx r (λs' I'=>⟨_,H,I',h⟩) hf)
def cY7:tP:=λvs σ H Q=>vs=[]/\Q σ H
def cT3(t:TG)(u:tP):tP:=λvs σ H Q=>∃v r,vs=v::r/\t v σ H λaN H'=>u r aN H' Q
theorem cE3:B9 X [] cY7:=by
 intro pins s σ H vs us Q I r h
 obtain⟨e,h⟩:=h
 subst e
 cases r
 exact assignInOrder_nil ⟨σ,H,I,h⟩
theorem Sv{e:Expr}{es:List Expr}{t:TG}{u:tP}(h1:PG X e t)(h2:B9 X es u)
  (hs:(assignEach (e::es) X.env).map (·.2)=assign e X.env::(assignEach es X.env).map (·.2):=by rfl):B9 X (e::es) (cT3 t u):=by
 intro pins s σ H vs us Q I r h
 obtain⟨v,vr,e1,h⟩:=h
 subst e1
 cases r with
 | cons r rr =>
  rw[hs]
  refine assignInOrder_cons (bc (h1 pins s σ H _ _ _ I r h) λ_ s1 ⟨gY,H1,I1,q1⟩=>?_)
  exact h2 pins s1 gY H1 _ _ Q I1 rr q1
def cZ7(K:PySem.W.Frag)(n:Nat)(t:tP):TG:=λv σ H Q=>∃a xs,v=.ref a/\iq K H a xs/\xs.length=n/\t xs σ H Q
theorem cJ6{es:List Expr}{k:Nat}{t:tP}{n:Nat}(hc:X.calm=true)(h:B9 X es t)
  (hn:(assignEach es X.env).length=n:=by rfl) (dG:(assignEach es X.env).findIdx? (·.1)=none:=by rfl):PG X (.Tuple es k pos) (cZ7 X.K n t):=by
 intro pins s σ H v u Q I r hw
 obtain⟨a,xs,e1,hq,hl,hw⟩:=hw
 subst e1
 cases r
 obtain⟨its,rv,ht,hz⟩:=I.tuple hq
 refine assign_Tuple_tuple (I.ok.hd hc) ht (by simp[hn,<- hl,rv.length]) dG λh' hx=>?_
 have I1:Inv X pins σ H { s with heap:=h' }:=I.kept (t':=s.toks) λb o e=>hx b o (ft (bU e)) e
 exact h pins _ σ H xs _ Q I1 (by simpa using rv) hw
def c04(to ti:TE)(t:Gx):TG:=λv σ H Q=>to σ H λo H1=>ti σ H1 λi H2=>t o i v H2 λH3=>Q σ H3
theorem cI3{o i:Expr}{to ti:TE}{t:Gx}(ho:PE X o to)(hi:PE X i ti)(hs:Su X t)
  (ha:∀v,assign (.Subscript o i pos) X.env v=(do
   let ov<-holding [v] (eval o X.env)
   let iv<-holding [v,ov] (eval i X.env)
   standAt pos
   holding [v,ov,iv] (setItem ov iv v)
   release [v,ov,iv] []):=by intro _;rfl):PG X (.Subscript o i pos) (c04 to ti t):=by
 intro pins s σ H v u Q I r h
 rw[ha]
 refine wpAny_bind (wpAny_holding (bc (ho pins s σ H _ I h) λov s1 ⟨x,H1,I1,r1,q1⟩=>?_))
 refine wpAny_bind (wpAny_holding (bc (hi pins s1 σ H1 _ I1 q1) λiv s2 ⟨y,H2,I2,r2,q2⟩=>?_))
 refine wpAny_bind (wpAny_standAt (wpAny_bind (wpAny_holding (bc (hs pins s2 σ H2 x y v ov iv u _ I2 r1 r2 r q2) λ_ s3 ⟨H3,I3,q3⟩=>?_))))
 exact wpAny_release ⟨σ,H3,I3,q3⟩
def GA(te:TE)(g:TG):TS:=λD σ H=>te σ H λx H1=>g x σ H1 D.nx
theorem cL9{tg e:Expr}{te:TE}{g:TG}(he:PE X e te)(hg:PG X tg g)(hs:swapsWithSole [tg] e pos.line X.env=pure false:=by rfl)(hw:swappedStores [tg] e X.env=pure none:=by rfl)
  (h1:(assignEach [tg] X.env).map (·.2)=[assign tg X.env]:=by rfl):PS X (.Assign [tg] e pos) (GA te g):=by
 intro pins s σ H D I h
 refine wpAny_Assign_stores (bc (he pins s σ H _ I h) λv s1 ⟨x,H1,I1,r1,q1⟩=>?_) hs hw
 rw[h1]
 exact bc (hg pins s1 σ H1 x v _ I1 r1 q1) λ_ s2 q=>q
theorem Sw{i:Nat}{x:Str}{e:Expr}{te:TE}{pos':Pos}(hN:X.N.Nodup)(hi:X.N[i]?=some x)(hx:Loc X.env.scope x)(he:PE X e te)(hs:swapsWith e (some (.Name x pos')) pos.line X.env=pure false:=by rfl)(hf:X.fn x=true\/X.env.scope.names.lookup x=some .local:=by first | exact .inl rfl | exact .inr rfl | assumption) :
  PS X (.Assign [.Name x pos'] e pos) (GA te (Ca i)):=by
 intro pins s σ H D I h
 refine wpAny_Assign_Name (bc (he pins s σ H _ I h) λv s1 ⟨y,H1,I1,r1,q1⟩=>?_) hs
 exact Gq I1 hN hi hx r1 (λs2 I2=>⟨_,H1,I2,q1⟩) hf
def cZ4(i:Nat)(te:TE)(ti:Gz):TS:=λD σ H=>∃x,σ[i]?=some (some x)/\te σ H λy H1=>ti x y H1 λz H2=>D.nx (σ.set i (some z)) H2
theorem cL4{i:Nat}{x:Str}{e:Expr}{te:TE}{op:Operator}{ti:Gz}{pos':Pos}(hN:X.N.Nodup)(hi:X.N[i]?=some x)(hx:Loc X.env.scope x)(he:PE X e te)(ho:PIp X op ti)(hf:X.fn x=true\/X.env.scope.names.lookup x=some .local:=by first | exact .inl rfl | exact .inr rfl | assumption) :
  PS X (.AugAssign (.Name x pos') op e pos) (cZ4 i te ti):=by
 intro pins s σ H D I h
 obtain⟨v,e1,h⟩:=h
 obtain⟨m,hn,hl⟩:=I.loc
 have vis:mC X.env.scope x:=by rcases hx with k | k;exact .inl k;exact .inr (.inl k)
 obtain⟨u,r,l⟩:=hl i x v hi e1 vis
 refine wpAny_AugAssign_Name ?_
 have go:wpAny (model X.prog X.w) X.A (eval e X.env) (λw kS=>wpAny (model X.prog X.w) X.A (inplaceOp op u w) (λr dk5=>wpAny (model X.prog X.w) X.A (storeName X.env x r) (λ_=>SP X pins D .next) X.xe dk5) X.xe kS) X.xe s:=by
  refine bc (he pins s σ H _ I h) λw s1 ⟨y,H1,I1,r1,q1⟩=>?_
  refine bc (ho pins s1 σ H1 v y u w _ I1 r r1 q1) λz s2 ⟨zv,H2,I2,r2,q2⟩=>?_
  exact Gq I2 hN hi hx r2 (λs3 I3=>⟨_,H2,I3,q2⟩) hf
 rcases l with⟨hk,hm⟩ | ⟨hk,c,hc,B4⟩
 ·exact wpAny_loadName_local I.ok.kind hk hn hm go
 ·rcases hk with hk | hk
  ·exact wpAny_loadName_cell I.ok.kind hk hc B4 go
  ·rcases hx with k | k
   ·have:X.env.scope.names.lookup x=some .free:=hk
    rw[k]at this;cases this
   ·have:X.env.scope.names.lookup x=some .free:=hk
    rw[k]at this;cases this
end
section
variable{X:Cx}{pos:Pos}
def cM7(c:TT)(tb:TS):TS:=λD σ H=>∃W:Nat->St->Hp->Prop,(∃m,W m σ H)/\∀m σ H,W m σ H ->
 c σ H λb H1=>if b=true then ∃N:St->Hp->Prop,(∀aN H',N aN H'->∃m',m'<m/\W m' aN H')/\tb { D with nx:=N,ct:=N,bk:=D.nx } σ H1 else D.nx σ H1
theorem co6{c:Expr}{body:List Stmt}{tc:TT}{tb:TS}(hp:PassesOwn (model X.prog X.w) X.A X.env X.xe)(hc:PT X c tc)(hb:PSs X body tb):PS X (.While c body [] pos) (cM7 tc tb):=by
 intro pins s σ H D I h
 obtain⟨W,⟨m0,w0⟩,turn⟩:=h
 refine wpAny_While (codeAny_whileLoop (λn s'=>∃aN H',Inv X pins aN H' s'/\W n aN H') ?_ m0 ⟨σ,H,I,w0⟩)
 rintro n s1 ⟨gY,H1,I1,w1⟩
 refine wpAny_passesOwn hp (bc (hc pins s1 gY H1 _ I1 (turn n gY H1 w1)) λb s2 ⟨H2,I2,q2⟩=>?_)
 cases b with
 | true =>
  obtain⟨N,hN,q2⟩:=q2
  rw[if_pos rfl]
  refine wpAny_passesOwn hp (bc (hb pins s2 gY H2 _ I2 q2) λf s3 q3=>?_)
  cases f with
  | next =>
   obtain⟨kT,H3,I3,n3⟩:=q3
   obtain⟨m',hm,w3⟩:=hN kT H3 n3
   exact⟨m',hm,kT,H3,I3,w3⟩
  | cont =>
   obtain⟨kT,H3,I3,n3⟩:=q3
   obtain⟨m',hm,w3⟩:=hN kT H3 n3
   exact⟨m',hm,kT,H3,I3,w3⟩
  | brk=>exact q3
  | ret v=>exact q3
 | false =>
  rw[if_neg gg]
  exact wpAny_execs_nil ⟨gY,H2,I2,q2⟩
end
structure It where
 go:Nat->Hp->Prop
 ku:Nat->Hp->V->Hp->Prop
 stop:Nat->Hp->Prop
def jq(X:Cx)(pins:List (Addr × Obj))(H:Hp)(b:Addr):Prop :=
 H b=none/\b≠X.env.locals/\b ∉ X.fs/\(b∈X.ex\/X.cV.heap.objs.size<=b)/\(∀x c,X.env.cells.lookup x=some c->c≠b)/\∀p∈X.pn++pins,p.1≠b
theorem Inv.Cc{X:Cx}{pins:List (Addr × Obj)}{σ:St}{H H':Hp}{s:Shared}{b:Addr}(I:Inv X pins σ H s)(hb:s.heap.objs.size<=b)(hn:H' b=none):jq X pins H' b:=by
 refine⟨hn,RA (dA I.lt hb),I.Sj hb,.inr (eG I.sz hb),λx c e z=>?_,λp hp z=>?_⟩
 ·obtain⟨v,q⟩:=I.cell x c e
  exact absurd (dA q.lt (by rw[z];exact hb)) (fM _)
 ·exact absurd (dA (bU (I.pin p hp).1) (by rw[z];exact hb)) (fM _)
structure Turn(P:Program)(w:World)(K:PySem.W.Frag)(tg:Expr)(J:It)(fp:List Addr)(it:Addr)(tn:Nat->Heap->Prop):Prop where
 mem:it∈fp
 obj:∀i h,tn i h->∀b∈fp,∃o,h.get? b=some o/\∀v,o.data≠.cell v
 keep:∀i h h',tn i h->(∀b∈fp,∀o,h.get? b=some o->h'.get? b=some o)->tn i h'
 item:∀(X:Cx),X.prog=P->X.w=w->X.K=K->X.calm=true->∀(i:Nat) (pins:List (Addr × Obj)) (s:Shared) (σ:St) (H:Hp) (E:Value->Shared->Prop),Inv X pins σ H s->(∀b∈fp,jq X pins H b)->tn i s.heap->J.go i H ->
  wpAny (model P w) X.A (pyNext (.ref it)) (λr s1=>∃u,r=some u /\
   wpAny (model P w) X.A (letOwnedTupleGo tg (.ref it) u) (λ_ s2=>∃x H',Inv X pins σ H' s2/\RelV x u/\J.ku i H x H'/\tn (i+1) s2.heap/\∀b∈fp,H' b=none) E s1) E s
 done:∀(X:Cx),X.prog=P->X.w=w->X.K=K->X.calm=true->∀(i:Nat) (pins:List (Addr × Obj)) (s:Shared) (σ:St) (H:Hp) (E:Value->Shared->Prop),Inv X pins σ H s->(∀b∈fp,jq X pins H b)->tn i s.heap->J.stop i H ->
  wpAny (model P w) X.A (pyNext (.ref it)) (λr s1=>r=none/\Inv X pins σ H s1) E s
 self:∀(A:Around) (i:Nat) (s:Shared) (Q:Value->Shared->Prop) (E:Value->Shared->Prop),tn i s.heap->Q (.ref it) s->wpAny (model P w) A (pyIter (.ref it)) Q E s
abbrev TI:=St->Hp->(It->Hp->Prop)->Prop
def Sx(X:Cx)(pins:List (Addr × Obj))(σ:St)(tg:Expr)(R:It->Hp->Prop)(GB:Value)(s2:Shared):Prop :=
 ∃(it:Addr) (fp:List Addr) (tn:Nat->Heap->Prop) (J:It) (H':Hp),GB=.ref it/\Inv X pins σ H' s2/\Turn X.prog X.w X.K tg J fp it tn/\tn 0 s2.heap/\(∀b∈fp,jq X pins H' b)/\R J H'
def PI(X:Cx)(tg iter:Expr)(wi:TI):Prop :=
 ∀(pins:List (Addr × Obj)) (s:Shared) (σ:St) (H:Hp) (R:It->Hp->Prop),Inv X pins σ H s->wi σ H R ->
  wpAny (model X.prog X.w) X.A (eval iter X.env) (λv s1=>wpAny (model X.prog X.w) X.A (pyIter v) (Sx X pins σ tg R) X.xe s1) X.xe s
theorem Sy{M:Model}{A:Around}{E:Value->Shared->Prop}{s:Shared}{tg:Expr}{it:Addr}{u:Value}{o:Obj}{n:String}{vs:Array Value}{Q:Unit->Shared->Prop}(ho:s.heap.get? it=some o)(hc:o.cls=.type n)(hd:o.data=.fields vs)
  (hn:["enumerate","zip","dict_itemiterator","dict_reverseitemiterator","odict_iterator","itertools.zip_longest","itertools.pairwise"].contains n=false) (hQ:Q () s):wpAny M A (letOwnedTupleGo tg (.ref it) u) Q E s:=by
 unfold letOwnedTupleGo
 cases tg<;>first
  | exact wpAny_pure hQ
  | (cases u<;>first
    | exact wpAny_pure hQ
    | (refine wpAny_bind (wpAny_load ho ?_)
       rw[hc,hd]
       show wpAny M A (if(["enumerate","zip","dict_itemiterator","dict_reverseitemiterator","odict_iterator","itertools.zip_longest","itertools.pairwise"].contains n&&vs[0]?==some (rawInt _))=true then _ else _) Q E s
       rw[if_neg (by intro h;rw[hn,sT]at h;cases h)]
       exact wpAny_pure hQ))
def GC(K:PySem.W.Frag)(a:Addr):It :=
 ⟨λi H=>∃xs x,bQ K H a xs/\xs[i]?=some x,λi H x H'=>H'=H/\∀xs,bQ K H a xs->xs[i]?=some x,λi H=>∃xs,bQ K H a xs/\xs.length<=i⟩
def zj(lo:Int)(n:Nat):It:=⟨λi _=>i<n,λi H x H'=>H'=H/\x=.int (lo+i),λi _=>n<=i⟩
theorem b87{P:Program}{w:World}{K:PySem.W.Frag}{tg:Expr}(a it:Addr):Turn P w K tg (GC K a) [it] it (λi h=>h.IsListIter it a i) where
 mem:=by simp
 obj:=λi h st b hb=>by
  have e:b=it:=by simpa using hb
  subst e
  obtain⟨o,e,c,d⟩:=st
  exact⟨o,e,λv z=>by rw[d]at z;cases z⟩
 keep:=λi h h' st k=>st.at λo e=>k it (by simp) o e
 item:=by
  intro X hP hw hK hc i pins s σ H E I hf st hg
  subst hP hw hK
  obtain⟨xs,x,hq,hx⟩:=hg
  obtain⟨its,rv,p,hz⟩:=I.list hq
  obtain⟨u,hu,ru⟩:=rv.get hx
  obtain⟨f0,f1,f2,f3,f4,f5⟩:=hf it (by simp)
  refine wpAny_pyNext_list_item st p.isList (x:=u) (by simpa using hu) λh' qp sb=>?_
  have I1:Inv X pins σ H { s with heap:=h' }:=I.turned (t':=s.toks) (λb o hb e=>(sb.2 b hb).trans e) f0 f1 f3 f4 f5
  obtain⟨o,e,c,d⟩:=id qp
  exact⟨u,rfl,Sy (s:={ s with heap:=h' }) e c d (by decide) ⟨x,H,I1,ru,⟨rfl,λys hy=>by rw[I.B7 hy hq];exact hx⟩,qp,λb hb=>(hf b hb).1⟩⟩
 done:=by
  intro X hP hw hK hc i pins s σ H E I hf st hg
  subst hP hw hK
  obtain⟨xs,hq,hx⟩:=hg
  obtain⟨its,rv,p,hz⟩:=I.list hq
  obtain⟨f0,f1,f2,f3,f4,f5⟩:=hf it (by simp)
  have hl:=rv.length
  exact wpAny_pyNext_list_end (I.ok.hd hc) st p.isList (by simp;omega) λh' eb=>⟨rfl,I.turned (t':=s.toks) (λb o hb e=>eb b o hb e) f0 f1 f3 f4 f5⟩
 self:=λ_ _ _ _ _ st h=>wpAny_pyIter_listiter st h
theorem bU8{P:Program}{w:World}{K:PySem.W.Frag}{tg:Expr}(it:Addr)(lo:Int)(n:Nat):Turn P w K tg (zj lo n) [it] it (λi h=>IsRangeIter h it (lo+(i:Nat)*1) ((n:Int)-(i:Nat)) 1) where
 mem:=by simp
 obj:=λi h st b hb=>by
  have e:b=it:=by simpa using hb
  subst e
  exact⟨_,st,λv z=>by
   have z':Data.fields _=Data.cell v:=z
   cases z'⟩
 keep:=λi h h' st k=>k it (by simp) _ st
 item:=by
  intro X hP hw hK hc i pins s σ H E I hf st hg
  subst hP hw hK
  obtain⟨f0,f1,f2,f3,f4,f5⟩:=hf it (by simp)
  have W:=Walks.range (prog:=X.prog) (w:=X.w) (I.ok.hd hc) it lo 1 n
  refine W.item i s _ _ hg st λv h' tk hv qp kk=>?_
  obtain⟨t,rfl⟩:=hv
  have I1:Inv X pins σ H { s with heap:=h',toks:=tk }:=I.turned (λb o hb e=>kk b o (by simpa using hb) e) f0 f1 f3 f4 f5
  refine⟨_,rfl,Sy (s:={ s with heap:=h',toks:=tk }) (n:="range_iterator") qp rfl rfl (by decide) ⟨.int (lo+i),H,I1,⟨t,?_⟩,⟨rfl,rfl⟩,qp,λb hb=>(hf b hb).1⟩⟩
  rw[Int.mul_one]
 done:=by
  intro X hP hw hK hc i pins s σ H E I hf st hg
  subst hP hw hK
  obtain⟨f0,f1,f2,f3,f4,f5⟩:=hf it (by simp)
  exact wpAny_pyNext_range_end (I.ok.hd hc) st (by have:n<=i:=hg;omega) λh' eb=>⟨rfl,I.turned (t':=s.toks) (λb o hb e=>eb b o hb e) f0 f1 f3 f4 f5⟩
 self:=λ_ _ _ _ _ st h=>wpAny_pyIter_rangeiter st h
end L2
namespace L2
open PySem PySem.Spec PyProof.Rows
section
variable{X:Cx}{tg:Expr}
def cU3(K:PySem.W.Frag)(tl:TE):TI:=λσ H R=>tl σ H λx H1=>∃a,x=.ref a/\(∃xs,bQ K H1 a xs)/\R (GC K a) H1
theorem Sz{l:Expr}{tl:TE}(hl:PE X l tl):PI X tg l (cU3 X.K tl):=by
 intro pins s σ H R I h
 refine bc (hl pins s σ H _ I h) λv s1 ⟨x,H1,I1,r1,q1⟩=>?_
 obtain⟨a,e,⟨xs,hq⟩,q⟩:=q1
 subst e
 cases r1
 obtain⟨its,rv,p,hz⟩:=I1.list hq
 refine wpAny_pyIter_list p.isList ?_
 refine⟨s1.heap.objs.size,[s1.heap.objs.size],_,_,H1,rfl,I1.kept (t':=s1.toks) λb o e=>fN _ e,b87 a _,⟨_,gQ _ rfl,rfl,rfl⟩,λb hb=>?_,q⟩
 have e:b=s1.heap.objs.size:=by simpa using hb
 subst e
 exact I1.Cc (bM _) (I1.aO.fresh (bM _))
theorem SA{pins:List (Addr × Obj)}{σ:St}{H:Hp}{s:Shared}{R:It->Hp->Prop}{E:Value->Shared->Prop}{lo hi:Int}{t u v:Tok}{tk:Nat}(I:Inv X pins σ H s)(h1:-(2 ^ 62)<=lo)(h2:lo<2 ^ 62)(h3:-(2 ^ 62)<=hi)(h4:hi<2 ^ 62)
  (q:R (zj lo (hi-lo).toNat) H):wpAny (model X.prog X.w) X.A (pyIter (.ref s.heap.objs.size)) (Sx X pins σ tg R) E { s with heap:=s.heap.push { cls:=.type "range",data:=.fields #[.int lo t,.int hi u,.int 1 v] },toks:=tk }:=by
 refine wpAny_pyIter_range (IsRange.new ..) (small_one h1 h2 h3 h4) ?_
 have I1:Inv X pins σ H { s with heap:=s.heap.push { cls:=.type "range",data:=.fields #[.int lo t,.int hi u,.int 1 v] },toks:=tk }:=I.kept λb o e=>fN _ e
 refine⟨(s.heap.push { cls:=.type "range",data:=.fields #[.int lo t,.int hi u,.int 1 v] }).objs.size,[(s.heap.push { cls:=.type "range",data:=.fields #[.int lo t,.int hi u,.int 1 v] }).objs.size],_,_,H,rfl,
  I1.kept (t':=tk) λb o e=>fN _ e,bU8 _ lo (hi-lo).toNat,?_,λb hb=>?_,q⟩
 ·have e1:lo+((0:Nat):Int)*1=lo:=by simp
  have e2:(((hi-lo).toNat:Nat):Int)-((0:Nat):Int)=Builtin.Range.rangeSize lo hi 1:=by rw[rangeSize_one];split<;>omega
  show IsRangeIter _ _ (lo+((0:Nat):Int)*1) ((((hi-lo).toNat:Nat):Int)-((0:Nat):Int)) 1
  rw[e1,e2]
  exact gQ _ rfl
 ·have e:b=(s.heap.push { cls:=.type "range",data:=.fields #[.int lo t,.int hi u,.int 1 v] }).objs.size:=by simpa using hb
  subst e
  exact I1.Cc (bM _) (I1.aO.fresh (bM _))
def cV3(ta:TA):TI:=λσ H R=>ta σ H λvs H1=>∃j:Int,vs=[.int j]/\-(2 ^ 62)<=j/\j<2 ^ 62/\R (zj 0 j.toNat) H1
def cV4(ta:TA):TI:=λσ H R=>ta σ H λvs H1=>∃i j:Int,vs=[.int i,.int j]/\(-(2 ^ 62)<=i/\i<2 ^ 62/\-(2 ^ 62)<=j/\j<2 ^ 62)/\R (zj i (j-i).toNat) H1
theorem bZ4{a:Expr}{ta:TA}{p pos:Pos}(hg:Gl X "range")(hm:X.mg "range"=none)(ha:PA X [a] ta)(hs:starEach [a] X.env=[(false,eval a X.env)]:=by rfl):PI X tg (.Call (.Name "range" p) [a] [] pos) (cV3 ta):=by
 intro pins s σ H R I h
 refine Call_ (by4 I hg hm boot_range (BF (bc (ha pos pins s σ H _ I h) λus s1 ⟨vs,H1,I1,r1,q1⟩=>?_) hs rfl))
 obtain⟨j,e,q1,q2,q⟩:=q1
 subst e
 cases r1 with
 | cons r rr =>
  cases rr
  obtain⟨t,rfl⟩:=r
  exact call_range_1 (SA I1 (by omega) (by omega) q1 q2 (by simpa using q))
theorem cc8{a b:Expr}{ta:TA}{p pos:Pos}(hg:Gl X "range")(hm:X.mg "range"=none)(ha:PA X [a,b] ta)(hs:starEach [a,b] X.env=[(false,eval a X.env),(false,eval b X.env)]:=by rfl)(jr:starEach [b] X.env=[(false,eval b X.env)]:=by rfl) :
  PI X tg (.Call (.Name "range" p) [a,b] [] pos) (cV4 ta):=by
 intro pins s σ H R I h
 refine Call_ (by4 I hg hm boot_range (BF (bc (ha pos pins s σ H _ I h) λus s1 ⟨vs,H1,I1,r1,q1⟩=>?_) (by rw[hs,jr]) (by rw[jr];rfl)))
 obtain⟨i,j,e,⟨q1,q2,q3,q4⟩,q⟩:=q1
 subst e
 cases r1 with
 | cons r rr =>
  cases rr with
  | cons r' rr =>
   cases rr
   obtain⟨t,rfl⟩:=r
   obtain⟨t',rfl⟩:=r'
   exact call_range_2 (SA I1 q1 q2 q3 q4 q)
def cY6(wi:TI)(g:TG)(tb:TS):TS:=λD σ H=>wi σ H λJ H1=>∃W:Nat->Nat->St->Hp->Prop,(∃m,W 0 m σ H1)/\∀i m σ H,W i m σ H ->
 (J.stop i H/\D.nx σ H)\/(J.go i H/\∃N:St->Hp->Prop,(∀aN H',N aN H'->∃m',m'<m/\W (i+1) m' aN H')/\∀x H',J.ku i H x H'->g x σ H' λmF H2=>tb { D with nx:=N,ct:=N,bk:=D.nx } mF H2)
def zk(fp:List Addr)(h:Heap):List (Addr × Obj):=fp.filterMap λb=>(h.get? b).map λo=>(b,o)
theorem Cd{fp:List Addr}{h:Heap}{b:Addr}{o:Obj}(hb:b∈fp)(e:h.get? b=some o):(b,o)∈zk fp h:=da9.mpr ⟨b,hb,by rw[e];rfl⟩
theorem ce1{fp:List Addr}{h:Heap}{p:Addr × Obj}(hp:p∈zk fp h):p.1∈fp/\h.get? p.1=some p.2:=by
 obtain⟨b,hb,e⟩:=da9.mp hp
 cases q:h.get? b with
 | none=>rw[q]at e;cases e
 | some o =>
  rw[q]at e
  have e':(b,o)=p:=cT e
  subst e'
  exact⟨hb,q⟩
theorem Inv.pinned{pins:List (Addr × Obj)}{σ:St}{H:Hp}{s:Shared}{fp:List Addr}(I:Inv X pins σ H s)(hf:∀b∈fp,jq X pins H b)(ho:∀b∈fp,∃o,s.heap.get? b=some o/\∀v,o.data≠.cell v):Inv X (pins++zk fp s.heap) σ H s :=
 I.Sk λp hp=>(bY.mp hp).elim (λz=>I.pin p (fc _ z)) λz=>by
  obtain⟨hb,e⟩:=ce1 z
  obtain⟨f0,f1,f2,_⟩:=hf p.1 hb
  obtain⟨o,e',d⟩:=ho p.1 hb
  rw[e]at e';cases e'
  exact⟨e,f0,f1,f2,d⟩
theorem Inv.zo{pins pl:List (Addr × Obj)}{σ:St}{H:Hp}{s:Shared}(I:Inv X (pins++pl) σ H s):Inv X pins σ H s:=I.Sk λp hp=>I.pin p (fc _ (gP _ hp))
theorem cK6{iter:Expr}{body:List Stmt}{wi:TI}{g:TG}{tb:TS}{pos:Pos}(hp:PassesOwn (model X.prog X.w) X.A X.env X.xe)(hc:X.calm=true)(hi:PI X tg iter wi)(hg:PG X tg g)(hb:PSs X body tb)
  (hs:∀x,foldedSetIterable iter X.env x=pure x:=by intro _;rfl):PS X (.For tg iter body [] pos) (cY6 wi g tb):=by
 intro pins s σ H D I h
 refine wpAny_For (bc (hi pins s σ H _ I h) λv s1 h1=>bc h1 λGB s2 h2=>?_) hs
 obtain⟨it,fp,tn,J,H2,e,I2,T,zr,f2,W,⟨m0,w0⟩,turn⟩:=h2
 subst e
 have GD:∀{H':Hp},(∀b∈fp,H' b=none)->∀b∈fp,jq X pins H' b:=λhn b hb=>⟨hn b hb,(f2 b hb).2⟩
 refine codeAny_forLoop_any (λn s'=>∃i aN H',Inv X pins aN H' s'/\tn i s'.heap/\(∀b∈fp,H' b=none)/\W i n aN H') ?_ m0 ⟨0,σ,H2,I2,zr,λb hb=>(f2 b hb).1,w0⟩
 rintro n s3 ⟨i,kT,H3,I3,SD,SE,w3⟩
 rcases turn i n kT H3 w3 with⟨stop,qn⟩ | ⟨go,N,hN,step⟩
 ·refine wpAny_passesOwn hp (bc (T.done X rfl rfl rfl hc i pins s3 kT H3 X.xe I3 (GD SE) SD stop) λr s4 ⟨hr,I4⟩=>?_)
  subst hr
  exact wpAny_execs_nil ⟨kT,H3,I4,qn⟩
 ·refine wpAny_passesOwn hp (bc (T.item X rfl rfl rfl hc i pins s3 kT H3 X.xe I3 (GD SE) SD go) λr s4 ⟨u,hr,h4⟩=>?_)
  subst hr
  refine wpAny_passesOwn hp (bc h4 λ_ s5 ⟨x,H5,I5,r5,y5,tQ,GF⟩=>?_)
  have GG:=I5.pinned (GD GF) (T.obj _ _ tQ)
  refine wpAny_passesOwn hp (bc (hg _ s5 kT H5 x u _ GG r5 (step x H5 y5)) λ_ s6 ⟨GH,H6,I6,q6⟩=>?_)
  refine wpAny_passesOwn hp (bc (hb _ s6 GH H6 _ I6 q6) λf s7 q7=>?_)
  have again:∀{kU:St} {H7:Hp},Inv X (pins++zk fp s5.heap) kU H7 s7->N kU H7->∃m,m<n/\∃i aN H',Inv X pins aN H' s7/\tn i s7.heap/\(∀b∈fp,H' b=none)/\W i m aN H':=λ{kU H7} I7 n7=>by
   obtain⟨m',hm,w7⟩:=hN kU H7 n7
   refine⟨m',hm,i+1,kU,H7,I7.zo,T.keep _ _ _ tQ λb hb o e=>(I7.pin (b,o) (fc _ (fc _ (Cd hb e)))).1,λb hb=>?_,w7⟩
   obtain⟨o,e,d⟩:=T.obj _ _ tQ b hb
   exact(I7.pin (b,o) (fc _ (fc _ (Cd hb e)))).2.1
  cases f with
  | next=>obtain⟨kU,H7,I7,n7⟩:=q7;exact again I7 n7
  | cont=>obtain⟨kU,H7,I7,n7⟩:=q7;exact again I7 n7
  | brk=>obtain⟨kU,H7,I7,q7⟩:=q7;exact⟨kU,H7,I7.zo,q7⟩
  | ret v=>obtain⟨x7,kU,H7,I7,r7,q7⟩:=q7;exact⟨x7,kU,H7,I7.zo,r7,q7⟩
end
end L2
namespace L2
open PySem PySem.Spec PyProof.Rows
abbrev R2:=V->V->Hp->VK->Prop
def cK(X:Cx)(f:Value->Value->Sem Value)(r:R2):Prop :=
 ∀(pins:List (Addr × Obj)) (s:Shared) (σ:St) (H:Hp) (x y:V) (v u:Value) (Q:VK),Inv X pins σ H s->RelV x v->RelV y u->r x y H Q ->
  wpAny (model X.prog X.w) X.A (f v u) (EP X pins σ Q) X.xe s
def GI(X:Cx)(f:Value->Sem Value)(r:V->Hp->VK->Prop):Prop :=
 ∀(pins:List (Addr × Obj)) (s:Shared) (σ:St) (H:Hp) (x:V) (v:Value) (Q:VK),Inv X pins σ H s->RelV x v->r x H Q ->
  wpAny (model X.prog X.w) X.A (f v) (EP X pins σ Q) X.xe s
def gZ(X:Cx)(f:Value)(r:List V->Hp->VK->Prop):Prop :=
 ∀(pins:List (Addr × Obj)) (s:Shared) (σ:St) (H:Hp) (xs:List V) (us:List Value) (Q:VK),Inv X pins σ H s->Vals xs us->r xs H Q ->
  wpAny (model X.prog X.w) X.A (call f us) (EP X pins σ Q) X.xe s
def zt(r:R2)(ta tb:TE):TE:=λσ H Q=>ta σ H λx H1=>tb σ H1 λy H2=>r x y H2 Q
def tUn(r:V->Hp->VK->Prop)(ta:TE):TE:=λσ H Q=>ta σ H λx H1=>r x H1 Q
def rI(C:Int->Int->Prop)(g:Int->Int->V):R2:=λx y H Q=>∃i j,x=.int i/\y=.int j/\C i j/\Q (g i j) H
def jP(g:Int->Int->V):R2:=λx y H Q=>∃i j,x=.int i/\y=.int j/\Q (g i j) H
def rU(g:Int->V):V->Hp->VK->Prop:=λx H Q=>∃i,x=.int i/\Q (g i) H
section
variable{X:Cx}{a b c:Expr}{ta tb tc:TE}{pos:Pos}
theorem GJ(ha:PE X a ta)(hb:PE X b tb){pins:List (Addr × Obj)}{s:Shared}{σ:St}{H:Hp}{R:V->V->Hp->Prop}(I:Inv X pins σ H s)
  (h:ta σ H λx H1=>tb σ H1 λy H2=>R x y H2) {Q:Value->Shared->Prop} {f:Value->Value->Sem Value}
  (hf:∀v u s2 x y H2,Inv X pins σ H2 s2->RelV x v->RelV y u->R x y H2->wpAny (model X.prog X.w) X.A (f v u) Q X.xe s2) :
  wpAny (model X.prog X.w) X.A (eval a X.env) (λv bK=>wpAny (model X.prog X.w) X.A (eval b X.env) (λu kS=>wpAny (model X.prog X.w) X.A (f v u) Q X.xe kS) X.xe bK) X.xe s:=by
 refine bc (ha pins s σ H _ I h) λv s1 ⟨x,H1,I1,r1,q1⟩=>?_
 refine bc (hb pins s1 σ H1 _ I1 q1) λu s2 ⟨y,H2,I2,r2,q2⟩=>?_
 exact hf v u s2 x y H2 I2 r1 r2 q2
theorem zu{op:Operator}{r:R2}(ho:cK X (binaryOp op) r)(ha:PE X a ta)(hb:PE X b tb):PE X (.BinOp a op b pos) (zt r ta tb):=by
 intro pins s σ H Q I h
 exact wpAny_BinOp (GJ ha hb I h λv u s2 x y H2 I2 rx ry q=>ho pins s2 σ H2 x y v u Q I2 rx ry q)
theorem cW0{op:UnaryOp}{r:V->Hp->VK->Prop}(ho:GI X (unaryOp op) r)(ha:PE X a ta):PE X (.UnaryOp op a pos) (tUn r ta):=by
 intro pins s σ H Q I h
 exact UnaryOp_ (bc (ha pins s σ H _ I h) λv s1 ⟨x,H1,I1,r1,q1⟩=>ho pins s1 σ H1 x v Q I1 r1 q1)
theorem zw{f:Value->Value->Sem Value}{C:Int->Int->Prop}{g:Int->Int->Int}
  (rule:∀(i j:Int) (t u:Tok) (s:Shared) (Q:Value->Shared->Prop) (E:Value->Shared->Prop),C i j->Q (.int (g i j) s.toks) { s with toks:=s.toks+1 }->wpAny (model X.prog X.w) X.A (f (.int i t) (.int j u)) Q E s) :
  cK X f (rI C λi j=>.int (g i j)):=by
 intro pins s σ H x y v u Q I rx ry h
 obtain⟨i,j,rfl,rfl,hc,q⟩:=h
 obtain⟨t,rfl⟩:=rx
 obtain⟨t',rfl⟩:=ry
 exact rule i j t t' s _ _ hc ⟨.int (g i j),H,I.tok _,⟨_,rfl⟩,q⟩
theorem vK{f:Value->Value->Sem Value}{g:Int->Int->Int}
  (rule:∀(i j:Int) (t u:Tok) (s:Shared) (Q:Value->Shared->Prop) (E:Value->Shared->Prop),Q (.int (g i j) s.toks) { s with toks:=s.toks+1 }->wpAny (model X.prog X.w) X.A (f (.int i t) (.int j u)) Q E s) :
  cK X f (jP λi j=>.int (g i j)):=by
 intro pins s σ H x y v u Q I rx ry h
 obtain⟨i,j,rfl,rfl,q⟩:=h
 obtain⟨t,rfl⟩:=rx
 obtain⟨t',rfl⟩:=ry
 exact rule i j t t' s _ _ ⟨.int (g i j),H,I.tok _,⟨_,rfl⟩,q⟩
theorem Ce{f:Value->Value->Sem Value}{g:Int->Int->Bool}
  (rule:∀(i j:Int) (t u:Tok) (s:Shared) (Q:Value->Shared->Prop) (E:Value->Shared->Prop),Q (.bool (g i j)) s->wpAny (model X.prog X.w) X.A (f (.int i t) (.int j u)) Q E s) :
  cK X f (jP λi j=>.bl (g i j)):=by
 intro pins s σ H x y v u Q I rx ry h
 obtain⟨i,j,rfl,rfl,q⟩:=h
 obtain⟨t,rfl⟩:=rx
 obtain⟨t',rfl⟩:=ry
 exact rule i j t t' s _ _ ⟨.bl (g i j),H,I,rfl,q⟩
def js(i j:Int):Prop:=(-(2 ^ 64)<i/\i<2 ^ 64)\/(-(2 ^ 64)<j/\j<2 ^ 64)
theorem js.ok{i j:Int}(h:js i j):IntMulOk i j:=by
 rcases h with⟨h1,h2⟩ | ⟨h1,h2⟩
 ·exact .of_left (intBits_le_64 h1 h2)
 ·exact .of_right (intBits_le_64 h1 h2)
theorem bV6(k:Nat):(0:Int)<=2 ^ k:=by
 rw[two_pow_cast]
 exact RB _
theorem cL0:cK X (binaryOp .Add) (jP λi j=>.int (i+j)):=vK λ_ _ _ _ _ _ _ q=>add_int q
theorem GK:cK X (binaryOp .Sub) (jP λi j=>.int (i-j)):=vK λ_ _ _ _ _ _ _ q=>sub_int q
theorem cP5:cK X (binaryOp .Mod) (rI (λ_ j=>0<j) λi j=>.int (i%j)):=zw λi j _ _ _ _ _ hc q=>by
 have h1:(0:Int)<j:=hc
 exact mod_int' (by omega) (by rw[Int.fmod_eq_emod_of_nonneg i (by omega)];exact q)
theorem cK7:cK X (binaryOp .RShift) (rI (λ_ j=>0<=j) λi j=>.int (i/2 ^ j.toNat)):=zw λi j _ _ _ _ _ hc q =>
 rshift_int hc (by rw[db0 i (bV6 _)];exact q)
theorem cI9:cK X (binaryOp .BitAnd) (jP λi j=>.int (pZ i j)):=vK λ_ _ _ _ _ _ _ q=>and_int q
theorem cK1:cK X (binaryOp .BitXor) (jP λi j=>.int (p5 i j)):=vK λ_ _ _ _ _ _ _ q=>xor_int q
theorem cF8:cK X (inplaceOp .Add) (jP λi j=>.int (i+j)):=vK λ_ _ _ _ _ _ _ q=>iadd_int q
theorem cA9:cK X (inplaceOp .BitXor) (jP λi j=>.int (p5 i j)):=vK λ_ _ _ _ _ _ _ q=>ixor_int q
theorem unI{f:Value->Sem Value}{g:Int->Int}
  (rule:∀(i:Int) (t:Tok) (s:Shared) (Q:Value->Shared->Prop) (E:Value->Shared->Prop),Q (.int (g i) s.toks) { s with toks:=s.toks+1 }->wpAny (model X.prog X.w) X.A (f (.int i t)) Q E s) :
  GI X f (rU λi=>.int (g i)):=by
 intro pins s σ H x v Q I rx h
 obtain⟨i,rfl,q⟩:=h
 obtain⟨t,rfl⟩:=rx
 exact rule i t s _ _ ⟨.int (g i),H,I.tok _,⟨_,rfl⟩,q⟩
theorem cL1:GI X (unaryOp .USub) (rU λi=>.int (-i)):=unI λ_ _ _ _ _ q=>neg_int q
end
section
variable{X:Cx}{a b c:Expr}{ta tb tc:TE}{pos:Pos}
theorem SF{pins:List (Addr × Obj)}{σ:St}{H:Hp}{s:Shared}{Q:VK}{k k':Bool}(I:Inv X pins σ H s)(q:Q (.bl k) H)(e:k=k'):EP X pins σ Q (.bool k') s:=by
 subst e
 exact⟨.bl k,H,I,rfl,q⟩
theorem cW2:cK X (compareOp .Lt) (jP λi j=>.bl (decide (i<j))):=Ce λ_ _ _ _ _ _ _ q=>lt_int q
theorem cR1:cK X (compareOp .LtE) (jP λi j=>.bl (decide (i<=j))):=Ce λ_ _ _ _ _ _ _ q=>le_int q
theorem cV9:cK X (compareOp .Gt) (jP λi j=>.bl (decide (j<i))):=Ce λ_ _ _ _ _ _ _ q=>gt_int q
theorem cS7:cK X (compareOp .GtE) (jP λi j=>.bl (decide (j<=i))):=Ce λ_ _ _ _ _ _ _ q=>ge_int q
theorem cN0:cK X (compareOp .Is) (λx y H Q=>y=.ay/\Q (.bl (decide (x=.ay))) H):=by
 intro pins s σ H x y v u Q I rx ry h
 obtain⟨rfl,q⟩:=h
 cases ry
 refine is_none_gen (SF I q ?_)
 cases x<;>first
  | (cases rx;rfl)
  | (obtain⟨t,rfl⟩:=rx;rfl)
theorem cB2:cK X (compareOp .IsNot) (λx y H Q=>y=.ay/\Q (.bl (!decide (x=.ay))) H):=by
 intro pins s σ H x y v u Q I rx ry h
 obtain⟨rfl,q⟩:=h
 cases ry
 refine isnot_none_gen (SF I q ?_)
 cases x<;>first
  | (cases rx;rfl)
  | (obtain⟨t,rfl⟩:=rx;rfl)
theorem cK.or{f:Value->Value->Sem Value}{r r':R2}(h:cK X f r)(h':cK X f r'):cK X f (λx y H Q=>r x y H Q\/r' x y H Q):=by
 intro pins s σ H x y v u Q I rx ry q
 rcases q with q | q
 ·exact h pins s σ H x y v u Q I rx ry q
 ·exact h' pins s σ H x y v u Q I rx ry q
theorem bL(b:Expr){op:CmpOp}(h:op≠.In:=by decide)(h2:op≠.NotIn:=by decide):behindInMarks op b=false:=by
 have e1:(op==CmpOp.In)=false:=by cases op<;>first | rfl | exact absurd rfl h
 have e2:(op==CmpOp.NotIn)=false:=by cases op<;>first | rfl | exact absurd rfl h2
 cases b<;>simp[behindInMarks,e1,e2]
theorem cz4{op:CmpOp}{r:R2}(ho:cK X (compareOp op) r)(ha:PE X a ta)(hb:PE X b tb)(hm:behindInMarks op b=false):PE X (.Compare a [op] [b] pos) (zt r ta tb):=by
 intro pins s σ H Q I h
 exact wpAny_Compare1 (GJ ha hb I h λv u s2 x y H2 I2 rx ry q=>ho pins s2 σ H2 x y v u Q I2 rx ry q) hm
def SG(t:TE):TT:=λσ H Q=>t σ H λx H'=>∃k,x=.bl k/\Q k H'
theorem cC1{op:CmpOp}{r:R2}(ho:cK X (compareOp op) r)(ha:PE X a ta)(hb:PE X b tb)(hm:behindInMarks op b=false):PT X (.Compare a [op] [b] pos) (SG (zt r ta tb)):=by
 intro pins s σ H Q I h
 refine wpAny_isTrue_Compare1 (bc (ha pins s σ H _ I h) λv s1 ⟨x,H1,I1,r1,q1⟩=>bc (hb pins s1 σ H1 _ I1 q1) λu s2 ⟨y,H2,I2,r2,q2⟩ =>
  bc (ho pins s2 σ H2 x y v u _ I2 r1 r2 q2) λc s3 ⟨z,H3,I3,r3,k,e,q3⟩=>?_) hm
 subst e
 cases r3
 exact wpAny_truthy_bool ⟨H3,I3,q3⟩
def SH(r r':R2)(ta tb tc:TE):TE:=λσ H Q=>ta σ H λx H1=>tb σ H1 λy H2=>r x y H2 λz H3=>∃k,z=.bl k /\
 (if k=true then tc σ H3 λw' H4=>r' y w' H4 Q else Q (.bl false) H3)
theorem ci5{op tR:CmpOp}{r r':R2}(ho:cK X (compareOp op) r)(kQ:cK X (compareOp tR) r')(ha:PE X a ta)(hb:PE X b tb)(hc:PE X c tc)
  (hm:lastMarks [op,tR] [b,c]=false:=by with_unfolding_all rfl):PE X (.Compare a [op,tR] [b,c] pos) (SH r r' ta tb tc):=by
 intro pins s σ H Q I h
 refine Compare_chain (bc (ha pins s σ H _ I h) λv s1 ⟨x,H1,I1,r1,q1⟩=>chain_link (bc (hb pins s1 σ H1 _ I1 q1) λu s2 ⟨y,H2,I2,r2,q2⟩ =>
  bc (ho pins s2 σ H2 x y v u _ I2 r1 r2 q2) λd s3 ⟨z,H3,I3,r3,k,e,q3⟩=>?_)) hm
 subst e
 cases r3
 refine wpAny_truthy_bool ?_
 cases k with
 | false=>exact ite_ff ⟨.bl false,H3,I3,rfl,q3⟩
 | true=>exact ite_tt (chain_last (bc (hc pins s3 σ H3 _ I3 q3) λw' s4 ⟨z',H4,I4,r4,q4⟩=>kQ pins s4 σ H4 y z' u w' Q I4 r2 r4 q4))
theorem vL:(sizeLine:Nat)<2 ^ 63:=by rw[sizeLine_eq];decide
theorem bW6:cK X (binaryOp .Add) (λx y H Q=>∃i j,x=.str i/\y=.str j/\i.length+j.length<=sizeLine/\Q (.str (i++j)) H):=by
 intro pins s σ H x y v u Q I rx ry h
 obtain⟨i,j,rfl,rfl,hz,q⟩:=h
 obtain⟨t,rfl⟩:=rx
 obtain⟨t',rfl⟩:=ry
 exact add_str (λt' tk=>⟨.str (i++j),H,I.tok _,⟨_,rfl⟩,q⟩) hz
theorem GL{x:V}{us:List Value}(r:Vals [x] us):∃u,us=[u]/\RelV x u:=by
 cases r with
 | cons r1 r2=>cases r2;exact⟨_,rfl,r1⟩
theorem cT2{x y:V}{us:List Value}(r:Vals [x,y] us):∃u w',us=[u,w']/\RelV x u/\RelV y w':=by
 cases r with
 | cons r1 r2 =>
  cases r2 with
  | cons r3 r4=>cases r4;exact⟨_,_,rfl,r1,r3⟩
theorem ce4(hc:X.calm=true):gZ X (.builtin "min") (λxs H Q=>∃i j,xs=[.int i,.int j]/\Q (.int (if j<i then j else i)) H):=by
 intro pins s σ H xs us Q I r h
 obtain⟨i,j,rfl,q⟩:=h
 obtain⟨u,w',rfl,⟨t,rfl⟩,⟨t',rfl⟩⟩:=cT2 r
 refine min_two_ints (I.ok.hd hc) λh' tk k=>⟨_,H,I.kept k,?_,q⟩
 by_cases hj:j<i
 ·rw[if_pos hj,if_pos hj];exact⟨_,rfl⟩
 ·rw[if_neg hj,if_neg hj];exact⟨_,rfl⟩
end
end L2
namespace L2
open PySem PySem.Spec PyProof.Rows
structure tS(h:Heap)(x dx C:Addr)(mA:Str->Option Value):Prop where
 obj:h.get? x=some (PySem.W.instObj C dx)
 ns:h.Ns1 dx mA
 ne:dx≠x
theorem ce3{h:Heap}{dx:Addr}{mA:Str->Option Value}(n:h.Ns1 dx mA):∃od,h.get? dx=some od/\∀name,PySem.W.lookIn name od=some (mA name):=by
 obtain⟨o,es,ep,ho,hd,hk,_,hm⟩:=n
 refine⟨o,ho,λname=>?_⟩
 have e:=hm name
 unfold nsFind findBy at e
 rw[<-Array.find?_toList]at e
 unfold PySem.W.lookIn
 rw[hd]
 dsimp only
 split
 ·rename_i y q
  rw[q]at e
  exact congrArg some e
 ·rename_i q
  rw[q]at e
  have a:es.toList.any (·.refKey)=false:=by
   rw[RD]
   intro y hy
   obtain⟨z,t,do3⟩:=hk y (Array.mem_toList_iff.mp hy)
   simp[DictEntry.refKey,do3]
  have a':¬ es.toList.any (·.refKey)=true:=by rw[a];exact gg
  rw[if_neg a']
  exact congrArg some e
theorem tS.look{h:Heap}{x dx C:Addr}{mA:Str->Option Value}(I:tS h x dx C mA):∃od,PySem.W.InstAt h x (PySem.W.instObj C dx) C (some od)/\∀name,PySem.W.lookIn name od=some (mA name) :=
 let⟨od,ho,hl⟩:=ce3 I.ns
 ⟨od,⟨I.obj,rfl,rfl,ho⟩,hl⟩
section
variable{prog:Program}{w:World}{A:Around}{E:Value->Shared->Prop}{s:Shared}{K:PySem.W.Frag}{x dx C f:Addr}{mA:Str->Option Value}{name:Str}{v:Value}
theorem cy9{expr:Bool}{Q:Value->Shared->Prop}(X:K.In s.heap)(I:tS s.heap x dx C mA)(hg:PySem.W.plainGet K C name=true)(hh:PySem.W.hasDictIn K C=true)
  (ha:PySem.W.findIn K (.ref C) name=some none) (hv:mA name=some v) (hv':PySem.W.handedIn v=true) (h:Q v { s with toks:=s.toks+1 }) :
  wpAny (model prog w) A (getAttr (.ref x) name expr) Q E s:=by
 obtain⟨od,J,hl⟩:=I.look
 exact PySem.W.get_value X J (PySem.W.plainGet_of hg).1 (PySem.W.findObj_own hh ha rfl (by rw[hl,hv])) hv' h
theorem cg6{pl:Sem Bool}{Q:Value × List Value->Shared->Prop}(X:K.In s.heap)(I:tS s.heap x dx C mA)(hg:PySem.W.plainGet K C name=true)
  (hf:PySem.W.findIn K (.ref C) name=some (some (.ref f))) (ht:PySem.W.isFn K (.ref f)=true) (hv:mA name=none) (h:Q (.ref f,[.ref x]) s) :
  wpAny (model prog w) A (getMethod (.ref x) name pl) Q E s:=by
 obtain⟨od,J,hl⟩:=I.look
 exact PySem.W.method_fn X J (PySem.W.plainGet_of hg).1 (PySem.W.plainGet_of hg).2 hf (beq_iff_eq.mp ht) (by show(PySem.W.lookIn name od).map (·.isSome)=some false;rw[hl,hv];rfl) h
theorem cz2{ns:List Str}{Q:Unit->Shared->Prop}(X:K.In s.heap)(I:tS s.heap x dx C mA)
  (hs:PySem.W.findIn K (.ref C) "__setattr__"=some (some (.builtin "object.__setattr__"))) (hp:PySem.W.plainOver K C=true) (ht:PySem.W.takerIn K C name=some none) (hh:PySem.W.hasDictIn K C=true)
  (hw:PySem.Within mA ns) (mG:ns.length<=sizeLine)
  (h:∀h',tS h' x dx C (λy=>if y=name then some v else mA y)->Heap.SameBut dx s.heap h'->Q () { s with heap:=h',toks:=s.toks+2 }) :
  wpAny (model prog w) A (setAttr (.ref x) name v) Q E s:=by
 obtain⟨od,J,hl⟩:=I.look
 refine PySem.W.set_plain X J hs (PySem.W.osa_open (s:={ s with toks:=s.toks+1 }) (r:=none) X J hp ht λb=>?_)
 obtain⟨cd,hc,zc⟩:=PySem.W.any_some hh
 have hx:s.heap.get? x=some ⟨.ref C,some dx,.plain,#[]⟩:=I.obj
 refine wpAny_bind (wpAny_pure (wpAny_bind (wpAny_bind (wpAny_loadPart hx (wpAny_bind (PySem.W.Looks.here (s:={ s with toks:=s.toks+1 }) (PySem.W.looks_clsIn X hc) ?_))))))
 rw[zc]
 refine wpAny_pure (a:=some dx) (wpAny_bind (wpAny_pure (wpAny_bind ?_)))
 refine wpAny_nsSet1 (s:={ s with toks:=s.toks+1 }) I.ns λh' Cf jr=>?_
 obtain⟨oD,esD,epD,hoD,hdD,hcD⟩:=Cf.count (PySem.Within.cons name v hw)
 refine wpAny_bind (wpAny_lookBehind hoD (by rw[hdD];exact pastItsLine_dict (eG hcD (by rw[gR];omega))) ?_)
 exact wpAny_pure (h _ ⟨(jr.2 _ (fA I.ne)).trans I.obj,Cf,I.ne⟩ jr)
theorem cj9{R:Result->Shared->Prop}{vs:List Value}{kw:List (Str × Value)}(X:K.In s.heap)(hm:PySem.W.makesIn K C=true)
  (hi:PySem.W.findIn K (.ref C) "__init__"=some (some (.ref f))) (hf:PySem.W.typeIn K (.ref f)=some (.type "function"))
  (h:codeAny (model prog w) (A.under (.builtin "type.__call__" ⟨.ref C::vs,kw⟩)) (.call (.ref f) ⟨.ref (s.heap.objs.size+1)::vs,kw⟩) (PySem.W.InitBack (s.heap.objs.size+1) R)
   { s with heap:=(s.heap.push PySem.W.emptyDict).push (PySem.W.instObj C s.heap.objs.size) }) :
  codeAny (model prog w) A (.call (.ref C) ⟨vs,kw⟩) R s:=by
 obtain⟨hh,g,d,t,os⟩:=s
 exact PySem.W.make_core (PySem.W.makes_of X hm) (PySem.W.looks_findIn X hi) (λself=>PySem.W.bind_fn X self hf) (.inl rfl) h
end
def gn(f:Str)(v:V):List (Str × V)->List (Str × V)
 | []=>[(f,v)]
 | (g,x)::r=>if g=f then(g,v)::r else(g,x)::gn f v r
theorem SI(f g:Str)(v:V):∀fs:List (Str × V),(gn f v fs).lookup g=if g=f then some v else fs.lookup g
 | []=>by
  show nF g [(f,v)]=_
  by_cases h:g=f
  ·have hb:(g==f)=true:=beq_iff_eq.mpr h
   simp only[nF,hb,if_pos h]
  ·have hb:(g==f)=false:=beq_eq_false_iff_ne.mpr h
   simp only[nF,hb,if_neg h]
 | (k,x)::r=>by
  have ih:=SI f g v r
  rw[show gn f v ((k,x)::r)=(if k=f then(k,v)::r else(k,x)::gn f v r) from rfl]
  by_cases hk:k=f
  ·rw[if_pos hk]
   by_cases h:g=k
   ·have hb:(g==k)=true:=beq_iff_eq.mpr h
    simp only[nF,hb,if_pos (h.trans hk)]
   ·have hb:(g==k)=false:=beq_eq_false_iff_ne.mpr h
    simp only[nF,hb,if_neg (λe:g=f=>h (e.trans hk.symm))]
  ·rw[if_neg hk]
   by_cases h:g=k
   ·have hb:(g==k)=true:=beq_iff_eq.mpr h
    simp only[nF,hb,if_neg (λe:g=f=>hk (h.symm.trans e))]
   ·have hb:(g==k)=false:=beq_eq_false_iff_ne.mpr h
    simp only[nF,hb]
    exact ih
theorem GN(f:Str)(v:V):∀fs:List (Str × V),f∈(gn f v fs).map (·.1)/\∀g,g∈fs.map (·.1)->g∈(gn f v fs).map (·.1)
 | []=>⟨by simp[gn],λg h=>by simp at h⟩
 | (k,x)::r=>by
  obtain⟨i1,i2⟩:=GN f v r
  rw[show gn f v ((k,x)::r)=(if k=f then(k,v)::r else(k,x)::gn f v r) from rfl]
  by_cases hk:k=f
  ·rw[if_pos hk]
   subst hk
   exact⟨by simp,λg h=>by simpa using h⟩
  ·rw[if_neg hk]
   refine⟨?_,λg h=>?_⟩
   ·rw[dE]
    exact dY _ i1
   ·rw[dE]at h ⊢
    rcases cA.mp h with e | e
    ·exact cA.mpr (.inl e)
    ·exact dY _ (i2 g e)
theorem SJ(f:Str)(v:V):∀fs:List (Str × V),(gn f v fs).length<=fs.length+1
 | []=>by simp[gn]
 | (k,x)::r=>by
  have ih:=SJ f v r
  rw[show gn f v ((k,x)::r)=(if k=f then(k,v)::r else(k,x)::gn f v r) from rfl]
  by_cases hk:k=f
  ·rw[if_pos hk,gR,gR];omega
  ·rw[if_neg hk,gR,gR];omega
theorem my.some_of{v:V}{o:Option Value}(r:my (some v) o):∃u,o=some u/\RelV v u:=by
 cases o with
 | none=>exact(show False from r).elim
 | some u=>exact⟨u,rfl,r⟩
theorem my.none_of{o:Option Value}(r:my none o):o=none:=by
 cases o with
 | none=>rfl
 | some u=>exact(show False from r).elim
theorem b89{v:V}{u:Value}(r:RelV v u):PySem.W.handedIn u=true:=by
 cases v with
 | ay=>cases(show u=sS from r);rfl
 | bl b=>cases(show u=Fv b from r);rfl
 | int i=>obtain⟨t,e⟩:=(show ∃t,u=pY i t from r);cases e;rfl
 | str x=>obtain⟨t,e⟩:=(show ∃t,u=Value.str x t from r);cases e;rfl
 | BX b=>obtain⟨t,e⟩:=(show ∃t,u=Value.bytes b t from r);cases e;rfl
 | tK b=>obtain⟨t,e⟩:=(show ∃t,u=Value.float b t from r);cases e;rfl
 | ref a=>cases(show u=fL a from r);rfl
 | ty n=>cases(show u=Value.type n from r);rfl
section
variable{P:Program}{w:World}{H H':Hp}{h h':Heap}{a C dx:Addr}{fs fs':List (Str × V)}
theorem Cg(aO:cU P w H h)(e:H a=some (.ins C dx fs)):∃mA,tS h a dx C mA/\(∀f,my (fs.lookup f) (mA f))/\PySem.Within mA (fs.map (·.1))/\fs.length<=1000/\H dx=some (.own a):=by
 obtain⟨d,z,ne,ob,mA,n,r,q⟩:=(show eH P w H h a (.ins C dx fs) from aO a _ e)
 exact⟨mA,⟨ob,n,ne⟩,r,q,z,d⟩
end
structure eJ(K:PySem.W.Frag)(C:Addr):Prop where
 pg:PySem.W.plainGet K C Str.empty=true
 hd:PySem.W.hasDictIn K C=true
 po:PySem.W.plainOver K C=true
 sa:PySem.W.findIn K (.ref C) "__setattr__"=some (some (.builtin "object.__setattr__"))
theorem eJ.get{K:PySem.W.Frag}{C:Addr}(c:eJ K C)(f:Str):PySem.W.plainGet K C f=true:=c.pg
def cI(K:PySem.W.Frag)(C:Addr)(f:Str):Prop:=PySem.W.findIn K (.ref C) f=some none
theorem cI.dp3{K:PySem.W.Frag}{C:Addr}{f:Str}(n:cI K C f):PySem.W.takerIn K C f=some none:=by
 unfold PySem.W.takerIn
 rw[show PySem.W.findIn K (.ref C) f=some none from n]
 rfl
structure Meth(K:PySem.W.Frag)(C:Addr)(m:Str)(f:Addr):Prop where
 at_:PySem.W.findIn K (.ref C) m=some (some (.ref f))
 fn:PySem.W.isFn K (.ref f)=true
 kp:PySem.W.keepIn K (.ref f)=true
section
variable{X:Cx}{pins:List (Addr × Obj)}{σ:St}{H:Hp}{s:Shared}{a C dx:Addr}{fs:List (Str × V)}{f:Str}{v:V}{A:Around}{E:Value->Shared->Prop}
theorem bV1{b:Bool}{Q:Value->Shared->Prop}(I:Inv X pins σ H s)(e:H a=some (.ins C dx fs))(c:eJ X.K C)(n:cI X.K C f)(l:fs.lookup f=some v)
  (h:∀u s',Inv X pins σ H s'->RelV v u->Q u s'):wpAny (model X.prog X.w) A (getAttr (.ref a) f b) Q E s:=by
 obtain⟨mA,O,r,_,_,_⟩:=Cg I.aO e
 obtain⟨u,hu,ru⟩:=my.some_of (v:=v) (o:=mA f) (by rw[<-l];exact r f)
 exact cy9 I.dF O (c.get f) c.hd n hu (b89 ru) (h u _ (I.tok _) ru)
theorem GO{m:Str}{g:Addr}{pl:Sem Bool}{Q:Value × List Value->Shared->Prop}(I:Inv X pins σ H s)(e:H a=some (.ins C dx fs))(c:eJ X.K C)(k:Meth X.K C m g)(l:fs.lookup m=none)
  (h:Q (.ref g,[.ref a]) s):wpAny (model X.prog X.w) A (getMethod (.ref a) m pl) Q E s:=by
 obtain⟨mA,O,r,_,_,_⟩:=Cg I.aO e
 have hn:mA m=none:=my.none_of (by rw[<-l];exact r m)
 exact cg6 I.dF O (c.get m) k.at_ k.fn hn h
theorem bW9{y:V}{u:Value}{Q:Unit->Shared->Prop}(I:Inv X pins σ H s)(e:H a=some (.ins C dx fs))(c:eJ X.K C)(n:cI X.K C f)(hl:fs.length<1000)(ry:RelV y u)
  (h:∀s',Inv X pins σ (upd H a (.ins C dx (gn f y fs))) s'->Q () s'):wpAny (model X.prog X.w) A (setAttr (.ref a) f u) Q E s:=by
 obtain⟨mA,O,r,wi,_,ho⟩:=Cg I.aO e
 have hz:(fs.map (·.1)).length<=sizeLine:=by rw[br,sizeLine_eq];omega
 refine cz2 I.dF O c.sa c.po n.dp3 c.hd wi hz λh' O' sb=>h _ ?_
 have hd:∃o,h'.get? dx=some o:=let⟨o,_,_,e',_⟩:=O'.ns;⟨o,e'⟩
 refine I.write (x:=a) (e:=dx) (by rw[e];exact vm) (.inr ho) (λb q hb z=>(sb.2 b hb).trans z) hd ?_
 refine⟨by rw[bx O.ne];exact ho,?_,O.ne,O'.obj,_,O'.ns,λg=>?_,λg hg=>?_⟩
 ·have:=SJ f y fs;omega
 ·show my ((gn f y fs).lookup g) (if g=f then some u else mA g)
  rw[SI]
  by_cases q:g=f
  ·rw[if_pos q,if_pos q];exact ry
  ·rw[if_neg q,if_neg q];exact r g
 ·by_cases q:g=f
  ·rw[q];exact(GN f y fs).1
  ·refine(GN f y fs).2 g (wi g λz=>hg ?_)
   show(if g=f then some u else mA g)=none
   rw[if_neg q];exact z
theorem Inv.made(I:Inv X pins σ H s):Inv X pins σ (upd (upd H s.heap.objs.size (.own (s.heap.objs.size+1))) (s.heap.objs.size+1) (.ins C s.heap.objs.size []))
  { s with heap:=(s.heap.push PySem.W.emptyDict).push (PySem.W.instObj C s.heap.objs.size) }:=by
 have e1:(s.heap.push PySem.W.emptyDict).get? s.heap.objs.size=some PySem.W.emptyDict:=gQ s.heap rfl
 have e2:((s.heap.push PySem.W.emptyDict).push (PySem.W.instObj C s.heap.objs.size)).get? (s.heap.objs.size+1)=some (PySem.W.instObj C s.heap.objs.size):=by
  have:=gQ (s.heap.push PySem.W.emptyDict) (o:=PySem.W.instObj C s.heap.objs.size) rfl
  rwa [vn]at this
 have e3:(s.heap.push PySem.W.emptyDict).Ns s.heap.objs.size (λ_=>none):=⟨PySem.W.emptyDict,#[],_,e1,rfl,(λe he=>absurd he (by simp)),λ_=>rfl⟩
 have I1:=I.laid (a:=s.heap.objs.size) (o:=.own (s.heap.objs.size+1)) (h':=s.heap.push PySem.W.emptyDict) (t':=s.toks) (λb u q=>fN _ q) (bM _) ⟨_,e1⟩
 refine I1.laid (a:=s.heap.objs.size+1) (o:=.ins C s.heap.objs.size []) (t':=s.toks) (λb u q=>fN _ q) (BG (vn _ _)) ?_
 have ne:s.heap.objs.size≠s.heap.objs.size+1:=ft (BH _)
 refine⟨by rw[bx ne,cH],jL _,ne,e2,λ_=>none,(Heap.Ns1.of_empty e3).at λo q=>fN _ q,λ_=>vm,λy hy=>absurd rfl hy⟩
theorem cz9{prog:Program}{w:World}{env:Env}{e:Expr}{f:Str}{pos:Pos}{s:Shared}{Q:Value->Shared->Prop}(hb:attributeBase e f env (eval e env)=eval e env)
  (h:wpAny (model prog w) A (eval e env) (λo bK=>wpAny (model prog w) A (getAttr o f true) Q E bK) E s):wpAny (model prog w) A (eval (.Attribute e f pos) env) Q E s :=
 Attribute_any_ h (by rw[arm_eval_Attribute,hb])
end
def cY9(K:PySem.W.Frag)(ta:TE)(f:Str):TE:=λσ H Q=>ta σ H λx H1=>∃a C dx fs v,x=.ref a/\H1 a=some (.ins C dx fs)/\eJ K C/\cI K C f/\fs.lookup f=some v/\Q v H1
def cY3(K:PySem.W.Frag)(ta tv:TE)(f:Str):TS:=λD σ H=>tv σ H λy H1=>ta σ H1 λx H2=>∃a C dx fs,x=.ref a/\H2 a=some (.ins C dx fs)/\eJ K C/\cI K C f/\fs.length<1000 /\
 D.nx σ (upd H2 a (.ins C dx (gn f y fs)))
section
variable{X:Cx}{o e value:Expr}{f:Str}{pos pos' tT:Pos}{ta tv:TE}
theorem Ci(he:PE X e ta)(hb:attributeBase e f X.env (eval e X.env)=eval e X.env):PE X (.Attribute e f pos) (cY9 X.K ta f):=by
 intro pins s σ H Q I h
 refine cz9 hb (bc (he pins s σ H _ I h) λu s1 ⟨x,H1,I1,rx,a,C,dx,fs,v,ex,ea,c,n,l,q⟩=>?_)
 subst ex
 obtain rfl:u=fL a:=rx
 exact bV1 I1 ea c n l λu' s2 I2 ru=>⟨v,H1,I2,ru,q⟩
theorem qq(ha:PE X o ta)(hv:PE X value tv)(hs:swapsWith value (some (.Attribute o f pos')) pos.line X.env=pure false):PS X (.Assign [.Attribute o f pos'] value pos) (cY3 X.K ta tv f):=by
 intro pins s σ H D I h
 refine plainObj_wpAny_Assign_Attribute (bc (hv pins s σ H _ I h) λu s1 ⟨y,H1,I1,ry,q⟩=>bc (ha pins s1 σ H1 _ I1 q) λov s2 ⟨x,H2,I2,rx,a,C,dx,fs,ex,ea,c,n,l,q2⟩=>?_) hs
 subst ex
 obtain rfl:ov=fL a:=rx
 exact bW9 I2 ea c n l ry λs3 I3=>⟨σ,_,I3,q2⟩
end
section
variable{X:Cx}{pins:List (Addr × Obj)}{σ:St}{H:Hp}{s:Shared}{A:Around}{E:Value->Shared->Prop}{Q:Value->Shared->Prop}{c:Value}{b:Bool}
inductive iN(K:PySem.W.Frag)(H:Hp):V->Value->Prop where
 | ay:iN K H .ay (.type "NoneType")
 | bl (x:Bool):iN K H (.bl x) (.type "bool")
 | int (i:Int):iN K H (.int i) (.type "int")
 | str (x:Str):iN K H (.str x) (.type "str")
 | tK (x:UInt64):iN K H (.tK x) (.type "float")
 | lst {a:Addr} {xs:List V} (e:H a=some (.lst xs)):iN K H (.ref a) (.type "list")
 | cq {a:Addr} {o:Obj} {xs:List V} (e:H a=some (.cq o (.lst xs))):iN K H (.ref a) (.type "list")
 | tup {a:Addr} {xs:List V} (e:H a=some (.tup xs)):iN K H (.ref a) (.type "tuple")
 | dK {a:Addr} {dP:List (Key × V)} (e:H a=some (.dK dP)):iN K H (.ref a) (.type "dict")
 | dT {a:Addr} {dP:List (List Key × V)} (e:H a=some (.dT dP)):iN K H (.ref a) (.type "dict")
 | ins {a C dx:Addr} {fs:List (Str × V)} (e:H a=some (.ins C dx fs)) (cl:eJ K C) (ha:PySem.W.findIn K (.ref C) "__class__"=some (some (.builtin "object.__class__")))
   (hn:PySem.W.specialIn K (.builtin "object.__class__") "__get__"=some (some (.builtin "getset_descriptor.__get__"))) (GP:PySem.W.takesIn K (.builtin "object.__class__")=some true)
   (hm:PySem.W.mroIn K C (.type "object")=some true):iN K H (.ref a) (.ref C)
theorem cc9{x:V}{u t:Value}(I:Inv X pins σ H s)(rx:RelV x u)(ty:iN X.K H x t)(e:PySem.W.kitOne X.K t c=some b)(h:∀tk,Q (.bool b) { s with toks:=tk }) :
  wpAny (model X.prog X.w) A (call (.builtin "isinstance") [u,c]) Q E s:=by
 cases ty with
 | ay=>cases(show u=sS from rx);exact PySem.W.kia_one PySem.W.kitx_none I.dF vm e (λz=>nomatch z) h
 | bl y=>cases(show u=Fv y from rx);exact PySem.W.kia_one PySem.W.kitx_bool I.dF vm e (λz=>nomatch z) h
 | int i=>obtain⟨t,q⟩:=(show ∃t,u=pY i t from rx);cases q;exact PySem.W.kia_one PySem.W.kitx_int I.dF vm e (λz=>nomatch z) h
 | str y=>obtain⟨t,q⟩:=(show ∃t,u=Value.str y t from rx);cases q;exact PySem.W.kia_one PySem.W.kitx_str I.dF vm e (λz=>nomatch z) h
 | tK y=>obtain⟨t,q⟩:=(show ∃t,u=Value.float y t from rx);cases q;exact PySem.W.kia_one PySem.W.kitx_float I.dF vm e (λz=>nomatch z) h
 | @lst a xs ea =>
  cases(show u=fL a from rx)
  obtain⟨_,_,n,_,h1⟩:=(show eH X.prog X.w H s.heap a (.lst xs) from I.aO a _ ea)
  exact PySem.W.kia_one PySem.W.kitx_list I.dF ⟨_,h1,rfl⟩ e (λz=>nomatch z) h
 | @cq a ob xs ea =>
  cases(show u=fL a from rx)
  obtain⟨_,_,_,n,_,h1⟩:=(show eH X.prog X.w H s.heap a (.cq ob (.lst xs)) from I.aO a _ ea)
  exact PySem.W.kia_one PySem.W.kitx_list I.dF ⟨_,h1,rfl⟩ e (λz=>nomatch z) h
 | @tup a xs ea =>
  cases(show u=fL a from rx)
  obtain⟨_,_,_,p⟩:=(show eH X.prog X.w H s.heap a (.tup xs) from I.aO a _ ea)
  obtain⟨o,h1,h2,_⟩:=p
  exact PySem.W.kia_one PySem.W.kitx_tuple I.dF ⟨o,h1,h2⟩ e (λz=>nomatch z) h
 | @dK a dP ea =>
  cases(show u=fL a from rx)
  obtain⟨_,_,vs,_,p⟩:=(show eH X.prog X.w H s.heap a (.dK dP) from I.aO a _ ea)
  obtain⟨o,es,ep,h1,h2,_⟩:=p
  exact PySem.W.kia_one PySem.W.kitx_dict I.dF ⟨o,h1,h2.1⟩ e (λz=>nomatch z) h
 | @dT a dP ea =>
  cases(show u=fL a from rx)
  obtain⟨_,_,xs,_,o,es,ep,h1,h2,_⟩:=(show eH X.prog X.w H s.heap a (.dT dP) from I.aO a _ ea)
  exact PySem.W.kia_one PySem.W.kitx_dict I.dF ⟨o,h1,h2.1⟩ e (λz=>nomatch z) h
 | @ins a C dx fs ea cl ha hn GP hm =>
  cases(show u=fL a from rx)
  obtain⟨mA,O,_⟩:=Cg I.aO ea
  obtain⟨od,J,_⟩:=O.look
  exact PySem.W.kia_one (PySem.W.kitx_own (cl.get _) cl.hd ha hn GP hm) I.dF J e (λz=>nomatch z) h
end
end L2
namespace L2
open PySem PySem.Spec PyProof.Rows
structure cL(k:Nat)(A:Around):Prop where
 hd:A.handled=none
 dp:A.depth+3*k+5<recursionLimit
 un:A.units+16*k+200<cLine
theorem cL.mono{j k:Nat}{A:Around}(r:cL k A)(h:j<=k):cL j A:=⟨r.hd,by have:=r.dp;omega,by have:=r.un;omega⟩
theorem cL.deeper{k:Nat}{A:Around}(r:cL (k+1) A)(env:Env):cL k (A.deeper env) :=
 ⟨r.hd,by have:=r.dp;show A.depth+1+3*k+5<_;omega,by have:=r.un;show A.units+3+16*k+200<_;omega⟩
theorem bU9{A:Around}{C:Addr}{us:List Value}{kw:List (Str × Value)}:(A.under (.builtin "type.__call__" ⟨.ref C::us,kw⟩)).depth=A.depth+1:=by
 first | rfl | simp[Around.under,Code.weight,Code.isCreation,Code.isGuard,Code.isCaller,Code.frames,Code.isFrame,guardIds]
theorem bW5{A:Around}{C:Addr}{us:List Value}{kw:List (Str × Value)}:(A.under (.builtin "type.__call__" ⟨.ref C::us,kw⟩)).units=A.units+1:=by
 first | rfl | simp[Around.under,Code.cUnits,Code.frames,Code.isFrame]
theorem cL.make{k:Nat}{A:Around}(r:cL (k+1) A)(C:Addr)(us:List Value)(kw:List (Str × Value)):cL k (A.under (.builtin "type.__call__" ⟨.ref C::us,kw⟩)) :=
 ⟨r.hd,by have:=r.dp;rw[bU9];omega,by have:=r.un;rw[bW5];omega⟩
theorem cL.depth{k:Nat}{A:Around}(r:cL k A):A.depth<recursionLimit:=by have:=r.dp;omega
def cY4:TA:=λ_ H Q=>Q [] H
def cR8(ta:TE)(tr:TA):TA:=λσ H Q=>ta σ H λx H1=>tr σ H1 λxs H2=>Q (x::xs) H2
section
variable{X:Cx}{e:Expr}{es:List Expr}{te:TE}{t:TA}{pos:Pos}
theorem ky:PA X [] cY4:=λ_ _ _ _ H Q I h=>Calls.spliced_nil ⟨[],H,I,.nil,h⟩
theorem gz(ha:PE X e te)(hr:PA X es t)(hs:starEach (e::es) X.env=(false,eval e X.env)::starEach es X.env:=by rfl):PA X (e::es) (cR8 te t):=by
 intro pos pins s σ H Q I h
 rw[hs]
 show wpAny _ _ (spliced ((false,eval e X.env)::backTo pos (starEach es X.env))) _ _ s
 refine Calls.spliced_cons (bc (ha pins s σ H _ I h) λu s1 ⟨x,H1,I1,r1,q1⟩=>?_)
 exact bc (hr pos pins s1 σ H1 _ I1 q1) λus s2 ⟨xs,H2,I2,r2,q2⟩=>⟨x::xs,H2,I2,.cons r1 r2,q2⟩
def cZ2(t:TA):TE:=λσ H Q=>t σ H λxs H1=>xs.length<=sizeLine/\∀p,H1 p=none->Q (.ref p) (upd H1 p (.tup xs))
def cZ6(t:TA):TE:=λσ H Q=>t σ H λxs H1=>xs.length<=sizeLine/\∀p,H1 p=none->Q (.ref p) (upd H1 p (.lst xs))
theorem cL8{x1}(h:PA X es t):PE X (.Tuple es x1 pos) (cZ2 t):=by
 intro pins s σ H Q I hq
 refine wpAny_Tuple_spliced (bc (h pos pins s σ H _ I hq) λus s1 ⟨xs,H1,I1,r,z,q⟩=>⟨by rw[<-r.length];exact z,?_⟩)
 have hf:H1 s1.heap.objs.size=none:=I1.aO.fresh (bM _)
 refine⟨.ref s1.heap.objs.size,upd H1 s1.heap.objs.size (.tup xs),I1.laid (t':=s1.toks) (λb u e=>fN _ e) (bM _) ?_,rfl,q _ hf⟩
 exact⟨z,us,r,⟨_,gQ _ rfl,rfl,_,rfl⟩⟩
theorem SK(h:PA X es t):PE X (.List es pos) (cZ6 t):=by
 intro pins s σ H Q I hq
 refine wpAny_List_spliced (bc (h pos pins s σ H _ I hq) λus s1 ⟨xs,H1,I1,r,z,q⟩=>⟨by rw[<-r.length];exact z,?_⟩)
 have hf:H1 s1.heap.objs.size=none:=I1.aO.fresh (bM _)
 refine⟨.ref s1.heap.objs.size,upd H1 s1.heap.objs.size (.lst xs),I1.laid (t':=s1.toks) (λb u e=>fN _ e) (bM _) ?_,rfl,q _ hf⟩
 exact⟨z,us,0,r,gQ _ rfl⟩
end
abbrev Sp:=List V->Hp->VK->XK->Prop
abbrev fg:=List Env->Hp->Shared->XK->Value->Shared->Prop
structure jt(P:Program)(w:World)(K:PySem.W.Frag)(mg:Str->Option Value)(base:Heap)(A:Around)(outer:List Env)(s:Shared)(H:Hp):Prop where
 frames:A.frames=some outer
 mod:Mod K mg base
 bs:∀b o,base.get? b=some o->s.heap.get? b=some o/\H b=none
 km:base.objs.size<=s.heap.objs.size
 gW:s.heap.FunFrames base outer
 kq:∀b∈eI outer,H b=none
 aO:cU P w H s.heap
 bare:AllBare s.gens
def CE(outer:List Env)(P:Program)(w:World)(H:Hp)(s:Shared)(Q:VK)(u:Value)(s':Shared):Prop :=
 ∃v H',s'.os=s.os/\AllBare s'.gens/\Un (eI outer) [] H H' s.heap s'.heap/\cU P w H' s'.heap/\RelV v u/\Q v H'
def CR(CX:fg)(outer:List Env)(P:Program)(w:World)(H:Hp)(s:Shared)(Q:VK)(E:XK)(r:Result)(s':Shared):Prop :=
 match r with
 | .ok (.ret u)=>CE outer P w H s Q u s'
 | .ok _=>False
 | .error e=>CX outer H s E e s'
structure aQ(P:Program)(w:World)(K:PySem.W.Frag)(mg:Str->Option Value)(base:Heap)(CX:fg)(k:Nat)(f:Addr)(fd:FuncData)(ps:List Str)(sp:Sp):Prop where
 len:∀vs H Q E,sp vs H Q E->vs.length=ps.length
 run:∀(A:Around) (outer:List Env) (s:Shared) (H:Hp) (args:Args) (us:List Value) (vs:List V) (Q:VK) (E:XK),cL k A->jt P w K mg base A outer s H->BindsTo s fd args (ps.zip us)->Vals vs us->sp vs H Q E ->
  codeAny (model P w) A (.call (.ref f) args) (CR CX outer P w H s Q E) s
theorem aQ.mono{P:Program}{w:World}{K:PySem.W.Frag}{mg:Str->Option Value}{base:Heap}{CX:fg}{j k:Nat}{f:Addr}{fd:FuncData}{ps:List Str}{sp:Sp}(F:aQ P w K mg base CX j f fd ps sp)(h:j<=k) :
  aQ P w K mg base CX k f fd ps sp:=⟨F.len,λA outer s H args us vs Q E hr=>F.run A outer s H args us vs Q E (hr.mono h)⟩
theorem aQ.imp{P:Program}{w:World}{K:PySem.W.Frag}{mg:Str->Option Value}{base:Heap}{CX:fg}{k:Nat}{f:Addr}{fd:FuncData}{ps:List Str}{sp SM:Sp}(F:aQ P w K mg base CX k f fd ps sp)
  (h:∀vs H Q E,SM vs H Q E->sp vs H Q E):aQ P w K mg base CX k f fd ps SM :=
 ⟨λvs H Q E q=>F.len vs H Q E (h _ _ _ _ q),λA outer s H args us vs Q E hr he hb hv hs=>F.run A outer s H args us vs Q E hr he hb hv (h _ _ _ _ hs)⟩
theorem jt.make{P:Program}{w:World}{K:PySem.W.Frag}{mg:Str->Option Value}{base:Heap}{A:Around}{outer:List Env}{s:Shared}{H:Hp}(e:jt P w K mg base A outer s H)(C:Addr)(us:List Value)(kw:List (Str × Value)) :
  jt P w K mg base (A.under (.builtin "type.__call__" ⟨.ref C::us,kw⟩)) outer s H:=⟨by first | exact e.frames | (simpa[Around.under,Code.envs,Code.isFrame,pushEnvs]using e.frames),e.mod,e.bs,e.km,e.gW,e.kq,e.aO,e.bare⟩
section
variable{X:Cx}{pins:List (Addr × Obj)}{σ:St}{H:Hp}{s s':Shared}
theorem Inv.zx(I:Inv X pins σ H s):jt X.prog X.w X.K X.mg X.base X.A X.stack s H :=
 ⟨I.ok.frames,I.ok.mod,I.bs,eG I.ok.km I.sz,I.stack,I.Gj,I.aO,I.bare⟩
theorem Inv.after{Q:VK}{u:Value}(I:Inv X pins σ H s)(h:CE X.stack X.prog X.w H s Q u s'):EP X pins σ Q u s':=by
 obtain⟨v,H',os,bare,un,aO,r,q⟩:=h
 obtain⟨hh,g,d,t,os'⟩:=s'
 obtain rfl:os'=s.os:=os
 exact⟨v,H',I.call (h':=hh) (g':=g) (d':=d) (t':=t) (ch:=[]) un aO bare (λb z=>absurd z (by simp)),r,q⟩
end
def cS4(sp:Sp)(fP:List V)(E:XK)(t:TA):TE:=λσ H Q=>t σ H λvs H1=>sp (vs++fP) H1 Q E
def cS8(C:Addr)(m:Str)(sp:Sp)(fP:List V)(E:XK)(ta:TE)(t:TA):TE:=λσ H Q=>ta σ H λx H1=>∃a dx fs,x=.ref a/\H1 a=some (.ins C dx fs)/\fs.lookup m=none /\
 t σ H1 λvs H2=>sp (x::(vs++fP)) H2 Q E
def cW1(C:Addr)(sp:Sp)(fP:List V)(E:XK)(t:TA):TE:=λσ H Q=>t σ H λvs H1=>∀x dx,H1 x=none->H1 dx=none->dx≠x ->
 sp (.ref x::(vs++fP)) (upd (upd H1 dx (.own x)) x (.ins C dx [])) (λv H2=>v=.ay/\Q (.ref x) H2) E
def Binds(K:PySem.W.Frag)(fd:FuncData)(ps:List Str)(ds:List Value):Prop :=
 ∀(s:Shared) (us:List Value),K.In s.heap->(us++ds).length=ps.length->BindsTo s fd ⟨us,[]⟩ (ps.zip (us++ds))
theorem Binds.all{K:PySem.W.Frag}{fd:FuncData}{ps:List Str}(h:∀us:List Value,us.length=ps.length->bindArgs fd ⟨us,[]⟩=pure (ps.zip us)):Binds K fd ps []:=λs us _ hl=>by
 rw[mn]at hl ⊢
 exact .of_eq (h us hl)
def mH(CX:fg)(X:Cx)(E:XK):Prop:=∀(pins:List (Addr × Obj)) (σ:St) (H:Hp) (s:Shared) (e:Value) (s':Shared),Inv X pins σ H s->CX X.stack H s E e s'->X.xe e s'
section
variable{X:Cx}{CX:fg}{k:Nat}{f C:Addr}{fd:FuncData}{ps:List Str}{sp:Sp}{fP:List V}{ds:List Value}{E:XK}{x m:Str}{p pos apos:Pos}{e o:Expr}{es:List Expr}{ta:TE}{t:TA}
theorem Cj{pins:List (Addr × Obj)}{σ:St}{H:Hp}{s:Shared}{Q:VK}{us:List Value}{vs:List V}(F:aQ X.prog X.w X.K X.mg X.base CX k f fd ps sp)(hr:cL k X.A)(hb:Binds X.K fd ps ds)(hd:Vals fP ds)(hx:mH CX X E)
  (I:Inv X pins σ H s) (r:Vals vs us) (h:sp (vs++fP) H Q E):wpAny (model X.prog X.w) X.A (call (.ref f) us) (EP X pins σ Q) X.xe s:=by
 have r2:Vals (vs++fP) (us++ds):=r.append hd
 have hl:(us++ds).length=ps.length:=by rw[<-r2.length];exact F.len _ _ _ _ h
 refine wpAny_call (codeAny_mono (F.run X.A X.stack s H ⟨us,[]⟩ (us++ds) (vs++fP) Q E hr I.zx (hb s us I.dF hl) r2 h) λr s' hq=>?_)
 cases r with
 | error e=>exact hx pins σ H s e s' I hq
 | ok fl =>
  cases fl with
  | ret u=>exact I.after hq
  | next=>exact gb hq
  | brk=>exact gb hq
  | cont=>exact gb hq
theorem tU(F:aQ X.prog X.w X.K X.mg X.base CX k f fd ps sp)(hr:cL k X.A)(hg:Gl X x)(hm:X.mg x=some (.ref f))(hk:PySem.W.keepIn X.K (.ref f)=true)(hb:Binds X.K fd ps ds)(hd:Vals fP ds)(hx:mH CX X E)
  (ha:PA X (e::es) t) (fh:(x==("__debug__":Str))=false:=by decide) (he:starEach (e::es) X.env=(false,eval e X.env)::starEach es X.env:=by rfl) (bR:(backTo pos (starEach es X.env)).any (·.1)=false:=by rfl) :
  PE X (.Call (.Name x p) (e::es) [] pos) (cS4 sp fP E t):=by
 intro pins s σ H Q I h
 refine wpAny_Call_Name_kw (B5 I hg hm ?_ fh)
 refine PySem.W.callWith_K (h₀:=X.base) I.ok.mod.nU hk (bc (ha pos pins s σ H _ I h) λus s1 ⟨vs,H1,I1,r,q⟩=>⟨I1.dF,?_⟩) he bR
 exact Cj F hr hb hd hx I1 r q
theorem cH0{pl:Sem Bool}(he:PE X o ta)(c:eJ X.K C)(hm:Meth X.K C m f)(F:aQ X.prog X.w X.K X.mg X.base CX k f fd ps sp)(hr:cL k X.A)(hb:Binds X.K fd ps ds)(hd:Vals fP ds)(hx:mH CX X E)(ha:PA X (e::es) t)
  (dG:starEach (e::es) X.env=(false,eval e X.env)::starEach es X.env:=by rfl) (bR:(backTo pos (starEach es X.env)).any (·.1)=false:=by rfl)
  (ht:eval (.Call (.Attribute o m apos) (e::es) [] pos) X.env=(do
   let ov<-eval o X.env
   standAt apos.atName
   let (f,first)<-holding [ov] (getMethod ov m pl)
   callWith pos f first (backTo pos (starEach (e::es) X.env)) (backToKw pos (keywordEach [] X.env))):=by rfl) :
  PE X (.Call (.Attribute o m apos) (e::es) [] pos) (cS8 C m sp fP E ta t):=by
 intro pins s σ H Q I h
 refine PySem.W.methodCall_KW (pl:=pl) (bc (he pins s σ H _ I h) λu s1 ⟨x,H1,I1,rx,a,dx,fs,ex,ea,l,q⟩=>?_) ht
 subst ex
 obtain rfl:u=fL a:=rx
 refine GO I1 ea c hm l ?_
 refine PySem.W.callWith_K (first:=[.ref a]) (h₀:=X.base) I.ok.mod.nU hm.kp (bc (ha pos pins s1 σ H1 _ I1 q) λus s2 ⟨vs,H2,I2,r,q2⟩=>⟨I2.dF,?_⟩) dG bR
 exact Cj (us:=.ref a::us) (vs:=.ref a::vs) F hr hb hd hx I2 (.cons rfl r) q2
structure Mk(K:PySem.W.Frag)(C f:Addr):Prop where
 makes:PySem.W.makesIn K C=true
 init:PySem.W.findIn K (.ref C) "__init__"=some (some (.ref f))
 fn:PySem.W.isFn K (.ref f)=true
 kp:PySem.W.keepIn K (.ref C)=true
theorem cn0{pins:List (Addr × Obj)}{σ:St}{H:Hp}{s:Shared}{Q:VK}{us:List Value}{vs:List V}(M:Mk X.K C f)(F:aQ X.prog X.w X.K X.mg X.base CX k f fd ps sp)(hr:cL (k+1) X.A)(hb:Binds X.K fd ps ds)(hd:Vals fP ds)
  (hx:mH CX X E) (I:Inv X pins σ H s) (r:Vals vs us)
  (h:∀x dx,H x=none->H dx=none->dx≠x->sp (.ref x::(vs++fP)) (upd (upd H dx (.own x)) x (.ins C dx [])) (λv H2=>v=.ay/\Q (.ref x) H2) E) :
  wpAny (model X.prog X.w) X.A (call (.ref C) us) (EP X pins σ Q) X.xe s:=by
 have hq:=h (s.heap.objs.size+1) s.heap.objs.size (I.aO.fresh (Nat.le_succ _)) (I.aO.fresh (bM _)) (ft (BH _))
 have I2:=Inv.made (C:=C) I
 have r2:Vals (V.ref (s.heap.objs.size+1)::(vs++fP)) (fL (s.heap.objs.size+1)::(us++ds)):=.cons rfl (r.append hd)
 have hl:(fL (s.heap.objs.size+1)::us++ds).length=ps.length:=by
  have e:=r2.length
  rw[F.len _ _ _ _ hq]at e
  exact e.symm
 refine wpAny_call (cj9 (f:=f) I.dF M.makes M.init (beq_iff_eq.mp M.fn) (codeAny_mono (F.run _ X.stack _ _ ⟨fL (s.heap.objs.size+1)::us,[]⟩ (fL (s.heap.objs.size+1)::(us++ds)) _ _ E (hr.make C us [])
  (I2.zx.make C us []) (hb _ (fL (s.heap.objs.size+1)::us) I2.dF hl) r2 hq) λr s' nV=>?_))
 cases r with
 | error e=>exact hx pins σ _ _ e s' I2 nV
 | ok fl =>
  cases fl with
  | ret u =>
   obtain⟨v,H',I3,rv,ev,q3⟩:=I2.after nV
   subst ev
   exact⟨rv,⟨V.ref (s.heap.objs.size+1),H',I3,rfl,q3⟩⟩
  | next=>exact gb nV
  | brk=>exact gb nV
  | cont=>exact gb nV
theorem cB4(M:Mk X.K C f)(F:aQ X.prog X.w X.K X.mg X.base CX k f fd ps sp)(hr:cL (k+1) X.A)(hg:Gl X x)(hm:X.mg x=some (.ref C))(hb:Binds X.K fd ps ds)(hd:Vals fP ds)(hx:mH CX X E)
  (ha:PA X (e::es) t) (fh:(x==("__debug__":Str))=false:=by decide) (he:starEach (e::es) X.env=(false,eval e X.env)::starEach es X.env:=by rfl) (bR:(backTo pos (starEach es X.env)).any (·.1)=false:=by rfl) :
  PE X (.Call (.Name x p) (e::es) [] pos) (cW1 C sp fP E t):=by
 intro pins s σ H Q I h
 refine wpAny_Call_Name_kw (B5 I hg hm ?_ fh)
 refine PySem.W.callWith_K (h₀:=X.base) I.ok.mod.nU M.kp (bc (ha pos pins s σ H _ I h) λus s1 ⟨vs,H1,I1,r,q⟩=>⟨I1.dF,?_⟩) he bR
 exact cn0 M F hr hb hd hx I1 r q
end
section
variable{X:Cx}{CX:fg}{k:Nat}{f C:Addr}{fd:FuncData}{ps ks:List Str}{sp:Sp}{E:XK}{x m:Str}{p pos apos fq9:Pos}{e o:Expr}{es:List Expr}{kws:List Keyword}{te ta:TE}{t tk:TA}{nm:Option Str}
variable{g:List Value->List Value->List Value}{gV:List V->List V->List V}
end
structure bt(N P:List Str)(sc:Scope):Prop where
 kind:sc.kind=.function
 co:sc.isCoroutine=false
 gen:sc.isGenerator=false
 nd:N.Nodup
 pre:N.take P.length=P
 par:∀x∈P,sc.names.lookup x=some .local\/sc.names.lookup x=some .cell
 dr4:∀y∈sc.names,y.2≠.free
theorem SN{kindOf:Str->Option NameKind}{x:Str}:∀{binds:List (Str × Value)} {m:Str->Option Value},(∀v,(x,v) ∉ binds)->bindL kindOf binds m x=m x
 | [],_,_=>rfl
 | (n,v)::r,m,h=>by
  unfold bindL
  rw[SN λw hw=>h w (dY _ hw)]
  split
  ·have:x≠n:=by rintro rfl;exact h v fZ
   simp[this]
  ·rfl
theorem SO{kindOf:Str->Option NameKind}{x:Str}:∀{binds:List (Str × Value)} {m:Str->Option Value},(∀v,(x,v) ∉ binds)->bindC kindOf binds m x=m x
 | [],_,_=>rfl
 | (n,v)::r,m,h=>by
  unfold bindC
  rw[SO λw hw=>h w (dY _ hw)]
  split
  ·rfl
  ·have:x≠n:=by rintro rfl;exact h v fZ
   simp[this]
theorem SQ{kindOf:Str->Option NameKind}{x:Str}{v:Value}:∀{P:List Str} {vs:List Value} {i:Nat} {m:Str->Option Value},P.Nodup->P[i]?=some x->vs[i]?=some v->kindOf x=some .local ->
  bindL kindOf (P.zip vs) m x=some v
 | [],_,_,_,_,h,_,_=>by simp at h
 | _::_,[],_,_,_,_,h,_=>by simp at h
 | p::P,w::vs,0,m,nd,h1,h2,hk=>by
  simp at h1 h2;subst h1;subst h2
  show bindL kindOf ((p,w)::P.zip vs) m p=_
  unfold bindL
  rw[SN λv hv=>(jj.mp nd).1 (sU hv).1,if_pos hk]
  simp
 | p::P,w::vs,i+1,m,nd,h1,h2,hk=>by
  show bindL kindOf ((p,w)::P.zip vs) m x=_
  unfold bindL
  exact SQ (i:=i) (jj.mp nd).2 (by simpa using h1) (by simpa using h2) hk
theorem SR{kindOf:Str->Option NameKind}{x:Str}{v:Value}:∀{P:List Str} {vs:List Value} {i:Nat} {m:Str->Option Value},P.Nodup->P[i]?=some x->vs[i]?=some v->kindOf x≠some .local ->
  bindC kindOf (P.zip vs) m x=some v
 | [],_,_,_,_,h,_,_=>by simp at h
 | _::_,[],_,_,_,_,h,_=>by simp at h
 | p::P,w::vs,0,m,nd,h1,h2,hk=>by
  simp at h1 h2;subst h1;subst h2
  show bindC kindOf ((p,w)::P.zip vs) m p=_
  unfold bindC
  rw[SO λv hv=>(jj.mp nd).1 (sU hv).1,if_neg hk]
  simp
 | p::P,w::vs,i+1,m,nd,h1,h2,hk=>by
  show bindC kindOf ((p,w)::P.zip vs) m x=_
  unfold bindC
  exact SR (i:=i) (jj.mp nd).2 (by simpa using h1) (by simpa using h2) hk
def start(N:List Str)(vs:List V):St:=vs.map some++bF (N.length-vs.length) none
def ju(CX:fg)(P:Program)(w:World)(K:PySem.W.Frag)(mg:Str->Option Value)(base:Heap)(N:List Str)(qual:Str)(scope:Scope)(f:Addr)(cd:Value)(A:Around)(outer:List Env)(s:Shared)(H:Hp)(E:XK):Cx where
 prog:=P
 w:=w
 K:=K
 mg:=mg
 base:=base
 A:=A.deeper (envOfC qual scope s.heap.objs.size f cd)
 N:=N
 cV:=s
 kP:=H
 env:=envOfC qual scope s.heap.objs.size f cd
 outer:=outer
 stack:=envOfC qual scope s.heap.objs.size f cd::outer
 ex:=[]
 calm:=true
 fn:=λ_=>true
 pn:=[]
 xe:=λe s'=>wpAny (model P w) (A.deeper (envOfC qual scope s.heap.objs.size f cd)) (leaving (envOfC qual scope s.heap.objs.size f cd) e) (λ_ tV=>CX outer H s E e tV) (λe' tV=>CX outer H s E e' tV) s'
theorem SS{sc:Scope}{n:Nat}{x:Str}(h:sc.names.lookup x=some .cell):∃c,(cellsFrom n sc.names []).lookup x=some c:=by
 have q:=PySem.W.cellsFrom_some sc.names n [] (.inl h)
 exact db1.mp q
theorem cb8{CX:fg}{P:Program}{w:World}{K:PySem.W.Frag}{mg:Str->Option Value}{base:Heap}{N ps:List Str}{qual:Str}{scope:Scope}{f:Addr}{cd:Value}{A:Around}{outer:List Env}{s s1:Shared}{H:Hp}{E:XK}{us:List Value}{vs:List V}
  (S:bt N ps scope) (hd:A.handled=none) (e0:jt P w K mg base A outer s H) (hl:vs.length=ps.length) (r:Vals vs us)
  (x:InCallC s s.heap.objs.size (bindL (envOfC qual scope s.heap.objs.size f cd).kindOf (ps.zip us) λ_=>none) (cellsFrom (s.heap.objs.size+1) scope.names []) (bindC (envOfC qual scope s.heap.objs.size f cd).kindOf (ps.zip us) λ_=>none) s1) :
  Inv (ju CX P w K mg base N qual scope f cd A outer s H E) [] (start N vs) H s1:=by
 have bR:ps.length<=N.length:=by have:=congrArg Fx S.pre;rw[ig]at this;omega
 obtain⟨h1,tk,rfl,hk⟩:=x.done
 have zy:∀b:Addr,b ∉ (ju CX P w K mg base N qual scope f cd A outer s H E).ex:=λb z=>absurd (show b∈([]:List Addr) from z) (by simp)
 refine⟨⟨e0.mod,S.kind,rfl,rfl,bM _,λy z c h1 h2=>?_,λy hy=>?_,λy c _ h=>?_,λ_=>hd,Around.frames_deeper e0.frames,.inr ⟨rfl,rfl⟩,λb z=>absurd z (zy b),e0.bs,e0.km,λb _ _=>zy b,λb z=>absurd z (zy b),e0.gW,e0.kq⟩,
  rfl,e0.bare,Un.kept hk,⟨_,x.toInCall.ns,λi y v h1 h2 h3=>?_⟩,λy c h=>⟨_,x.cell y c h⟩,e0.aO.fresh (bM _),λy c h=>?_,λp hp=>absurd (show p∈([]:List (Addr × Obj)) from hp) (by simp),e0.aO.kept hk,?_⟩
 ·exact name_of_addr x.apart (PySem.mem_of_lookup h1) (PySem.mem_of_lookup h2)
 ·have hy:scope.names.lookup y=some .cell\/scope.names.lookup y=some .free:=hy
  rcases hy with hy | hy
  ·exact SS hy
  ·exact absurd rfl (S.dr4 _ (PySem.mem_of_lookup hy))
 ·exact BC (x.above y c (PySem.mem_of_lookup h))
 ·have hi:i<vs.length:=by
   unfold start at h2
   by_cases hi:i<vs.length
   ·exact hi
   ·rw[sV (by simpa using hi)]at h2
    rw[BI]at h2
    split at h2<;>cases h2
  have ha:vs[i]?=some v:=by
   unfold start at h2
   rw[sW (by simpa using hi),bP]at h2
   cases e:vs[i]? with
   | none=>rw[e]at h2;cases h2
   | some a=>rw[e]at h2;cases h2;rfl
  obtain⟨u,hu,rv⟩:=r.get ha
  have hp:ps[i]?=some y:=by
   rw[<-S.pre,db2 (by omega)];exact h1
  have SU:ps.Nodup:=by rw[<-S.pre];exact S.nd.sublist (List.take_sublist _ _)
  refine⟨u,rv,?_⟩
  rcases S.par y (vo hp)with k | k
  ·exact .inl ⟨k,SQ SU hp hu k⟩
  ·obtain⟨c,e⟩:=SS (n:=s.heap.objs.size+1) k
   refine .inr ⟨.inl k,c,e,?_⟩
   have q:=x.cell y c e
   rw[SR SU hp hu (by show scope.names.lookup y≠_;rw[k];decide)]at q
   exact q
 ·exact e0.aO.fresh (BC (x.above y c (PySem.mem_of_lookup h)))
 ·unfold start
  show _=N.length
  rw[dS,br,p7]
  omega
theorem GQ{CX:fg}{P:Program}{w:World}{K:PySem.W.Frag}{mg:Str->Option Value}{base:Heap}{k:Nat}{f:Addr}{name qual:Str}{params:Arguments}{body:List Stmt}{scope:Scope}{dV kV doc pm aI ct oc:Value}{an od:Option Addr}
  {mI:Array (Option Value)} {N ps:List Str} {sp:Sp} (lk:K.lookup f=some ⟨oc,od,.func (PySem.W.fnOf name qual params body scope dV kV doc pm an aI ct),mI⟩) (da:PySem.W.codeIn K aI qual=true) (S:bt N ps scope)
  (len:∀vs H Q E,sp vs H Q E->vs.length=ps.length)
  (iO:∀(A:Around) (outer:List Env) (s:Shared) (H:Hp) (vs:List V) (Q:VK) (E:XK),cL k (A.deeper (envOfC qual scope s.heap.objs.size f aI))->sp vs H Q E ->
   ∃t,PSs (ju CX P w K mg base N qual scope f aI A outer s H E) body t/\t { nx:=λ_ H'=>Q .ay H',rt:=Q } (start N vs) H) :
  aQ P w K mg base CX (k+1) f (PySem.W.fnOf name qual params body scope dV kV doc pm an aI ct) ps sp:=by
 refine⟨len,λA outer s H args us vs Q E hr e0 hb r jv=>?_⟩
 have hl:=len _ _ _ _ jv
 have KX:K.In s.heap:=e0.mod.nU.keeps λb o e=>(e0.bs b o e).1
 have lim:s.heap.NoLimit:=e0.mod.nolimit.keeps λb o e=>(e0.bs b o e).1
 have jw:∀y∈ps.zip us,scope.names.lookup y.1=some .local\/(scope.names.lookup y.1=some .cell/\((cellsFrom (s.heap.objs.size+1) scope.names []).lookup y.1).isSome=true):=λ⟨n,v⟩ hy=>by
  rcases S.par n (sU hy).1 with q | q
  ·exact .inl q
  ·exact .inr ⟨q,PySem.W.cellsFrom_some _ _ _ (.inl q)⟩
 refine codeAny_call_function hr.depth (KX _ _ lk) rfl S.co S.gen rfl (PySem.W.codeRec_of KX da) (hb _ _ _ _ ?_)
 refine wpAny_newFunctionEnv_cells S.kind jw λenv he s1 x=>?_
 subst he
 refine⟨lim.keeps x.toInCall.keep,codeAny_func ?_⟩
 obtain⟨t,ht,hq⟩:=iO A outer s H vs Q E (hr.deeper _) jv
 have I:Inv (ju CX P w K mg base N qual scope f aI A outer s H E) [] (start N vs) H s1:=cb8 S hr.hd e0 hl r x
 refine wpAny_mono (ht [] s1 (start N vs) H _ I hq) (λfl s' hs=>?_) λe s' hs=>hs
 have fin:∀{aN:St} {H':Hp} {v:V} {u:Value},Inv (ju CX P w K mg base N qual scope f aI A outer s H E) [] aN H' s'->RelV v u->Q v H'->CE outer P w H s Q u s' :=
  λ{aN H' v u} J rv q=>⟨v,H',J.os,J.bare,J.base,J.aO,rv,q⟩
 cases fl with
 | ret u =>
  obtain⟨v,aN,H',J,rv,q⟩:=hs
  exact fin J rv q
 | next =>
  obtain⟨aN,H',J,q⟩:=hs
  exact fin (v:=V.ay) (u:=sS) J rfl q
 | brk =>
  obtain⟨_,_,_,q⟩:=hs
  exact gb q
 | cont =>
  obtain⟨_,_,_,q⟩:=hs
  exact gb q
end L2
namespace L2
open PySem PySem.Spec PyProof.Rows
section
variable{X:Cx}{x:Str}{p pos:Pos}{e:Expr}{es:List Expr}{t:TA}{id T:String}{r:List V->Hp->VK->Prop}
def GR(r:List V->Hp->VK->Prop)(t:TA):TE:=λσ H Q=>t σ H λvs H1=>r vs H1 Q
theorem SV(hc:gZ X (.builtin id) r)(hg:Gl X x)(hm:X.mg x=none)(hv:bootBuiltins x=some (.builtin id))(ha:PA X (e::es) t)(hn:x≠"__name__":=by decide)(fh:(x==("__debug__":Str))=false:=by decide)
  (he:starEach (e::es) X.env=(false,eval e X.env)::starEach es X.env:=by rfl) (bR:(backTo pos (starEach es X.env)).any (·.1)=false:=by rfl):PE X (.Call (.Name x p) (e::es) [] pos) (GR r t):=by
 intro pins s σ H Q I h
 refine wpAny_Call_Name_kw (by4 I hg hm hv ?_ hn fh)
 exact PyProof.Rows.callWith_builtin1 (bc (ha pos pins s σ H _ I h) λus s1 ⟨vs,H1,I1,r1,q1⟩=>hc pins s1 σ H1 vs us Q I1 r1 q1) he bR
theorem b02(hc:gZ X (.type T) r)(hg:Gl X x)(hm:X.mg x=none)(hv:bootBuiltins x=some (.type T))(ha:PA X (e::es) t)(hn:x≠"__name__":=by decide)(fh:(x==("__debug__":Str))=false:=by decide)
  (he:starEach (e::es) X.env=(false,eval e X.env)::starEach es X.env:=by rfl) (bR:(backTo pos (starEach es X.env)).any (·.1)=false:=by rfl):PE X (.Call (.Name x p) (e::es) [] pos) (GR r t):=by
 intro pins s σ H Q I h
 refine wpAny_Call_Name_kw (by4 I hg hm hv ?_ hn fh)
 exact BF (bc (ha pos pins s σ H _ I h) λus s1 ⟨vs,H1,I1,r1,q1⟩=>hc pins s1 σ H1 vs us Q I1 r1 q1) he bR
end
end L2
namespace HT
open PySem PyProof.Rows
section
open PySem.SeqAt
open PySem.AutoSeq1 (wpAny_loadPart')
open PySem.MeetsSeq PySem.MeetsSeq2 PySem.MeetsSeq3
end
section
variable{prog:Program}{w:World}{A:Around}{E:Value->Shared->Prop}{s:Shared}
def dm(n d:Nat):Option Int->Nat
 | none=>d
 | some v=>if v<0 then(v+(n:Int)).toNat else min v.toNat n
theorem GS(n d k:Nat):dm n d (some (k:Int))=min k n:=by
 show(if(k:Int)<0 then((k:Int)+(n:Int)).toNat else min (k:Int).toNat n)=min k n
 rw[if_neg (by omega),fO]
end
end HT
namespace L2
open PySem PySem.Spec PyProof.Rows
abbrev TO:=St->Hp->(Option Int->Hp->Prop)->Prop
def PO(X:Cx)(e:Option Expr)(t:TO):Prop :=
 ∀(pins:List (Addr × Obj)) (s:Shared) (σ:St) (H:Hp) (Q:Option Int->Hp->Prop),Inv X pins σ H s->t σ H Q ->
  wpAny (model X.prog X.w) X.A (evalPart e X.env) (λu s'=>∃o H',Inv X pins σ H' s'/\IsPart u o/\Q o H') X.xe s
def cF3:TO:=λ_ H Q=>Q none H
def cT7(t:TE):TO:=λσ H Q=>t σ H λx H1=>∃i,x=.int i/\Q (some i) H1
theorem bW1{ns:List Int}:∀{us:List Value},Vals (ns.map V.int) us->IntsAre us ns:=by
 induction ns with
 | nil=>intro us r;rw[jM]at r;cases r;exact .nil
 | cons n ns ih =>
  intro us r
  rw[dE]at r
  cases r with
  | cons r1 r2 =>
   obtain⟨t,e⟩:=r1
   subst e
   exact .cons n t (ih r2)
section
variable{X:Cx}{e:Expr}{te:TE}{lo hi:Option Expr}{tl th:TO}{pos p2:Pos}
theorem cD4:PO X none cF3:=by
 intro pins s σ H Q I h
 rw[evalPart_none]
 exact wpAny_pure ⟨none,H,I,.none,h⟩
theorem cE9(h:PE X e te):PO X (some e) (cT7 te):=by
 intro pins s σ H Q I hw
 rw[evalPart_some]
 refine bc (h pins s σ H _ I hw) λu s1 ⟨x,H1,I1,r1,q1⟩=>?_
 obtain⟨i,rfl,q⟩:=q1
 obtain⟨t,rfl⟩:=r1
 exact⟨some i,H1,I1,.int i t,q⟩
def tW(X:Cx)(r:V->Option Int->Option Int->Hp->VK->Prop):Prop :=
 ∀(pins:List (Addr × Obj)) (s:Shared) (σ:St) (H:Hp) (x:V) (v vl vu:Value) (lo hi:Option Int) (sl:Addr) (Q:VK),Inv X pins σ H s->RelV x v->s.heap.IsSliceOf sl vl vu .none->IsPart vl lo->IsPart vu hi->r x lo hi H Q ->
  ∃T id,typeLookup (.type T) "__getitem__"=pure (some (.builtin id))/\s.TypeIs v T/\wpAny (model X.prog X.w) X.A (getItem v (.ref sl)) (EP X pins σ Q) X.xe s
theorem tW.or{r r':V->Option Int->Option Int->Hp->VK->Prop}(h:tW X r)(h':tW X r'):tW X (λx lo hi H Q=>r x lo hi H Q\/r' x lo hi H Q):=by
 intro pins s σ H x v vl vu lo hi sl Q I rx hs pl pu q
 rcases q with q | q
 ·exact h pins s σ H x v vl vu lo hi sl Q I rx hs pl pu q
 ·exact h' pins s σ H x v vl vu lo hi sl Q I rx hs pl pu q
def tSl(r:V->Option Int->Option Int->Hp->VK->Prop)(te:TE)(tl th:TO):TE:=λσ H Q=>te σ H λx H1=>tl σ H1 λl H2=>th σ H2 λu H3=>r x l u H3 Q
theorem co0{r:V->Option Int->Option Int->Hp->VK->Prop}(hr:tW X r)(he:PE X e te)(hl:PO X lo tl)(hu:PO X hi th):PE X (.Subscript e (.Slice lo hi none p2) pos) (tSl r te tl th):=by
 intro pins s σ H Q I h
 refine Subscript_ (bc (he pins s σ H _ I h) λv s1 ⟨x,H1,I1,r1,q1⟩=>?_)
 refine wpAny_Slice (bc (hl pins s1 σ H1 _ I1 q1) λvl s2 ⟨l,H2,I2,pl,q2⟩=>bc (hu pins s2 σ H2 _ I2 q2) λvu s3 ⟨u,H3,I3,pu,q3⟩=>?_)
 rw[evalPart_none]
 refine wpAny_pure ?_
 have I4:Inv X pins σ H3 { s3 with heap:=s3.heap.push { cls:=.type "slice",data:=.fields #[vl,vu,.none] } }:=I3.kept (t':=s3.toks) λb ob q=>fN _ q
 obtain⟨T,id,hT,ht,hg⟩:=hr pins { s3 with heap:=s3.heap.push { cls:=.type "slice",data:=.fields #[vl,vu,.none] } } σ H3 x v vl vu l u s3.heap.objs.size Q I4 r1 (Heap.IsSliceOf.new ..) pl pu q3
 show wpAny (model X.prog X.w) X.A (subscriptTail e (.Slice lo hi none p2) v (.ref s3.heap.objs.size)) (EP X pins σ Q) X.xe { s3 with heap:=s3.heap.push { cls:=.type "slice",data:=.fields #[vl,vu,.none] } }
 exact tail_any (ops:=[.ref s3.heap.objs.size,v]) ht hT hg (by with_unfolding_all rfl)
def vM(xs:List V)(lo hi:Option Int):List V:=(xs.drop (HT.dm xs.length 0 lo)).take (HT.dm xs.length xs.length hi-HT.dm xs.length 0 lo)
theorem bP2(xs:List V)(lo hi:Option Int):(vM xs lo hi).length<=xs.length:=by
 unfold vM
 rw[ig,jk]
 omega
end
end L2
namespace L2
open PySem PySem.Spec PyProof.Rows
def iP(n:Nat)(i:Int):Option Nat:=if 0<=i then(if i<n then some i.toNat else none)else if -(n:Int)<=i then some (i+n).toNat else none
def eK{α:Type}(xs:List α)(i:Int):Option α:=(iP xs.length i).bind λj=>xs[j]?
theorem SW{n:Nat}{i:Int}{j:Nat}(h:iP n i=some j):seqIndex? i n=some j/\j<n/\-(n:Int)<=i/\i<n:=by
 unfold iP at h
 by_cases h0:0<=i
 ·rw[if_pos h0]at h
  by_cases h1:i<n
  ·rw[if_pos h1]at h
   have e:i.toNat=j:=cT h
   exact⟨by rw[seqIndex_of h0 h1,e],by omega,by omega,h1⟩
  ·rw[if_neg h1]at h;cases h
 ·rw[if_neg h0]at h
  by_cases h1:-(n:Int)<=i
  ·rw[if_pos h1]at h
   have e:(i+n).toNat=j:=cT h
   exact⟨by rw[seqIndex_neg (by omega) h1,e],by omega,h1,by omega⟩
  ·rw[if_neg h1]at h;cases h
theorem qt{α:Type}{xs:List α}{i:Int}{v:α}(h:eK xs i=some v):∃j,seqIndex? i xs.length=some j/\xs[j]?=some v/\j<xs.length/\-(xs.length:Int)<=i/\i<xs.length:=by
 unfold eK at h
 cases e:iP xs.length i with
 | none=>rw[e]at h;cases h
 | some j =>
  rw[e]at h
  obtain⟨h1,h2,h3,h4⟩:=SW e
  exact⟨j,h1,h,h2,h3,h4⟩
def SX(b:Expr):Prop:=∀o i,subscripted b false o i=operate [o,i] (getItem o i)
def nW(X:Cx)(r:R2):Prop :=
 ∀(value slice:Expr) (pins:List (Addr × Obj)) (s:Shared) (σ:St) (H:Hp) (x y:V) (v u:Value) (Q:VK),Inv X pins σ H s->RelV x v->RelV y u->r x y H Q ->
  subscripted slice false v u=operate [v,u] (getItem v u)->wpAny (model X.prog X.w) X.A (subscriptTail value slice v u) (EP X pins σ Q) X.xe s
def Ck(X:Cx)(id:String)(r:V->List V->Hp->VK->Prop):Prop :=
 ∀(pins:List (Addr × Obj)) (s:Shared) (σ:St) (H:Hp) (x:V) (xs:List V) (v:Value) (us:List Value) (Q:VK),Inv X pins σ H s->RelV x v->Vals xs us->r x xs H Q ->
  wpAny (model X.prog X.w) X.A (call (.builtin id) (v::us)) (EP X pins σ Q) X.xe s
section
variable{X:Cx}{a b:Expr}{ta tb:TE}{pos:Pos}
theorem nW.or{r r':R2}(h:nW X r)(h':nW X r'):nW X (λx y H Q=>r x y H Q\/r' x y H Q):=by
 intro value slice pins s σ H x y v u Q I rx ry q hs
 rcases q with q | q
 ·exact h value slice pins s σ H x y v u Q I rx ry q hs
 ·exact h' value slice pins s σ H x y v u Q I rx ry q hs
theorem cR6{r:R2}(hr:nW X r)(ha:PE X a ta)(hb:PE X b tb)(hs:SX b):PE X (.Subscript a b pos) (zt r ta tb):=by
 intro pins s σ H Q I h
 exact Subscript_ (GJ ha hb I h λv u s2 x y H2 I2 rx ry q=>hr a b pins s2 σ H2 x y v u Q I2 rx ry q (hs _ _))
def SY(K:PySem.W.Frag):R2:=λx y H Q=>∃p xs i v,x=.ref p/\y=.int i/\bQ K H p xs/\eK xs i=some v/\Q v H
def S0(K:PySem.W.Frag):R2:=λx y H Q=>∃p xs i v,x=.ref p/\y=.int i/\iq K H p xs/\eK xs i=some v/\Q v H
def S1:R2:=λx y H Q=>∃z i c,x=.str z/\y=.int i/\z.length<=sizeLine/\eK z.cps.toList i=some c/\Q (.str ⟨#[c]⟩) H
theorem ds6:nW X (SY X.K):=by
 intro value slice pins s σ H x y v u Q I rx ry h hs
 obtain⟨p,xs,i,z,rfl,rfl,hq,he,q⟩:=h
 cases rx
 obtain⟨t,rfl⟩:=ry
 obtain⟨its,r,pl,hz⟩:=I.list hq
 obtain⟨j,h1,h2,h3,h4,h5⟩:=qt he
 obtain⟨w,ew,gA⟩:=r.get h2
 have hl:=r.length
 have hn:=vL
 have fin:EP X pins σ Q w s:=⟨z,H,I,gA,q⟩
 by_cases h0:0<=i
 ·have hj:i.toNat=j:=by
   rw[seqIndex_of h0 h5]at h1
   exact cT h1
  exact item_listR pl.isList h0 (by omega) (by rw[hj];simpa using ew) fin hs
 ·have hj:(i+(its.toArray.size:Int)).toNat=j:=by
   rw[seqIndex_neg (by omega) h4]at h1
   rw[dO,<- hl]
   exact cT h1
  exact subscriptTail_builtinR (x:=w) pl.isList.typeIs slot_list_getitem.lookup
   (wpAny_getItem_list_neg (Q:=λr s'=>r=w/\EP X pins σ Q r s') pl.isList (by omega) (by rw[dO]<;>omega) (by omega) (by rw[hj];simpa using ew) ⟨rfl,fin⟩) hs
theorem ds7:nW X (S0 X.K):=by
 intro value slice pins s σ H x y v u Q I rx ry h hs
 obtain⟨p,xs,i,z,rfl,rfl,hq,he,q⟩:=h
 cases rx
 obtain⟨t,rfl⟩:=ry
 obtain⟨its,r,pl,hz⟩:=I.tuple hq
 obtain⟨j,h1,h2,h3,h4,h5⟩:=qt he
 obtain⟨w,ew,gA⟩:=r.get h2
 have hl:=r.length
 have hn:=vL
 have fin:EP X pins σ Q w s:=⟨z,H,I,gA,q⟩
 exact subscriptTail_builtinR (x:=w) pl.typeIs slot_tuple_getitem.lookup
  (getItem_tuple (j:=j) (Q:=λr s'=>r=w/\EP X pins σ Q r s') pl (by omega) (by omega) (by rw[dO,<- hl];exact h1) (by simpa using ew) ⟨rfl,fin⟩) hs
theorem cO5:nW X S1:=by
 intro value slice pins s σ H x y v u Q I rx ry h hs
 obtain⟨z,i,c,rfl,rfl,hz,he,q⟩:=h
 obtain⟨t,rfl⟩:=rx
 obtain⟨t',rfl⟩:=ry
 obtain⟨j,h1,h2,h3,h4,h5⟩:=qt he
 have hl:z.cps.toList.length=z.length:=by simp[Str.length]
 rw[hl]at h1 h4 h5
 have hn:=vL
 exact tail_any (typeIs_str s z t) slot_str_getitem.lookup (getItem_str (c:=c) (by
  have e1:decide (i < -(2 ^ 63:Int))=false:=decide_eq_false (by omega)
  have e2:decide (i ≥ 2 ^ 63)=false:=decide_eq_false (by omega)
  rw[e1,e2,sX]) (by rw[h1];simpa using h2) ⟨.str ⟨#[c]⟩,H,I.tok _,⟨_,rfl⟩,q⟩) hs
def rIx(K:PySem.W.Frag):R2:=λx y H Q=>SY K x y H Q\/S0 K x y H Q\/S1 x y H Q
theorem cQ1:nW X (rIx X.K):=ds6.or (ds7.or cO5)
theorem bV5(its:List Value)(n j:Nat)(u:Value):BJ (·.setIfInBounds j u) { cls:=.type "list",data:=.seq its.toArray n }={ cls:=.type "list",data:=.seq (its.set j u).toArray n }:=by
 simp[BJ]
theorem Inv.lst{pins:List (Addr × Obj)}{σ:St}{H:Hp}{s:Shared}{p:Addr}{xs:List V}(I:Inv X pins σ H s)(h:H p=some (.lst xs)) :
  ∃(its:List Value) (n:Nat),Vals xs its/\s.heap.get? p=some { cls:=.type "list",data:=.seq its.toArray n }/\xs.length<=sizeLine:=by
 obtain⟨z,its,n,r,e⟩:=I.aO p _ h
 exact⟨its,n,r,e,z⟩
theorem Inv.dt2{pins:List (Addr × Obj)}{σ:St}{H:Hp}{s:Shared}{p:Addr}{xs ys:List V}{its its':List Value}{n n':Nat}{f:Obj->Obj}(I:Inv X pins σ H s)(h:H p=some (.lst xs))
  (ho:s.heap.get? p=some { cls:=.type "list",data:=.seq its.toArray n }) (hf:f { cls:=.type "list",data:=.seq its.toArray n }={ cls:=.type "list",data:=.seq its'.toArray n' }) (r:Vals ys its') (hz:ys.length<=sizeLine) (t:Nat) :
  Inv X pins σ (upd H p (.lst ys)) { s with heap:=s.heap.update p f,toks:=t }:=by
 have e:(s.heap.update p f).get? p=some { cls:=.type "list",data:=.seq its'.toArray n' }:=by
  rw[Fy f ho (by rw[hf]<;>rfl),hf]
 refine I.write (x:=p) (e:=p) (by rw[h];trivial) (.inl rfl) (λb u hb q=>(sY _ _ (fA hb)).trans q) ⟨_,e⟩ ?_
 exact⟨hz,its',n',r,e⟩
def cU5:V->V->V->Hp->(Hp->Prop)->Prop:=λo i v H Q=>∃p xs k j,o=.ref p/\i=.int k/\H p=some (.lst xs)/\iP xs.length k=some j/\Q (upd H p (.lst (xs.set j v)))
theorem cp4:Su X cU5:=by
 intro pins s σ H o i v ov iv u Q I ro ri rv h
 obtain⟨p,xs,k,j,rfl,rfl,hp,hj,q⟩:=h
 cases ro
 obtain⟨t,rfl⟩:=ri
 obtain⟨its,n,r,ho,hz⟩:=I.lst hp
 obtain⟨h1,h2,h3,h4⟩:=SW hj
 have hl:=r.length
 have hn:=vL
 have I':Inv X pins σ (upd H p (.lst (xs.set j v))) { s with heap:=s.heap.update p (BJ (·.setIfInBounds j u)) } :=
  I.dt2 hp ho (bV5 its n j u) (r.set rv j) (by rw[nG];exact hz) s.toks
 by_cases h0:0<=k
 ·have hk:k.toNat=j:=by
   rw[seqIndex_of h0 h4]at h1
   exact cT h1
  exact PySem.W.ki_setAt ho h0 (by omega) (by rw[dO,<- hl];exact h4) (by rw[hk];exact⟨_,I',q⟩)
 ·have hk:(k+(its.toArray.size:Int)).toNat=j:=by
   rw[seqIndex_neg (by omega) h3]at h1
   rw[dO,<- hl]
   exact cT h1
  exact PySem.W.ki_setBack ho (by omega) (by rw[dO,<- hl];exact h3) (by omega) (by rw[hk];exact⟨_,I',q⟩)
theorem GU(lo hi:Option Int)(n:Nat):(sliceBounds lo hi none n).1=((HT.dm n 0 lo:Nat):Int)/\(sliceBounds lo hi none n).2.1=((HT.dm n n hi:Nat):Int)/\(sliceBounds lo hi none n).2.2=1:=by
 refine⟨?_,?_,rfl⟩
 ·cases lo with
  | none=>simp[sliceBounds,HT.dm]
  | some i =>
   simp only[sliceBounds,HT.dm,p8,show(1:Int)>0 by decide,if_true]
   by_cases h:i<0
   ·simp only[h,if_true]<;>omega
   ·simp only[h,if_false]<;>omega
 ·cases hi with
  | none=>simp[sliceBounds,HT.dm]
  | some i =>
   simp only[sliceBounds,HT.dm,p8,show(1:Int)>0 by decide,if_true]
   by_cases h:i<0
   ·simp only[h,if_true]<;>omega
   ·simp only[h,if_false]<;>omega
theorem bG1(its:List Value)(lo hi:Option Int):slicePick its.toArray lo hi none=((its.drop (HT.dm its.length 0 lo)).take (HT.dm its.length its.length hi-HT.dm its.length 0 lo)).toArray:=by
 obtain⟨h1,h2,h3⟩:=GU lo hi its.toArray.size
 unfold slicePick
 rw[h1,h2,h3]
 simp only[sliceRange_one,pick_run,dO]<;>rfl
def cY5(K:PySem.W.Frag):V->Option Int->Option Int->Hp->VK->Prop:=λx lo hi H Q=>∃a xs,x=.ref a/\bQ K H a xs/\∀p,H p=none->Q (.ref p) (upd H p (.lst (vM xs lo hi)))
theorem dt7:tW X (cY5 X.K):=by
 intro pins s σ H x v vl vu lo hi sl Q I rx hs pl pu h
 obtain⟨a,xs,rfl,hx,q⟩:=h
 cases rx
 obtain⟨its,r,ht,hz⟩:=I.list hx
 have hlen:=r.length
 refine⟨"list",_,slot_list_getitem.lookup,ht.isList.typeIs,?_⟩
 refine wpAny_getItem_list_slice ht.isList hs pl pu .none (by simp) ?_ (by rw[dO]<;>omega)
 rw[bG1,<- hlen]
 refine⟨.ref s.heap.objs.size,_,I.laid (t':=s.toks) (o:=.lst (vM xs lo hi)) (λb ob q=>fN _ q) (bM _) ?_,rfl,q _ (I.aO.fresh (bM _))⟩
 exact⟨eG (bP2 xs lo hi) hz,_,0,(r.drop (HT.dm xs.length 0 lo)).take (HT.dm xs.length xs.length hi-HT.dm xs.length 0 lo),gQ _ rfl⟩
def mJ:V->Bool
 | .ay=>true
 | .bl _=>true
 | .int _=>true
 | .str _=>true
 | _=>false
def kA:V->V->Bool
 | .ay,.ay=>true
 | .bl a,.bl b=>a==b
 | .bl a,.int b=>(if a then 1 else 0)==b
 | .int a,.bl b=>a==(if b then 1 else 0)
 | .int a,.int b=>a==b
 | .str a,.str b=>a==b
 | _,_=>false
theorem cH9{A:Around}{s:Shared}{y x:V}{u v:Value}(ry:RelV y u)(rx:RelV x v)(fy:mJ y=true)(fx:mJ x=true):Fz A s u v (kA y x):=by
 cases y with
 | ay =>
  cases ry
  cases x with
  | ay=>cases rx;exact SeqAt.EqAt.same _
  | bl b=>cases rx;exact SeqAt.EqAt.none_bool b
  | int b=>obtain⟨t,rfl⟩:=rx;exact SeqAt.EqAt.none_int b t
  | str b=>obtain⟨t,rfl⟩:=rx;exact SeqAt.EqAt.none_str b t
  | _=>exact absurd (show false=true from fx) gg
 | bl a =>
  cases ry
  cases x with
  | ay=>cases rx;exact SeqAt.EqAt.bool_none a
  | bl b=>cases rx;exact SeqAt.EqAt.bool_bool a b
  | int b=>obtain⟨t,rfl⟩:=rx;exact SeqAt.EqAt.bool_int a b t
  | str b=>obtain⟨t,rfl⟩:=rx;exact SeqAt.EqAt.bool_str a b t
  | _=>exact absurd (show false=true from fx) gg
 | int a =>
  obtain⟨t',rfl⟩:=ry
  cases x with
  | ay=>cases rx;exact SeqAt.EqAt.int_none a t'
  | bl b=>cases rx;exact SeqAt.EqAt.int_bool a t' b
  | int b=>obtain⟨t,rfl⟩:=rx;exact SeqAt.EqAt.int_int a t' b t
  | str b=>obtain⟨t,rfl⟩:=rx;exact SeqAt.EqAt.int_str a t' b t
  | _=>exact absurd (show false=true from fx) gg
 | str a =>
  obtain⟨t',rfl⟩:=ry
  cases x with
  | ay=>cases rx;exact SeqAt.EqAt.str_none a t'
  | bl b=>cases rx;exact SeqAt.EqAt.str_bool a t' b
  | int b=>obtain⟨t,rfl⟩:=rx;exact SeqAt.EqAt.str_int a t' b t
  | str b=>obtain⟨t,rfl⟩:=rx;exact SeqAt.EqAt.str_str a t' b t
  | _=>exact absurd (show false=true from fx) gg
 | _=>exact absurd (show false=true from fy) gg
def iQ(x:V)(u:Value):Bool:=match u with
 | .none=>kA .ay x
 | .bool b=>kA (.bl b) x
 | .int i _=>kA (.int i) x
 | .str z _=>kA (.str z) x
 | _=>false
theorem S2{x y:V}{u:Value}(r:RelV y u)(f:mJ y=true):iQ x u=kA y x:=by
 cases y with
 | ay=>cases r;rfl
 | bl b=>cases r;rfl
 | int i=>obtain⟨t,rfl⟩:=r;rfl
 | str z=>obtain⟨t,rfl⟩:=r;rfl
 | _=>exact absurd (show false=true from f) gg
theorem zA{x:V}:∀{xs:List V} {us:List Value},Vals xs us->xs.all mJ=true->us.any (iQ x)=xs.any λy=>kA y x
 | _,_,.nil,_=>rfl
 | y::xs,u::us,.cons r t,f=>by
  rw[dU,eQ]at f
  rw[List.any_cons,List.any_cons,S2 r f.1,zA t f.2]
theorem zB{A:Around}{s:Shared}{x:V}{v:Value}(rx:RelV x v)(fx:mJ x=true):∀{xs:List V} {us:List Value},Vals xs us->xs.all mJ=true->∀u∈us,Fz A s u v (iQ x u)
 | _,_,.nil,_=>λu hu=>by cases hu
 | y::xs,u::us,.cons r t,f=>λu' hu=>by
  rw[dU,eQ]at f
  rcases cA.mp hu with rfl | hu
  ·rw[S2 r f.1];exact cH9 r rx f.1 fx
  ·exact zB rx fx t f.2 u' hu
def tX(x:V)(xs:List V):Bool:=xs.any λy=>kA y x
def S3(K:PySem.W.Frag)(neg:Bool):R2:=λx y H Q=>∃p xs,y=.ref p/\(bQ K H p xs\/iq K H p xs)/\mJ x=true/\xs.all mJ=true/\Q (.bl (if neg then !tX x xs else tX x xs)) H
theorem bX8:cK X (compareOp .In) (S3 X.K false):=by
 intro pins s σ H x y v u Q I rx ry h
 obtain⟨p,xs,rfl,hq,fx,fs,q⟩:=h
 cases ry
 rcases hq with hq | hq
 ·obtain⟨its,r,pl,hz⟩:=I.list hq
  refine SeqAt.in_listAt (iQ x) pl.isList (λw hw=>zB rx fx r fs w (by simpa using hw)) ⟨.bl _,H,I,rfl,?_⟩
  rw[show its.toArray.any (iQ x)=its.any (iQ x) by simp,zA r fs]
  exact q
 ·obtain⟨its,r,pl,hz⟩:=I.tuple hq
  refine SeqAt.in_tupleAt (iQ x) pl (λw hw=>zB rx fx r fs w (by simpa using hw)) ⟨.bl _,H,I,rfl,?_⟩
  rw[show its.toArray.any (iQ x)=its.any (iQ x) by simp,zA r fs]
  exact q
theorem bJ3:cK X (compareOp .NotIn) (S3 X.K true):=by
 intro pins s σ H x y v u Q I rx ry h
 obtain⟨p,xs,rfl,hq,fx,fs,q⟩:=h
 cases ry
 rcases hq with hq | hq
 ·obtain⟨its,r,pl,hz⟩:=I.list hq
  refine SeqAt.notIn_listAt (iQ x) pl.isList (λw hw=>zB rx fx r fs w (by simpa using hw)) ⟨.bl _,H,I,rfl,?_⟩
  rw[show its.toArray.any (iQ x)=its.any (iQ x) by simp,zA r fs]
  exact q
 ·obtain⟨its,r,pl,hz⟩:=I.tuple hq
  refine SeqAt.notIn_tupleAt (iQ x) pl (λw hw=>zB rx fx r fs w (by simpa using hw)) ⟨.bl _,H,I,rfl,?_⟩
  rw[show its.toArray.any (iQ x)=its.any (iQ x) by simp,zA r fs]
  exact q
theorem du1:gZ X (.builtin "len") (λxs H Q=>∃p ys,xs=[.ref p]/\(bQ X.K H p ys\/iq X.K H p ys)/\Q (.int ys.length) H):=by
 intro pins s σ H xs us Q I r h
 obtain⟨p,ys,rfl,hq,q⟩:=h
 obtain⟨u,rfl,rx⟩:=GL r
 cases rx
 have hn:=vL
 rcases hq with hq | hq
 ·obtain⟨its,r',pl,hz⟩:=I.list hq
  have hlen:=r'.length
  exact Calls.call_len_list pl.isList (by simp only[dO]<;>omega) ⟨.int ys.length,H,I.tok _,⟨s.toks+1,by rw[dO,hlen]⟩,q⟩
 ·obtain⟨its,r',pl,hz⟩:=I.tuple hq
  have hlen:=r'.length
  exact len_tuple pl (by simp only[dO]<;>omega) ⟨.int ys.length,H,I.tok _,⟨s.toks+1,by rw[dO,hlen]⟩,q⟩
theorem bH9:gZ X (.builtin "len") (λxs H Q=>∃z,xs=[.str z]/\z.length<=sizeLine/\Q (.int z.length) H):=by
 intro pins s σ H xs us Q I r h
 obtain⟨z,rfl,hz,q⟩:=h
 obtain⟨u,rfl,t,rfl⟩:=GL r
 have hn:=vL
 exact len_str (by omega) ⟨.int z.length,H,I.tok _,⟨_,rfl⟩,q⟩
theorem gZ.or{f:Value}{r r':List V->Hp->VK->Prop}(h:gZ X f r)(h':gZ X f r'):gZ X f (λxs H Q=>r xs H Q\/r' xs H Q):=by
 intro pins s σ H xs us Q I rs q
 rcases q with q | q
 ·exact h pins s σ H xs us Q I rs q
 ·exact h' pins s σ H xs us Q I rs q
theorem bM0:gZ X (.type "list") (λxs H Q=>∃p ys,xs=[.ref p]/\(bQ X.K H p ys\/iq X.K H p ys)/\∀l,H l=none->Q (.ref l) (upd H l (.lst ys))):=by
 intro pins s σ H xs us Q I r h
 obtain⟨p,ys,rfl,hq,q⟩:=h
 obtain⟨u,rfl,rx⟩:=GL r
 cases rx
 have fin:∀(its:List Value),Vals ys its->ys.length<=sizeLine->∀(h':Heap) (c':Nat),(∀b o',s.heap.get? b=some o'->h'.get? b=some o') ->
   h'.get? s.heap.objs.size=some { cls:=.type "list",dict:=none,data:=.seq its.toArray c',slots:=#[] }->EP X pins σ Q (.ref s.heap.objs.size) { s with heap:=h' }:=λits r' hz h' c' kp e =>
  ⟨.ref s.heap.objs.size,_,I.laid (t':=s.toks) kp (bM _) (show eH X.prog X.w _ h' _ (.lst ys) from⟨hz,its,c',r',e⟩),rfl,q _ (I.aO.fresh (bM _))⟩
 rcases hq with hq | hq
 ·obtain⟨its,r',pl,hz⟩:=I.list hq
  have hlen:=r'.length
  obtain⟨o,ho,hc,n,hd⟩:=pl.isList
  exact call_list_seq p (.inl rfl) ho hc hd (λh' c' kp e=>fin its r' hz h' c' kp e) (by simp only[dO]<;>omega)
 ·obtain⟨its,r',pl,hz⟩:=I.tuple hq
  have hlen:=r'.length
  obtain⟨o,ho,hc,n,hd⟩:=pl
  exact call_list_seq p (.inr rfl) ho hc hd (λh' c' kp e=>fin its r' hz h' c' kp e) (by simp only[dO]<;>omega)
def GV(K:PySem.W.Frag)(T:String)(x:V)(H:Hp):Prop:=match x with
 | .str _=>T="str"
 | .int _=>T="int"
 | .ref p=>(T="list"/\∃xs,bQ K H p xs)\/(T="tuple"/\∃o,K.lookup p=some o/\o.cls=.type "tuple"/\o.dict=none) \/
   (T="dict"/\((∃dP,H p=some (.dK dP))\/∃dP,H p=some (.dT dP)))\/(T="set"/\∃S n,H p=some (.set S n))
 | _=>False
theorem S4{pins:List (Addr × Obj)}{σ:St}{H:Hp}{s:Shared}{T:String}{x:V}{v:Value}(I:Inv X pins σ H s)(r:RelV x v)(ty:GV X.K T x H) :
  s.TypeIs v T/\∀a,v=.ref a->∃ob,s.heap.get? a=some ob/\ob.dict=none:=by
 cases x with
 | str z =>
  obtain⟨t,rfl⟩:=r
  cases(show T="str" from ty)
  exact⟨typeIs_str s z t,λ_ e=>nomatch e⟩
 | int i =>
  obtain⟨t,rfl⟩:=r
  cases(show T="int" from ty)
  exact⟨typeIs_int s i t,λ_ e=>nomatch e⟩
 | ref p =>
  cases r
  rcases ty with⟨rfl,xs,hq⟩ | ⟨rfl,o,hk,hc,hd⟩ | ⟨rfl,hk⟩ | ⟨rfl,S,n,hk⟩
  ·obtain⟨its,_,pl,_⟩:=I.list hq
   refine⟨pl.isList.typeIs,λa e=>?_⟩
   cases e
   obtain⟨o,n,e,c,hd,_⟩:=pl
   exact⟨o,e,hd⟩
  ·refine⟨⟨o,I.dF p o hk,hc⟩,λa e=>?_⟩
   cases e
   exact⟨o,I.dF _ o hk,hd⟩
  ·have z:∃o,s.heap.get? p=some o/\o.ExactDict:=by
    rcases hk with⟨dP,hk⟩ | ⟨dP,hk⟩
    ·obtain⟨_,_,_,_,o,_,_,e,ex,_⟩:=I.aO p _ hk
     exact⟨o,e,ex⟩
    ·obtain⟨_,_,_,_,o,_,_,e,ex,_⟩:=I.aO p _ hk
     exact⟨o,e,ex⟩
   obtain⟨o,e,ex⟩:=z
   refine⟨⟨o,e,ex.1⟩,λa e2=>?_⟩
   cases e2
   exact⟨o,e,ex.2.1⟩
  ·obtain⟨o,_,_,_,e,ex,_⟩:=I.aO p _ hk
   refine⟨⟨o,e,ex.1⟩,λa e2=>?_⟩
   cases e2
   exact⟨o,e,ex.2.1⟩
 | _=>exact gb ty
def S5(K:PySem.W.Frag)(T:String)(r:V->List V->Hp->VK->Prop)(to:TE):TE:=λσ H Q=>to σ H λx H1=>GV K T x H1/\r x [] H1 Q
def tBM(K:PySem.W.Frag)(T:String)(r:V->List V->Hp->VK->Prop)(to:TE)(t:TA):TE:=λσ H Q=>to σ H λx H1=>GV K T x H1/\t σ H1 λxs H2=>r x xs H2 Q
variable{o e:Expr}{es:List Expr}{to:TE}{t:TA}{name:Str}{apos cj:Pos}{T id:String}{r:V->List V->Hp->VK->Prop}
theorem S6(pa:PlainAttrs T)(slot:Slot T name id)(GW:typeOf (.builtin id)=pure (.type "method_descriptor"))(hm:Ck X id r)(ho:PE X o to)
  (kW:attributeBase o name X.env (eval o X.env)=eval o X.env:=by rfl) (kX:(apos.endLine==cj.line)=true:=by rfl):PE X (.Call (.Attribute o name apos) [] [] cj) (S5 X.K T r to):=by
 intro pins s σ H Q I h
 refine wpAny_Call_method0_late kW kX (bc (ho pins s σ H _ I h) λv s1 ⟨x,H1,I1,r1,ty,q1⟩=>?_)
 obtain⟨h1,h2⟩:=S4 I1 r1 ty
 exact⟨T,id,pa,slot,GW,h1,h2,Calls.callWith_builtin rfl (PySem.evalArgs_none (hm pins s1 σ H1 x [] v [] Q I1 r1 .nil q1))⟩
theorem cW7(pa:PlainAttrs T)(slot:Slot T name id)(GW:typeOf (.builtin id)=pure (.type "method_descriptor"))(hm:Ck X id r)(ho:PE X o to)(ha:PA X (e::es) t)
  (kW:attributeBase o name X.env (eval o X.env)=eval o X.env:=by rfl)
  (GX:((backTo cj (starEach (e::es) X.env)).all (λx=>!x.1)&&(backToKw cj (keywordEach [] X.env)).all (λx=>x.1.isSome)
   && decide ((e::es).length+([]:List Keyword).length+(if([]:List Keyword).isEmpty then 0 else 1)<30))=true:=by rfl)
  (kX:(apos.endLine==cj.line)=true:=by rfl) (hs:starEach (e::es) X.env=(false,eval e X.env)::starEach es X.env:=by rfl) (GY:(backTo cj (starEach es X.env)).any (·.1)=false:=by rfl) :
  PE X (.Call (.Attribute o name apos) (e::es) [] cj) (tBM X.K T r to t):=by
 intro pins s σ H Q I h
 refine wpAny_Call_method_late kW GX kX rfl (bc (ho pins s σ H _ I h) λv s1 ⟨x,H1,I1,r1,ty,q1⟩=>?_)
 obtain⟨h1,h2⟩:=S4 I1 r1 ty
 refine⟨T,id,pa,slot,GW,h1,h2,?_⟩
 have hA:=ha cj pins s1 σ H1 _ I1 q1
 rw[hs]at hA ⊢
 refine Calls.callWith_builtin (by show(false||(backTo cj (starEach es X.env)).any (·.1))=false;rw[GY]<;>rfl) (Calls.evalArgs_plain ?_)
 exact bc hA λus s2 ⟨vs,H2,I2,r2,q2⟩=>hm pins s2 σ H2 x vs v us Q I2 r1 r2 q2
/- xs.append(e),list.index on a fr2 tuple .. are Ck facts of 06m -/
end
end L2
namespace L2
open PySem PySem.Spec PyProof.Rows
def S7(X:Cx)(id:String)(r:V->List V->Hp->VK->Prop):Prop :=
 ∀(pins:List (Addr × Obj)) (s:Shared) (σ:St) (H:Hp) (x:V) (xs:List V) (v:Value) (us:List Value) (Q:VK),Inv X pins σ H s->RelV x v->Vals xs us->r x xs H Q ->
  wpAny (model X.prog X.w) X.A (call (.builtin id) (v::us)) (EP X pins σ Q) X.xe s
theorem Vals.one:∀{x:V} {us:List Value},Vals [x] us->∃u,us=[u]/\RelV x u
 | _,_,.cons r .nil=>⟨_,rfl,r⟩
theorem Vals.two:∀{x y:V} {us:List Value},Vals [x,y] us->∃u v,us=[u,v]/\RelV x u/\RelV y v
 | _,_,_,.cons r (.cons q .nil)=>⟨_,_,rfl,r,q⟩
theorem Vals.zero:∀{us:List Value},Vals [] us->us=[]
 | _,.nil=>rfl
theorem Vals.reverse{xs:List V}{us:List Value}(h:Vals xs us):Vals xs.reverse us.reverse:=by
 induction h with
 | nil=>exact .nil
 | cons r t ih=>rw[FA,FA];exact Vals.append ih (.cons r .nil)
theorem Vals.rep{xs:List V}{us:List Value}(h:Vals xs us):∀k:Nat,Vals (bF k xs).flatten (bF k us).flatten
 | 0=>.nil
 | k+1=>by
  rw[sZ,sZ,vp,vp]
  exact Vals.append h (Vals.rep h k)
theorem S8(its:List Value):∀(k:Nat) (acc:List Value),
  List.foldl (λx1 x2=>x1++x2) acc.toArray (bF k its.toArray)=(acc++(bF k its).flatten).toArray
 | 0,acc=>by simp
 | k+1,acc=>by
  have e:acc.toArray++its.toArray=(acc++its).toArray:=by simp
  have e2:(acc++its)++(bF k its).flatten=acc++(bF (k+1) its).flatten:=by
   rw[sZ,vp,eV]
  rw[<-e2,<- S8 its k (acc++its),<- e,sZ,s8]
section
variable{X:Cx}{pins:List (Addr × Obj)}{σ:St}{H:Hp}{s:Shared}{l b:Addr}{xs ys zs:List V}
theorem Inv.S9{its its':List Value}{n:Nat}{f:Array Value->Array Value}{t':Nat}(I:Inv X pins σ H s)(hH:H l=some (.lst xs))
  (e:s.heap.get? l=some { cls:=.type "list",data:=.seq its.toArray n }) (hf:f its.toArray=its'.toArray) (hv:Vals ys its') (hz:ys.length<=sizeLine) :
  Inv X pins σ (upd H l (.lst ys)) { s with heap:=s.heap.update l (BJ f),toks:=t' }:=by
 have q:=PySem.IsL.update e f
 rw[hf]at q
 refine I.write (x:=l) (e:=l) (by rw[hH];exact trivial) (.inl rfl) (λb' u hb hu=>(sY s.heap (BJ f) (fA hb)).trans hu) ⟨_,q⟩ ?_
 exact⟨hz,its',_,hv,q⟩
theorem Inv.Ta{its:List Value}{t':Nat}(I:Inv X pins σ H s)(hv:Vals ys its)(hz:ys.length<=sizeLine) :
  Inv X pins σ (upd H s.heap.objs.size (.lst ys)) { s with heap:=s.heap.push { cls:=.type "list",data:=.seq its.toArray },toks:=t' } :=
 I.laid (λ_ _ q=>fN _ q) (bM _) ⟨hz,its,0,hv,gQ _ rfl⟩
theorem Inv.fresh(I:Inv X pins σ H s):H s.heap.objs.size=none:=I.aO.fresh (bM _)
theorem Inv.zC(I:Inv X pins σ H s)(hH:H l=some (.lst xs)):xs.length<=sizeLine/\∃(its:List Value) (n:Nat),Vals xs its/\xs.length=its.length/\s.heap.get? l=some { cls:=.type "list",data:=.seq its.toArray n }:=by
 obtain⟨z,its,n,r,e⟩:=I.aO l _ hH
 exact⟨z,its,n,r,r.length,e⟩
theorem co8{n:Nat}(h:n<=sizeLine):RE n=false:=by
 unfold RE
 exact decide_eq_false (by omega)
end
section
variable{X:Cx}
def cE0:V->List V->Hp->VK->Prop:=λx vs H Q=>∃l xs y,x=.ref l/\vs=[y]/\H l=some (.lst xs)/\xs.length<sizeLine/\Q .ay (upd H l (.lst (xs++[y])))
theorem Tc:S7 X "list.append" cE0:=by
 intro pins s σ H x vs v us Q I rx rv h
 obtain⟨l,xs,y,rfl,rfl,hH,hz,q⟩:=h
 cases rx
 obtain⟨u,rfl,ru⟩:=rv.one
 obtain⟨z,its,n,r,hl,e⟩:=I.zC hH
 refine call_meets F.slot_list_append ⟨_,e,rfl⟩ F.entry_list_append (F.args_list_append_2 _ _) (PySem.list_append l its.toArray n u (by rw[dO];omega)) ⟨e,?_⟩
 refine⟨.ay,_,I.S9 (its':=its++[u]) hH e (by simp) (r.append (.cons ru .nil)) ?_,rfl,q⟩
 rw[dS,FC]
 omega
def cl6:V->List V->Hp->VK->Prop:=λx vs H Q=>∃l xs,x=.ref l/\vs=[]/\H l=some (.lst xs)/\Q .ay (upd H l (.lst xs.reverse))
theorem bV0:S7 X "list.reverse" cl6:=by
 intro pins s σ H x vs v us Q I rx rv h
 obtain⟨l,xs,rfl,rfl,hH,q⟩:=h
 cases rx
 have hus:=rv.zero
 subst hus
 obtain⟨z,its,n,r,hl,e⟩:=I.zC hH
 refine call_meets F.slot_list_reverse ⟨_,e,rfl⟩ F.entry_list_reverse (F.args_list_reverse_1 _) (AutoSeq1.list_reverse_list_0 l its.toArray n (by rw[dO];omega)) ⟨e,?_⟩
 refine⟨.ay,_,I.S9 (its':=its.reverse) hH e (by simp) r.reverse ?_,rfl,q⟩
 rw[db3]
 omega
def c02:R2:=λx y H Q=>∃l b xs zs,x=.ref l/\y=.ref b/\H l=some (.lst xs)/\H b=some (.lst zs)/\xs.length+zs.length<=sizeLine/\∀p,H p=none->Q (.ref p) (upd H p (.lst (xs++zs)))
theorem Td:cK X (binaryOp .Add) c02:=by
 intro pins s σ H x y v u Q I rx ry h
 obtain⟨l,b,xs,zs,rfl,rfl,hH,hB,hz,q⟩:=h
 cases rx
 cases ry
 obtain⟨z,its,n,r,hl,e⟩:=I.zC hH
 obtain⟨z2,Te,n2,r2,vN,e2⟩:=I.zC hB
 refine PySem.P.add_list e e2 ?_ (by rw[dO,dO];omega)
 have ea:its.toArray++Te.toArray=(its++Te).toArray:=by simp
 rw[ea]
 exact⟨.ref _,_,I.Ta (t':=s.toks) (r.append r2) (by rw[dS];omega),rfl,q _ I.fresh⟩
def cZ1:R2:=λx y H Q=>∃l k xs,x=.ref l/\y=.int k/\H l=some (.lst xs)/\-(2 ^ 63)<=k/\k<2 ^ 63/\xs.length*k.toNat<=sizeLine /\
 ∀p,H p=none->Q (.ref p) (upd H p (.lst (bF k.toNat xs).flatten))
theorem cB8{α:Type}(xs:List α)(k:Nat):(bF k xs).flatten.length=k*xs.length:=by
 induction k with
 | zero=>simp
 | succ k ih=>rw[sZ,vp,dS,ih,Nat.succ_mul,BK]
theorem cI4:cK X (binaryOp .Mult) cZ1:=by
 intro pins s σ H x y v u Q I rx ry h
 obtain⟨l,k,xs,rfl,rfl,hH,h1,h2,hz,q⟩:=h
 cases rx
 obtain⟨t,rfl⟩:=ry
 obtain⟨z,its,n,r,hl,e⟩:=I.zC hH
 have hlen:its.toArray.size*k.toNat<=sizeLine:=by rw[dO,<- hl];exact hz
 have dv5:¬ its.toArray.size*k.toNat>(2 ^ 63-1)/8:=by
  have:(sizeLine:Nat)<=(2 ^ 63-1)/8:=by decide
  omega
 have dv6:¬ (!Builtin.List.listFitsIndex k)=true:=by
  rw[fitsIndex_both h1 h2]
  exact gg
 have dv7:¬ RE (its.toArray.size*k.toNat)=true:=by
  rw[co8 hlen]
  exact gg
 have dv8:List.foldl (λx1 x2=>x1++x2) #[] (bF (if its.toArray.isEmpty=true then 0 else k.toNat) its.toArray)=(bF k.toNat its).flatten.toArray:=by
  have f0:∀m:Nat,List.foldl (λx1 x2=>x1++x2) #[] (bF m its.toArray)=(bF m its).flatten.toArray:=λm=>by
   have:=S8 its m []
   rw[nH]at this
   exact this
  rw[f0]
  cases its with
  | nil=>simp
  | cons a r'=>rw[if_neg (by simp)]
 refine wpAny_binaryOp_repeat_ref (T:="list") (U:="int") (by decide) ⟨_,e,rfl⟩ (λs'=>typeIs_int s' k t) noFill_list_mul F.fills_int_mul F.slot_int_rmul repeat_list F.slot_int_index.lookup
  (call_meets F.slot_int_rmul (typeIs_int s k t) F.entry_int_rmul (F.args_int_rmul_2 _ _) (int___rmul___int_list k t l its.toArray n)
   ⟨e,rfl,⟨_,e,rfl⟩,call_meets F.slot_list_mul ⟨_,e,rfl⟩ F.entry_list_mul (F.args_list_mul_2 _ _) (AutoListH.list___mul___list_int_3 l its.toArray n k t dv6 dv5 dv7) ⟨e,?_⟩⟩)
 rw[dv8]
 exact⟨.ref _,_,I.Ta (t':=s.toks) (r.rep k.toNat) (by rw[cB8,nI];exact hz),rfl,q _ I.fresh⟩
end
section
variable{prog:Program}{w:World}{A:Around}{E:Value->Shared->Prop}{s:Shared}
end
section
variable{X:Cx}
end
end L2
namespace Att
open PySem PySem.W PySem.Calls PyProof.Rows
theorem bv2{P:Params}{h:Heap}:∀(ns:List Int) (vs:List Value),WellAll P h vs (ns.map WData.int)->IntsAre vs ns:=by
 intro ns
 induction ns with
 | nil =>
  intro vs w
  rw[jM]at w
  cases w
  exact .nil
 | cons n ns ih =>
  intro vs w
  rw[dE]at w
  cases w with
  | cons a b =>
   cases a
   exact .cons _ _ (ih _ b)
theorem b07{l:OpenLaw}{n:Nat}(hn:l.most=some n){P:Params}{h:Heap}{args:List WData}{vals:List Value}
  (Cm:l.row.toRowW.claim.pre args=true) (GZ:WellAll P h vals args) :
  ∃a vs ns,vals=[fL a]/\args=[WData.list (ns.map WData.int)]/\h.get? a=some { cls:=.type "list",data:=.seq vs.toArray }/\IntsAre vs ns/\ns.length<=n:=by
 have zD:WShape.hasAll [] args [.list .int]=true:=(pre_splitW Cm).1
 have hc:l.pre.holds [] { args:=args }=true:=(pre_splitW Cm).2
 obtain⟨d,r,rfl,h1,h2⟩:=hasAllW_cons zD
 obtain rfl:=hasAllW_nil h2
 obtain⟨xs,rfl,h3⟩:=hasW_list h1
 obtain⟨ns,rfl⟩:=items_int h3
 have hlen:ns.length<=n:=by
  unfold OpenLaw.pre at hc
  have h4:(WTm.not (.lt (.lit (.int (n:Int))) (.len (.arg 0)))).holds [] { args:=[.list (ns.map .int)] }=true:=by
   have h4:=(holds_andW hc).1
   rw[hn]at h4
   exact h4
  have h5:=condW_of h4 (w_not (w_lt w_lit (w_len_list (w_arg rfl))))
  rw[br]at h5
  refine Nat.le_of_not_lt λq=>?_
  have q':(n:Int)<((ns.length:Nat):Int):=by omega
  first
   | (rw[decide_eq_true q']at h5;exact absurd h5 (by decide))
   | (simp at h5;omega)
 cases GZ with
 | cons w1 w2 =>
  cases w2
  cases w1 with
  | list ho dw1=>exact⟨_,_,ns,rfl,rfl,ho,bv2 ns _ dw1,hlen⟩
theorem bY1(l:OpenLaw)(args:List WData):l.row.toRowW.claim.post args (.bool true) args=true :=
 postW_of (r:=l.row.toRowW) (X:=(true==true))
  (show WShape.has [] (.bool true) .bool=true by first | rfl | decide | simp[WShape.has,WShape.arms,WShape.armsAll])
  (show(WTm.eq .res (.lit (.bool true))).value [] { args:=args,res:=some (.bool true),after:=args }=some (.bool (true==true)) from w_eq_bool (w_res rfl) w_lit) rfl
theorem dw3{l:OpenLaw}{n:Nat}{q:Program}{loose:List Str}{XP:(Str->Option Value)->Heap->Prop}{YP:World->Heap->Prop}{d:DefRec}
  (hn:l.most=some n) (zE:d.params.defaults=[])
  (call:∀(w:World) (cV bK:Shared) (mg mb:Str->Option Value) (fa:Addr) (o:Obj) (pm cd doc:Value) (a:Addr) (vs:List Value) (ns:List Int),
   Ground q loose [] XP w cV mg mb bK.heap->YP w bK.heap ->
   bK.heap.get? fa=some o->o.data=.func (docDef d.name d.params d.body d.scope pm cd doc)->bK.heap.CodeRec cd d.name->mg d.name=some (.ref fa) ->
   bK.heap.get? a=some { cls:=.type "list",data:=.seq vs.toArray }->IntsAre vs ns->ns.length<=n->bK.gens=#[] ->
   codeAny (model l.prog w) callerA (.call (.ref fa) ⟨[.ref a],[]⟩) (λr s'=>r=.ok (.ret (.bool true))/\OldK bK.heap s'.heap/\s'.os=bK.os/\AllBare s'.gens) bK) :
  WalkO q loose XP YP l.row.toRowW d [] (λf vs=>PySem.call f vs):=by
 intro w cV bK mg mb G Y fa o pm cd doc dV kV ho hd da hD zF hg args vals as Cm fr4 hrd GZ dq
 obtain rfl:dV=.none:=Dflts.none hD zE
 obtain rfl:kV=.none:=Dflts.noKw hD
 obtain⟨a,vs,ns,rfl,rfl,G0,hints,hlen⟩:=b07 hn Cm GZ
 refine enter_call (codeAny_mono (call w cV bK mg mb fa o pm cd doc a vs ns G Y ho (fd_plain hd) da zF G0 hints hlen hg) λr s' hq=>?_)
 obtain⟨rfl,h2,h3,h4⟩:=hq
 exact⟨.inl ⟨.bool true,.bool true,[],rfl,λ_=>rfl,.bool true,bY1 l _,λ_=>⟨RF,λ_ hm=>(nomatch hm)⟩⟩,h2,h3,h4⟩
section
variable{prog:Program}{w:World}{A:Around}{E:Value->Shared->Prop}{s:Shared}{K:Frag}
end
end Att
namespace L2
open PySem PySem.Spec PyProof.Rows
theorem Tf:∀{vs:List Value} {ns:List Int},IntsAre vs ns->Vals (ns.map V.int) vs
 | _,_,.nil=>.nil
 | _,_,.cons n t h=>.cons ⟨t,rfl⟩ (Tf h)
end L2
namespace L2
open PySem PySem.Spec PyProof.Rows
end L2
/- THE fr8 fr9 (shape;LID,My.* are fs1):
   My.gB: a structure of Tg addresses fs2 fs3 fs4 names (classes,fs5);My.Txt K t: a structure (Prop) of Tg equations over K;
   My.fs6:{K} {implicit addresses ..} (e1:nsIn K mainGlobals "law"=some (some (.ref f))) (e2:K.lookup f=some ⟨oc,od,.func (fnOf "law" "law" params body scope dV kV doc pm an aI ct),sl⟩) (e3:codeIn K aI "law"=true) ..:∃t,My.Txt K t
(Tg tactic k_is has no namespace: write k_is) -/
namespace L2
open PySem PySem.Spec PyProof.Rows
def iS(s:Stmt)(j:Nat):Stmt:=match s with
 | .ClassDef _ _ _ body _ _ _ _ _ _ _=>body.getD j (.Pass ⟨0,0,0,0⟩)
 | _=>.Pass ⟨0,0,0,0⟩
def bu(s:Stmt):Arguments:=match s with
 | .FunctionDef _ a _ _ _ _ _ _ _ _=>a
 | _=>{ posonlyargs:=[],args:=[],vararg:=none,kwonlyargs:=[],kw_defaults:=[],kwarg:=none,defaults:=[] }
def bo(s:Stmt):List Stmt:=match s with
 | .FunctionDef _ _ b _ _ _ _ _ _ _=>b
 | _=>[]
def az(s:Stmt):Scope:=match s with
 | .FunctionDef _ _ _ _ _ _ sc _ _ _=>sc
 | _=>{ kind:=.function,names:=[],isGenerator:=false,isCoroutine:=false }
abbrev bf:fg:=λ_ _ _ _ _ _=>False
abbrev E0:XK:=λ_ _ _=>False
theorem aP{X:Cx}:mH bf X E0:=λ_ _ _ _ _ _ _ h=>h.elim
structure bq(K:PySem.W.Frag)(x qual:Str)(st:Stmt)(f:Addr)(fd:FuncData):Prop where
 ex:∃(oc:Value) (od:Option Addr) (kV doc pm:Value) (an:Option Addr) (aI ct:Value) (mI:Array (Option Value)),
  fd=PySem.W.fnOf x qual (bu st) (bo st) (az st) .none kV doc pm an aI ct/\K.lookup f=some ⟨oc,od,.func fd,mI⟩/\PySem.W.codeIn K aI qual=true
 kp:PySem.W.keepIn K (.ref f)=true
section
variable{P:Program}{w:World}{K:PySem.W.Frag}{mg:Str->Option Value}{base:Heap}
theorem bq.ok{x qual:Str}{st:Stmt}{f:Addr}{fd:FuncData}{N ps:List Str}{k:Nat}{sp:Sp}(F:bq K x qual st f fd)(S:bt N ps (az st))(len:∀vs H Q E,sp vs H Q E->vs.length=ps.length)
  (iO:∀(aI:Value) (A:Around) (outer:List Env) (s:Shared) (H:Hp) (vs:List V) (Q:VK) (E:XK),cL k (A.deeper (envOfC qual (az st) s.heap.objs.size f aI))->sp vs H Q E ->
   ∃t,PSs (ju bf P w K mg base N qual (az st) f aI A outer s H E).gX (bo st) t/\t { nx:=λ_ H'=>Q .ay H',rt:=Q } (start N vs) H):aQ P w K mg base bf (k+1) f fd ps sp:=by
 obtain⟨oc,od,kV,doc,pm,an,aI,ct,mI,rfl,lk,da⟩:=F.ex
 refine GQ lk da S len λA outer s H vs Q E hr jv=>?_
 obtain⟨t,h,q⟩:=iO aI A outer s H vs Q E hr jv
 exact⟨t,h.gX,q⟩
theorem bq.binds{x qual:Str}{st:Stmt}{f:Addr}{fd:FuncData}{ps:List Str}(F:bq K x qual st f fd)
  (h:∀(kV doc pm:Value) (an:Option Addr) (aI ct:Value) (us:List Value),us.length=ps.length->bindArgs (PySem.W.fnOf x qual (bu st) (bo st) (az st) .none kV doc pm an aI ct) ⟨us,[]⟩=pure (ps.zip us)):Binds K fd ps []:=by
 obtain⟨oc,od,kV,doc,pm,an,aI,ct,mI,rfl,lk,da⟩:=F.ex
 exact .all (h kV doc pm an aI ct)
theorem bD{x qual:Str}{st:Stmt}{f:Addr}{oc:Value}{od an:Option Addr}{mI:Array (Option Value)}{kV doc pm aI ct:Value}(l:K.lookup f=some ⟨oc,od,.func (PySem.W.fnOf x qual (bu st) (bo st) (az st) .none kV doc pm an aI ct),mI⟩)
  (c:PySem.W.codeIn K aI qual=true) (k:PySem.W.keepIn K (.ref f)=true):bq K x qual st f (PySem.W.fnOf x qual (bu st) (bo st) (az st) .none kV doc pm an aI ct):=⟨⟨oc,od,kV,doc,pm,an,aI,ct,mI,rfl,l,c⟩,k⟩
end
section
variable{X:Cx}
theorem pv(i:Nat){x:Str}{pos:Pos}(hN:X.N[i]?=some x:=by rfl)(hv:mC X.env.scope x:=by first | exact ao rfl | exact aX (ao rfl) | exact aX (aX rfl))(hd:(x==("__debug__":Str))=false:=by decide)
  (da:(x==("__classdict__":Str))=false:=by decide):PE X (.Name x pos) (Sq i):=tN hN hv hd da
end
theorem mK{A B:Prop}(h:B):if false=true then A else B:=by
 rw[if_neg gg]
 exact h
theorem qu{A B:Prop}(h:A):if true=true then A else B:=by
 rw[if_pos rfl]
 exact h
end L2
namespace Mf
def bl(n:Nat):Nat:=if n=0 then 0 else n.log2+1
theorem eY{n m:Nat}:bl n<=m↔n<2 ^ m:=by
 unfold bl
 by_cases h:n=0
 ·simp[h,yR]
 ·rw[if_neg h]
  rw[<-Nat.log2_lt h]
  omega
theorem G1{n m:Nat}:m<bl n↔2 ^ m<=n:=by
 have:=@eY n m
 omega
theorem jx(n:Nat):n<2 ^ bl n:=eY.mp (bM _)
theorem Th{n:Nat}(h:n≠0):2 ^ (bl n-1)<=n:=by
 have:0<bl n:=by unfold bl;rw[if_neg h];omega
 exact G1.mp (by omega)
theorem ir{n:Nat}(h:n≠0):0<bl n:=by
 unfold bl;rw[if_neg h];omega
theorem nX:bl 0=0:=rfl
theorem vO{n:Nat}(h:n≠0):n.testBit (bl n-1)=true:=by
 have h1:=Th h
 have h2:=jx n
 have hp:=ir h
 have e:bl n=(bl n-1)+1:=by omega
 rw[e,nJ]at h2
 rw[db4]
 have:n/2 ^ (bl n-1)=1:=by
  apply Nat.div_eq_of_lt_le
  ·omega
  ·omega
 rw[this];rfl
theorem bW0{x n:Nat}(h:∀i,n<=i->x.testBit i=false):x<2 ^ n:=by
 apply Nat.lt_pow_two_of_testBit
 intro i hi
 exact h i hi
theorem Ti{x y n:Nat}(hx:x<2 ^ (n+1))(hy:y<2 ^ (n+1))(tx:x.testBit n=true)(ty:y.testBit n=true):x ^^^ y<2 ^ n:=by
 apply bW0
 intro i hi
 rw[nK]
 by_cases e:i=n
 ·rw[e,tx,ty];rfl
 ·have iu:n+1<=i:=by omega
  have p:2 ^ (n+1)<=2 ^ i:=yS (by decide) iu
  rw[FD (dA hx p),FD (dA hy p)]
  rfl
theorem Tj(x y z:Nat):(x ^^^ y) ^^^ (z ^^^ y)=x ^^^ z:=by
 apply BL;intro i;simp only[nK]
 cases x.testBit i<;>cases y.testBit i<;>cases z.testBit i<;>rfl
theorem Tn(x y z t:Nat):(x ^^^ y) ^^^ (z ^^^ t)=(x ^^^ z) ^^^ (y ^^^ t):=by
 apply BL;intro i;simp only[nK]
 cases x.testBit i<;>cases y.testBit i<;>cases z.testBit i<;>cases t.testBit i<;>rfl
def P(a b:Nat):Nat->Nat
 | 0=>0
 | k+1=>P a b k ^^^ (if b.testBit k then a <<< k else 0)
def cl(a b:Nat):Nat:=P a b (bl b)
theorem To{a b k:Nat}(h:b<2 ^ k):∀j,P a b (k+j)=P a b k
 | 0=>rfl
 | j+1=>by
  show P a b (k+j) ^^^ (if b.testBit (k+j)then a <<< (k+j)else 0)=_
  rw[To h j]
  have p:2 ^ k<=2 ^ (k+j):=yS (by decide) (by omega)
  rw[FD (dA h p)]
  simp
theorem vP{a b k:Nat}(h:b<2 ^ k):P a b k=cl a b:=by
 have h1:=eY.mpr h
 have e:k=bl b+(k-bl b):=by omega
 rw[e,To (jx b)]
 rfl
theorem Tp(a a' b:Nat):∀k,P (a ^^^ a') b k=P a b k ^^^ P a' b k
 | 0=>(mq 0).symm
 | k+1=>by
  show P (a ^^^ a') b k ^^^ _=(P a b k ^^^ _) ^^^ (P a' b k ^^^ _)
  rw[Tp a a' b k]
  by_cases t:b.testBit k=true
  ·rw[if_pos t,if_pos t,if_pos t,db5]
   ac_rfl
  ·rw[if_neg t,if_neg t,if_neg t]
   simp
theorem Tq(a b b':Nat):∀k,P a (b ^^^ b') k=P a b k ^^^ P a b' k
 | 0=>(mq 0).symm
 | k+1=>by
  show P a (b ^^^ b') k ^^^ _=(P a b k ^^^ _) ^^^ (P a b' k ^^^ _)
  rw[Tq a b b' k,nK]
  cases b.testBit k<;>cases b'.testBit k<;>simp
  ·ac_rfl
  ·ac_rfl
  ·exact(Tj _ _ _).symm
theorem qv(a a' b:Nat):cl (a ^^^ a') b=cl a b ^^^ cl a' b:=Tp a a' b _
theorem vQ{x y n:Nat}(hx:x<2 ^ n)(hy:y<2 ^ n):x ^^^ y<2 ^ n:=Nat.xor_lt_two_pow hx hy
theorem bM3(a b b':Nat):cl a (b ^^^ b')=cl a b ^^^ cl a b':=by
 let k:=bl b+bl b'
 have h1:b<2 ^ k:=eY.mp (by omega)
 have h2:b'<2 ^ k:=eY.mp (by omega)
 rw[<-vP (vQ h1 h2),<- vP h1,<- vP h2,Tq]
theorem cF2(a:Nat):cl a 0=0:=rfl
theorem Tr(b:Nat):∀k,P 0 b k=0
 | 0=>rfl
 | k+1=>by
  show P 0 b k ^^^ _=0
  rw[Tr b k];simp
theorem qw(b:Nat):cl 0 b=0:=Tr b _
theorem bJ1(b k:Nat):(b/2).testBit k=b.testBit (k+1):=by
 rw[FE]
theorem Ts(a b:Nat):∀k,P a b (k+1)=(if b%2=1 then a else 0) ^^^ P (2*a) (b/2) k
 | 0=>by
  show 0 ^^^ _=_ ^^^ 0
  rw[p9,mq,BM]
  simp
 | k+1=>by
  show P a b (k+1) ^^^ _=_ ^^^ (P (2*a) (b/2) k ^^^ _)
  rw[Ts a b k,bJ1,s9]
  have e:a <<< (k+1)=(2*a) <<< k:=by
   rw[kN,kN,nJ]
   rw[nI 2 a,vq,nI 2]
  rw[e]
theorem Tt{b k:Nat}(h:b<2 ^ (k+1)):b/2<2 ^ k:=by
 rw[nJ]at h;omega
theorem Tu(a b:Nat):cl a b=(if b%2=1 then a else 0) ^^^ cl (2*a) (b/2):=by
 have h:b<2 ^ (bl b+1):=FF (jx b) (by rw[nJ];have:=yR (bl b);omega)
 rw[<-vP h,Ts,vP (Tt h)]
theorem Tv(a b:Nat):∀k,P (2*a) b k=2*P a b k
 | 0=>rfl
 | k+1=>by
  show P (2*a) b k ^^^ _=2*(P a b k ^^^ _)
  rw[Tv a b k]
  have d:∀x y:Nat,2*(x ^^^ y)=2*x ^^^ 2*y:=by
   intro x y
   have h:=@db5 1 x y
   rw[kN,kN,kN,Nat.pow_one]at h
   rw[nI 2 (x ^^^ y),nI 2 x,nI 2 y]
   exact h
  rw[d]
  by_cases t:b.testBit k=true
  ·rw[if_pos t,if_pos t,kN,kN,vq]
  ·rw[if_neg t,if_neg t]
theorem G2(a b:Nat):cl (2*a) b=2*cl a b:=Tv a b _
theorem zG(a c t:Nat)(ht:t<2):cl a (2*c+t)=2*cl a c ^^^ (if t=1 then a else 0):=by
 rw[Tu,G2,RG]
 have e1:(2*c+t)/2=c:=by omega
 have e2:(2*c+t)%2=t:=by omega
 rw[e1,e2]
theorem cM1(a c:Nat):cl a (2*c)=2*cl a c:=by
 have h:=zG a c 0 (by decide)
 simpa using h
theorem Tw(c t:Nat)(ht:t<2):2*c ^^^ t=2*c+t:=by
 apply BL
 intro i
 cases i with
 | zero =>
  rw[nK,BM,BM,BM]
  have:t=0\/t=1:=by omega
  rcases this with h | h<;>subst h<;>simp<;>omega
 | succ i =>
  rw[nK,FE,FE,FE]
  have e1:2*c/2=c:=by omega
  have e2:t/2=0:=by omega
  have e3:(2*c+t)/2=c:=by omega
  rw[e1,e2,e3];simp
theorem G3:∀b:Nat,cl 1 b=b:=by
 intro b
 induction b using BN with
 | ind b ih =>
  by_cases h:b=0
  ·subst h;rfl
  ·have e:b=2*(b/2)+b%2:=by omega
   rw[e,zG 1 (b/2) (b%2) (by omega),ih (b/2) (by omega)]
   have:b%2=0\/b%2=1:=by omega
   rcases this with h | h
   ·rw[h];simp
   ·rw[h];rw[if_pos rfl];exact Tw _ _ (by decide)
theorem zH:∀b a:Nat,cl a b=cl b a:=by
 intro b
 induction b using BN with
 | ind b ih =>
  intro a
  by_cases h:b=0
  ·subst h;rw[qw];rfl
  ·have e:b=2*(b/2)+b%2:=by omega
   have lt:b%2<2:=by omega
   have e':cl b a=cl (2*(b/2) ^^^ b%2) a:=by rw[Tw _ _ lt,<- e]
   rw[e',qv,G2,<- ih (b/2) (by omega) a]
   have e'':cl a b=cl a (2*(b/2)+b%2):=by rw[<-e]
   rw[e'',zG _ _ _ lt]
   have:b%2=0\/b%2=1:=by omega
   rcases this with h | h
   ·rw[h,qw];rfl
   ·rw[h,G3];rfl
theorem G4{a m:Nat}(h:a<2 ^ m)(b:Nat):∀k,P a b (k+1)<2 ^ (m+k)
 | 0=>by
  show 0 ^^^ _<_
  rw[p9,Nat.add_zero]
  by_cases t:b.testBit 0=true
  ·rw[if_pos t];simpa using h
  ·rw[if_neg t];exact yR m
 | k+1=>by
  show P a b (k+1) ^^^ _<_
  have i:=G4 h b k
  have p:2 ^ (m+k)<=2 ^ (m+(k+1)):=yS (by decide) (by omega)
  apply vQ (dA i p)
  by_cases t:b.testBit (k+1)=true
  ·rw[if_pos t,kN,Nat.pow_add 2 m]
   exact(db6 (yR _)).mpr h
  ·rw[if_neg t];exact yR _
theorem cQ6{a b m n:Nat}(h:a<2 ^ m)(h':b<2 ^ (n+1)):cl a b<2 ^ (m+n):=by
 rw[<-vP h'];exact G4 h b n
theorem cS2{a b:Nat}(ha:a≠0)(hb:b≠0):2 ^ (bl a-1+(bl b-1))<=cl a b:=by
 have e:bl b=(bl b-1)+1:=by have:=ir hb;omega
 have ta:=vO ha
 have tb:=vO hb
 apply Nat.ge_two_pow_of_testBit
 unfold cl
 rw[e]
 show(P a b (bl b-1) ^^^ _).testBit _=true
 have e2:bl b-1+1-1=bl b-1:=by omega
 rw[e2,nK,if_pos tb]
 have f:(P a b (bl b-1)).testBit (bl a-1+(bl b-1))=false:=by
  cases q:bl b-1 with
  | zero=>show Nat.testBit 0 _=false;exact Nat.zero_testBit _
  | succ k =>
   apply FD
   have l:=G4 (jx a) b k
   have p:=ir ha
   have e3:bl a-1+(k+1)=bl a+k:=by omega
   rw[e3];exact l
 rw[f,db7]
 have e4:bl a-1+(bl b-1)-(bl b-1)=bl a-1:=by omega
 rw[e4,ta]
 simp
theorem Tx{a b:Nat}(ha:a≠0)(hb:b≠0):bl (cl a b)=bl a+bl b-1:=by
 have p1:=ir ha
 have p2:=ir hb
 have h1:bl (cl a b)<=bl a+(bl b-1):=eY.mpr (cQ6 (jx a) (by
  have e:bl b-1+1=bl b:=by omega
  rw[e];exact jx b))
 have h2:=G1.mpr (cS2 ha hb)
 omega
theorem Tz(s b:Nat):cl (2 ^ s) b=b <<< s:=by
 induction s with
 | zero=>rw[Nat.pow_zero,G3];rfl
 | succ s ih =>
  rw[nJ,nI,G2,ih,kN,kN,nJ]
  rw[<-vq,nI 2,vq,nI 2,<- vq,vq]
theorem ch7{a q b r s:Nat}(h:a=cl q b ^^^ r):a=cl (q ^^^ 2 ^ s) b ^^^ (r ^^^ b <<< s):=by
 rw[qv,Tz,h,Tj]
theorem TB{b r:Nat}(hb:b≠0)(h:bl b<=bl r):bl (r ^^^ b <<< (bl r-bl b))<bl r:=by
 have p:=ir hb
 have hr:r≠0:=by
  intro z;rw[z,nX]at h;omega
 have:r ^^^ b <<< (bl r-bl b)<2 ^ (bl r-1):=by
  apply Ti
  ·have e:bl r-1+1=bl r:=by omega
   rw[e];exact jx r
  ·have e:bl r-1+1=bl b+(bl r-bl b):=by omega
   rw[e,kN,Nat.pow_add]
   exact(db6 (yR _)).mpr (jx b)
  ·exact vO hr
  ·rw[db7]
   have e:bl r-1-(bl r-bl b)=bl b-1:=by omega
   rw[e,vO hb]
   simp;omega
 have:=eY.mpr this
 omega
theorem bV8{x y z:Nat}(h:x ^^^ y=z):x=z ^^^ y:=by
 rw[<-h,s9,BO,mq]
theorem G5{x y:Nat}(h:x ^^^ y=0):x=y:=by
 have:=bV8 h
 rwa [p9]at this
theorem bW2{b q r q' r':Nat}(h:cl q b ^^^ r=cl q' b ^^^ r')(hr:bl r<bl b)(bg:bl r'<bl b):q=q'/\r=r':=by
 have hb:b≠0:=by intro z;rw[z,nX]at hr;omega
 have e:cl (q ^^^ q') b=r ^^^ r':=by
  rw[qv]
  have z:(cl q b ^^^ r) ^^^ (cl q' b ^^^ r')=0:=by rw[h,BO]
  rw[Tn]at z
  exact G5 z
 have lt:bl (r ^^^ r')<bl b:=by
  have h1:r<2 ^ (bl b-1):=eY.mp (by omega)
  have h2:r'<2 ^ (bl b-1):=eY.mp (by omega)
  have:=eY.mpr (vQ h1 h2)
  have:=ir hb
  omega
 have z:q ^^^ q'=0:=by
  apply FG
  intro hq
  have h1:=Tx hq hb
  have h2:=ir hq
  rw[e]at h1
  omega
 have zq:=G5 z
 subst zq
 rw[z,qw]at e
 exact⟨rfl,G5 e.symm⟩
end Mf
namespace Mf
open PySem PySem.Builtin.Int
theorem cD5(x y:Nat):(x ^^^ y)+2*(x &&& y)=x+y:=by
 induction x using BN generalizing y with
 | ind x ih =>
  by_cases h:x=0
  ·subst h;simp
  ·have h1:=ih (x/2) (by omega) (y/2)
   have e1:(x ^^^ y)/2=x/2 ^^^ y/2:=Nat.xor_div_two
   have e2:(x &&& y)/2=x/2 &&& y/2:=Nat.and_div_two
   have t:∀n:Nat,n%2=if n.testBit 0=true then 1 else 0:=by
    intro n
    rw[BM]
    by_cases h:n%2=1
    ·simp[h]
    ·simp[h];omega
   have m1:(x ^^^ y)%2=(x%2+y%2)%2:=by
    rw[t (x ^^^ y),t x,t y,nK]
    cases x.testBit 0<;>cases y.testBit 0<;>rfl
   have m2:(x &&& y)%2=x%2*(y%2):=by
    rw[t (x &&& y),t x,t y,RH]
    cases x.testBit 0<;>cases y.testBit 0<;>rfl
   have d1:=Nat.div_add_mod (x ^^^ y) 2
   have d2:=Nat.div_add_mod (x &&& y) 2
   rw[e1]at d1
   rw[e2]at d2
   have hx:x%2=0\/x%2=1:=by omega
   have hy:y%2=0\/y%2=1:=by omega
   rcases hx with hx | hx<;>rcases hy with hy | hy<;>rw[hx,hy]at m1 m2<;>omega
theorem TC{x y:Int}(hx:0<=x)(hy:0<=y):pZ x y=((x.toNat &&& y.toNat:Nat):Int):=by
 unfold pZ
 rw[decide_eq_true hx,decide_eq_true hy]
theorem co4{x y:Int}(hx:0<=x)(hy:0<=y):Builtin.bitOr x y=((x.toNat ||| y.toNat:Nat):Int):=by
 unfold Builtin.bitOr pZ Builtin.bitNot
 rw[decide_eq_false (by omega),decide_eq_false (by omega)]
 show-(-((((- (-x-1)-1).toNat ||| (-(-y-1)-1).toNat:Nat):Int))-1)-1=_
 have e1:(- (-x-1)-1).toNat=x.toNat:=by omega
 have e2:(- (-y-1)-1).toNat=y.toNat:=by omega
 rw[e1,e2]
 omega
theorem cM8(x y:Nat):(x ||| y)=(x ^^^ y)+(x &&& y):=by
 have d:(x ^^^ y) &&& (x &&& y)=0:=by
  apply BL;intro i
  simp only[nK,RH,Nat.zero_testBit]
  cases x.testBit i<;>cases y.testBit i<;>rfl
 have e:(x ||| y)=(x ^^^ y) ^^^ (x &&& y):=by
  apply BL;intro i
  simp only[nK,RH,Nat.testBit_or]
  cases x.testBit i<;>cases y.testBit i<;>rfl
 have h:=cD5 (x ^^^ y) (x &&& y)
 rw[d]at h
 rw[e];omega
theorem cc2{x y:Int}(hx:0<=x)(hy:0<=y):p5 x y=((x.toNat ^^^ y.toNat:Nat):Int):=by
 unfold p5
 rw[co4 hx hy,TC hx hy,cM8]
 omega
theorem nY(x y:Nat):p5 (x:Int) (y:Int)=((x ^^^ y:Nat):Int):=by
 rw[cc2 (by omega) (by omega)];rfl
theorem TF(x y:Nat):pZ (x:Int) (y:Int)=((x &&& y:Nat):Int):=by
 rw[TC (by omega) (by omega)];rfl
theorem vR(x k:Nat):(x:Int)*2 ^ ((k:Int)).toNat=((x <<< k:Nat):Int):=by
 rw[kN]
 simp
theorem cC7(x k:Nat):(x:Int)/2 ^ ((k:Int)).toNat=((x >>> k:Nat):Int):=by
 rw[db8]
 simp
theorem cA6(x k:Nat):((x >>> k) &&& 1=1)↔x.testBit k=true:=by
 rw[db4,db8]
 have:(x/2 ^ k) &&& 1=(x/2 ^ k)%2:=Nat.and_two_pow_sub_one_eq_mod _ 1
 rw[this]
 simp
end Mf
namespace Mf
end Mf
namespace Mf
theorem TH(a b:Nat):∀c,cl (cl a b) c=cl a (cl b c):=by
 intro c
 induction c using BN with
 | ind c ih =>
  by_cases h:c=0
  ·subst h;rfl
  ·have e:c=2*(c/2)+c%2:=by omega
   have lt:c%2<2:=by omega
   have i:=ih (c/2) (by omega)
   rw[e,zG _ _ _ lt,zG _ _ _ lt,i,bM3,cM1]
   have:c%2=0\/c%2=1:=by omega
   rcases this with h | h
   ·rw[h];rfl
   ·rw[h];rfl
def vS:Nat->Nat->Nat->Nat
 | 0,a,_=>a
 | n+1,a,b=>if bl a<bl b then a else vS n (a ^^^ b <<< (bl a-bl b)) b
def md(a b:Nat):Nat:=vS (bl a+1) a b
theorem TJ{b:Nat}(hb:b≠0):∀n a,bl a<n->(∃q,a=cl q b ^^^ vS n a b)/\bl (vS n a b)<bl b
 | 0,_,h=>absurd h (by omega)
 | n+1,a,h=>by
  unfold vS
  by_cases l:bl a<bl b
  ·rw[if_pos l]
   exact⟨⟨0,by rw[qw,p9]⟩,l⟩
  ·rw[if_neg l]
   have less:=TB hb (show bl b<=bl a by omega)
   obtain⟨⟨q,e⟩,l2⟩:=TJ hb n (a ^^^ b <<< (bl a-bl b)) (by omega)
   refine⟨⟨q ^^^ 2 ^ (bl a-bl b),?_⟩,l2⟩
   rw[qv,Tz]
   have e2:a=(a ^^^ b <<< (bl a-bl b)) ^^^ b <<< (bl a-bl b):=by rw[s9,BO,mq]
   rw[e]at e2
   refine e2.trans ?_
   generalize vS n _ b=r
   rw[s9,RG r,<- s9]
theorem zI{b:Nat}(hb:b≠0)(a:Nat):(∃q,a=cl q b ^^^ md a b)/\bl (md a b)<bl b:=TJ hb _ a (by omega)
theorem zJ{a b q r:Nat}(h:a=cl q b ^^^ r)(hr:bl r<bl b):md a b=r:=by
 have hb:b≠0:=by intro z;rw[z,nX]at hr;omega
 obtain⟨⟨q',e⟩,l⟩:=zI hb a
 exact(bW2 (e.symm.trans h) l hr).2
theorem cS1(q:Nat){b:Nat}(hb:b≠0):md (cl q b) b=0 :=
 zJ (q:=q) (by rw[mq]) (by rw[nX];exact ir hb)
end Mf
namespace Mf
theorem cE7(y:Nat):bl (y/2)=bl y-1:=by
 by_cases h:y=0
 ·subst h;rfl
 ·have p:=ir h
  have h1:bl (y/2)<=bl y-1:=eY.mpr (Tt (by
   have e:bl y-1+1=bl y:=by omega
   rw[e];exact jx y))
  have h2:bl y<=bl (y/2)+1:=eY.mpr (by
   have:=jx (y/2)
   rw[nJ];omega)
  omega
theorem cL7(x:Nat):bl (2*x)<=bl x+1:=eY.mpr (by
 have:=jx x
 rw[nJ];omega)
theorem G6{x y:Nat}(h:x<=y):bl x<=bl y:=eY.mpr (nL h (jx y))
end Mf
namespace Mf
def al(a:Nat):Bool:=decide (2<=a)&&(aZ (2 ^ ((bl a-1)/2+1)-2)).all λi=>md a (2+i) != 0
theorem ck6{a:Nat}(h:a<2):al a=false:=by
 unfold al;rw[decide_eq_false (by omega)];rfl
theorem cC4{a:Nat}(h:2<=a)(k:∀i,i<2 ^ ((bl a-1)/2+1)-2->md a (2+i)≠0):al a=true:=by
 unfold al
 rw[decide_eq_true h,kg,dv]
 intro i hi
 have:=k i (cS.mp hi)
 simpa using this
theorem cm5{a i:Nat}(k:i<2 ^ ((bl a-1)/2+1)-2)(z:md a (2+i)=0):al a=false:=by
 unfold al
 rw[Bool.and_eq_false_iff]
 right
 rw[List.all_eq_false]
 exact⟨i,cS.mpr k,by simp[z]⟩
theorem cp2{a:Nat}(h:2<=a){b:Nat}(hb:b<2 ^ ((bl a-1)/2+1)):b<a/\2*bl b<=bl a+1:=by
 have h2:2<=bl a:=by
  have:=G1.mpr (show 2 ^ 1<=a by omega)
  omega
 have l:=eY.mpr hb
 refine⟨dA hb (eG (yS (by decide) ?_) (Th (by omega))),by omega⟩
 omega
end Mf
namespace L2
open PySem PySem.Spec PyProof.Rows Mf
theorem fQ:bootBuiltins "len"=some (.builtin "len"):=by decide +kernel
theorem bF3:bootBuiltins "isinstance"=some (.builtin "isinstance"):=by decide +kernel
theorem cH8:bootBuiltins "min"=some (.builtin "min"):=by decide +kernel
theorem Cn:bootBuiltins "all"=some (.builtin "all"):=by decide +kernel
theorem TK:bootBuiltins "any"=some (.builtin "any"):=by decide +kernel
theorem cJ1:bootBuiltins "sum"=some (.builtin "sum"):=by decide +kernel
theorem cK0:bootBuiltins "int"=some (.type "int"):=by decide +kernel
theorem cB6:bootBuiltins "bool"=some (.type "bool"):=by decide +kernel
theorem qy:bootBuiltins "list"=some (.type "list"):=by decide +kernel
section
variable{X:Cx}{a b o:Expr}{ta tb to:TE}{pos apos cj:Pos}
theorem TL(i:Int):Builtin.Int.intBits i=bl i.natAbs:=by
 unfold Builtin.Int.intBits bl
 by_cases h:i=0
 ·subst h;rfl
 ·have h':¬ i.natAbs=0:=by omega
  rw[if_neg h',if_neg (by simpa using h)]
def TM:V->List V->Hp->VK->Prop:=λx vs H Q=>∃i,x=.int i/\vs=[]/\Q (.int (bl i.natAbs:Nat)) H
theorem bZ2:Ck X "int.bit_length" TM:=by
 intro pins s σ H x xs v us Q I rx rs h
 obtain⟨i,rfl,rfl,q⟩:=h
 obtain⟨t,rfl⟩:=rx
 cases rs
 refine call_int_bit_length ?_
 rw[TL]
 exact⟨.int _,H,I.tok _,⟨_,rfl⟩,q⟩
theorem G7(ho:PE X o to)(kW:attributeBase o "bit_length" X.env (eval o X.env)=eval o X.env:=by rfl)(kX:(apos.endLine==cj.line)=true:=by rfl) :
  PE X (.Call (.Attribute o "bit_length" apos) [] [] cj) (S5 X.K "int" TM to) :=
 S6 PySem.F.plainAttrs_int PySem.F.slot_int_bit_length PySem.F.type_int_bit_length bZ2 ho kW kX
def TN(i j:Int):Prop:=0<=j/\((bl i.natAbs:Nat):Int)+j<=134217728
theorem TQ:cK X (binaryOp .LShift) (rI TN λi j=>.int (i*2 ^ j.toNat)):=zw λi j _ _ _ _ _ hc q =>
 lshift_int hc.1 (by rw[TL];exact Int.le_trans hc.2 (by decide)) q
theorem cW4{x:Str}{n:String}(hg:Gl X x)(hm:X.mg x=none)(hv:bootBuiltins x=some (.type n))(hn:x≠"__name__":=by decide)(hd:(x==("__debug__":Str))=false:=by decide):PE X (.Name x pos) (tC (.ty n)) :=
 cA0 hg hm hv rfl hn hd
def cY2(K:PySem.W.Frag):List V->Hp->VK->Prop:=λxs H Q=>∃x n t b,xs=[x,.ty n]/\iN K H x t/\PySem.W.kitOne K t (.type n)=some b/\Q (.bl b) H
theorem by7:gZ X (.builtin "isinstance") (cY2 X.K):=by
 intro pins s σ H xs us Q I r h
 obtain⟨x,n,t,b,rfl,ty,e,q⟩:=h
 obtain⟨u,v,rfl,ru,rv⟩:=r.two
 cases(show v=Value.type n from rv)
 exact cc9 I ru ty e λtk=>⟨.bl b,H,I.tok _,rfl,q⟩
end
theorem cA4(b i:Nat):decide (V.int (pZ ((b:Int)/2 ^ ((0:Int)+(i:Int)).toNat) 1)=V.int 1)=b.testBit i:=by
 have e:((0:Int)+(i:Int)).toNat=((i:Int)).toNat:=by omega
 rw[e,cC7,show(1:Int)=((1:Nat):Int) from rfl,TF,tf,decide_eq_true_iff,<- cA6]
 constructor
 ·intro h;injection h with h;omega
 ·intro h;rw[h]
theorem ci2{a b i:Nat}(h:b.testBit i=true):p5 ((P a b i:Nat):Int) ((a:Int)*2 ^ ((0:Int)+(i:Int)).toNat)=((P a b (i+1):Nat):Int):=by
 have e:((0:Int)+(i:Int)).toNat=((i:Int)).toNat:=by omega
 rw[e,vR,nY]
 show _=((P a b i ^^^ (if b.testBit i then a <<< i else 0):Nat):Int)
 rw[if_pos h]
theorem bW4{a b i:Nat}(h:¬ b.testBit i=true):P a b (i+1)=P a b i:=by
 show P a b i ^^^ (if b.testBit i then a <<< i else 0)=_
 rw[if_neg h,mq]
theorem dI{i j:Int}:decide (V.int i=V.int j)=true↔i=j:=by
 rw[decide_eq_true_iff]
 exact⟨λh=>by injection h,λh=>by rw[h]⟩
end L2
namespace L2
open PySem PySem.Spec PyProof.Rows
section
variable{X:Cx}
end
end L2
namespace L2
open PySem PySem.Spec PyProof.Rows
def Co(X:Cx)(scope:Scope)(N:List Str)(cl:List (Str × Addr))(C:Addr)(s:Shared)(H:Hp)(fp:List Addr):Cx where
 prog:=X.prog
 w:=X.w
 K:=X.K
 mg:=X.mg
 base:=X.base
 A:=X.A
 N:=N
 cV:=s
 kP:=H
 env:=compEnvC scope cl C X.env
 outer:=X.stack
 stack:=X.stack
 ex:=fp
 fn:=λ_=>false
 calm:=X.calm
 pn:=[]
 xe:=λ_ _=>False
def nZ(X:Cx)(scope:Scope)(cl:List (Str × Addr)):List (Str × Nat)->Prop
 | []=>True
 | (y,i)::r=>(X.N[i]?=some y/\(X.env.scope.names.lookup y=some .cell\/X.env.scope.names.lookup y=some .free)/\((relabel scope X.env).names.lookup y=some .cell\/(relabel scope X.env).names.lookup y=some .free)/\∃c,cl.lookup y=some c/\X.env.cells.lookup y=some c)/\nZ X scope cl r
theorem nZ.at{X:Cx}{scope:Scope}{cl:List (Str × Addr)}:∀{aH:List (Str × Nat)},nZ X scope cl aH->∀p∈aH,X.N[p.2]?=some p.1/\(X.env.scope.names.lookup p.1=some .cell\/X.env.scope.names.lookup p.1=some .free)/\((relabel scope X.env).names.lookup p.1=some .cell\/(relabel scope X.env).names.lookup p.1=some .free)/\∃c,cl.lookup p.1=some c/\X.env.cells.lookup p.1=some c
 | [],_,p,hp=>absurd hp (by simp)
 | (y,i)::r,h,p,hp=>by
  rcases cA.mp hp with e | e
  ·subst e;exact h.1
  ·exact nZ.at h.2 p e
def n5(Y:Cx)(ifs:List Expr)(t:TT):Prop :=
 ∀(pins:List (Addr × Obj)) (s:Shared) (σ:St) (H:Hp) (Q:Bool->Hp->Prop),Inv Y pins σ H s->t σ H Q ->
  wpAny (model Y.prog Y.w) Y.A (forIn ifs true λc r=>if r=true then do let ok<-isTrue c Y.env (eval c Y.env);pure (FH ok)else pure (FH r)) (TP Y pins σ Q) Y.xe s
def cZ3:TT:=λ_ H Q=>Q true H
theorem cA8{Y:Cx}:n5 Y [] cZ3:=λ_ _ _ H _ I h=>wpAny_tests_nil ⟨H,I,h⟩
theorem cA2{Y:Cx}{c:Expr}{t:TT}(h:PT Y c t):n5 Y [c] t:=λpins s σ H Q I q=>wpAny_tests_one (h pins s σ H Q I q)
section
variable{X:Cx}{elt iter:Expr}{x:Str}{px pos:Pos}{ifs:List Expr}{scope:Scope}{cl:List (Str × Addr)}{aH:List (Str × Nat)}{wi:TI}{tt:TT}{te:TE}
end
section
variable{prog:Program}{w:World}{A:Around}{R:Result->Shared->Prop}{s:Shared}
theorem bL3{elt target iter:Expr}{ifs:List Expr}{scope:Scope}{pos:Pos}{it acc:Value}{env:Env}(Iv:Nat->Shared->Prop)
  (turn:∀n s,Iv n s->wpAny (model prog w) A (pyNext it) (λr s1=>match r with
   | none=>R (.ok .next) s1
   | some v=>wpAny (model prog w) A (letOwnedTupleGo target it v) (λ_ t1=>wpAny (model prog w) A (assign target env v) (λ_ s2 =>
     wpAny (model prog w) A (forIn ifs true λc r=>if r=true then do let ok<-isTrue c env (eval c env);pure (FH ok)else pure (FH r)) (λok s3 =>
      if ok=true then wpAny (model prog w) A (eval elt env) (λy s4=>wpAny (model prog w) A (call (.builtin "list.append") [acc,y]) (λ_ s5=>∃m,m<n/\Iv m s5) (λ_ _=>False) s4) (λ_ _=>False) s3
      else ∃m,m<n/\Iv m s3) (λ_ _=>False) s2) (λ_ _=>False) t1) (λ_ _=>False) s1) (λ_ _=>False) s)
  (n:Nat) (h:Iv n s):codeAny (model prog w) A (.compLoop (.ListComp elt [⟨target,iter,ifs,0⟩] scope pos) 0 it acc env) R s:=by
 refine codeAny_loop rfl Iv (λn s hI=>?_) n h
 change wpAny _ A (Sem.onRaise (compTurn (.ListComp elt [⟨target,iter,ifs,0⟩] scope pos) 0 it acc env) λx=>do noteFrame x env;theTreesLotGoes x) _ _ s
 refine wpAny_noted (wpAny_mono (E:=λ_ _=>False) ?_ (λ_ _ q=>q) λ_ _ z=>z.elim)
 rw[compTurn_list]
 refine wpAny_bind (wpAny_standAt (wpAny_bind (bc (turn n s hI) λr s1 h1=>?_)))
 cases r with
 | none=>exact wpAny_pure h1
 | some v =>
  refine wpAny_bind (bc h1 λ_ t1 k1=>wpAny_bind (bc k1 λ_ s2 h2=>wpAny_bind (bc h2 λok s3 h3=>?_)))
  cases ok with
  | false=>exact wpAny_pure ⟨rfl,h3⟩
  | true=>exact wpAny_bind (wpAny_bind (bc h3 λy s4 h4=>wpAny_bind (bc h4 λ_ s5 h5=>wpAny_pure (wpAny_pure ⟨rfl,h5⟩))))
end
section
variable{X:Cx}{elt iter:Expr}{x:Str}{px pos:Pos}{ifs:List Expr}{scope:Scope}{cl:List (Str × Addr)}{aH:List (Str × Nat)}{wi:TI}{tt:TT}{te:TE}
end
end L2
namespace L2
open PySem PySem.Spec PyProof.Rows
section
variable{X:Cx}
theorem ch9{bs:List Bool}{us:List Value}(r:Vals (bs.map V.bl) us):bs.length=us.length/\∀(i:Nat) (v:Value),us[i]?=some v->∃b,bs[i]?=some b/\v=.bool b:=by
 have l:=r.length
 rw[br]at l
 refine⟨l,λi v e=>?_⟩
 have hi:i<us.length:=(ji.mp e).1
 have hb:i<bs.length:=by omega
 obtain⟨u,e2,q⟩:=r.get (i:=i) (x:=V.bl bs[i]) (by rw[bP,aJ hb];rfl)
 rw[e]at e2
 cases e2
 exact⟨bs[i],aJ hb,q⟩
theorem G8{s:Shared}{h':Heap}{o:Obj}(hk:∀b x,b ∉ [s.heap.objs.size]->(s.heap.push o).get? b=some x->h'.get? b=some x)(b:Addr)(x:Obj)(e:s.heap.get? b=some x):h'.get? b=some x :=
 hk b x (λhm=>fM _ (by have:=bU e;rw[dW.mp hm]at this;exact this)) (fN _ e)
theorem cg1(bs:List Bool):((aZ bs.length).all λi=>(bs[i]?).getD true)=bs.all id:=by
 rw[tf,dv,dv]
 constructor
 ·intro h b hb
  obtain⟨i,hi,rfl⟩:=gx hb
  have:=h i (cS.mpr hi)
  rwa [aJ hi]at this
 ·intro h i hi
  have iu:=cS.mp hi
  rw[aJ iu]
  exact h _ (cB iu)
theorem cn2(bs:List Bool):((aZ bs.length).any λi=>(bs[i]?).getD false)=bs.any id:=by
 rw[tf,FI,FI]
 constructor
 ·rintro⟨i,hi,h⟩
  have iu:=cS.mp hi
  rw[aJ iu]at h
  exact⟨_,cB iu,h⟩
 ·rintro⟨b,hb,h⟩
  obtain⟨i,hi,rfl⟩:=gx hb
  exact⟨i,cS.mpr hi,by rw[aJ hi];exact h⟩
theorem ck1(hc:X.calm=true):gZ X (.builtin "all") (λxs H Q=>∃(p:Addr) (bs:List Bool),xs=[.ref p]/\bQ X.K H p (bs.map V.bl)/\Q (.bl (bs.all id)) H):=by
 intro pins s σ H xs us Q I r h
 obtain⟨p,bs,rfl,hS,q⟩:=h
 obtain⟨u,rfl,ru⟩:=r.one
 cases ru
 obtain⟨its,rv,pl,hz⟩:=I.list hS
 obtain⟨hlen,G9⟩:=ch9 rv
 have hl:=pl.isList
 have gC:p<s.heap.objs.size:=by obtain⟨_,e,_⟩:=hl;exact bU e
 refine call_all_walk (wpAny_pyIter_list hl ?_)
 refine⟨s.heap.objs.size,[s.heap.objs.size,p],[s.heap.objs.size],its.toArray.size,_,_,λi=>(bs[i]?).getD true,rfl,Walks.list (A:=X.A.in1) (I.ok.hd hc) _ p (ft gC) its.toArray,
  ⟨⟨_,gQ _ rfl,rfl,rfl⟩,hl.push _⟩,λi v s' Q' E' hP hQ=>?_,λh' tk hk=>?_⟩
 ·obtain⟨b,e,rfl⟩:=G9 i v (by simpa using hP)
  simp only[e,qa]at hQ
  exact wpAny_truthy_bool hQ
 ·have e:((aZ its.toArray.size).all λi=>(bs[i]?).getD true)=bs.all id:=by
   rw[dO,<- hlen];exact cg1 bs
  rw[e]
  exact⟨.bl _,H,I.kept (h':=h') (t':=tk) (G8 hk),rfl,q⟩
end
def n6(X:Cx):List (Str × Addr)->Prop
 | []=>True
 | (y,c)::r=>X.env.cells.lookup y=some c/\n6 X r
theorem n6.all{X:Cx}:∀{cl:List (Str × Addr)},n6 X cl->∀y c,cl.lookup y=some c->X.env.cells.lookup y=some c
 | [],_,y,c,h=>by simp at h
 | (z,d)::r,h,y,c,e=>by
  rw[gG]at e
  cases q:y==z with
  | true =>
   rw[q]at e
   cases e
   rw[eq_of_beq q]
   exact h.1
  | false =>
   rw[q]at e
   exact n6.all h.2 y c e
def n8(cl:List (Str × Addr)):List (Str × NameKind)->Prop
 | []=>True
 | (y,k)::r=>(k=.local\/k=.globalImplicit\/∃c,cl.lookup y=some c)/\n8 cl r
theorem n8.all{cl:List (Str × Addr)}:∀{ns:List (Str × NameKind)},n8 cl ns->∀y,(ns.lookup y=some .cell\/ns.lookup y=some .free)->∃c,cl.lookup y=some c
 | [],_,y,h=>by simp at h
 | (z,k)::r,h,y,e=>by
  rw[gG]at e
  cases q:y==z with
  | true =>
   rw[q]at e
   rw[eq_of_beq q]
   rcases h.1 with g | g | g
   ·rw[g]at e;rcases e with e | e<;>cases e
   ·rw[g]at e;rcases e with e | e<;>cases e
   ·exact g
  | false =>
   rw[q]at e
   exact n8.all h.2 y e
section
variable{X:Cx}{elt iter:Expr}{x:Str}{px pos:Pos}{ifs:List Expr}{scope:Scope}{cl:List (Str × Addr)}{wi:TI}{tt:TT}{te:TE}
end
end L2
namespace L2
open PySem PySem.Spec PyProof.Rows Mf
end L2
namespace L2
end L2
namespace L2
open PySem PySem.Spec PyProof.Rows
def ix(aH:List (Str × Nat))(n:Nat)(σ:L2.St):St:=(aH.map λp=>(σ[p.2]?).getD none)++bF n none
def TR(J:It)(aH:List (Str × Nat))(n:Nat)(g:TG)(tt:TT)(te:TE)(σ:L2.St)(H1:Hp)(Q:VK):Prop:=∀D,H1 D=none->∃W:Nat->Nat->List V->Hp->Prop,(∃m,W 0 m [] (upd H1 D (.lst []))) /\
 ∀i m acc H2,W i m acc H2->H2 D=some (.lst acc)/\((J.stop i H2/\Q (.ref D) H2)\/(J.go i H2/\∀x H3,J.ku i H2 x H3->H3 D=some (.lst acc)/\g x (ix aH n σ) H3 λgY H4 =>
  (gY.length=(ix aH n σ).length/\∀j,j<aH.length->gY[j]?=(ix aH n σ)[j]?)/\tt gY H4 λb H5=>H5 D=some (.lst acc) /\
  if b=true then te gY H5 λy H6=>H6 D=some (.lst acc)/\acc.length<sizeLine/\∃m',m'<m/\W (i+1) m' (acc++[y]) (upd H6 D (.lst (acc++[y])))else ∃m',m'<m/\W (i+1) m' acc H5))
def Cp(wi:TI)(aH:List (Str × Nat))(n:Nat)(g:TG)(tt:TT)(te:TE):TE:=λσ H Q=>wi σ H λJ H1=>TR J aH n g tt te σ H1 Q
section
variable{X:Cx}{elt iter tg:Expr}{pos:Pos}{ifs:List Expr}{scope:Scope}{cl:List (Str × Addr)}{wi:TI}{tt:TT}{te:TE}{g:TG}
end
end L2
namespace L2
open PySem PySem.Spec PyProof.Rows
section
variable{X:Cx}{tg:Expr}
end
end L2
namespace L2
open PySem PySem.Spec PyProof.Rows
def Ha(h:Heap)(a T:Addr)(cls fl:Value):Prop :=
 ∃oe vs oT ts,h.get? a=some oe/\oe.cls=cls/\oe.dict=none/\oe.data=.fields vs/\vs[1]?=some (.ref T)/\T≠a/\h.get? T=some oT/\oT.data=.fields ts/\ts[3]?=some fl
abbrev tY(h:Heap)(a T:Addr)(cls:Value):Prop:=Ha h a T cls .none
theorem bA7(o:Obj)(f:Array Value->Array Value):(o.mapFields f).dict=o.dict:=by
 obtain⟨c,d,dt,sl⟩:=o
 cases dt<;>rfl
section
variable{M:Model}{A:Around}{E:Value->Shared->Prop}{s:Shared}{base:Heap}{env:Env}{outer:List Env}{L a T:Addr}{cls:Value}{oe:Obj}{vs:Array Value}{Q:Unit->Shared->Prop}
structure Ent(fs:List Addr)(h h':Heap)(a T:Addr)(oe:Obj)(L:Addr):Prop where
 new:h.get? T=none
 ne:T≠a
 keep:∀b o,b≠a->b ∉ fs->h.get? b=some o->h'.get? b=some o
 slot:∀b o,b≠a->h.get? b=some o->∃sl,h'.get? b=some { o with slots:=sl }
 exc:h'.get? a=some (oe.mapFields λz=>z.setIfInBounds 1 (.ref T))
 ent:∃oT ts,h'.get? T=some oT/\oT.data=.fields ts/\ts[3]?=some (rawInt L)
theorem TU{head:Value}{dA9:Bool}(eZ:A.frames=some (env::outer))(hl:s.heap.FunFrames base (env::outer))(hf:env.frame=some L)(he:s.heap.get? a=some oe)(hd:oe.data=.fields vs)(mG:1<vs.size)
  (na:a ∉ (env::outer).filterMap (·.frame)) (k:∀h' T',Ent ((env::outer).filterMap (·.frame)) s.heap h' a T' oe L->Q () { s with heap:=h' }) :
  wpAny M A (do let x<-frameOf env;let pl<-entryPlaceOf L dA9;let b<-EntryCells.newEntry head x .none (rawInt L) .none pl;setField (.ref a) 1 b) Q E s:=by
 refine wpAny_bind (wpAny_frameOf_fun eZ hl hf λg1 so=>wpAny_bind (wpAny_entryPlaceOf λpl ip=>?_))
 unfold EntryCells.newEntry newFields
 have e1:g1.get? a=some oe:=(so.2.1 a na).trans he
 refine wpAny_bind (wpAny_newObj_type ?_ (ip.sizeOk5 _ _ _ _ _))
 generalize TV:({ cls:=.type "traceback",dict:=none,data:=.fields ([head,fL L,.none,rawInt L,.none]++(if pl.isEmpty then bF 6 sS else pl)).toArray }:Obj)=te
 have e2:(g1.push te).get? a=some oe:=fN te e1
 have hda:te.data=.fields ([head,fL L,.none,rawInt L,.none]++(if pl.isEmpty then bF 6 sS else pl)).toArray:=by rw[<-TV]
 have nf:te.isFreed=false:=by rw[<-TV];rfl
 refine wpAny_setField e2 hd mG ?_
 have d3:=FJ hd λz=>z.setIfInBounds 1 (fL g1.objs.size)
 have nT:g1.objs.size≠a:=RA (bU e1)
 refine k _ g1.objs.size ⟨?_,nT,λb o hb hz q=>?_,λb o hb q=>?_,Fy _ e2 (RI d3),⟨te,_,?_,hda,?_⟩⟩
 ·cases q:s.heap.get? g1.objs.size with
  | none=>rfl
  | some o=>obtain⟨sl,z⟩:=so.2.2 _ _ q;exact absurd (bU z) (fM _)
 ·rw[sY _ _ (fA hb)]
  exact fN te ((so.2.1 b hz).trans q)
 ·obtain⟨sl,z⟩:=so.2.2 b o q
  refine⟨sl,?_⟩
  rw[sY _ _ (fA hb)]
  exact fN te z
 ·rw[sY _ _ (fA nT)]
  exact gQ g1 nf
 ·first | (simp;done) | (rcases ip with rfl | ⟨_,_,_,_,_,_,_,rfl⟩<;>simp)
structure TX(fs Z:List Addr)(h h':Heap)(a T:Addr)(cls:Value):Prop where
 new:h.get? T=none
 keep:∀b o,b ∉ Z->b ∉ fs->h.get? b=some o->h'.get? b=some o
 slot:∀b o,b ∉ Z->h.get? b=some o->∃sl,h'.get? b=some { o with slots:=sl }
 zK:tY h' a T cls
theorem TY{fl:Value}(tr:Ha s.heap a T cls fl)(k:∀h',(∀b o,b≠T->s.heap.get? b=some o->h'.get? b=some o)->tY h' a T cls->Q () { s with heap:=h' }):wpAny M A (setFlight (.ref a) none) Q E s:=by
 obtain⟨oe,vs,oT,ts,h1,h2,h3,h4,h5,h6,h7,h8,h9⟩:=tr
 have sz:3<ts.size:=(RJ.mp h9).1
 unfold setFlight
 refine wpAny_bind (wpAny_field h1 h4 h5 ?_)
 rw[if_pos (by simp)]
 refine wpAny_setField h7 h8 sz (k _ (λb o hb q=>(sY _ _ (fA hb)).trans q) ?_)
 have d:=FJ h8 λz=>z.setIfInBounds 3 ((none:Option Addr).elim sS λf=>rawInt f)
 exact⟨oe,vs,_,_,(sY _ _ h6).trans h1,h2,h3,h4,h5,h6,Fy _ h7 (RI d),d,by simp[sz]⟩
theorem Ent.fin{fs:List Addr}{h h':Heap}{a T L:Addr}{oe:Obj}{vs:Array Value}(e:Ent fs h h' a T oe L)(hd:oe.data=.fields vs)(mG:1<vs.size)(hdi:oe.dict=none):Ha h' a T oe.cls (rawInt L):=by
 obtain⟨oT,ts,e1,e2,e3⟩:=e.ent
 exact⟨_,_,oT,ts,e.exc,Obj.cls_mapFields _ _,by rw[bA7];exact hdi,FJ hd _,by simp[mG],e.ne,e1,e2,e3⟩
theorem bP6(eZ:A.frames=some (env::outer))(hl:s.heap.FunFrames base (env::outer))(hf:env.frame=some L)(na:a ∉ (env::outer).filterMap (·.frame))(tr:tY s.heap a T cls)
  (k:∀h' T',TX ((env::outer).filterMap (·.frame)) [a,T] s.heap h' a T' cls->Q () { s with heap:=h' }):wpAny M A (noteFrame (.ref a) env) (λ_ kS=>wpAny M A (setFlight (.ref a) none) Q E kS) E s:=by
 obtain⟨oe,vs,oT,ts,h1,h2,h3,h4,h5,h6,h7,h8,h9⟩:=tr
 have s1:1<vs.size:=(RJ.mp h5).1
 have s3:3<ts.size:=(RJ.mp h9).1
 unfold noteFrame
 simp only[hf]
 refine wpAny_bind (wpAny_field h1 h4 h5 ?_)
 rw[if_pos (by simp)]
 refine wpAny_bind (wpAny_field h7 h8 h9 ?_)
 rw[if_neg (by simp[rawInt])]
 refine wpAny_bind (wpAny_setField h7 h8 s3 ?_)
 generalize hg:s.heap.update T (Obj.mapFields λz=>z.setIfInBounds 3 sS)=g
 have cM:∀b,b≠T->g.get? b=s.heap.get? b:=λb hb=>by rw[<-hg];exact sY _ _ (fA hb)
 have bT:∀b o,s.heap.get? b=some o->(∀ws,o.data≠.fields ws)->b≠T:=λb o q hn z=>by subst z;rw[h7]at q;cases q;exact hn ts h8
 have gT:∃oT',g.get? T=some oT':=⟨_,by rw[<-hg];exact Fy _ h7 (RI (FJ h8 _))⟩
 refine TU (s:={ s with heap:=g }) eZ (hl.of_keeps λb o q hn=>⟨o,(cM b (bT b o q hn)).trans q,rfl⟩) hf ((cM a (fA h6)).trans h1) h4 s1 na λh' T' en=>?_
 have nT':T'≠T:=λz=>by subst z;obtain⟨o,q⟩:=gT;rw[en.new]at q;cases q
 refine TY (s:={ s with heap:=h' }) (h2 ▸ en.fin h4 s1 h3) λHb kp Hc=>?_
 refine k Hb T' ⟨(cM T' nT').symm.trans en.new,λb o hz hb q=>?_,λb o hz q=>?_,Hc⟩
 ·have z1:b≠a:=λz=>hz (by simp[z])
  have z2:b≠T:=λz=>hz (by simp[z])
  have z3:b≠T':=λz=>by have:=en.new;rw[<-z,cM b z2,q]at this;cases this
  exact kp b o z3 (en.keep b o z1 hb ((cM b z2).trans q))
 ·have z1:b≠a:=λz=>hz (by simp[z])
  have z2:b≠T:=λz=>hz (by simp[z])
  have z3:b≠T':=λz=>by have:=en.new;rw[<-z,cM b z2,q]at this;cases this
  obtain⟨sl,r⟩:=en.slot b o z1 ((cM b z2).trans q)
  exact⟨sl,kp b _ z3 r⟩
theorem bO4{h1:Heap}{args:List Value}(eZ:A.frames=some (env::outer))(hl:s.heap.FunFrames base (env::outer))(hf:env.frame=some L)(hx:RK s.heap h1 a cls args)
  (k:∀h' T',TX ((env::outer).filterMap (·.frame)) [] s.heap h' a T' cls->Q () { s with heap:=h' }):wpAny M A (noteFrame (.ref a) env) (λ_ kS=>wpAny M A (setFlight (.ref a) none) Q E kS) E { s with heap:=h1 }:=by
 obtain⟨t,e1,_,_⟩:=hx.there
 have na:a ∉ (env::outer).filterMap (·.frame):=λhb=>by obtain⟨_,o,ho,_⟩:=hl.mem hb;rw[hx.new]at ho;cases ho
 unfold noteFrame
 simp only[hf]
 refine wpAny_bind (wpAny_field (s:={ s with heap:=h1 }) e1 rfl (x:=.none) (by rfl) ?_)
 rw[if_neg (by decide)]
 refine TU (s:={ s with heap:=h1 }) eZ (hl.of_keeps λb o q _=>⟨o,hx.keeps b o q,rfl⟩) hf e1 rfl (by simp) na λh' T' en=>?_
 refine TY (s:={ s with heap:=h' }) (en.fin rfl (by simp) rfl) λHb kp Hc=>?_
 have ba:∀b o,s.heap.get? b=some o->b≠a:=λb o q z=>by rw[z,hx.new]at q;cases q
 have bT:∀b o,s.heap.get? b=some o->b≠T':=λb o q z=>by have:=hx.keeps b o q;rw[z,en.new]at this;cases this
 refine k Hb T' ⟨?_,λb o _ hb q=>kp b o (bT b o q) (en.keep b o (ba b o q) hb (hx.keeps b o q)),λb o _ q=>?_,Hc⟩
 ·cases q:s.heap.get? T' with
  | none=>rfl
  | some o=>exact absurd rfl (bT T' o q)
 ·obtain⟨sl,r⟩:=en.slot b o (ba b o q) (hx.keeps b o q)
  exact⟨sl,kp b _ (bT b o q) r⟩
end
end L2
namespace L2
open PySem PySem.Spec PyProof.Rows
theorem eH.there{P:Program}{w:World}{H:Hp}{h:Heap}{a:Addr}{o:HO}(x:eH P w H h a o):∃u,h.get? a=some u:=by
 cases o with
 | lst xs=>obtain⟨_,_,_,_,e⟩:=x;exact⟨_,e⟩
 | tup xs=>obtain⟨_,_,_,o,e,_⟩:=x;exact⟨o,e⟩
 | dK dP=>obtain⟨_,_,_,_,o,_,_,e,_⟩:=x;exact⟨_,e⟩
 | dT dP=>obtain⟨_,_,_,_,o,_,_,e,_⟩:=x;exact⟨_,e⟩
 | set S n=>obtain⟨o,_,_,_,e,_⟩:=x;exact⟨_,e⟩
 | ins C dx fs=>obtain⟨_,_,_,e,_⟩:=x;exact⟨_,e⟩
 | own y=>exact x
 | xd fs=>obtain⟨_,⟨_,_,_,e,_⟩,_⟩:=x;exact⟨_,e⟩
 | y9 lo hi=>obtain⟨_,_,_,e⟩:=x;exact⟨_,e⟩
 | cq ob u=>obtain⟨e,_⟩:=x;exact⟨_,e⟩
 | dM ps=>exact⟨_,show h.get? a=some _ from x.1⟩
 | met f y=>exact⟨_,show h.get? a=some _ from x⟩
 | ext φ=>obtain⟨_,e,_⟩:=x;exact e
theorem cU.none{P:Program}{w:World}{H:Hp}{h:Heap}{a:Addr}(x:cU P w H h)(e:h.get? a=.none):H a=.none:=by
 cases q:H a with
 | none=>rfl
 | some u=>obtain⟨o,z⟩:=(x a u q).there;rw[e]at z;cases z
structure Apart(X:Cx)(pins:List (Addr × Obj))(H:Hp)(b:Addr):Prop where
 old:X.cV.heap.get? b=none
 free:H b=none
 loc:b≠X.env.locals
 cell:∀x c,X.env.cells.lookup x=some c->c≠b
 pin:∀p∈X.pn++pins,p.1≠b
 fr:b ∉ eI X.stack
section
variable{X:Cx}{pins:List (Addr × Obj)}{σ:St}{H H':Hp}{s:Shared}{a T b:Addr}{cls:Value}{M:Model}{Q:Unit->Shared->Prop}{E:Value->Shared->Prop}{h':Heap}
theorem Inv.old(I:Inv X pins σ H s)(hex:X.ex=[])(e:s.heap.get? b=none):X.cV.heap.get? b=none:=by
 cases q:X.cV.heap.get? b with
 | none=>rfl
 | some o=>obtain⟨o',z⟩:=I.base.there b o q (by rw[hex];simp);rw[e]at z;cases z
theorem TZ(I:Inv X pins σ H s)(dG:X.stack=X.env::X.outer)(hex:X.ex=[])(hf:X.env.frame=some X.env.locals)(Z:List Addr)(hZ:∀b∈Z,X.cV.heap.get? b=none/\H b=none)
  (keep:∀b o,b ∉ Z->b ∉ eI X.stack->s.heap.get? b=some o->h'.get? b=some o) (slots:∀b o,b ∉ Z->s.heap.get? b=some o->∃sl,h'.get? b=some { o with slots:=sl }) :
  Un (eI X.outer) [] X.kP H X.cV.heap h'/\cU X.prog X.w H h':=by
 have He:∀b o,X.cV.heap.get? b=some o->b ∉ Z:=λb o e z=>by rw[(hZ b z).1]at e;cases e
 have sub:∀b,b∈eI X.stack->b=X.env.locals\/b∈eI X.outer:=λb hb=>by
  rw[dG]at hb
  unfold eI at hb
  rw[BD,hf]at hb
  exact cA.mp hb
 have sup:∀b,b∈eI X.outer->b∈eI X.stack:=λb hb=>by
  rw[dG]
  unfold eI
  rw[BD,hf]
  exact dY _ hb
 have B3:∀b o,X.cV.heap.get? b=some o->b≠X.env.locals:=λb o e=>ft (dA (bU e) I.ok.above)
 have nx:∀b:Addr,b ∉ X.ex:=λb=>by rw[hex];simp
 refine⟨⟨λb o e n hb _=>?_,λb o e n hb _=>?_,λb o e n _=>I.base.free b o e n (nx b),λb o e _=>?_,I.base.kj,I.base.jN,I.base.iM⟩,λb ob e=>?_⟩
 ·exact keep b o (He b o e) (λz=>(sub b z).elim (B3 b o e) hb) (I.base.keep b o e n hb (nx b))
 ·obtain⟨sl,e1⟩:=I.base.slot b o e n hb (nx b)
  exact(slots b _ (He b o e) e1).imp λsl h=>h
 ·obtain⟨o',e1⟩:=I.base.there b o e (nx b)
  exact(slots b o' (He b o e) e1).elim λsl q=>⟨_,q⟩
 ·refine(I.aO b ob e).kO (λc u hc q=>keep c u (λz=>?_) (λz=>?_) q) (λ_ q=>q) (λ_ _ q=>q) λ_ _ q=>q
  ·have n:=(hZ c z).2
   rcases hc with rfl | hc
   ·rw[n]at e;cases e
   ·rw[n]at hc;cases hc
  ·have n:=I.Gj c z
   rcases hc with rfl | hc
   ·rw[n]at e;cases e
   ·rw[n]at hc;cases hc
structure T1(X:Cx)(H:Hp)(h':Heap)(a T:Addr)(cls:Value):Prop where
 un:Un (eI X.outer) [] X.kP H X.cV.heap h'
 aO:cU X.prog X.w H h'
 zK:tY h' a T cls
 a0:X.cV.heap.get? a=none
 a1:H a=none
 t0:X.cV.heap.get? T=none
 t1:H T=none
theorem cb9(I:Inv X pins σ H s)(dG:X.stack=X.env::X.outer)(hex:X.ex=[])(hf:X.env.frame=some X.env.locals)(tr:tY s.heap a T cls)(pa:Apart X pins H a)(pT:Apart X pins H T)
  (hQ:∀h' T',T1 X H h' a T' cls->Q () { s with heap:=h' }):wpAny M X.A (leaving X.env (.ref a)) Q E s:=by
 have hZ:∀b∈[a,T],X.cV.heap.get? b=none/\H b=none:=λb hb=>by
  rcases cA.mp hb with rfl | hb
  ·exact⟨pa.old,pa.free⟩
  ·rw[dW.mp hb];exact⟨pT.old,pT.free⟩
 have na:a ∉ (X.env::X.outer).filterMap (·.frame):=by have:=pa.fr;rw[dG]at this;exact this
 refine wpAny_bind (bP6 (base:=X.base) (by rw[I.ok.frames,dG]) (dG ▸ I.stack) hf na tr λh' T' st=>?_)
 have kp:∀b o,b ∉ [a,T]->b ∉ eI X.stack->s.heap.get? b=some o->h'.get? b=some o:=λb o hz hb q=>st.keep b o hz (by rw[dG]at hb;exact hb) q
 obtain⟨un,aO⟩:=TZ (h':=h') I dG hex hf [a,T] hZ kp st.slot
 exact hQ h' T' ⟨un,aO,st.zK,pa.old,pa.free,I.old hex st.new,I.aO.none st.new⟩
theorem bZ0{h1:Heap}{args:List Value}(I:Inv X pins σ H s)(dG:X.stack=X.env::X.outer)(hex:X.ex=[])(hf:X.env.frame=some X.env.locals)(hx:RK s.heap h1 a cls args)
  (hQ:∀h' T',T1 X H h' a T' cls->Q () { s with heap:=h' }):wpAny M X.A (leaving X.env (.ref a)) Q E { s with heap:=h1 }:=by
 refine wpAny_bind (bO4 (base:=X.base) (by rw[I.ok.frames,dG]) (dG ▸ I.stack) hf hx λh' T' st=>?_)
 have kp:∀b o,b ∉ ([]:List Addr)->b ∉ eI X.stack->s.heap.get? b=some o->h'.get? b=some o:=λb o hz hb q=>st.keep b o hz (by rw[dG]at hb;exact hb) q
 obtain⟨un,aO⟩:=TZ (h':=h') I dG hex hf [] (λb hb=>absurd hb (by simp)) kp st.slot
 exact hQ h' T' ⟨un,aO,st.zK,I.old hex hx.new,I.aO.none hx.new,I.old hex st.new,I.aO.none st.new⟩
end
def n9(P:Program)(w:World):fg:=λouter H s E e s'=>∃a T cls H',e=.ref a/\s'.os=s.os/\AllBare s'.gens/\Un (eI outer) [] H H' s.heap s'.heap/\cU P w H' s'.heap/\tY s'.heap a T cls /\
 s.heap.get? a=none/\H' a=none/\s.heap.get? T=none/\H' T=none/\E cls none H'
section
variable{X:Cx}{pins:List (Addr × Obj)}{σ:St}{H H':Hp}{s:Shared}{a T b:Addr}{cls:Value}{M:Model}{Q:Unit->Shared->Prop}{E:Value->Shared->Prop}{h':Heap}
end
end L2
namespace L2
open PySem PySem.W PySem.Spec PySem.Calls PyProof.Rows
section
variable{prog:Program}{w:World}{A:Around}{E:Value->Shared->Prop}{s:Shared}{K:Frag}{x D:Addr}{ox:Obj}{odo:Option Obj}
end
end L2
namespace L2
open PySem PySem.W PySem.Spec PySem.Calls PyProof.Rows
section
variable{prog:Program}{w:World}{A:Around}{E:Value->Shared->Prop}{s:Shared}{K:Frag}{x D:Addr}{ox:Obj}{odo:Option Obj}
structure dB9(K:Frag)(C:Addr):Prop where
 cls:(clsIn K C).isSome=true
 ga:findIn K (.ref C) "__getattribute__"=some (some (.builtin "BaseException.__getattribute__"))
 gt:findIn K (.ref C) "__getattr__"=some none
 ca:findIn K (.ref C) "__class__"=some (some (.builtin "object.__class__"))
 hn:specialIn K (.builtin "object.__class__") "__get__"=some (some (.builtin "getset_descriptor.__get__"))
 tk:takesIn K (.builtin "object.__class__")=some true
 mo:mroIn K C (.type "object")=some true
 mb:mroIn K C (.type "BaseException")=some true
end
end L2
namespace L2
open PySem PySem.Spec PyProof.Rows
section
variable{X:Cx}{pins:List (Addr × Obj)}{σ:St}{H:Hp}{s:Shared}{h':Heap}{its:List Addr}{T:Addr}{o:HO}{t':Nat}
theorem Inv.Cq(I:Inv X pins σ H s)(k:∀b o,b ∉ its->s.heap.get? b=some o->h'.get? b=some o)(hf:∀b∈its,jq X pins H b):Inv X pins σ H { s with heap:=h',toks:=t' }:=by
 have qm:∀b u,H b=some u->b ∉ its:=λb u e z=>by have:=(hf b z).1;rw[this]at e;cases e
 refine I.step (g':=s.gens) (d':=s.drawn) (ch:=its) (λb hb=>?_) (λb o _ _ hc e _=>k b o hc e) (λb o _ _ hc e _=>⟨o.slots,k b o hc e⟩) (λ_ _ _ _ n=>n)
  (λb o hc e=>⟨o,k b o hc e⟩) (λ_ _ e=>e) (λ_ _ _ e=>e) (λb ps e=>⟨#[],by rw[e];simp⟩) (λm hm=>?_) (λb u e=>?_) I.bare
 ·obtain⟨_,h1,_,h2,h3,h4⟩:=hf b hb
  exact⟨h2,h1,h3,h4⟩
 ·obtain⟨o,es,ep,ho,r⟩:=hm
  exact⟨o,es,ep,k _ o (λz=>(hf _ z).2.1 rfl) ho,r⟩
 ·refine(I.aO b u e).kO (λc v hc q=>k c v ?_ q) (λ_ q=>q) (λ_ _ q=>q) λ_ _ q=>q
  rcases hc with z | z
  ·rw[z];exact qm b u e
  ·exact qm c _ z
theorem Inv.T2(I:Inv X pins σ H s)(k:∀b o,b ∉ its->s.heap.get? b=some o->h'.get? b=some o)(hf:∀b∈its,jq X pins H b)(hT:s.heap.objs.size<=T)(new:eH X.prog X.w (upd H T o) h' T o) :
  Inv X pins σ (upd H T o) { s with heap:=h',toks:=t' }:=by
 have qm:∀b u,H b=some u->b ∉ its:=λb u e z=>by have:=(hf b z).1;rw[this]at e;cases e
 have fT:H T=none:=I.aO.fresh hT
 have neT:∀b u,H b=some u->b≠T:=λb u e z=>by rw[z,fT]at e;cases e
 have neS:∀b u,s.heap.get? b=some u->b≠T:=λb u e z=>absurd (dA (bU e) hT) (by rw[z];exact fM _)
 refine I.step (g':=s.gens) (d':=s.drawn) (ch:=its) (λb hb=>?_) (λb o _ _ hc e _=>k b o hc e) (λb o _ _ hc e _=>⟨o.slots,k b o hc e⟩) (λb u _ e n=>by rw[bx (neS b u e)];exact n)
  (λb o hc e=>⟨o,k b o hc e⟩) (λb _ e=>by rw[bx (neT b _ e)];exact e) (λb _ _ e=>by rw[bx (neT b _ e)];exact e) (λb ps e=>⟨#[],by rw[bx (neT b _ e),e];simp⟩) (λm hm=>?_) (λb u e=>?_) I.bare
 ·obtain⟨_,h1,_,h2,h3,h4⟩:=hf b hb
  exact⟨h2,h1,h3,h4⟩
 ·obtain⟨o,es,ep,ho,r⟩:=hm
  exact⟨o,es,ep,k _ o (λz=>(hf _ z).2.1 rfl) ho,r⟩
 ·by_cases hb:b=T
  ·subst hb;rw[cH]at e;cases e;exact new
  ·rw[bx hb]at e
   refine(I.aO b u e).kO (λc v hc q=>k c v ?_ q) (λc q=>by rw[bx (neT c _ q)];exact q) (λc _ q=>by rw[bx (neT c _ q)];exact q) λc _ q=>by rw[bx (neT c _ q)];exact q
   rcases hc with z | z
   ·rw[z];exact qm b u e
   ·exact qm c _ z
def Hf(K:PySem.W.Frag)(a b:Addr):It :=
 ⟨λi H=>∃xs ys x y,bQ K H a xs/\bQ K H b ys/\xs[i]?=some x/\ys[i]?=some y,
  λi H v H'=>∃T x y,v=.ref T/\H T=none/\H'=upd H T (.tup [x,y])/\(∀xs,bQ K H a xs->xs[i]?=some x)/\∀ys,bQ K H b ys->ys[i]?=some y,
  λi H=>∃xs ys,bQ K H a xs/\bQ K H b ys/\(xs.length<=i\/ys.length<=i)⟩
theorem qA{K:PySem.W.Frag}{a c:Addr}{xs:List V}(hk:X.K=K)(I:Inv X pins σ H s)(h:bQ K H a xs)(hf:jq X pins H c)(ho:∃o,s.heap.get? c=some o/\o.cls≠.type "list"):a≠c:=by
 subst hk
 obtain⟨its,rv,p,hz⟩:=I.list h
 obtain⟨o,e,d⟩:=ho
 obtain⟨o',e',c',_⟩:=p.isList
 intro z
 subst z
 rw[e]at e';cases e'
 exact d c'
theorem cj0{P:Program}{w:World}{K:PySem.W.Frag}{elts:List Expr}{k:Nat}{pos:Pos}(a b z TI TO i1 i2:Addr)(D5:[z,TI,TO,i1,i2].Nodup) :
  Turn P w K (.Tuple elts k pos) (Hf K a b) [z,TI,TO,i1,i2] z (λi h=>IsZip h z TI TO .none/\IsPair h TI (.ref i1) (.ref i2)/\(∃u v,IsPair h TO u v)/\h.IsListIter i1 a i/\h.IsListIter i2 b i):=by
 have ap:∀(X:Cx) (pins:List (Addr × Obj)) (s:Shared) (σ:St) (H:Hp) (i:Nat) (xs ys:List V),X.K=K->Inv X pins σ H s->(∀b∈[z,TI,TO,i1,i2],jq X pins H b)->IsZip s.heap z TI TO .none->(∃u v,IsPair s.heap TO u v)->s.heap.IsListIter i1 a i->s.heap.IsListIter i2 b i ->
   bQ K H a xs->bQ K H b ys->ZipApart z TI TO i1 i2 a b:=by
  intro X pins s σ H i xs ys hK I hf hz jy h1 h2 hx hy
  simp only[jj,cA,not_or,ij,not_false_eq_true,and_true]at D5
  obtain⟨⟨d1,d2,d3,d4⟩,⟨d5,d6,d7⟩,⟨d8,d9⟩,d10,_⟩:=D5
  have oz:∃o,s.heap.get? z=some o/\o.cls≠.type "list":=⟨_,hz,by intro q;exact absurd (FK q) (by decide)⟩
  have T3:∃o,s.heap.get? TO=some o/\o.cls≠.type "list":=by obtain⟨u,v,e⟩:=jy;exact⟨_,e,by intro q;exact absurd (FK q) (by decide)⟩
  have o1:∃o,s.heap.get? i1=some o/\o.cls≠.type "list":=by obtain⟨o,e,c,d⟩:=h1;exact⟨_,e,by rw[c];intro q;exact absurd (FK q) (by decide)⟩
  have o2:∃o,s.heap.get? i2=some o/\o.cls≠.type "list":=by obtain⟨o,e,c,d⟩:=h2;exact⟨_,e,by rw[c];intro q;exact absurd (FK q) (by decide)⟩
  exact⟨fA d1,fA d2,fA d3,fA d4,d5,d6,d7,d8,d9,d10,
   qA hK I hx (hf z (by simp)) oz,qA hK I hx (hf TO (by simp)) T3,qA hK I hx (hf i1 (by simp)) o1,qA hK I hx (hf i2 (by simp)) o2,
   qA hK I hy (hf z (by simp)) oz,qA hK I hy (hf TO (by simp)) T3,qA hK I hy (hf i1 (by simp)) o1,qA hK I hy (hf i2 (by simp)) o2⟩
 refine⟨by simp,λi h st c hc=>?_,λi h h' st kk=>?_,?_,?_,λ_ _ _ _ _ st h=>wpAny_pyIter_zip st.1 h⟩
 ·obtain⟨hz,kY,⟨u,v,jy⟩,⟨o1,e1,c1,d1⟩,⟨o2,e2,c2,d2⟩⟩:=st
  simp only[cA,ij,or_false]at hc
  rcases hc with rfl | rfl | rfl | rfl | rfl
  ·exact⟨_,hz,λv q=>by cases q⟩
  ·exact⟨_,kY,λv q=>by cases q⟩
  ·exact⟨_,jy,λv q=>by cases q⟩
  ·exact⟨_,e1,λv q=>by rw[d1]at q;cases q⟩
  ·exact⟨_,e2,λv q=>by rw[d2]at q;cases q⟩
 ·obtain⟨hz,kY,⟨u,v,jy⟩,h1,h2⟩:=st
  exact⟨kk _ (by simp) _ hz,kk _ (by simp) _ kY,⟨u,v,kk _ (by simp) _ jy⟩,h1.at λo e=>kk _ (by simp) o e,h2.at λo e=>kk _ (by simp) o e⟩
 ·intro X hP hw hK hc i pins s σ H E I hf st hg
  obtain⟨xs,ys,x,y,hx,hy,ex,ey⟩:=hg
  obtain⟨hz,kY,⟨u,v,jy⟩,h1,h2⟩:=st
  have D:=ap X pins s σ H i xs ys hK I hf hz ⟨u,v,jy⟩ h1 h2 hx hy
  subst hP hw hK
  obtain⟨as,ra,pa,_⟩:=I.list hx
  obtain⟨bs,rb,pb,_⟩:=I.list hy
  obtain⟨ux,Hg,rx⟩:=ra.get ex
  obtain⟨uy,euy,ry⟩:=rb.get ey
  refine wpAny_pyNext_zip_item D hz kY jy h1 h2 pa.isList pb.isList (x:=ux) (y:=uy) (by simpa using Hg) (by simpa using euy) λh' z' TO' kB jQ T' sz kk=>?_
  have fT:H s.heap.objs.size=none:=I.aO.fresh (bM _)
  have I1:Inv X pins σ (upd H s.heap.objs.size (.tup [x,y])) { s with heap:=h',toks:=s.toks }:=I.T2 (its:=[z,TO,i1,i2]) (λc o hc e=>kk c o (λq=>hc (by simp[q])) (λq=>hc (by simp[q])) (λq=>hc (by simp[q])) (λq=>hc (by simp[q])) e)
   (λc hc=>hf c (by simp only[cA,ij,or_false]at hc ⊢;rcases hc with rfl | rfl | rfl | rfl<;>simp)) (bM _) ⟨by show 2<=sizeLine;decide,[ux,uy],.cons rx (.cons ry .nil),⟨_,T',rfl,_,rfl⟩⟩
  have nT:∀c∈[z,TI,TO,i1,i2],c≠s.heap.objs.size:=λc hc q=>by
   have:∃o,s.heap.get? c=some o:=by
    simp only[cA,ij,or_false]at hc
    rcases hc with rfl | rfl | rfl | rfl | rfl
    ·exact⟨_,hz⟩
    ·exact⟨_,kY⟩
    ·exact⟨_,jy⟩
    ·obtain⟨o,e,_⟩:=h1;exact⟨o,e⟩
    ·obtain⟨o,e,_⟩:=h2;exact⟨o,e⟩
   obtain⟨o,e⟩:=this
   exact absurd (bU e) (by rw[q];exact fM _)
  refine⟨_,rfl,wpAny_letOwnedTupleGo_zip z' λHh Hi sb=>?_⟩
  have Hj:∀c∈[z],jq X pins (upd H s.heap.objs.size (.tup [x,y])) c:=λc hc=>by
   have e:c=z:=by simpa using hc
   subst e
   obtain⟨f0,fr⟩:=hf c (by simp)
   exact⟨by rw[bx (nT c (by simp))];exact f0,fr⟩
  have I2:=Inv.Cq (h':=Hh) (its:=[z]) (t':=s.toks) I1 (λc o hc e=>sb.extBut _ _ (λq=>hc (by simp[q])) e) Hj
  refine⟨.ref s.heap.objs.size,_,I2,rfl,⟨_,x,y,rfl,fT,rfl,λxs' dZ=>by rw[I.B7 dZ hx];exact ex,λT4 hy'=>by rw[I.B7 hy' hy];exact ey⟩,⟨Hi,sb.extBut _ _ D.TIz (kk _ _ D.TIz D.TITO D.TIi1 D.TIi2 kY),⟨ux,uy,sb.extBut _ _ D.TOz TO'⟩,kB.extBut sb.extBut D.i1z,jQ.extBut sb.extBut D.i2z⟩,λc hc=>?_⟩
  rw[bx (nT c hc)]
  exact(hf c hc).1
 ·intro X hP hw hK hc i pins s σ H E I hf st hg
  obtain⟨xs,ys,hx,hy,hl⟩:=hg
  obtain⟨hz,kY,⟨u,v,jy⟩,h1,h2⟩:=st
  have D:=ap X pins s σ H i xs ys hK I hf hz ⟨u,v,jy⟩ h1 h2 hx hy
  subst hP hw hK
  obtain⟨as,ra,pa,_⟩:=I.list hx
  obtain⟨bs,rb,pb,_⟩:=I.list hy
  have la:=ra.length
  have lb:=rb.length
  refine wpAny_pyNext_zip_end (I.ok.hd hc) D hz kY jy h1 h2 pa.isList pb.isList (hl.imp (λq=>by simp;omega) λq=>by simp;omega) λh' kk=>⟨rfl,?_⟩
  exact I.Cq (its:=[z,TO,i1,i2]) (t':=s.toks) (λc o hc e=>kk c o (λq=>hc (by simp[q])) (λq=>hc (by simp[q])) (λq=>hc (by simp[q])) (λq=>hc (by simp[q])) e)
   (λc hc=>hf c (by simp only[cA,ij,or_false]at hc ⊢;rcases hc with rfl | rfl | rfl | rfl<;>simp))
def Hk(K:PySem.W.Frag)(a:Addr):It :=
 ⟨λi H=>∃xs x,bQ K H a xs/\xs[i]?=some x,
  λi H v H'=>∃T x,v=.ref T/\H T=none/\H'=upd H T (.tup [.int i,x])/\∀xs,bQ K H a xs->xs[i]?=some x,
  λi H=>∃xs,bQ K H a xs/\xs.length<=i⟩
theorem b01{P:Program}{w:World}{K:PySem.W.Frag}{elts:List Expr}{k:Nat}{pos:Pos}(a z it:Addr)(tZ:z≠it) :
  Turn P w K (.Tuple elts k pos) (Hk K a) [z,it] z (λi h=>(∃old,IsEnum h z it i old)/\h.IsListIter it a i):=by
 refine⟨by simp,λi h st c hc=>?_,λi h h' st kk=>?_,?_,?_,λ_ _ _ _ _ st h=>by obtain⟨⟨old,e⟩,_⟩:=st;exact wpAny_pyIter_enum e h⟩
 ·obtain⟨⟨old,hz⟩,⟨o1,e1,c1,d1⟩⟩:=st
  simp only[cA,ij,or_false]at hc
  rcases hc with rfl | rfl
  ·exact⟨_,hz,λv q=>by cases q⟩
  ·exact⟨_,e1,λv q=>by rw[d1]at q;cases q⟩
 ·obtain⟨⟨old,hz⟩,h1⟩:=st
  exact⟨⟨old,kk _ (by simp) _ hz⟩,h1.at λo e=>kk _ (by simp) o e⟩
 ·intro X hP hw hK hc i pins s σ H E I hf st hg
  subst hP hw hK
  obtain⟨xs,x,hx,ex⟩:=hg
  obtain⟨⟨old,hz⟩,h1⟩:=st
  obtain⟨as,ra,pa,_⟩:=I.list hx
  obtain⟨ux,Hg,rx⟩:=ra.get ex
  refine wpAny_pyNext_enum_item hz h1 pa.isList (x:=ux) (by simpa using Hg) tZ λh' z' kB T' sz kk=>?_
  have fT:H s.heap.objs.size=none:=I.aO.fresh (bM _)
  have I1:Inv X pins σ (upd H s.heap.objs.size (.tup [.int i,x])) { s with heap:=h',toks:=s.toks+1 }:=I.T2 (its:=[z,it]) (λc o hc e=>kk c o (λq=>hc (by simp[q])) (λq=>hc (by simp[q])) e)
   (λc hc=>hf c hc) (bM _) ⟨by show 2<=sizeLine;decide,[.int i s.toks,ux],.cons ⟨_,rfl⟩ (.cons rx .nil),⟨_,T',rfl,_,rfl⟩⟩
  have nT:∀c∈[z,it],c≠s.heap.objs.size:=λc hc q=>by
   have:∃o,s.heap.get? c=some o:=by
    simp only[cA,ij,or_false]at hc
    rcases hc with rfl | rfl
    ·exact⟨_,hz⟩
    ·obtain⟨o,e,_⟩:=h1;exact⟨o,e⟩
   obtain⟨o,e⟩:=this
   exact absurd (bU e) (by rw[q];exact fM _)
  refine⟨_,rfl,wpAny_letOwnedTupleGo_enum z' λHh Hi sb=>?_⟩
  have Hj:∀c∈[z],jq X pins (upd H s.heap.objs.size (.tup [.int i,x])) c:=λc hc=>by
   have e:c=z:=by simpa using hc
   subst e
   obtain⟨f0,fr⟩:=hf c (by simp)
   exact⟨by rw[bx (nT c (by simp))];exact f0,fr⟩
  have I2:=Inv.Cq (h':=Hh) (its:=[z]) (t':=s.toks+1) I1 (λc o hc e=>sb.extBut _ _ (λq=>hc (by simp[q])) e) Hj
  refine⟨.ref s.heap.objs.size,_,I2,rfl,⟨_,x,rfl,fT,rfl,λxs' dZ=>by rw[I.B7 dZ hx];exact ex⟩,⟨⟨ux,by simpa using Hi⟩,kB.extBut sb.extBut (fA tZ)⟩,λc hc=>?_⟩
  rw[bx (nT c hc)]
  exact(hf c hc).1
 ·intro X hP hw hK hc i pins s σ H E I hf st hg
  subst hP hw hK
  obtain⟨xs,hx,hl⟩:=hg
  obtain⟨⟨old,hz⟩,h1⟩:=st
  obtain⟨as,ra,pa,_⟩:=I.list hx
  have la:=ra.length
  refine wpAny_pyNext_enum_end (I.ok.hd hc) hz h1 pa.isList (by simp;omega) λh' kk=>⟨rfl,?_⟩
  exact I.Cq (its:=[it]) (t':=s.toks) (λc o hc e=>kk c o (λq=>hc (by simp[q])) e) (λc hc=>hf c (by simp at hc ⊢;simp[hc]))
end
section
variable{X:Cx}{a b:Expr}{ta:TA}{p pos tT:Pos}{elts:List Expr}{x1:Nat}
def c01(K:PySem.W.Frag)(ta:TA):TI:=λσ H R=>ta σ H λvs H1=>∃a b,vs=[.ref a,.ref b]/\(∃xs,bQ K H1 a xs)/\(∃ys,bQ K H1 b ys)/\R (Hf K a b) H1
theorem ck7:bootBuiltins "zip"=some (.type "zip"):=by decide +kernel
theorem cQ0(hg:Gl X "zip")(hm:X.mg "zip"=none)(ha:PA X [a,b] ta)(hs:starEach [a,b] X.env=[(false,eval a X.env),(false,eval b X.env)]:=by rfl)(jr:starEach [b] X.env=[(false,eval b X.env)]:=by rfl) :
  PI X (.Tuple elts x1 tT) (.Call (.Name "zip" p) [a,b] [] pos) (c01 X.K ta):=by
 intro pins s σ H R I h
 refine Call_ (by4 I hg hm ck7 (BF (bc (ha pos pins s σ H _ I h) λus s1 ⟨vs,H1,I1,r1,q1⟩=>?_) (by rw[hs,jr]) (by rw[jr];rfl)))
 obtain⟨a,b,e,⟨xs,hx⟩,⟨ys,hy⟩,q⟩:=q1
 subst e
 cases r1 with
 | cons r rr =>
  cases rr with
  | cons r2 rr =>
   cases rr
   cases r
   cases r2
   obtain⟨as,ra,pa,_⟩:=I1.list hx
   obtain⟨bs,rb,pb,_⟩:=I1.list hy
   refine call_zip_2 pa.isList pb.isList λh' hz kY jy h1 h2 sz kk=>wpAny_pyIter_zip hz ?_
   refine⟨_,[s1.heap.objs.size+4,s1.heap.objs.size+2,s1.heap.objs.size+3,s1.heap.objs.size,s1.heap.objs.size+1],_,_,H1,rfl,I1.kept (t':=s1.toks) kk,cj0 a b _ _ _ _ _ (by simp),⟨hz,kY,⟨_,_,jy⟩,h1,h2⟩,λc hc=>?_,q⟩
   have hle:s1.heap.objs.size<=c:=by
    simp only[cA,ij,or_false]at hc
    rcases hc with rfl | rfl | rfl | rfl | rfl<;>omega
   exact I1.Cc hle (I1.aO.fresh hle)
def cV7(K:PySem.W.Frag)(ta:TA):TI:=λσ H R=>ta σ H λvs H1=>∃a,vs=[.ref a]/\(∃xs,bQ K H1 a xs)/\R (Hk K a) H1
theorem bA8:bootBuiltins "enumerate"=some (.type "enumerate"):=by decide +kernel
theorem cy7(hg:Gl X "enumerate")(hm:X.mg "enumerate"=none)(ha:PA X [a] ta)(hs:starEach [a] X.env=[(false,eval a X.env)]:=by rfl) :
  PI X (.Tuple elts x1 tT) (.Call (.Name "enumerate" p) [a] [] pos) (cV7 X.K ta):=by
 intro pins s σ H R I h
 refine Call_ (by4 I hg hm bA8 (BF (bc (ha pos pins s σ H _ I h) λus s1 ⟨vs,H1,I1,r1,q1⟩=>?_) hs rfl))
 obtain⟨a,e,⟨xs,hx⟩,q⟩:=q1
 subst e
 cases r1 with
 | cons r rr =>
  cases rr
  cases r
  obtain⟨as,ra,pa,_⟩:=I1.list hx
  refine call_enumerate_list pa.isList λh' hz h1 sz kk=>wpAny_pyIter_enum hz ?_
  refine⟨_,[s1.heap.objs.size+1,s1.heap.objs.size],_,_,H1,rfl,I1.kept (t':=s1.toks) kk,b01 a (s1.heap.objs.size+1) s1.heap.objs.size (Nat.succ_ne_self _),⟨⟨_,hz⟩,h1⟩,λc hc=>?_,q⟩
  have hle:s1.heap.objs.size<=c:=by
   simp only[cA,ij,or_false]at hc
   rcases hc with rfl | rfl<;>omega
  exact I1.Cc hle (I1.aO.fresh hle)
end
end L2
namespace L2
open PySem PySem.Spec PyProof.Rows PySem.W PySem.Calls
section
variable{X:Cx}
def vT{α:Type}(xs:List α)(lo hi:Option Int):List α:=(xs.drop (HT.dm xs.length 0 lo)).take (HT.dm xs.length xs.length hi-HT.dm xs.length 0 lo)
theorem b82(x:Str)(lo hi:Option Int):Txt.slice x lo hi=⟨(vT x.cps.toList lo hi).toArray⟩:=by
 have hx:x.length=x.cps.size:=rfl
 have e:(FL lo hi 1 x.length).filterMap (x.cps[·]?)=vT x.cps.toList lo hi:=by
  obtain⟨h1,h2,h3⟩:=GU lo hi x.length
  have e0:FL lo hi 1 x.length=sliceRange (sliceBounds lo hi none x.length).1 (sliceBounds lo hi none x.length).2.1 1:=by
   cases lo<;>cases hi<;>rfl
  rw[e0,h1,h2]
  simp only[sliceRange_one,pick_run]
  unfold vT
  rw[hx,yQ]
 unfold Txt.slice
 split
 ·rename_i h
  have hl:(FL lo hi 1 x.length).length=x.length:=by
   rw[eQ]at h;exact eq_of_beq h.2
  have hs:(vT x.cps.toList lo hi)=x.cps.toList:=by
   have e2:HT.dm x.cps.toList.length x.cps.toList.length hi-HT.dm x.cps.toList.length 0 lo=x.length:=by
    obtain⟨h1,h2,h3⟩:=GU lo hi x.length
    have e0:FL lo hi 1 x.length=sliceRange (sliceBounds lo hi none x.length).1 (sliceBounds lo hi none x.length).2.1 1:=by
     cases lo<;>cases hi<;>rfl
    rw[e0,h1,h2]at hl
    simp only[sliceRange_one,br,dB]at hl
    rw[yQ,<- hx]
    omega
   unfold vT
   have le:HT.dm x.cps.toList.length x.cps.toList.length hi<=x.cps.toList.length:=by
    cases hi with
    | none=>simp[HT.dm]
    | some i=>simp only[HT.dm];split<;>omega
   have le2:HT.dm x.cps.toList.length 0 lo<=x.cps.toList.length:=by
    cases lo with
    | none=>simp[HT.dm]
    | some i=>simp only[HT.dm];split<;>omega
   rw[yQ,<- hx]at e2 le le2 ⊢
   have z:HT.dm x.length 0 lo=0:=by omega
   have z2:HT.dm x.length x.length hi=x.length:=by omega
   rw[z,z2,List.drop_zero,Nat.sub_zero,hx,<- yQ,tu]
  rw[hs]
 ·rw[e]
theorem cJ0:tW X (λx lo hi H Q=>∃z,x=.str z/\z.length<=sizeLine/\Q (.str ⟨(vT z.cps.toList lo hi).toArray⟩) H):=by
 intro pins s σ H x v vl vu lo hi sl Q I rx hs pl pu h
 obtain⟨z,rfl,hz,q⟩:=h
 obtain⟨t,rfl⟩:=rx
 refine⟨"str",_,F.slot_str_getitem.lookup,typeIs_str _ _ _,?_⟩
 have fin:∀(l u:Option (Int × Tok)),l.map (·.1)=lo->u.map (·.1)=hi->partValue l=vl->partValue u=vu->wpAny (model X.prog X.w) X.A (getItem (.str z t) (.ref sl)) (EP X pins σ Q) X.xe s:=by
  intro l u h1 h2 h3 h4
  obtain⟨o,e1,e2,e3⟩:=hs
  refine wpAny_getItem_str_slice (l:=l) (u:=u) (st:=none) ⟨o,e1,e2,by rw[e3,h3,h4];rfl⟩ rfl ?_
  have e:Txt.slice z lo hi=(if(((none:Option (Int × Tok)).map (·.1)).getD 1==1&&(slicePicked z l u none).length==z.length)=true then z else⟨((slicePicked z l u none).filterMap (z.cps[·]?)).toArray⟩):=by
   unfold Txt.slice slicePicked;rw[h1,h2];rfl
  refine post_val_or_str ⟨?_,λt' k=>?_⟩
  ·rw[<-e];exact eG (Txt.slice_le z _ _) hz
  ·rw[<-e,b82];exact⟨.str _,H,I.tok _,⟨_,rfl⟩,q⟩
 cases pl with
 | none =>
  cases pu with
  | none=>exact fin none none rfl rfl rfl rfl
  | int j tj=>exact fin none (some (j,tj)) rfl rfl rfl rfl
 | int i ti =>
  cases pu with
  | none=>exact fin (some (i,ti)) none rfl rfl rfl rfl
  | int j tj=>exact fin (some (i,ti)) (some (j,tj)) rfl rfl rfl rfl
end
end L2
namespace L3
open PySem L2
def jz:HO->Bool
 | .dM _=>false
 | _=>true
structure ah(H H':Hp):Prop where
 get:∀b o,H b=some o->(h:jz o=true:=by rfl)->H' b=some o
 tb:∀b ps,H b=some (.dM ps)->∃more,H' b=some (.dM (ps++more))
instance {H H':Hp}:CoeFun (ah H H') λ_=>∀b o,H b=some o->(h:jz o=true:=by rfl)->H' b=some o:=⟨λs=>@ah.get _ _ s⟩
theorem Hl{o:HO}(h:jz o=false):∃ps,o=.dM ps:=by
 cases o with
 | dM ps=>exact⟨ps,rfl⟩
 | _=>cases h
theorem ah.of{H H':Hp}(h:∀b o,H b=some o->H' b=some o):ah H H':=⟨λb o e _=>h b o e,λb ps e=>⟨#[],by rw[h b _ e];simp⟩⟩
theorem ah.refl(H:Hp):ah H H:=.of λ_ _ h=>h
theorem ah.trans{H H1 H2:Hp}(a:ah H H1)(b:ah H1 H2):ah H H2 :=
 ⟨λc o h n=>b.get c o (a.get c o h n) n,λc ps h=>by
  obtain⟨m1,e1⟩:=a.tb c ps h
  obtain⟨m2,e2⟩:=b.tb c _ e1
  exact⟨m1++m2,by rw[e2,BE]⟩⟩
theorem ah.any{H H':Hp}(e:ah H H'){l:Addr}{o:HO}(h:H l=some o):∃o',H' l=some o':=by
 cases n:jz o with
 | true=>exact⟨o,e.get l o h n⟩
 | false =>
  obtain⟨ps,rfl⟩:=Hl n
  obtain⟨m,q⟩:=e.tb l ps h
  exact⟨_,q⟩
theorem ah.free{H H':Hp}(e:ah H H'){l:Addr}(h:H' l=Option.none):H l=Option.none:=by
 cases q:H l with
 | none=>rfl
 | some o =>
  obtain⟨o',z⟩:=e.any q
  rw[z]at h
  cases h
inductive vU where
 | ext (φ:Addr->Heap->Prop)
 | lam (of oc:Obj) (c k:Addr)
instance:Coe (Addr->Heap->Prop) vU:=⟨.ext⟩
def Hm(H:Hp)(k:Addr):Prop:=∃ψ,H k=some (.ext ψ)/\∀h,ψ h->∃q,h.CodeRec (.ref k) q
def jR(of oc:Obj)(c p:Addr):Heap->Prop:=λh=>h.get? p=some of/\h.get? c=some oc
structure kC(H:Hp)(p:Addr)(of oc:Obj)(c k:Addr):Prop where
 fn:H p=some (.ext (jR of oc c p))
 cell:H c=some (.own p)
 Ho:Hm H k
def t7(H:Hp)(p:Addr):vU->Prop
 | .ext φ=>H p=some (.ext (φ p))
 | .lam of oc c k=>kC H p of oc c k
theorem t7.mono{H H':Hp}{p:Addr}:∀{z:vU},t7 H p z->(∀a o,H a=some o->(∀ws,o≠.lst ws)->jz o=true->H' a=some o)->t7 H' p z
 | .ext φ,x,k=>k _ _ x (λws q=>by cases q) rfl
 | .lam of oc c k',x,k=>⟨k _ _ x.fn (λws q=>by cases q) rfl,k _ _ x.cell (λws q=>by cases q) rfl,let⟨ψ,e,h⟩:=x.Ho;⟨ψ,k _ _ e (λws q=>by cases q) rfl,h⟩⟩
inductive D where
 | ay | bl (b:Bool) | int (i:Int) | str (x:Str)
 | lst (o:Bool) (xs:List D)
 | tup (xs:List D)
 | obj (C:Addr) (ns:List Str) (xs:List D)
 | fz (xs:List D)
 | bN (z:vU)
 deriving Inhabited
def D.pl:D->Bool
 | .lst o xs=>!o&&zL xs
 | .tup xs=>zL xs
 | _=>true
where zL:List D->Bool
 | []=>true
 | d::ds=>d.pl&&zL ds
def D.fr:D->Bool
 | .lst o xs=>o&&zM xs
 | .tup xs=>zM xs
 | .obj _ _ _=>false
 | .fz _=>false
 | _=>true
where zM:List D->Bool
 | []=>true
 | d::ds=>d.fr&&zM ds
def D.sh:D->D
 | .lst _ xs=>.lst false (zN xs)
 | .tup xs=>.tup (zN xs)
 | d=>d
where zN:List D->List D
 | []=>[]
 | d::ds=>d.sh::zN ds
theorem T5(ds:List D):D.pl.zL ds=ds.all D.pl:=by induction ds with | nil=>rfl | cons d ds ih=>simp[D.pl.zL,ih]
theorem T6(ds:List D):D.fr.zM ds=ds.all D.fr:=by induction ds with | nil=>rfl | cons d ds ih=>simp[D.fr.zM,ih]
theorem T7(ds:List D):D.sh.zN ds=ds.map D.sh:=by induction ds with | nil=>rfl | cons d ds ih=>simp[D.sh.zN,ih]
theorem fi(o:Bool)(xs:List D):(D.lst o xs).pl=(!o&&xs.all D.pl):=by simp[D.pl,T5]
theorem jS(xs:List D):(D.tup xs).pl=xs.all D.pl:=by simp[D.pl,T5]
theorem eR(o:Bool)(xs:List D):(D.lst o xs).fr=(o&&xs.all D.fr):=by simp[D.fr,T6]
theorem og(xs:List D):(D.tup xs).fr=xs.all D.fr:=by simp[D.fr,T6]
theorem de(o:Bool)(xs:List D):(D.lst o xs).sh=.lst false (xs.map D.sh):=by simp[D.sh,T7]
theorem jT(xs:List D):(D.tup xs).sh=.tup (xs.map D.sh):=by simp[D.sh,T7]
inductive R(F H:Hp):List D->List V->List Addr->Prop
 | nil:R F H [] [] []
 | ay {ds vs B}:R F H ds vs B->R F H (.ay::ds) (.ay::vs) B
 | bl {b ds vs B}:R F H ds vs B->R F H (.bl b::ds) (.bl b::vs) B
 | int {i ds vs B}:R F H ds vs B->R F H (.int i::ds) (.int i::vs) B
 | str {x ds vs B}:R F H ds vs B->R F H (.str x::ds) (.str x::vs) B
 | shr {p ws xs ds vs B}:F p=some (.lst ws)->R F H xs ws []->R F H ds vs B->R F H (.lst false xs::ds) (.ref p::vs) B
 | own {p ws xs A ds vs B}:H p=some (.lst ws)->F p=none->R F H xs ws A->R F H ds vs B->R F H (.lst true xs::ds) (.ref p::vs) (p::(A++B))
 | tup {p ws xs A ds vs B}:H p=some (.tup ws)->R F H xs ws A->R F H ds vs B->R F H (.tup xs::ds) (.ref p::vs) (A++B)
 | obj {p C dx ns ws xs ds vs B}:H p=some (.ins C dx (ns.zip ws))->ns.length=ws.length->R F H xs ws []->R F H ds vs B->R F H (.obj C ns xs::ds) (.ref p::vs) B
 | fz {p o ws xs ds vs B}:F p=some (.cq o (.lst ws))->R F H xs ws []->R F H ds vs B->R F H (.fz xs::ds) (.ref p::vs) B
 | bN {p z ds vs B}:t7 H p z->R F H ds vs B->R F H (.bN z::ds) (.ref p::vs) B
inductive S(F H:Hp):List D->List V->Prop
 | nil:S F H [] []
 | ay {ds vs}:S F H ds vs->S F H (.ay::ds) (.ay::vs)
 | bl {b ds vs}:S F H ds vs->S F H (.bl b::ds) (.bl b::vs)
 | int {i ds vs}:S F H ds vs->S F H (.int i::ds) (.int i::vs)
 | str {x ds vs}:S F H ds vs->S F H (.str x::ds) (.str x::vs)
 | shr {p ws xs ds vs}:F p=some (.lst ws)->R F H xs ws []->S F H ds vs->S F H (.lst false xs::ds) (.ref p::vs)
 | own {p ws xs ds vs}:H p=some (.lst ws)->S F H xs ws->S F H ds vs->S F H (.lst true xs::ds) (.ref p::vs)
 | tup {p ws xs ds vs}:H p=some (.tup ws)->S F H xs ws->S F H ds vs->S F H (.tup xs::ds) (.ref p::vs)
 | obj {p C dx ns ws xs ds vs}:H p=some (.ins C dx (ns.zip ws))->ns.length=ws.length->R F H xs ws []->S F H ds vs->S F H (.obj C ns xs::ds) (.ref p::vs)
 | fz {p o ws xs ds vs}:F p=some (.cq o (.lst ws))->R F H xs ws []->S F H ds vs->S F H (.fz xs::ds) (.ref p::vs)
 | bN {p z ds vs}:t7 H p z->S F H ds vs->S F H (.bN z::ds) (.ref p::vs)
section
variable{F F' H H':Hp}{d:D}{ds es:List D}{v:V}{vs ws:List V}{A B:List Addr}
theorem R.length(r:R F H ds vs A):ds.length=vs.length:=by
 induction r<;>simp_all
theorem S.length(r:S F H ds vs):ds.length=vs.length:=by
 induction r<;>simp_all
theorem R.cons(r:R F H [d] [v] A)(q:R F H ds vs B):R F H (d::ds) (v::vs) (A++B):=by
 cases r with
 | ay r=>cases r;exact .ay q
 | bl r=>cases r;exact .bl q
 | int r=>cases r;exact .int q
 | str r=>cases r;exact .str q
 | shr h x r=>cases r;exact .shr h x q
 | own h f x r=>cases r;simpa using R.own h f x q
 | tup h x r=>cases r;simpa using R.tup h x q
 | obj h l x r=>cases r;exact .obj h l x q
 | fz h x r=>cases r;exact .fz h x q
 | bN h r=>cases r;exact .bN h q
theorem R.dD(r:R F H (d::ds) vs A):∃v cO A1 A2,vs=v::cO/\A=A1++A2/\R F H [d] [v] A1/\R F H ds cO A2:=by
 cases r with
 | ay r=>exact⟨_,_,[],_,rfl,rfl,.ay .nil,r⟩
 | bl r=>exact⟨_,_,[],_,rfl,rfl,.bl .nil,r⟩
 | int r=>exact⟨_,_,[],_,rfl,rfl,.int .nil,r⟩
 | str r=>exact⟨_,_,[],_,rfl,rfl,.str .nil,r⟩
 | shr h x r=>exact⟨_,_,[],_,rfl,rfl,.shr h x .nil,r⟩
 | @own p _ _ A1 _ _ B1 h f x r=>exact⟨_,_,p::A1,B1,rfl,rfl,by simpa using R.own h f x .nil,r⟩
 | @tup p _ _ A1 _ _ B1 h x r=>exact⟨_,_,A1,B1,rfl,rfl,by simpa using R.tup h x .nil,r⟩
 | obj h l x r=>exact⟨_,_,[],_,rfl,rfl,.obj h l x .nil,r⟩
 | fz h x r=>exact⟨_,_,[],_,rfl,rfl,.fz h x .nil,r⟩
 | bN h r=>exact⟨_,_,[],_,rfl,rfl,.bN h .nil,r⟩
theorem S.cons(r:S F H [d] [v])(q:S F H ds vs):S F H (d::ds) (v::vs):=by
 cases r with
 | ay r=>exact .ay q
 | bl r=>exact .bl q
 | int r=>exact .int q
 | str r=>exact .str q
 | shr h x r=>exact .shr h x q
 | own h x r=>exact .own h x q
 | tup h x r=>exact .tup h x q
 | obj h l x r=>exact .obj h l x q
 | fz h x r=>exact .fz h x q
 | bN h r=>exact .bN h q
theorem S.dD(r:S F H (d::ds) vs):∃v cO,vs=v::cO/\S F H [d] [v]/\S F H ds cO:=by
 cases r with
 | ay r=>exact⟨_,_,rfl,.ay .nil,r⟩
 | bl r=>exact⟨_,_,rfl,.bl .nil,r⟩
 | int r=>exact⟨_,_,rfl,.int .nil,r⟩
 | str r=>exact⟨_,_,rfl,.str .nil,r⟩
 | shr h x r=>exact⟨_,_,rfl,.shr h x .nil,r⟩
 | own h x r=>exact⟨_,_,rfl,.own h x .nil,r⟩
 | tup h x r=>exact⟨_,_,rfl,.tup h x .nil,r⟩
 | obj h l x r=>exact⟨_,_,rfl,.obj h l x .nil,r⟩
 | fz h x r=>exact⟨_,_,rfl,.fz h x .nil,r⟩
 | bN h r=>exact⟨_,_,rfl,.bN h .nil,r⟩
theorem R.append:∀{ds:List D} {vs:List V} {A:List Addr},R F H ds vs A->R F H es ws B->R F H (ds++es) (vs++ws) (A++B)
 | [],_,_,r,q=>by cases r;exact q
 | d::ds,_,_,r,q=>by
  obtain⟨v,cO,A1,A2,rfl,rfl,h1,h2⟩:=r.dD
  simpa using h1.cons (R.append h2 q)
theorem S.append:∀{ds:List D} {vs:List V},S F H ds vs->S F H es ws->S F H (ds++es) (vs++ws)
 | [],_,r,q=>by cases r;exact q
 | d::ds,_,r,q=>by
  obtain⟨v,cO,rfl,h1,h2⟩:=r.dD
  exact h1.cons (S.append h2 q)
theorem R.split:∀{ds:List D} {vs:List V} {A:List Addr},R F H (ds++es) vs A->∃v1 v2 A1 A2,vs=v1++v2/\A=A1++A2/\R F H ds v1 A1/\R F H es v2 A2
 | [],vs,A,r=>⟨[],vs,[],A,rfl,rfl,.nil,r⟩
 | d::ds,_,_,r=>by
  obtain⟨v,cO,A1,A2,rfl,rfl,h1,h2⟩:=R.dD (ds:=ds++es) r
  obtain⟨v1,v2,B1,B2,rfl,rfl,h3,h4⟩:=R.split (ds:=ds) h2
  exact⟨v::v1,v2,A1++B1,B2,rfl,by simp,h1.cons h3,h4⟩
theorem R.get:∀{ds:List D} {vs:List V} {A:List Addr} {i:Nat},R F H ds vs A->ds[i]?=some d->∃v A1,vs[i]?=some v/\R F H [d] [v] A1/\A1 ⊆ A
 | [],_,_,_,_,e=>by simp at e
 | d'::ds,_,_,i,r,e=>by
  obtain⟨v,cO,A1,A2,rfl,rfl,h1,h2⟩:=r.dD
  cases i with
  | zero=>simp at e;subst e;exact⟨v,A1,rfl,h1,by simp⟩
  | succ i =>
   obtain⟨w,B1,e2,q,sb⟩:=R.get (ds:=ds) (i:=i) h2 (by simpa using e)
   exact⟨w,B1,by simpa using e2,q,λx hx=>fc _ (sb hx)⟩
theorem S.get:∀{ds:List D} {vs:List V} {i:Nat},S F H ds vs->ds[i]?=some d->∃v,vs[i]?=some v/\S F H [d] [v]
 | [],_,_,_,e=>by simp at e
 | d'::ds,_,i,r,e=>by
  obtain⟨v,cO,rfl,h1,h2⟩:=r.dD
  cases i with
  | zero=>simp at e;subst e;exact⟨v,rfl,h1⟩
  | succ i =>
   obtain⟨w,e2,q⟩:=S.get (ds:=ds) (i:=i) h2 (by simpa using e)
   exact⟨w,by simpa using e2,q⟩
theorem S.get':∀{ds:List D} {vs:List V} {i:Nat},S F H ds vs->vs[i]?=some v->∃d,ds[i]?=some d/\S F H [d] [v]
 | [],_,_,r,e=>by cases r;simp at e
 | d'::ds,_,i,r,e=>by
  obtain⟨v,cO,rfl,h1,h2⟩:=r.dD
  cases i with
  | zero=>simp at e;subst e;exact⟨d',rfl,h1⟩
  | succ i =>
   obtain⟨w,e2,q⟩:=S.get' (ds:=ds) (i:=i) h2 (by simpa using e)
   exact⟨w,by simpa using e2,q⟩
theorem S.take:∀{ds:List D} {vs:List V} (n:Nat),S F H ds vs->S F H (ds.take n) (vs.take n)
 | _,_,0,r=>by simpa using S.nil
 | [],_,n+1,r=>by cases r;exact .nil
 | d::ds,_,n+1,r=>by
  obtain⟨v,cO,rfl,h1,h2⟩:=r.dD
  exact h1.cons (S.take n h2)
theorem S.drop:∀{ds:List D} {vs:List V} (n:Nat),S F H ds vs->S F H (ds.drop n) (vs.drop n)
 | _,_,0,r=>by simpa using r
 | [],_,n+1,r=>by cases r;exact .nil
 | d::ds,_,n+1,r=>by
  obtain⟨v,cO,rfl,h1,h2⟩:=r.dD
  exact S.drop n h2
theorem iT{p:Addr}{o:HO}(h:Rd F p o)(s:ah F F')(n:jz o=true:=by rfl):Rd F' p o:=by
 rcases h with h | ⟨u,h⟩
 ·exact .inl (s.get _ _ h n)
 ·exact .inr ⟨u,s _ _ h⟩
theorem R.s(r:R F H ds vs A):S F H ds vs:=by
 induction r with
 | nil=>exact .nil
 | ay _ ih=>exact .ay ih
 | bl _ ih=>exact .bl ih
 | int _ ih=>exact .int ih
 | str _ ih=>exact .str ih
 | shr h x _ _ ih=>exact .shr h x ih
 | own h f _ _ i1 i2=>exact .own h i1 i2
 | tup h _ _ i1 i2=>exact .tup h i1 i2
 | obj h l x _ _ ih=>exact .obj h l x ih
 | fz h x _ _ ih=>exact .fz h x ih
 | bN h _ ih=>exact .bN h ih
structure iy(W:List Addr)(H H':Hp):Prop where
 get:∀a o,H a=some o->a ∉ W->(h:jz o=true:=by rfl)->H' a=some o
instance {W:List Addr} {H H':Hp}:CoeFun (iy W H H') λ_=>∀a o,H a=some o->a ∉ W->(h:jz o=true:=by rfl)->H' a=some o:=⟨λs=>@iy.get _ _ _ s⟩
def jA(W:List Addr)(H:Hp):Prop:=∀a∈W,∃ws,H a=some (.lst ws)
theorem R.keep{W:List Addr}(hf:ah F F')(hb:iy W H H')(hl:jA W H)(r:R F H ds vs A)(hn:∀a∈A,F' a=none)(hd:∀a∈A,a ∉ W):R F' H' ds vs A:=by
 induction r with
 | nil=>exact .nil
 | ay _ ih=>exact .ay (ih hn hd)
 | bl _ ih=>exact .bl (ih hn hd)
 | int _ ih=>exact .int (ih hn hd)
 | str _ ih=>exact .str (ih hn hd)
 | shr h x _ i1 ih=>exact .shr (hf _ _ h) (i1 (by simp) (by simp)) (ih hn hd)
 | own h f _ _ i1 i2 =>
  refine .own (hb _ _ h (hd _ (by simp))) (hn _ (by simp)) (i1 (λa ha=>hn a ?_) λa ha=>hd a ?_) (i2 (λa ha=>hn a ?_) λa ha=>hd a ?_)<;>simp[ha]
 | @tup p ws _ _ _ _ _ h _ _ i1 i2 =>
  refine .tup (hb _ _ h λz=>?_) (i1 (λa ha=>hn a ?_) λa ha=>hd a ?_) (i2 (λa ha=>hn a ?_) λa ha=>hd a ?_)<;>try simp[ha]
  obtain⟨q,e⟩:=hl _ z
  rw[h]at e;cases e
 | obj h l x _ i1 ih =>
  refine .obj (hb _ _ h λz=>?_) l (i1 (by simp) (by simp)) (ih hn hd)
  obtain⟨q,e⟩:=hl _ z
  rw[h]at e;cases e
 | fz h x _ i1 ih=>exact .fz (hf _ _ h) (i1 (by simp) (by simp)) (ih hn hd)
 | bN h _ ih =>
  exact .bN (h.mono λa o e n t=>hb.get a o e (λz=>by
   obtain⟨q,e'⟩:=hl _ z
   rw[e]at e';cases e';exact n _ rfl) t) (ih hn hd)
theorem iy.same(h:ah H H'):iy [] H H':=⟨λa o e _ n=>h.get a o e n⟩
theorem jA.nil:jA [] H:=λa h=>absurd h (by simp)
theorem R.grow(hf:ah F F')(hb:ah H H')(r:R F H ds vs A)(hn:∀a∈A,F' a=none):R F' H' ds vs A :=
 r.keep hf (iy.same hb) jA.nil hn (by simp)
theorem R.shared(hf:ah F F')(hb:ah H H')(r:R F H ds vs []):R F' H' ds vs []:=r.grow hf hb (by simp)
theorem S.mono(hf:ah F F')(hb:ah H H')(r:S F H ds vs):S F' H' ds vs:=by
 induction r with
 | nil=>exact .nil
 | ay _ ih=>exact .ay ih
 | bl _ ih=>exact .bl ih
 | int _ ih=>exact .int ih
 | str _ ih=>exact .str ih
 | shr h x _ ih=>exact .shr (hf _ _ h) (x.shared hf hb) ih
 | own h _ _ i1 i2=>exact .own (hb _ _ h) i1 i2
 | tup h _ _ i1 i2=>exact .tup (hb _ _ h) i1 i2
 | obj h l x _ ih=>exact .obj (hb _ _ h) l (x.shared hf hb) ih
 | fz h x _ ih=>exact .fz (hf _ _ h) (x.shared hf hb) ih
 | bN h _ ih=>exact .bN (h.mono λa o e _ t=>hb.get a o e t) ih
theorem S.r(s:S F H ds vs)(p:ds.all D.pl=true):R F H ds vs []:=by
 induction s with
 | nil=>exact .nil
 | ay _ ih=>exact .ay (ih (by simpa[D.pl]using p))
 | bl _ ih=>exact .bl (ih (by simpa[D.pl]using p))
 | int _ ih=>exact .int (ih (by simpa[D.pl]using p))
 | str _ ih=>exact .str (ih (by simpa[D.pl]using p))
 | shr h x _ ih=>exact .shr h x (ih (by simp[fi]at p;simpa using p.2))
 | own h _ _ i1 i2=>simp[fi]at p
 | tup h _ _ i1 i2 =>
  rw[dU,jS,eQ]at p
  simpa using R.tup h (i1 p.1) (i2 p.2)
 | obj h l x _ ih=>exact .obj h l x (ih (by simpa[D.pl]using p))
 | fz h x _ ih=>exact .fz h x (ih (by simpa[D.pl]using p))
 | bN h _ ih=>exact .bN h (ih (by simpa[D.pl]using p))
theorem R.pl(r:R F H ds vs []):ds.all D.pl=true:=by
 generalize e:([]:List Addr)=A at r
 induction r with
 | nil=>rfl
 | ay _ ih=>simp[D.pl];simpa using ih e
 | bl _ ih=>simp[D.pl];simpa using ih e
 | int _ ih=>simp[D.pl];simpa using ih e
 | str _ ih=>simp[D.pl];simpa using ih e
 | shr h x _ i1 ih=>simp only[dU,fi,i1 rfl,ih e];rfl
 | own h f _ _ i1 i2=>cases e
 | tup h _ _ i1 i2 =>
  obtain⟨e1,e2⟩:=FN.mp e.symm
  simp only[dU,jS,i1 e1.symm,i2 e2.symm];rfl
 | obj h l x _ i1 ih=>simp[D.pl];simpa using ih e
 | fz h x _ i1 ih=>simp[D.pl];simpa using ih e
 | bN h _ ih=>simp[D.pl];simpa using ih e
theorem D.Cr:∀{d:D},d.pl=true->d.sh=d
 | .ay,_=>rfl
 | .bl _,_=>rfl
 | .int _,_=>rfl
 | .str _,_=>rfl
 | .obj _ _ _,_=>rfl
 | .fz _,_=>rfl
 | .bN _,_=>rfl
 | .lst o xs,h=>by
  rw[fi,eQ]at h
  have:∀(l:List D),(∀x∈l,x∈xs)->l.all D.pl=true->l.map D.sh=l:=by
   intro l hl hp
   induction l with
   | nil=>rfl
   | cons x l ih =>
    simp only[dU,eQ]at hp
    have hx:x∈xs:=hl x (by simp)
    rw[dE,D.Cr hp.1,ih (λy hy=>hl y (by simp[hy])) hp.2]
  rw[de,this xs (λ_ h=>h) h.2]
  cases o<;>simp_all
 | .tup xs,h=>by
  rw[jS]at h
  have:∀(l:List D),(∀x∈l,x∈xs)->l.all D.pl=true->l.map D.sh=l:=by
   intro l hl hp
   induction l with
   | nil=>rfl
   | cons x l ih =>
    simp only[dU,eQ]at hp
    have hx:x∈xs:=hl x (by simp)
    rw[dE,D.Cr hp.1,ih (λy hy=>hl y (by simp[hy])) hp.2]
  rw[jT,this xs (λ_ h=>h) h]
termination_by d=>sizeOf d
theorem mL{l:List D}(h:l.all D.pl=true):l.map D.sh=l:=by
 induction l with
 | nil=>rfl
 | cons x l ih =>
  simp only[dU,eQ]at h
  rw[dE,D.Cr h.1,ih h.2]
theorem S.frozen(e:ah F H)(s:S F H ds vs):R H H (ds.map D.sh) vs []:=by
 induction s with
 | nil=>exact .nil
 | ay _ ih=>exact .ay ih
 | bl _ ih=>exact .bl ih
 | int _ ih=>exact .int ih
 | str _ ih=>exact .str ih
 | shr h x _ ih =>
  rw[dE,de,mL x.pl]
  exact .shr (e _ _ h) (x.shared e (ah.refl _)) ih
 | own h _ _ i1 i2=>rw[dE,de];exact .shr h i1 i2
 | tup h _ _ i1 i2=>rw[dE,jT];simpa using R.tup h i1 i2
 | obj h l x _ ih=>exact .obj h l (x.shared e (ah.refl _)) ih
 | fz h x _ ih=>exact .fz (e _ _ h) (x.shared e (ah.refl _)) ih
 | bN h _ ih=>exact .bN h ih
def cq(F H:Hp)(A:List Addr):Hp:=λa=>if a∈A then H a else F a
theorem mM(e:ah F H):ah F (cq F H A):=⟨λa o h n=>by unfold cq;split;exact e.get _ _ h n;exact h,λa ps h=>by unfold cq;split;exact e.tb _ _ h;exact⟨#[],by rw[h];simp⟩⟩
theorem T8(e:ah F H):ah (cq F H A) H:=⟨λa o h n=>by unfold cq at h;split at h;exact h;exact e.get _ _ h n,λa ps h=>by unfold cq at h;split at h;exact⟨#[],by rw[h];simp⟩;exact e.tb _ _ h⟩
theorem Ct{a:Addr}(h:a ∉ A):cq F H A a=F a:=by unfold cq;rw[if_neg h]
theorem cI5{a:Addr}(h:a∈A):cq F H A a=H a:=by unfold cq;rw[if_pos h]
theorem R.cq(e:ah F H)(r:R F H ds vs A):∀A',A ⊆ A'->R (L3.cq F H A') H (ds.map D.sh) vs []:=by
 induction r with
 | nil=>exact λ_ _=>.nil
 | ay _ ih=>exact λA' h=>.ay (ih A' h)
 | bl _ ih=>exact λA' h=>.bl (ih A' h)
 | int _ ih=>exact λA' h=>.int (ih A' h)
 | str _ ih=>exact λA' h=>.str (ih A' h)
 | shr h x _ i1 ih =>
  intro A' hA
  rw[dE,de,mL x.pl]
  exact .shr (mM e _ _ h) (x.shared (mM e) (ah.refl _)) (ih A' hA)
 | own h f _ _ i1 i2 =>
  intro A' hA
  rw[dE,de]
  exact .shr ((cI5 (hA (by simp))).trans h) (i1 A' λa ha=>hA (by simp[ha])) (i2 A' λa ha=>hA (by simp[ha]))
 | tup h _ _ i1 i2 =>
  intro A' hA
  rw[dE,jT]
  simpa using R.tup h (i1 A' λa ha=>hA (by simp[ha])) (i2 A' λa ha=>hA (by simp[ha]))
 | obj h l x _ i1 ih=>exact λA' hA=>.obj h l (x.shared (mM e) (ah.refl _)) (ih A' hA)
 | fz h x _ i1 ih=>exact λA' hA=>.fz (mM e _ _ h) (x.shared (mM e) (ah.refl _)) (ih A' hA)
 | bN h _ ih=>exact λA' hA=>.bN h (ih A' hA)
theorem R.lists(r:R F H ds vs A):∀a∈A,(∃ws,H a=some (.lst ws))/\F a=none:=by
 induction r with
 | nil=>simp
 | ay _ ih=>exact ih
 | bl _ ih=>exact ih
 | int _ ih=>exact ih
 | str _ ih=>exact ih
 | shr h x _ i1 ih=>exact ih
 | own h f _ _ i1 i2 =>
  intro a ha
  rcases cA.mp ha with rfl | ha
  ·exact⟨⟨_,h⟩,f⟩
  ·exact(bY.mp ha).elim (i1 a) (i2 a)
 | tup h _ _ i1 i2=>exact λa ha=>(bY.mp ha).elim (i1 a) (i2 a)
 | obj h l x _ i1 ih=>exact ih
 | fz h x _ i1 ih=>exact ih
 | bN h _ ih=>exact ih
theorem R.Hq(r:R F H ds vs A)(hd:ds.all D.fr=true)(e:ah F' F):R F' H ds vs A:=by
 induction r with
 | nil=>exact .nil
 | ay _ ih=>exact .ay (ih (by simpa[D.fr]using hd))
 | bl _ ih=>exact .bl (ih (by simpa[D.fr]using hd))
 | int _ ih=>exact .int (ih (by simpa[D.fr]using hd))
 | str _ ih=>exact .str (ih (by simpa[D.fr]using hd))
 | shr h x _ i1 ih=>simp[eR]at hd
 | own h f _ _ i1 i2 =>
  rw[dU,eR,eQ,kg]at hd
  exact .own h (e.free f) (i1 hd.1) (i2 hd.2)
 | tup h _ _ i1 i2 =>
  rw[dU,og,eQ]at hd
  exact .tup h (i1 hd.1) (i2 hd.2)
 | obj h l x _ i1 ih=>simp[D.fr]at hd
 | fz h x _ i1 ih=>simp[D.fr]at hd
 | bN h _ ih=>exact .bN h (ih (by simpa[D.fr]using hd))
theorem R.inj(r:R F H ds vs A):∀{B:List Addr},R F H ds vs B->A=B:=by
 induction r with
 | nil=>intro B q;cases q;rfl
 | ay _ ih=>intro B q;cases q with | ay q=>exact ih q
 | bl _ ih=>intro B q;cases q with | bl q=>exact ih q
 | int _ ih=>intro B q;cases q with | int q=>exact ih q
 | str _ ih=>intro B q;cases q with | str q=>exact ih q
 | shr h x _ i1 ih=>intro B q;cases q with | shr _ _ q=>exact ih q
 | own h f _ _ i1 i2 =>
  intro B q
  cases q with
  | own h' f' x' q =>
   rw[h]at h';cases h'
   rw[i1 x',i2 q]
 | tup h _ _ i1 i2 =>
  intro B q
  cases q with
  | tup h' x' q =>
   rw[h]at h';cases h'
   rw[i1 x',i2 q]
 | obj h l x _ i1 ih=>intro B q;cases q with | obj _ _ _ q=>exact ih q
 | fz h x _ i1 ih=>intro B q;cases q with | fz _ _ q=>exact ih q
 | bN h _ ih=>intro B q;cases q with | bN _ q=>exact ih q
theorem R.perm{ps qs:List (D × V)}(hp:ps.Perm qs):∀{A:List Addr},R F H (ps.map (·.1)) (ps.map (·.2)) A->∃A',R F H (qs.map (·.1)) (qs.map (·.2)) A'/\A.Perm A':=by
 induction hp with
 | nil=>exact λr=>⟨_,r,.refl _⟩
 | cons x _ ih =>
  intro A r
  obtain⟨v,cO,A1,A2,e,rfl,h1,h2⟩:=R.dD r
  obtain⟨rfl,rfl⟩:=nM e
  obtain⟨A',r',p⟩:=ih h2
  exact⟨A1++A',h1.cons r',p.append_left _⟩
 | swap x y l =>
  intro A r
  obtain⟨v,cO,A1,A2,e,rfl,h1,h2⟩:=R.dD r
  obtain⟨rfl,rfl⟩:=nM e
  obtain⟨v2,T9,B1,B2,e,rfl,h3,h4⟩:=R.dD h2
  obtain⟨rfl,rfl⟩:=nM e
  exact⟨B1++(A1++B2),h3.cons (h1.cons h4),by rw[<-eV,<- eV];exact qe.append_right _⟩
 | trans _ _ i1 i2 =>
  intro A r
  obtain⟨A',r',p⟩:=i1 r
  obtain⟨A2,r2,p2⟩:=i2 r'
  exact⟨A2,r2,p.trans p2⟩
def Full(F H:Hp):Prop:=∀a o,H a=some o->(∀ws,o≠.lst ws)->F a=some o
theorem Full.refl(H:Hp):Full H H:=λ_ _ h _=>h
theorem R.full(hF:Full F H)(hs:ah F H')(r:R F H ds vs A)(e:A=[]):R F H' ds vs []:=by
 induction r with
 | nil=>exact .nil
 | ay _ ih=>exact .ay (ih e)
 | bl _ ih=>exact .bl (ih e)
 | int _ ih=>exact .int (ih e)
 | str _ ih=>exact .str (ih e)
 | shr h x _ i1 ih=>exact .shr h (i1 rfl) (ih e)
 | own h f _ _ i1 i2=>cases e
 | tup h _ _ i1 i2 =>
  obtain⟨e1,e2⟩:=FN.mp e
  exact R.tup (A:=[]) (B:=[]) (hs _ _ (hF _ _ h (by intro ws z;cases z))) (i1 e1) (i2 e2)
 | obj h l x _ i1 ih=>exact .obj (hs _ _ (hF _ _ h (by intro ws z;cases z))) l (i1 rfl) (ih e)
 | fz h x _ i1 ih=>exact .fz h (i1 rfl) (ih e)
 | bN h _ ih=>exact .bN (h.mono λa o e n t=>hs.get a o (hF a o e n) t) (ih e)
open Classical in
def snap(F H:Hp):Hp:=λa=>if(∃o,H a=some o/\∀ws,o≠.lst ws)then H a else F a
theorem vV:Full (snap F H) H:=λa o h n=>by unfold snap;rw[if_pos ⟨o,h,n⟩];exact h
theorem t8(e:ah F H):ah F (snap F H):=⟨λa o h n=>by
 unfold snap;split
 ·exact e.get a o h n
 ·exact h,λa ps h=>by
 unfold snap;split
 ·exact e.tb a ps h
 ·exact⟨#[],by rw[h];simp⟩⟩
theorem cp5(e:ah F H):ah (snap F H) H:=⟨λa o h n=>by
 unfold snap at h;split at h
 ·exact h
 ·exact e.get a o h n,λa ps h=>by
 unfold snap at h;split at h
 ·exact⟨#[],by rw[h];simp⟩
 ·exact e.tb a ps h⟩
theorem ca8(e:ah F H){a:Addr}{ws:List V}(h:snap F H a=some (.lst ws)):F a=some (.lst ws):=by
 unfold snap at h;split at h
 ·rename_i z
  obtain⟨o,h1,h2⟩:=z
  rw[h]at h1;exact absurd (cT h1).symm (h2 ws)
 ·exact h
theorem bY8{a:Addr}{ws:List V}(h:H a=some (.lst ws))(n:F a=none):snap F H a=none:=by
 unfold snap;split
 ·rename_i z
  obtain⟨o,h1,h2⟩:=z
  rw[h]at h1;exact absurd (cT h1).symm (h2 ws)
 ·exact n
end
end L3
namespace L3
open PySem L2
abbrev Dl:=List (Option D)
inductive RS(F H:Hp):Dl->St->List Addr->Prop
 | nil:RS F H [] [] []
 | ay {δ σ o C}:RS F H δ σ C->RS F H (none::δ) (o::σ) C
 | g5 {d v A δ σ C}:R F H [d] [v] A->RS F H δ σ C->RS F H (some d::δ) (some v::σ) (A++C)
theorem iz{A B:List Addr}:(A++B).Nodup↔A.Nodup/\B.Nodup/\∀a∈A,a ∉ B:=by
 rw[List.nodup_append]
 constructor
 ·rintro⟨h1,h2,h3⟩;exact⟨h1,h2,λa ha hb=>h3 a ha a hb rfl⟩
 ·rintro⟨h1,h2,h3⟩;exact⟨h1,h2,λa ha b hb e=>h3 a ha (e ▸ hb)⟩
section
variable{F F' H H':Hp}{d:D}{v:V}{δ:Dl}{σ:St}{A C:List Addr}{i:Nat}
theorem RS.length(r:RS F H δ σ C):δ.length=σ.length:=by induction r<;>simp_all
theorem RS.pick:∀{δ:Dl} {σ:St} {C:List Addr} {i:Nat},RS F H δ σ C->δ[i]?=some (some d)->∃v A C',σ[i]?=some (some v)/\R F H [d] [v] A/\RS F H (δ.set i none) σ C'/\C.Perm (A++C')
 | _,_,_,_,.nil,e=>by simp at e
 | _,_,_,i,.ay r,e=>by
  cases i with
  | zero=>simp at e
  | succ i =>
   obtain⟨v,A,C',e1,h1,h2,p⟩:=RS.pick r (by simpa using e)
   exact⟨v,A,C',by simpa using e1,h1,.ay h2,p⟩
 | _,_,_,i,.g5 (A:=A0) (C:=C0) h r,e=>by
  cases i with
  | zero =>
   simp at e;subst e
   exact⟨_,A0,C0,rfl,h,.ay r,.refl _⟩
  | succ i =>
   obtain⟨v,A,C',e1,h1,h2,p⟩:=RS.pick r (by simpa using e)
   refine⟨v,A,A0++C',by simpa using e1,h1,.g5 h h2,(p.append_left A0).trans ?_⟩
   rw[<-eV,<- eV]
   exact qe.append_right _
theorem RS.fill:∀{δ:Dl} {σ:St} {C:List Addr} {i:Nat},RS F H δ σ C->δ[i]?=some none->σ[i]?=some (some v)->R F H [d] [v] A->∃C',RS F H (δ.set i (some d)) σ C'/\C'.Perm (A++C)
 | _,_,_,_,.nil,e,_,_=>by simp at e
 | _,_,_,i,.ay r,e,e2,h=>by
  cases i with
  | zero=>simp at e2;subst e2;exact⟨_,.g5 h r,.refl _⟩
  | succ i =>
   obtain⟨C',h1,p⟩:=RS.fill r (by simpa using e) (by simpa using e2) h
   exact⟨C',.ay h1,p⟩
 | _,_,_,i,.g5 (A:=A0) (C:=C0) h0 r,e,e2,h=>by
  cases i with
  | zero=>simp at e
  | succ i =>
   obtain⟨C',h1,p⟩:=RS.fill r (by simpa using e) (by simpa using e2) h
   refine⟨A0++C',.g5 h0 h1,(p.append_left A0).trans ?_⟩
   rw[<-eV,<- eV]
   exact qe.append_right _
theorem RS.drop:∀{δ:Dl} {σ:St} {C:List Addr} (i:Nat),RS F H δ σ C->∃C',RS F H (δ.set i none) σ C'/\C'.Sublist C
 | _,_,_,_,.nil=>⟨_,.nil,.refl _⟩
 | _,_,_,i,.ay r=>by
  cases i with
  | zero=>exact⟨_,.ay r,.refl _⟩
  | succ i=>obtain⟨C',h,s⟩:=RS.drop i r;exact⟨C',.ay h,s⟩
 | _,_,_,i,.g5 (A:=A0) h0 r=>by
  cases i with
  | zero=>exact⟨_,.ay r,List.sublist_append_right _ _⟩
  | succ i=>obtain⟨C',h,s⟩:=RS.drop i r;exact⟨_,.g5 h0 h,(RL A0).append s⟩
theorem RS.zO:∀{δ:Dl} {σ:St} {C:List Addr} {i:Nat} (o:Option V),RS F H δ σ C->(δ[i]?=some none\/δ[i]?=none)->RS F H δ (σ.set i o) C
 | _,_,_,_,_,.nil,_=>.nil
 | _,_,_,i,_,.ay r,e=>by
  cases i with
  | zero=>exact .ay r
  | succ i=>exact .ay (RS.zO _ r (by simpa using e))
 | _,_,_,i,_,.g5 h0 r,e=>by
  cases i with
  | zero=>simp at e
  | succ i=>exact .g5 h0 (RS.zO _ r (by simpa using e))
theorem RS.keep{W:List Addr}(hf:ah F F')(hb:iy W H H')(hl:jA W H)(r:RS F H δ σ C)(hn:∀a∈C,F' a=none)(hd:∀a∈C,a ∉ W):RS F' H' δ σ C:=by
 induction r with
 | nil=>exact .nil
 | ay _ ih=>exact .ay (ih hn hd)
 | g5 h _ ih=>exact .g5 (h.keep hf hb hl (λa ha=>hn a (by simp[ha])) λa ha=>hd a (by simp[ha])) (ih (λa ha=>hn a (by simp[ha])) λa ha=>hd a (by simp[ha]))
theorem RS.lists(r:RS F H δ σ C):∀a∈C,(∃ws,H a=some (.lst ws))/\F a=none:=by
 induction r with
 | nil=>simp
 | ay _ ih=>exact ih
 | g5 h _ ih=>exact λa ha=>(bY.mp ha).elim (h.lists a) (ih a)
end
structure Bs where
 H0:Hp
 F0:Hp
structure ax(B:Bs)(F H:Hp)(σ:St)(δ:Dl)(ts:List (D × V)):Prop where
 ext:ah F H
 b1:ah B.H0 H
 b2:ah B.F0 F
 b3:∀a ws,F a=some (.lst ws)->B.F0 a=some (.lst ws)\/B.H0 a=none
 own:∃A C,R F H (ts.map (·.1)) (ts.map (·.2)) A/\RS F H δ σ C/\(A++C).Nodup/\∀a∈A++C,B.H0 a=none
section
variable{B:Bs}{F F' H H':Hp}{d:D}{v:V}{δ:Dl}{σ:St}{ts ps:List (D × V)}{A C W:List Addr}{i:Nat}{p:Addr}{xs ys:List D}{vs ws:List V}
theorem ax.look(c:ax B F H σ δ ts)(e:δ[i]?=some (some d)):∃v,σ[i]?=some (some v)/\S F H [d] [v]:=by
 obtain⟨A,C,r,s,nd,fr⟩:=c.own
 obtain⟨v,A',C',e1,h1,h2,p⟩:=s.pick e
 exact⟨v,e1,h1.s⟩
theorem ax.len(c:ax B F H σ δ ts):δ.length=σ.length:=let⟨_,_,_,s,_⟩:=c.own;s.length
theorem ax.grow(c:ax B F H σ δ ts)(h:ah H H'):ax B F H' σ δ ts:=by
 obtain⟨A,C,r,s,nd,fr⟩:=c.own
 exact⟨c.ext.trans h,c.b1.trans h,c.b2,c.b3,A,C,r.grow (ah.refl _) h λa ha=>(r.lists a ha).2,s.keep (ah.refl _) (iy.same h) jA.nil (λa ha=>(s.lists a ha).2) (by simp),nd,fr⟩
theorem ax.pop(c:ax B F H σ δ ((d,v)::ts)):ax B F H σ δ ts:=by
 obtain⟨A,C,r,s,nd,fr⟩:=c.own
 obtain⟨w,cO,A1,A2,e,rfl,h1,h2⟩:=R.dD r
 obtain⟨rfl,rfl⟩:=nM e
 refine⟨c.ext,c.b1,c.b2,c.b3,A2,C,h2,s,?_,λa ha=>fr a (by simp at ha ⊢;exact .inr ha)⟩
 rw[eV]at nd
 exact(iz.mp nd).2.1
theorem ax.top(c:ax B F H σ δ ((d,v)::ts)):S F H [d] [v]:=by
 obtain⟨A,C,r,s,nd,fr⟩:=c.own
 obtain⟨w,cO,A1,A2,e,rfl,h1,h2⟩:=R.dD r
 obtain⟨rfl,rfl⟩:=nM e
 exact h1.s
theorem ax.pushS(c:ax B F H σ δ ts)(s:S F H [d] [v])(pl:d.pl=true):ax B F H σ δ ((d,v)::ts):=by
 obtain⟨A,C,r,q,nd,fr⟩:=c.own
 exact⟨c.ext,c.b1,c.b2,c.b3,A,C,(s.r (by simp[pl])).cons r,q,nd,fr⟩
theorem ah.upd{o:HO}(h:H p=none):ah H (upd H p o):=.of λb u e=>by rw[bx (fB e h)];exact e
theorem ax.pack(c:ax B F H σ δ (ps++ts))(hs:ah H H')(k:∀A1,R F H' (ps.map (·.1)) (ps.map (·.2)) A1->A1.Nodup->∃A',R F H' [d] [v] A'/\A'.Nodup/\∀a∈A',a∈A1\/H a=none):ax B F H' σ δ ((d,v)::ts):=by
 obtain⟨A,C,r,s,nd,fr⟩:=c.own
 rw[gh,gh]at r
 obtain⟨v1,v2,A1,A2,e,rfl,h1,h2⟩:=R.split r
 have l1:(ps.map (·.2)).length=v1.length:=by rw[<-h1.length];simp
 obtain⟨rfl,rfl⟩:=FP e l1
 rw[eV]at nd fr
 obtain⟨n1,n2,n3⟩:=iz.mp nd
 have g1:=h1.grow (ah.refl F) hs λa ha=>(h1.lists a ha).2
 have g2:=h2.grow (ah.refl F) hs λa ha=>(h2.lists a ha).2
 have gs:=s.keep (ah.refl F) (iy.same hs) jA.nil (λa ha=>(s.lists a ha).2) (by simp)
 obtain⟨A',r',mO,sub⟩:=k A1 g1 n1
 refine⟨c.ext.trans hs,c.b1.trans hs,c.b2,c.b3,A'++A2,C,r'.cons g2,gs,?_,?_⟩
 ·rw[eV]
  refine iz.mpr ⟨mO,n2,λa ha hb=>?_⟩
  rcases sub a ha with z | z
  ·exact n3 a z hb
  ·rcases bY.mp hb with y | y
   ·obtain⟨⟨_,q⟩,_⟩:=h2.lists a y;rw[z]at q;cases q
   ·obtain⟨⟨_,q⟩,_⟩:=s.lists a y;rw[z]at q;cases q
 ·intro a ha
  rw[eV]at ha
  rcases bY.mp ha with y | y
  ·rcases sub a y with z | z
   ·exact fr a (by simp[z])
   ·exact c.b1.free z
  ·exact fr a (fc _ y)
theorem ax.Hr(c:ax B F H σ δ ts)(hs:ah H H')(r:R F H' [d] [v] A)(nd:A.Nodup)(fr:∀a∈A,H a=none):ax B F H' σ δ ((d,v)::ts) :=
 ax.pack (ps:=[]) c hs λ_ _ _=>⟨A,r,nd,λa ha=>.inr (fr a ha)⟩
theorem ax.qB(c:ax B F H σ δ ts)(hp:H p=none)(s:S F H xs vs)(pl:xs.all D.pl=true):ax B F (upd H p (.lst vs)) σ δ ((.lst true xs,.ref p)::ts) :=
 c.Hr (ah.upd hp) (A:=[p]) (by simpa using R.own cH (c.ext.free hp) ((s.r pl).shared (ah.refl _) (ah.upd hp)) .nil) (by simp) (by simp[hp])
theorem ax.dE1(c:ax B F H σ δ (ps++ts))(hp:H p=none):ax B F (upd H p (.lst (ps.map (·.2)))) σ δ ((.lst true (ps.map (·.1)),.ref p)::ts):=by
 refine c.pack (ah.upd hp) λA1 r nd=>⟨p::A1,by simpa using R.own cH (c.ext.free hp) r .nil,jj.mpr ⟨λh=>?_,nd⟩,λa ha=>?_⟩
 ·obtain⟨A,C,r0,_,_,_⟩:=c.own
  rw[gh,gh]at r0
  obtain⟨v1,v2,B1,B2,e,rfl,h1,h2⟩:=R.split r0
  have l1:(ps.map (·.2)).length=v1.length:=by rw[<-h1.length];simp
  obtain⟨rfl,rfl⟩:=FP e l1
  have g1:=h1.grow (ah.refl F) (ah.upd (o:=.lst (ps.map (·.2))) hp) λa ha=>(h1.lists a ha).2
  have:A1=B1:=R.inj r g1
  subst this
  obtain⟨⟨_,q⟩,_⟩:=h1.lists p h
  rw[hp]at q;cases q
 ·rcases cA.mp ha with rfl | h
  ·exact .inr hp
  ·exact .inl h
theorem ax.dE2(c:ax B F H σ δ (ps++ts))(hp:H p=none):ax B F (upd H p (.tup (ps.map (·.2)))) σ δ ((.tup (ps.map (·.1)),.ref p)::ts) :=
 c.pack (ah.upd hp) λA1 r nd=>⟨A1,by simpa using R.tup (F:=F) cH r .nil,nd,λa ha=>.inl ha⟩
theorem ax.perm(c:ax B F H σ δ ps)(h:ps.Perm ts):ax B F H σ δ ts:=by
 obtain⟨A,C,r,s,nd,fr⟩:=c.own
 obtain⟨A',r',p⟩:=r.perm h
 have pp:=p.append_right C
 exact⟨c.ext,c.b1,c.b2,c.b3,A',C,r',s,pp.nodup_iff.mp nd,λa ha=>fr a (pp.mem_iff.mpr ha)⟩
theorem ax.move(c:ax B F H σ δ ts)(e:δ[i]?=some (some d)):∃v,σ[i]?=some (some v)/\ax B F H σ (δ.set i none) ((d,v)::ts):=by
 obtain⟨A,C,r,s,nd,fr⟩:=c.own
 obtain⟨v,A',C',e1,h1,h2,p⟩:=s.pick e
 have pp:(A++C).Perm ((A'++A)++C'):=by
  refine(p.append_left A).trans ?_
  rw[<-eV]
  exact qe.append_right _
 exact⟨v,e1,c.ext,c.b1,c.b2,c.b3,A'++A,C',h1.cons r,h2,pp.nodup_iff.mp nd,λa ha=>fr a (pp.mem_iff.mpr ha)⟩
theorem ax.forget(c:ax B F H σ δ ts)(i:Nat):ax B F H σ (δ.set i none) ts:=by
 obtain⟨A,C,r,s,nd,fr⟩:=c.own
 obtain⟨C',h,sb⟩:=s.drop i
 exact⟨c.ext,c.b1,c.b2,c.b3,A,C',r,h,nd.sublist ((RL A).append sb),λa ha=>fr a (((RL A).append sb).subset ha)⟩
theorem ax.fill(c:ax B F H σ δ ((d,v)::ts))(e:δ[i]?=some none)(e2:σ[i]?=some (some v)):ax B F H σ (δ.set i (some d)) ts:=by
 obtain⟨A,C,r,s,nd,fr⟩:=c.own
 obtain⟨w,cO,A1,A2,e',rfl,h1,h2⟩:=R.dD r
 obtain⟨rfl,rfl⟩:=nM e'
 obtain⟨C',s',p⟩:=s.fill e e2 h1
 have pp:((A1++A2)++C).Perm (A2++C'):=by
  refine((qe (l₁:=A1) (l₂:=A2)).append_right C).trans ?_
  rw[eV]
  exact(p.symm).append_left A2
 exact⟨c.ext,c.b1,c.b2,c.b3,A2,C',h2,s',pp.nodup_iff.mp nd,λa ha=>fr a (pp.mem_iff.mpr ha)⟩
theorem ax.zO(c:ax B F H σ δ ts)(o:Option V)(e:δ[i]?=some none\/δ[i]?=none):ax B F H (σ.set i o) δ ts:=by
 obtain⟨A,C,r,s,nd,fr⟩:=c.own
 exact⟨c.ext,c.b1,c.b2,c.b3,A,C,r,s.zO o e,nd,fr⟩
theorem ax.store(c:ax B F H σ δ ((d,v)::ts))(i:Nat):ax B F H (σ.set i (some v)) (δ.set i (some d)) ts:=by
 by_cases hi:i<δ.length
 ·have c1:=c.forget i
  have hs:i<σ.length:=by rw[<-c.len];exact hi
  have e:(δ.set i none)[i]?=some none:=by simp[hi]
  have c2:=(c1.zO (some v) (.inl e)).fill (i:=i) e (by simp[hs])
  rwa [RM]at c2
 ·have hs:¬ i<σ.length:=by rw[<-c.len];exact hi
  rw[db9 (by omega),db9 (by omega)]
  exact c.pop
theorem ax.mut(c:ax B F H σ δ (ps++ts))(e:δ[i]?=some (some (.lst true xs)))(e2:σ[i]?=some (some (.ref p)))
  (k:∀ws A1 A2,H p=some (.lst ws)->R F H xs ws A1->R F H (ps.map (·.1)) (ps.map (·.2)) A2->(A1++A2).Nodup->∃A',R F H ys vs A'/\A'.Nodup/\∀a∈A',a∈A1++A2) :
  ax B F (upd H p (.lst vs)) σ (δ.set i (some (.lst true ys))) ts:=by
 have hi:i<δ.length:=(ji.mp e).1
 obtain⟨v,e3,c1⟩:=c.move e
 rw[e2]at e3;cases e3
 obtain⟨A,C,r,s,nd,fr⟩:=c1.own
 have r':R F H (([.lst true xs]++ps.map (·.1))++ts.map (·.1)) ((.ref p::ps.map (·.2))++ts.map (·.2)) A:=by simpa using r
 obtain⟨v1,v2,A1,A2,e4,rfl,h1,h2⟩:=R.split r'
 have l1:(V.ref p::ps.map (·.2)).length=v1.length:=by rw[<-h1.length];simp
 obtain⟨rfl,rfl⟩:=FP e4 l1
 cases h1 with
 | @own _ zP _ B1 _ _ B2 hH hF hx hr =>
  rw[eV]at nd fr
  obtain⟨n1,n2,n3⟩:=iz.mp nd
  obtain⟨m1,m2⟩:=jj.mp n1
  obtain⟨A',ra,nda,sub⟩:=k zP B1 B2 hH hx hr m2
  have pA:p ∉ A':=λz=>m1 (sub _ z)
  have pR:p ∉ A2++C:=λz=>n3 p (by simp) z
  have but:iy [p] H (upd H p (.lst vs)):=⟨λa o q z _=>by rw[bx (by simpa using z)];exact q⟩
  have hl:jA [p] H:=λa ha=>by rw[dW.mp ha];exact⟨_,hH⟩
  have g1:=ra.keep (ah.refl F) but hl (λa ha=>(ra.lists a ha).2) λa ha z=>pA (by rw[<-dW.mp z];exact ha)
  have g2:=h2.keep (ah.refl F) but hl (λa ha=>(h2.lists a ha).2) λa ha z=>pR (by rw[<-dW.mp z];exact gP _ ha)
  have gs:=s.keep (ah.refl F) but hl (λa ha=>(s.lists a ha).2) λa ha z=>pR (by rw[<-dW.mp z];exact fc _ ha)
  have fp:B.H0 p=none:=fr p (by simp)
  have b1:ah B.H0 (upd H p (.lst vs)):=⟨λa o q n=>by
   rw[bx (λz=>by rw[z,fp]at q;cases q)]
   exact c1.b1.get a o q n,λa ps q=>by
   rw[bx (λz=>by rw[z,fp]at q;cases q)]
   exact c1.b1.tb a ps q⟩
  have ext:ah F (upd H p (.lst vs)):=⟨λa o q n=>by
   rw[bx (λz=>by rw[z,hF]at q;cases q)]
   exact c1.ext.get a o q n,λa ps q=>by
   rw[bx (λz=>by rw[z,hF]at q;cases q)]
   exact c1.ext.tb a ps q⟩
  have c2:ax B F (upd H p (.lst vs)) σ (δ.set i none) ((.lst true ys,.ref p)::ts):=by
   refine⟨ext,b1,c1.b2,c1.b3,(p::A')++A2,C,R.cons (by simpa using R.own cH hF g1 .nil) g2,gs,?_,?_⟩
   ·rw[eV]
    refine iz.mpr ⟨jj.mpr ⟨pA,nda⟩,n2,λa ha hb=>?_⟩
    rcases cA.mp ha with rfl | ha
    ·exact pR hb
    ·exact n3 a (dY _ (sub a ha)) hb
   ·intro a ha
    rw[eV]at ha
    rcases bY.mp ha with z | z
    ·rcases cA.mp z with rfl | z
     ·exact fp
     ·exact fr a (gP _ (dY _ (sub a z)))
    ·exact fr a (fc _ z)
  have c3:=c2.fill (i:=i) (by simp[hi]) e2
  rwa [RM]at c3
theorem ax.Hs(c:ax B F H σ δ ((d,v)::ts)):∃F',ah F F'/\ax B F' H σ δ ((d.sh,v)::ts):=by
 obtain⟨A,C,r,s,nd,fr⟩:=c.own
 obtain⟨w,cO,A1,A2,e',rfl,h1,h2⟩:=R.dD r
 obtain⟨rfl,rfl⟩:=nM e'
 rw[eV]at nd fr
 obtain⟨n1,n2,n3⟩:=iz.mp nd
 have out:∀a∈A2++C,cq F H A1 a=F a:=λa ha=>Ct λz=>n3 a z ha
 have b3:∀a o,cq F H A1 a=some (.lst o)->B.F0 a=some (.lst o)\/B.H0 a=none:=λa o q=>by
  by_cases z:a∈A1
  ·exact .inr (fr a (gP _ z))
  ·rw[Ct z]at q;exact c.b3 a o q
 refine⟨cq F H A1,mM c.ext,T8 c.ext,c.b1,c.b2.trans (mM c.ext),b3,A2,C,?_,?_,n2,λa ha=>fr a (fc _ ha)⟩
 ·have g1:=h1.cq c.ext A1 (λ_ h=>h)
  exact R.cons (A:=[]) g1 (h2.keep (mM c.ext) (iy.same (ah.refl H)) jA.nil (λa ha=>by rw[out a (gP _ ha)];exact(h2.lists a ha).2) (by simp))
 ·exact s.keep (mM c.ext) (iy.same (ah.refl H)) jA.nil (λa ha=>by rw[out a (fc _ ha)];exact(s.lists a ha).2) (by simp)
theorem ax.freeze(c:ax B F H σ δ ts)(e:δ[i]?=some (some d)):∃F',ah F F'/\ax B F' H σ (δ.set i (some d.sh)) ts:=by
 have hi:i<δ.length:=(ji.mp e).1
 obtain⟨v,e2,c1⟩:=c.move e
 obtain⟨F',s,c2⟩:=c1.Hs
 refine⟨F',s,?_⟩
 have c3:=c2.fill (i:=i) (by simp[hi]) e2
 rwa [RM]at c3
theorem ax.rebase(c:ax B F H σ δ ts):ax ⟨B.H0,F⟩ F H σ δ ts:=⟨c.ext,c.b1,ah.refl _,λ_ _ q=>.inl q,c.own⟩
theorem ax.dE4{F1:Hp}(c:ax ⟨B.H0,F1⟩ F H σ δ ts)(h:ah B.F0 F1)(h3:∀a ws,F1 a=some (.lst ws)->B.F0 a=some (.lst ws)\/B.H0 a=none):ax B F H σ δ ts :=
 ⟨c.ext,c.b1,h.trans c.b2,λa o q=>(c.b3 a o q).elim (h3 a o) .inr,c.own⟩
theorem ax.call(c:ax B F H σ δ ts)(hs:ah H H')(hf:ah F F')(he:ah F' H')(h3:∀a ws,F' a=some (.lst ws)->F a=some (.lst ws)\/H a=none)(r:R F' H' [d] [v] A)(nd:A.Nodup)(fr:∀a∈A,H a=none) :
  ax B F' H' σ δ ((d,v)::ts):=by
 obtain⟨A0,C,r0,s,nd0,fr0⟩:=c.own
 have no:∀a,(∃ws,H a=some (.lst ws))/\F a=none->F' a=none:=λa zz=>by
  obtain⟨⟨ws,e⟩,n⟩:=zz
  cases q:F' a with
  | none=>rfl
  | some o =>
   have q2:H' a=some o:=by
    cases n:jz o with
    | true=>exact he.get a o q n
    | false =>
     obtain⟨ps,rfl⟩:=Hl n
     obtain⟨m,z⟩:=he.tb a ps q
     rw[hs a _ e]at z
     cases z
   rw[hs a _ e]at q2
   cases q2
   rcases h3 a ws q with z | z
   ·rw[n]at z;cases z
   ·rw[e]at z;cases z
 refine⟨he,c.b1.trans hs,c.b2.trans hf,λa o q=>(h3 a o q).elim (c.b3 a o) λz=>.inr (c.b1.free z),A++A0,C,R.cons r (r0.grow hf hs λa ha=>no a (r0.lists a ha)),
  s.keep hf (iy.same hs) jA.nil (λa ha=>no a (s.lists a ha)) (by simp),?_,?_⟩
 ·rw[eV]
  refine iz.mpr ⟨nd,nd0,λa ha hb=>?_⟩
  have z:=fr a ha
  rcases bY.mp hb with y | y
  ·obtain⟨⟨_,q⟩,_⟩:=r0.lists a y;rw[z]at q;cases q
  ·obtain⟨⟨_,q⟩,_⟩:=s.lists a y;rw[z]at q;cases q
 ·intro a ha
  rw[eV]at ha
  rcases bY.mp ha with y | y
  ·exact c.b1.free (fr a y)
  ·exact fr0 a y
theorem ax.inS(c:ax B F H σ δ ((d,v)::ts)):ax B F H (some v::σ) (some d::δ) ts:=by
 obtain⟨A,C,r,s,nd,fr⟩:=c.own
 obtain⟨w,cO,A1,A2,e',rfl,h1,h2⟩:=R.dD r
 obtain⟨rfl,rfl⟩:=nM e'
 have pp:((A1++A2)++C).Perm (A2++(A1++C)):=by
  rw[<-eV];exact qe.append_right C
 exact⟨c.ext,c.b1,c.b2,c.b3,A2,A1++C,h2,.g5 h1 s,pp.nodup_iff.mp nd,λa ha=>fr a (pp.mem_iff.mpr ha)⟩
theorem ax.dE8{w:V}(c:ax B F H (some w::σ) (some d::δ) ts):ax B F H σ δ ((d,w)::ts):=by
 obtain⟨A,C,r,s,nd,fr⟩:=c.own
 cases s with
 | @g5 _ _ A1 _ _ C1 h1 s =>
  have pp:(A++(A1++C1)).Perm ((A1++A)++C1):=by
   rw[<-eV];exact qe.append_right C1
  exact⟨c.ext,c.b1,c.b2,c.b3,A1++A,C1,R.cons h1 r,s,pp.nodup_iff.mp nd,λa ha=>fr a (pp.mem_iff.mpr ha)⟩
theorem ax.dE9(c:ax B F H σ δ ((d,v)::(.lst true xs,.ref p)::ts))(hp:H p=some (.lst ws)):ax B F (upd H p (.lst (ws++[v]))) σ δ ((.lst true (xs++[d]),.ref p)::ts):=by
 have c1:=(c.perm (List.Perm.swap _ _ _)).inS
 refine(ax.mut (ps:=[(d,v)]) (i:=0) (ys:=xs++[d]) (vs:=ws++[v]) c1 rfl rfl λgq A1 A2 h r1 r2 nd=>?_).dE8
 rw[hp]at h;cases h
 exact⟨A1++A2,r1.append r2,nd,λa ha=>ha⟩
theorem ax.app(c:ax B F H σ δ ((d,v)::ts))(e:δ[i]?=some (some (.lst true xs)))(e2:σ[i]?=some (some (.ref p)))(hp:H p=some (.lst ws)) :
  ax B F (upd H p (.lst (ws++[v]))) σ (δ.set i (some (.lst true (xs++[d])))) ts :=
 ax.mut (ps:=[(d,v)]) c e e2 λgq A1 A2 h r1 r2 nd=>by
  rw[hp]at h;cases h
  exact⟨A1++A2,r1.append r2,nd,λa ha=>ha⟩
theorem R.Ua:∀{xs:List D} {ws:List V} {A1 A2:List Addr} (j:Nat),R F H xs ws A1->R F H [d] [v] A2->(A1++A2).Nodup->∃A',R F H (xs.set j d) (ws.set j v) A'/\A'.Nodup/\∀a∈A',a∈A1++A2
 | [],_,A1,A2,j,r,q,nd=>by cases r;exact⟨[],.nil,by simp,by simp⟩
 | x::xs,_,A1,A2,j,r,q,nd=>by
  obtain⟨w,gq,B1,B2,rfl,rfl,h1,h2⟩:=r.dD
  rw[eV]at nd
  obtain⟨n1,n2,n3⟩:=iz.mp nd
  cases j with
  | zero =>
   refine⟨A2++B2,q.cons h2,(qe (l₁:=B2) (l₂:=A2)).nodup_iff.mp n2,λa ha=>?_⟩
   simp only[bY]at ha ⊢
   rcases ha with z | z
   ·exact .inr z
   ·exact .inl (.inr z)
  | succ j =>
   obtain⟨A',r',mO,sub⟩:=R.Ua j h2 q n2
   refine⟨B1++A',h1.cons r',iz.mpr ⟨n1,mO,λa ha hb=>n3 a ha (sub a hb)⟩,λa ha=>?_⟩
   rcases bY.mp ha with z | z
   ·simp[z]
   ·have:=sub a z
    simp only[bY]at this ⊢
    rcases this with z | z
    ·exact .inl (.inr z)
    ·exact .inr z
theorem ax.dF0(c:ax B F H σ δ ((d,v)::ts))(e:δ[i]?=some (some (.lst true xs)))(e2:σ[i]?=some (some (.ref p)))(hp:H p=some (.lst ws))(j:Nat) :
  ax B F (upd H p (.lst (ws.set j v))) σ (δ.set i (some (.lst true (xs.set j d)))) ts :=
 ax.mut (ps:=[(d,v)]) c e e2 λgq A1 A2 h r1 r2 nd=>by
  rw[hp]at h;cases h
  exact r1.Ua j r2 nd
theorem ax.ownAt(c:ax B F H σ δ ts)(e:δ[i]?=some (some (.lst true xs))):∃p ws,σ[i]?=some (some (.ref p))/\H p=some (.lst ws)/\xs.length=ws.length:=by
 obtain⟨v,e1,s⟩:=c.look e
 cases s with
 | own h x _=>exact⟨_,_,e1,h,x.length⟩
theorem RS.start{ds:List D}{vs:List V}(r:R F H ds vs [])(n:Nat):RS F H (ds.map some++bF n none) (vs.map some++bF n none) []:=by
 have z:∀n,RS F H (bF n none) (bF n none) []:=λn=>by
  induction n with
  | zero=>exact .nil
  | succ n ih=>exact .ay ih
 have:∀(ds:List D) (vs:List V),R F H ds vs []->RS F H (ds.map some++bF n none) (vs.map some++bF n none) []:=by
  intro ds
  induction ds with
  | nil=>intro vs r;cases r;exact z n
  | cons d ds ih =>
   intro vs r
   obtain⟨v,cO,A1,A2,rfl,e,h1,h2⟩:=r.dD
   obtain⟨rfl,rfl⟩:=FN.mp e.symm
   exact .g5 (A:=[]) h1 (ih _ h2)
 exact this ds vs r
theorem ax.start{ds:List D}{vs:List V}(e:ah F H)(r:R F H ds vs [])(n:Nat):ax ⟨H,F⟩ F H (vs.map some++bF n none) (ds.map some++bF n none) [] :=
 ⟨e,ah.refl _,ah.refl _,λ_ _ q=>.inl q,[],[],.nil,RS.start r n,by simp,by simp⟩
theorem ax.snap(c:ax B F H σ δ ts):ax B (L3.snap F H) H σ δ ts:=by
 obtain⟨A,C,r,s,nd,fr⟩:=c.own
 have no:∀a,(∃ws,H a=some (.lst ws))/\F a=none->L3.snap F H a=none:=λa ⟨⟨ws,e⟩,n⟩=>bY8 e n
 exact⟨cp5 c.ext,c.b1,c.b2.trans (t8 c.ext),λa ws q=>c.b3 a ws (ca8 c.ext q),A,C,r.grow (t8 c.ext) (ah.refl _) λa ha=>no a (r.lists a ha),
  s.keep (t8 c.ext) (iy.same (ah.refl _)) jA.nil (λa ha=>no a (s.lists a ha)) (by simp),nd,fr⟩
end
end L3
namespace L3
open PySem L2 PySem.Spec PyProof.Rows
abbrev aY:=Dl->(D->Dl->Prop)->Prop
abbrev fR:=Dl->(Bool->Dl->Prop)->Prop
abbrev df:=Dl->(List D->Dl->Prop)->Prop
structure t9 where
 nx:Dl->Prop
 rt:D->Prop
 bk:Dl->Prop:=λ_=>False
 ct:Dl->Prop:=λ_=>False
 xc:Addr->Dl->Prop:=λ_ _=>False
 xr:Addr->Dl->Prop:=λ_ _=>False
abbrev cW:=t9->Dl->Prop
def lE(t:aY):TE:=λσ H Q=>∃B F δ ts Qd,ax B F H σ δ ts/\t δ Qd/\∀d ak v F' H',Qd d ak->ah F F'->ah H H'->ax B F' H' σ ak ((d,v)::ts)->Q v H'
def lB(t:aY):TE:=λσ H Q=>∃B F δ ts Qd,ax B F H σ δ ts/\t δ Qd/\∀d ak v F' H',Qd d ak->ah F F'->ah H H'->ax B F' H' σ ak ts->S F' H' [d] [v]->Q v H'
def lT(t:fR):TT:=λσ H Q=>∃B F δ ts Qd,ax B F H σ δ ts/\t δ Qd/\∀b ak F' H',Qd b ak->ah F F'->ah H H'->ax B F' H' σ ak ts->Q b H'
def lA(t:df):TA:=λσ H Q=>∃B F δ ts Qd,ax B F H σ δ ts/\t δ Qd/\∀ds ak vs F' H',Qd ds ak->ah F F'->ah H H'->ax B F' H' σ ak ts->S F' H' ds vs->Q vs H'
def lO(t:df):TA:=λσ H Q=>∃B F δ ts Qd,ax B F H σ δ ts/\t δ Qd/\∀(ps:List (D × V)) ak F' H',Qd (ps.map (·.1)) ak->ah F F'->ah H H'->ax B F' H' σ ak (ps++ts)->Q (ps.map (·.2)) H'
def XL(X:Cx)(B:Bs)(Dd:t9):Prop :=
 (∀C ak pins aN F' H' s' a T,Dd.xc C ak->ax B F' H' aN ak []->Inv X pins aN H' s'->tY s'.heap a T (.ref C)->Apart X pins H' a->Apart X pins H' T->X.xe (.ref a) s') /\
 (∀C ak pins aN F' H' s' h' e vs,Dd.xr C ak->ax B F' H' aN ak []->Inv X pins aN H' s'->RK s'.heap h' e (.ref C) vs->X.xe (.ref e) { s' with heap:=h' })
theorem XL.none{X:Cx}{B:Bs}{Dd:t9}(h1:∀C δ,¬ Dd.xc C δ)(h2:∀C δ,¬ Dd.xr C δ):XL X B Dd:=⟨λC δ _ _ _ _ _ _ _ h=>absurd h (h1 C δ),λC δ _ _ _ _ _ _ _ _ h=>absurd h (h2 C δ)⟩
def lS(X:Cx)(t:cW):TS:=λD σ H=>∃B F δ Dd,ax B F H σ δ []/\t Dd δ/\(∀ak aN F' H',Dd.nx ak->ax B F' H' aN ak []->D.nx aN H')/\(∀d v ak aN F' H',Dd.rt d->ax B F' H' aN ak [(d,v)]->D.rt v H') /\
 (∀ak aN F' H',Dd.bk ak->ax B F' H' aN ak []->D.bk aN H')/\(∀ak aN F' H',Dd.ct ak->ax B F' H' aN ak []->D.ct aN H')/\XL X B Dd
section
variable{X:Cx}{e a b c:Expr}{es:List Expr}{pos:Pos}{st:Stmt}{zQ:List Stmt}
theorem dN{t t':TE}(h:PE X e t)(m:∀σ H Q,t' σ H Q->t σ H Q):PE X e t':=λpins s σ H Q I q=>h pins s σ H Q I (m σ H Q q)
theorem Ht{t t':TT}(h:PT X e t)(m:∀σ H Q,t' σ H Q->t σ H Q):PT X e t':=λpins s σ H Q I q=>h pins s σ H Q I (m σ H Q q)
theorem Ub{t t':TT}(h:PW X e t)(m:∀σ H Q,t' σ H Q->t σ H Q):PW X e t':=λwh pins s σ H Q I q=>h wh pins s σ H Q I (m σ H Q q)
theorem zR{t t':TA}(h:PA X es t)(m:∀σ H Q,t' σ H Q->t σ H Q):PA X es t':=λp pins s σ H Q I q=>h p pins s σ H Q I (m σ H Q q)
theorem mP{t t':TS}(h:PS X st t)(m:∀D σ H,t' D σ H->t D σ H):PS X st t':=λpins s σ H D I q=>h pins s σ H D I (m D σ H q)
theorem Hu{t t':TS}(h:PSs X zQ t)(m:∀D σ H,t' D σ H->t D σ H):PSs X zQ t':=λpins s σ H D I q=>h pins s σ H D I (m D σ H q)
variable{t u ta tb tc:aY}
theorem ae(h:PE X e (lE t)):PE X e (lB t):=dN h λσ H Q ⟨B,F,δ,ts,Qd,c,q,k⟩=>⟨B,F,δ,ts,Qd,c,q,λd ak v F' H' hd sf sh c'=>k d ak v F' H' hd sf sh c'.pop c'.top⟩
def oh(t:aY):aY:=λδ Q=>t δ λd ak=>d.pl=true/\Q d ak
theorem cN(h:PE X e (lB t)):PE X e (lE (oh t)):=dN h λσ H Q ⟨B,F,δ,ts,Qd,c,q,k⟩=>⟨B,F,δ,ts,_,c,q,λd ak v F' H' hd sf sh c' s=>k d ak v F' H' hd.2 sf sh (c'.pushS s hd.1)⟩
def kD(i:Nat):aY:=λδ Q=>match δ[i]? with
 | some (some d)=>Q d δ
 | _=>False
def mQ(i:Nat):aY:=λδ Q=>match δ[i]? with
 | some (some d)=>Q d (δ.set i none)
 | _=>False
theorem cF4{i:Nat}{δ:Dl}{Q:D->Dl->Prop}(h:kD i δ Q):∃d,δ[i]?=some (some d)/\Q d δ:=by
 unfold kD at h
 split at h
 ·rename_i d e;exact⟨d,e,h⟩
 ·exact h.elim
theorem cg5{i:Nat}{δ:Dl}{Q:D->Dl->Prop}(h:mQ i δ Q):∃d,δ[i]?=some (some d)/\Q d (δ.set i none):=by
 unfold mQ at h
 split at h
 ·rename_i d e;exact⟨d,e,h⟩
 ·exact h.elim
def dC(d:D):aY:=λδ Q=>Q d δ
theorem bv(i:Nat){x:Str}(hN:X.N[i]?=some x:=by rfl)(hv:mC X.env.scope x:=by first | exact ao rfl | exact aX (ao rfl) | exact aX (aX rfl))(hd:(x==("__debug__":Str))=false:=by decide)
  (da:(x==("__classdict__":Str))=false:=by decide):PE X (.Name x pos) (lB (kD i)):=dN (tN hN hv hd da) λσ H Q ⟨B,F,δ,ts,Qd,c,q,k⟩=>by
 obtain⟨d,e,q⟩:=cF4 q
 obtain⟨v,e1,s⟩:=c.look e
 exact⟨v,e1,k d δ v F H q (ah.refl _) (ah.refl _) c s⟩
theorem em(i:Nat){x:Str}(hN:X.N[i]?=some x:=by rfl)(hv:mC X.env.scope x:=by first | exact ao rfl | exact aX (ao rfl) | exact aX (aX rfl))(hd:(x==("__debug__":Str))=false:=by decide)
  (da:(x==("__classdict__":Str))=false:=by decide):PE X (.Name x pos) (lE (mQ i)):=dN (tN hN hv hd da) λσ H Q ⟨B,F,δ,ts,Qd,c,q,k⟩=>by
 obtain⟨d,e,q⟩:=cg5 q
 obtain⟨v,e1,c'⟩:=c.move e
 exact⟨v,e1,k d _ v F H q (ah.refl _) (ah.refl _) c'⟩
theorem Cu{B:Bs}{F H:Hp}{σ:L2.St}{δ:Dl}{ts:List (D × V)}{Qd:D->Dl->Prop}{Q:VK}{d:D}{v:V}(c:ax B F H σ δ ts)(q:Qd d δ)(s:S F H [d] [v])(p:d.pl=true)
  (k:∀d ak v F' H',Qd d ak->ah F F'->ah H H'->ax B F' H' σ ak ((d,v)::ts)->Q v H'):Q v H:=k d δ v F H q (ah.refl _) (ah.refl _) (c.pushS s p)
theorem aw{i j}:PE X (.Constant (.int i) j pos) (lE (dC (.int i))):=dN zh λσ H Q ⟨B,F,δ,ts,Qd,c,q,k⟩=>Cu c q (.int .nil) rfl k
theorem kE{i j}:PE X (.Constant (.bool i) j pos) (lE (dC (.bl i))):=dN cV0 λσ H Q ⟨B,F,δ,ts,Qd,c,q,k⟩=>Cu c q (.bl .nil) rfl k
theorem fC{j}:PE X (.Constant .none j pos) (lE (dC .ay)):=dN cK2 λσ H Q ⟨B,F,δ,ts,Qd,c,q,k⟩=>Cu c q (.ay .nil) rfl k
theorem Uc{x j}:PE X (.Constant (.str x) j pos) (lE (dC (.str x))):=dN cI0 λσ H Q ⟨B,F,δ,ts,Qd,c,q,k⟩=>Cu c q (.str .nil) rfl k
abbrev cP:=D->D->(D->Prop)->Prop
def Cv(r:R2)(rd:cP):Prop:=∀{B:Bs} {F H:Hp} {σ:L2.St} {δ:Dl} {ts:List (D × V)} {x y:D} {v w:V} {Q:VK} {Qd:D->Prop},ax B F H σ δ ts->S F H [x] [v]->S F H [y] [w]->rd x y Qd ->
 (∀d z H',Qd d->ah H H'->ax B F H' σ δ ((d,z)::ts)->Q z H')->r v w H Q
def bS(X:Cx)(f:Value->Value->Sem Value)(rd:cP):Prop:=∃r,cK X f r/\Cv r rd
theorem bS.or{f:Value->Value->Sem Value}{r1 r2:cP}(h1:bS X f r1)(h2:bS X f r2):bS X f λx y Q=>r1 x y Q\/r2 x y Q:=by
 obtain⟨q1,a1,b1⟩:=h1
 obtain⟨q2,a2,b2⟩:=h2
 refine⟨_,a1.or a2,λ{B F H σ δ ts x y v w Q Qd} c sx sy h k=>?_⟩
 rcases h with h | h
 ·exact .inl (b1 c sx sy h k)
 ·exact .inr (b2 c sx sy h k)
theorem bS.imp{f:Value->Value->Sem Value}{r1 r2:cP}(h1:bS X f r1)(h:∀x y Q,r2 x y Q->r1 x y Q):bS X f r2:=by
 obtain⟨q1,a1,b1⟩:=h1
 exact⟨q1,a1,λ{B F H σ δ ts x y v w Q Qd} c sx sy h2 k=>b1 c sx sy (h _ _ _ h2) k⟩
def kZ(rd:cP)(ta tb:aY):aY:=λδ Q=>ta δ λx av=>tb av λy bh=>rd x y λd=>Q d bh
theorem Hv{r:R2}{rd:cP}(hl:Cv r rd):∀σ H Q,lE (kZ rd ta tb) σ H Q->zt r (lB ta) (lB tb) σ H Q:=λσ H Q ⟨B,F,δ,ts,Qd,c,q,k⟩ =>
 ⟨B,F,δ,ts,_,c,q,λx av v F1 H1 q1 f1 h1 c1 s1=>⟨B,F1,av,ts,_,c1,q1,λy bh w F2 H2 q2 f2 h2 c2 s2 =>
  hl c2 (s1.mono f2 h2) s2 q2 λd z H' hd hs c3=>k d bh z F2 H' hd (f1.trans f2) ((h1.trans h2).trans hs) c3⟩⟩
theorem aG{op:Operator}{rd:cP}(ho:bS X (binaryOp op) rd)(ha:PE X a (lB ta))(hb:PE X b (lB tb)):PE X (.BinOp a op b pos) (lE (kZ rd ta tb)):=by
 obtain⟨r,h1,h2⟩:=ho
 exact dN (zu h1 ha hb) (Hv h2)
theorem vW{op:CmpOp}{rd:cP}(ho:bS X (compareOp op) rd)(ha:PE X a (lB ta))(hb:PE X b (lB tb))(hm:behindInMarks op b=false):PE X (.Compare a [op] [b] pos) (lE (kZ rd ta tb)):=by
 obtain⟨r,h1,h2⟩:=ho
 exact dN (cz4 h1 ha hb hm) (Hv h2)
def dT(t:aY):fR:=λδ Q=>t δ λd ak=>∃k,d=.bl k/\Q k ak
theorem ci7{te:TE}(h:∀σ H Q,lE t σ H Q->te σ H Q):∀σ H Q,lT (dT t) σ H Q->SG te σ H Q:=λσ H Q zz=>by
 obtain⟨B,F,δ,ts,Qd,c,q,k⟩:=zz
 refine h σ H _ ⟨B,F,δ,ts,_,c,q,λd ak v F' H' hd sf sh c'=>?_⟩
 obtain⟨b,rfl,qb⟩:=hd
 have s:=c'.top
 cases s with
 | bl _=>exact⟨b,rfl,k b ak F' H' qb sf sh c'.pop⟩
theorem bO{op:CmpOp}{rd:cP}(ho:bS X (compareOp op) rd)(ha:PE X a (lB ta))(hb:PE X b (lB tb))(hm:behindInMarks op b=false):PT X (.Compare a [op] [b] pos) (lT (dT (kZ rd ta tb))):=by
 obtain⟨r,h1,h2⟩:=ho
 exact Ht (cC1 h1 ha hb hm) (ci7 (Hv h2))
def oi(r r':cP)(ta tb tc:aY):aY:=λδ Q=>ta δ λx av=>tb av λy bh=>r x y λd=>∃k,d=.bl k/\if k=true then tc bh λz iU=>r' y z λd'=>Q d' iU else Q (.bl false) bh
theorem gr(h:PE X e (lB t))(he:∀whole,isTrue e X.env whole=(do let v<-whole;standAt e.pos;holding [v] (truthy v)):=by intro _;rfl):PT X e (lT (dT t)) :=
 Ht (Gr h he) λσ H Q ⟨B,F,δ,ts,Qd,c,q,k⟩=>⟨B,F,δ,ts,_,c,q,λd ak v F' H' hd sf sh c' s=>by
  obtain⟨b,rfl,qb⟩:=hd
  cases s with
  | bl _=>exact⟨b,rfl,k b ak F' H' qb sf sh c'⟩⟩
variable{tA tB:fR}{rest:List Expr}
def qC(t u:fR):fR:=λδ Q=>t δ λc av=>if c=true then u av Q else Q false av
def qD(t u:fR):fR:=λδ Q=>t δ λc av=>if c=true then Q true av else u av Q
def qE(t:fR):fR:=λδ Q=>t δ λc av=>Q (!c) av
theorem Hw(ha:PT X a (lT tA))(hb:PW X (.BoolOp .And (b::rest) pos) (lT tB)):PW X (.BoolOp .And (a::b::rest) pos) (lT (qC tA tB)) :=
 Ub (cO6 ha hb) λσ H Q ⟨B,F,δ,ts,Qd,c,q,k⟩=>⟨B,F,δ,ts,_,c,q,λb av F1 H1 q1 f1 h1 c1=>by
  cases b with
  | true=>exact qu ⟨B,F1,av,ts,Qd,c1,by simpa using q1,λb ak F' H' hd sf sh c'=>k b ak F' H' hd (f1.trans sf) (h1.trans sh) c'⟩
  | false=>exact mK (k false av F1 H1 (by simpa using q1) f1 h1 c1)⟩
theorem ua(ha:PT X a (lT tA))(hb:PW X (.BoolOp .Or (b::rest) pos) (lT tB)):PW X (.BoolOp .Or (a::b::rest) pos) (lT (qD tA tB)) :=
 Ub (cT9 ha hb) λσ H Q ⟨B,F,δ,ts,Qd,c,q,k⟩=>⟨B,F,δ,ts,_,c,q,λb av F1 H1 q1 f1 h1 c1=>by
  cases b with
  | true=>exact qu (k true av F1 H1 (by simpa using q1) f1 h1 c1)
  | false=>exact mK ⟨B,F1,av,ts,Qd,c1,by simpa using q1,λb ak F' H' hd sf sh c'=>k b ak F' H' hd (f1.trans sf) (h1.trans sh) c'⟩⟩
theorem mR(ha:PT X a (lT tA)):PT X (.UnaryOp .Not a pos) (lT (qE tA)) :=
 Ht (Gu ha) λσ H Q ⟨B,F,δ,ts,Qd,c,q,k⟩=>⟨B,F,δ,ts,_,c,q,λb av F1 H1 q1 f1 h1 c1=>k _ av F1 H1 q1 f1 h1 c1⟩
def qF(ta tb:aY):aY:=λδ Q=>ta δ λx av=>∃c,x=.bl c/\if c=true then tb av Q else Q (.bl false) av
def qG(ta:aY):aY:=λδ Q=>ta δ λx av=>∃c,x=.bl c/\Q (.bl (!c)) av
theorem zS(ha:PE X a (lB ta))(hb:PE X (.BoolOp .And (b::rest) pos) (lE tb)):PE X (.BoolOp .And (a::b::rest) pos) (lE (qF ta tb)) :=
 dN (cO3 ha hb) λσ H Q ⟨B,F,δ,ts,Qd,c,q,k⟩=>⟨B,F,δ,ts,_,c,q,λd av v F1 H1 q1 f1 h1 c1 s1=>by
  obtain⟨b,rfl,qb⟩:=q1
  cases s1 with
  | bl _ =>
   refine⟨b,rfl,?_⟩
   cases b with
   | true=>exact qu ⟨B,F1,av,ts,Qd,c1,by simpa using qb,λd ak v F' H' hd sf sh c'=>k d ak v F' H' hd (f1.trans sf) (h1.trans sh) c'⟩
   | false=>exact mK (k _ av _ F1 H1 (by simpa using qb) f1 h1 (c1.pushS (.bl .nil) rfl))⟩
theorem cT1(ha:PE X a (lB ta)):PE X (.UnaryOp .Not a pos) (lE (qG ta)) :=
 dN (cJ2 ha) λσ H Q ⟨B,F,δ,ts,Qd,c,q,k⟩=>⟨B,F,δ,ts,_,c,q,λd av v F1 H1 q1 f1 h1 c1 s1=>by
  obtain⟨b,rfl,qb⟩:=q1
  cases s1 with
  | bl _=>exact⟨b,rfl,k _ av _ F1 H1 qb f1 h1 (c1.pushS (.bl .nil) rfl)⟩⟩
def qH(t:fR)(ta tb:aY):aY:=λδ Q=>t δ λc av=>if c=true then ta av Q else tb av Q
theorem Cw(hc:PT X c (lT tA))(ha:PE X a (lE ta))(hb:PE X b (lE tb)):PE X (.IfExp c a b pos) (lE (qH tA ta tb)) :=
 dN (cp0 hc ha hb) λσ H Q ⟨B,F,δ,ts,Qd,c,q,k⟩=>⟨B,F,δ,ts,_,c,q,λb av F1 H1 q1 f1 h1 c1=>by
  cases b with
  | true=>exact qu ⟨B,F1,av,ts,Qd,c1,by simpa using q1,λd ak v F' H' hd sf sh c'=>k d ak v F' H' hd (f1.trans sf) (h1.trans sh) c'⟩
  | false=>exact mK ⟨B,F1,av,ts,Qd,c1,by simpa using q1,λd ak v F' H' hd sf sh c'=>k d ak v F' H' hd (f1.trans sf) (h1.trans sh) c'⟩⟩
def mS:df:=λδ Q=>Q [] δ
def mT(t:aY)(r:df):df:=λδ Q=>t δ λd av=>r av λds bh=>Q (d::ds) bh
theorem au:PA X [] (lA mS):=zR ky λσ H Q ⟨B,F,δ,ts,Qd,c,q,k⟩=>k [] δ [] F H q (ah.refl _) (ah.refl _) c .nil
variable{tr:df}
theorem af(ha:PE X e (lB t))(hr:PA X es (lA tr))(hs:starEach (e::es) X.env=(false,eval e X.env)::starEach es X.env:=by rfl):PA X (e::es) (lA (mT t tr)) :=
 zR (gz ha hr hs) λσ H Q ⟨B,F,δ,ts,Qd,c,q,k⟩=>⟨B,F,δ,ts,_,c,q,λd av v F1 H1 q1 f1 h1 c1 s1=>⟨B,F1,av,ts,_,c1,q1,λds bh vs F2 H2 q2 f2 h2 c2 s2 =>
  k (d::ds) bh (v::vs) F2 H2 q2 (f1.trans f2) (h1.trans h2) c2 ((s1.mono f2 h2).cons s2)⟩⟩
theorem dH:PA X [] (lO mS):=zR ky λσ H Q ⟨B,F,δ,ts,Qd,c,q,k⟩=>k [] δ F H q (ah.refl _) (ah.refl _) c
theorem e5(ha:PE X e (lE t))(hr:PA X es (lO tr))(hs:starEach (e::es) X.env=(false,eval e X.env)::starEach es X.env:=by rfl):PA X (e::es) (lO (mT t tr)) :=
 zR (gz ha hr hs) λσ H Q ⟨B,F,δ,ts,Qd,c,q,k⟩=>⟨B,F,δ,ts,_,c,q,λd av v F1 H1 q1 f1 h1 c1=>⟨B,F1,av,(d,v)::ts,_,c1,q1,λps bh F2 H2 q2 f2 h2 c2 =>
  k ((d,v)::ps) bh F2 H2 q2 (f1.trans f2) (h1.trans h2) (c2.perm (List.perm_middle))⟩⟩
def oj(t:df):aY:=λδ Q=>t δ λds ak=>ds.length<=sizeLine/\Q (.lst true ds) ak
def qI(t:df):aY:=λδ Q=>t δ λds ak=>ds.length<=sizeLine/\Q (.tup ds) ak
theorem eM(h:PA X es (lO tr)):PE X (.List es pos) (lE (oj tr)) :=
 dN (SK h) λσ H Q ⟨B,F,δ,ts,Qd,c,q,k⟩=>⟨B,F,δ,ts,_,c,q,λps av F1 H1 q1 f1 h1 c1=>⟨by simpa using q1.1,λp hp=>k _ av _ F1 _ q1.2 f1 (h1.trans (ah.upd hp)) (c1.dE1 hp)⟩⟩
theorem zT{x1}(h:PA X es (lO tr)):PE X (.Tuple es x1 pos) (lE (qI tr)) :=
 dN (cL8 h) λσ H Q ⟨B,F,δ,ts,Qd,c,q,k⟩=>⟨B,F,δ,ts,_,c,q,λps av F1 H1 q1 f1 h1 c1=>⟨by simpa using q1.1,λp hp=>k _ av _ F1 _ q1.2 f1 (h1.trans (ah.upd hp)) (c1.dE2 hp)⟩⟩
end
end L3
namespace L3
open PySem L2 PySem.Spec PyProof.Rows
abbrev bA:=List D->(D->Prop)->Prop
def bw(sp:bA):Sp:=λvs H Q _=>∃F ds Qd,ah F H/\R F H ds vs []/\sp ds Qd/\∀d v F' H' A,Qd d->ah H H'->ah F F'->ah F' H'->(∀a ws,F' a=some (.lst ws)->F a=some (.lst ws)\/H a=none)->R F' H' [d] [v] A->A.Nodup->(∀a∈A,H a=none)->Q v H'
def mU(sp:bA)(t:df):aY:=λδ Q=>t δ λds ak=>sp (ds.map D.sh) λd=>(ds.all D.pl||d.fr)=true/\Q d ak
theorem Cy{B:Bs}{F H:Hp}{σ:L2.St}{δ:Dl}{ts:List (D × V)}{Qd:D->Prop}{Q:VK}{E:XK}{ds:List D}{vs:List V}{sp:bA}(c:ax B F H σ δ ts)(s:S F H ds vs)(q:sp (ds.map D.sh) λd=>(ds.all D.pl||d.fr)=true/\Qd d)
  (k:∀d v F' H',Qd d->ah F F'->ah H H'->ax B F' H' σ δ ((d,v)::ts)->Q v H'):bw sp vs H Q E:=by
 by_cases hp:ds.all D.pl=true
 ·rw[mL hp]at q
  exact⟨F,ds,_,c.ext,s.r hp,q,λd v F' H' A hd hs hf he h3 r nd fr=>k d v F' H' hd.2 hf hs (c.call hs hf he h3 r nd fr)⟩
 ·refine⟨H,ds.map D.sh,_,ah.refl _,s.frozen c.ext,q,λd v F' H' A hd hs hf he h3 r nd fr=>?_⟩
  have eZ:d.fr=true:=by
   have:=hd.1
   rw[Bool.or_eq_true]at this
   exact this.resolve_left hp
  exact k d v F H' hd.2 (ah.refl _) hs (c.Hr hs (r.Hq (by simp[eZ]) (c.ext.trans hf)) nd fr)
section
variable{X:Cx}{CX:fg}{n:Nat}{f:Addr}{fd:FuncData}{ps:List Str}{sp:bA}{E:XK}{x:Str}{p pos:Pos}{e:Expr}{es:List Expr}{t:df}
theorem aT(F:aQ X.prog X.w X.K X.mg X.base CX n f fd ps (bw sp))(hr:cL n X.A)(hg:Gl X x)(hm:X.mg x=some (.ref f))(hk:PySem.W.keepIn X.K (.ref f)=true)(hb:Binds X.K fd ps [])(hx:mH CX X E)
  (ha:PA X (e::es) (lA t)) (fh:(x==("__debug__":Str))=false:=by decide) (he:starEach (e::es) X.env=(false,eval e X.env)::starEach es X.env:=by rfl) (bR:(backTo pos (starEach es X.env)).any (·.1)=false:=by rfl) :
  PE X (.Call (.Name x p) (e::es) [] pos) (lE (mU sp t)) :=
 dN (tU F hr hg hm hk hb .nil hx ha fh he bR) λσ H Q ⟨B,F,δ,ts,Qd,c,q,k⟩=>⟨B,F,δ,ts,_,c,q,λds av vs F1 H1 q1 f1 h1 c1 s1=>by
  show bw sp (vs++[]) H1 Q E
  rw[mn]
  exact Cy c1 s1 q1 λd v F' H' hd hf hs c'=>k d av v F' H' hd (f1.trans hf) (h1.trans hs) c'⟩
end
def jU(N:List Str)(ds:List D):Dl:=ds.map some++bF (N.length-ds.length) none
section
variable{P:Program}{w:World}{K:PySem.W.Frag}{mg:Str->Option Value}{base:Heap}
theorem bH{x qual:Str}{st:Stmt}{f:Addr}{fd:FuncData}{N ps:List Str}{k:Nat}{sp:bA}(F:bq K x qual st f fd)(S:bt N ps (az st))(len:∀ds Q,sp ds Q->ds.length=ps.length)
  (iO:∀(aI:Value) (A:Around) (outer:List Env) (s:Shared) (H:Hp) (E:XK),cL k (A.deeper (envOfC qual (az st) s.heap.objs.size f aI)) ->
   ∃t:cW,PSs (ju bf P w K mg base N qual (az st) f aI A outer s H E).gX (bo st) (lS (ju bf P w K mg base N qual (az st) f aI A outer s H E).gX t)/\∀ds Q,sp ds Q->t { nx:=λ_=>Q .ay,rt:=Q } (jU N ds)):aQ P w K mg base bf (k+1) f fd ps (bw sp):=by
 refine F.ok S (λvs H Q E ⟨F,ds,Qd,e,r,h,_⟩=>by rw[<-r.length];exact len ds Qd h) λaI A outer s H vs Q E hr zz=>?_
 obtain⟨F,ds,Qd,e,r,h,k⟩:=zz
 obtain⟨t,ht,hq⟩:=iO aI A outer s H E hr
 have fin:∀d v ak aN F' H',Qd d->ax ⟨H,F⟩ F' H' aN ak [(d,v)]->Q v H':=λd v ak aN F' H' hd c=>by
  obtain⟨A,C,r',s',nd,fr⟩:=c.own
  exact k d v F' H' A hd c.b1 c.b2 c.ext c.b3 r' (iz.mp nd).1 λa ha=>fr a (gP _ ha)
 have e1:L2.start N vs=vs.map some++bF (N.length-ds.length) none:=by unfold L2.start;rw[r.length]
 refine⟨_,ht,⟨H,F⟩,F,jU N ds,_,?_,hq ds Qd h,λak aN F' H' hd c=>fin .ay .ay ak aN F' H' hd (c.pushS (.ay .nil) rfl),fin,λ_ _ _ _ z=>z.elim,λ_ _ _ _ z=>z.elim,XL.none (λ_ _ z=>z) λ_ _ z=>z⟩
 rw[e1]
 exact ax.start e r _
end
section
variable{X:Cx}{e a b c:Expr}{es:List Expr}{pos:Pos}{st:Stmt}{zQ rest:List Stmt}{t u:cW}{te:aY}{tt:fR}
def qJ:cW:=λD δ=>D.nx δ
def Ud(t u:cW):cW:=λD δ=>t { D with nx:=u D } δ
theorem aA{t u:cW}{En:t9}{δ:Dl}(h:∀U:Dl->Prop,(∀ak,u En ak->U ak)->t { En with nx:=U } δ):Ud t u En δ:=h (u En) λ_ z=>z
theorem cu:PSs X [] (lS X qJ):=Hu Gv λD σ H ⟨B,F,δ,Dd,c,q,k1,_⟩=>k1 δ σ F H q c
theorem aB(h1:PS X st (lS X t))(h2:PSs X rest (lS X u)):PSs X (st::rest) (lS X (Ud t u)) :=
 Hu (kR h1 h2) λD σ H ⟨B,F,δ,Dd,c,q,k1,k2,k3,k4⟩=>⟨B,F,δ,{ Dd with nx:=u Dd },c,q,λak aN F' H' hq c'=>⟨B,F',ak,Dd,c',hq,k1,k2,k3,k4⟩,k2,k3,k4⟩
theorem aF(h1:PS X st (lS X t)):PSs X [st] (lS X t):=vJ h1
def om(i:Nat)(t:cW):cW:=λD δ=>∃d,δ[i]?=some (some d)/\t D (δ.set i (some d.sh))
theorem oo(i:Nat)(h:PSs X zQ (lS X t)):PSs X zQ (lS X (om i t)):=Hu h λD σ H zz=>by
 obtain⟨B,F,δ,Dd,c,⟨d,e,q⟩,k⟩:=zz
 obtain⟨F',s,c'⟩:=c.freeze e
 exact⟨B,F',_,Dd,c',q,k⟩
def mV(i:Nat)(t:aY):cW:=λD δ=>t δ λd ak=>D.nx (ak.set i (some d))
theorem aV{i:Nat}{x:Str}{pos':Pos}(hN:X.N.Nodup)(hi:X.N[i]?=some x)(hx:Loc X.env.scope x)(he:PE X e (lE te))(hs:swapsWith e (some (.Name x pos')) pos.line X.env=pure false:=by rfl)
  (hf:X.fn x=true\/X.env.scope.names.lookup x=some .local:=by first | exact .inl rfl | exact .inr rfl | assumption):PS X (.Assign [.Name x pos'] e pos) (lS X (mV i te)) :=
 mP (Sw hN hi hx he hs hf) λD σ H ⟨B,F,δ,Dd,c,q,k1,k2,k3,k4⟩=>⟨B,F,δ,[],_,c,q,λd ak v F' H' hd sf sh c'=>k1 _ _ F' H' hd (c'.store i)⟩
def qK(t:aY):cW:=λD δ=>t δ λd _=>D.rt d
theorem aU(he:PE X e (lE te)):PS X (.Return (some e) pos) (lS X (qK te)) :=
 mP (cO4 he) λD σ H ⟨B,F,δ,Dd,c,q,k1,k2,k3,k4⟩=>⟨B,F,δ,[],_,c,q,λd ak v F' H' hd sf sh c'=>k2 d v ak σ F' H' hd c'⟩
def oq(tc:fR)(t u:cW):cW:=λD δ=>tc δ λb ak=>if b=true then t D ak else u D ak
theorem bV{l r:List Stmt}(hc:PT X c (lT tt))(ha:PSs X l (lS X t))(hb:PSs X r (lS X u)):PS X (.If c l r pos) (lS X (oq tt t u)) :=
 mP (Gw hc ha hb) λD σ H ⟨B,F,δ,Dd,c,q,k⟩=>⟨B,F,δ,[],_,c,q,λb ak F' H' hq sf sh c'=>by
  cases b with
  | true=>exact qu ⟨B,F',ak,Dd,c',by simpa using hq,k⟩
  | false=>exact mK ⟨B,F',ak,Dd,c',by simpa using hq,k⟩⟩
def qL(i:Nat)(rd:cP)(t:aY):cW:=λD δ=>∃x,δ[i]?=some (some x)/\t δ λy av=>rd x y λz=>D.nx (av.set i (some z))
theorem zU{i:Nat}{x:Str}{op:Operator}{rd:cP}{pos':Pos}(hN:X.N.Nodup)(hi:X.N[i]?=some x)(hx:Loc X.env.scope x)(he:PE X e (lB te))(ho:bS X (inplaceOp op) rd)
  (hf:X.fn x=true\/X.env.scope.names.lookup x=some .local:=by first | exact .inl rfl | exact .inr rfl | assumption):PS X (.AugAssign (.Name x pos') op e pos) (lS X (qL i rd te)):=by
 obtain⟨r,h1,h2⟩:=ho
 refine mP (cL4 hN hi hx he (ti:=r) h1 hf) λD σ H zz=>?_
 obtain⟨B,F,δ,Dd,c,⟨d0,e0,q⟩,k1,k2,k3,k4⟩:=zz
 obtain⟨v0,e1,s0⟩:=c.look e0
 exact⟨v0,e1,B,F,δ,[],_,c,q,λd ak v F' H' hd sf sh c' s=>h2 c' (s0.mono sf sh) s hd λz w H2 hz h3 c3=>k1 _ _ F' H2 hz (c3.store i)⟩
def qM(tc:fR)(tb:cW):cW:=λD δ=>∃W:Nat->Dl->Prop,(∃m,W m δ)/\∀m δ,W m δ->tc δ λb ak=>if b=true then tb { D with nx:=λak=>∃m',m'<m/\W m' ak,ct:=λak=>∃m',m'<m/\W m' ak,bk:=D.nx } ak else D.nx ak
theorem zV{body:List Stmt}(hp:PassesOwn (model X.prog X.w) X.A X.env X.xe)(hc:PT X c (lT tt))(hb:PSs X body (lS X t)):PS X (.While c body [] pos) (lS X (qM tt t)) :=
 mP (co6 hp hc hb) λD σ H zz=>by
  obtain⟨B,F,δ,Dd,c,⟨W,⟨m0,w0⟩,hw⟩,k1,k2,k3,k4⟩:=zz
  refine⟨λm σ H=>∃F δ,ax B F H σ δ []/\W m δ,⟨m0,F,δ,c,w0⟩,λm σ H ⟨F,δ,c,w⟩=>⟨B,F,δ,[],_,c,hw m δ w,λb ak F' H' hq sf sh c'=>?_⟩⟩
  cases b with
  | true =>
   refine qu ⟨λaN H'=>∃m',m'<m/\∃F δ,ax B F H' aN δ []/\W m' δ,λaN H' z=>z,B,F',ak,{ Dd with nx:=λak=>∃m',m'<m/\W m' ak,ct:=λak=>∃m',m'<m/\W m' ak,bk:=Dd.nx },c',by simpa using hq,λbh mF F2 H2 ⟨m',hm,w2⟩ c2=>⟨m',hm,F2,bh,c2,w2⟩,k2,λbh mF F2 H2 z c2=>k1 bh mF F2 H2 z c2,λbh mF F2 H2 ⟨m',hm,w2⟩ c2=>⟨m',hm,F2,bh,c2,w2⟩,k4.2⟩
  | false=>exact mK (k1 ak σ F' H' (by simpa using hq) c')
end
structure JD(J:It)(F:Hp)(xs:List D):Prop where
 go:∀i H,ah F H->i<xs.length->J.go i H
 ku:∀i H x H',ah F H->i<xs.length->J.ku i H x H'->∃d,xs[i]?=some d/\ah H H'/\R F H' [d] [x] []
 stop:∀i H,ah F H->xs.length<=i->J.stop i H
abbrev jV:=Dl->(Bool->List D->Dl->Prop)->Prop
def lI(t:jV):TI:=λσ H Rr=>∃B F δ ts Qd,ax B F H σ δ ts/\t δ Qd/\∀g xs ak J F' H',Qd g xs ak->ah F F'->ah H H'->ax B F' H' σ ak ts->JD J H' (xs.map D.sh)->(g=true->xs.all D.pl=true/\JD J F' xs)->Rr J H'
abbrev iV:=D->Dl->(Dl->Prop)->Prop
def lG(m:Nat)(t:iV):TG:=λv σ H Q=>∃B F δ ts d Qd,ax B F H σ δ ((d,v)::ts)/\t d δ Qd/\∀ak aN,Qd ak->aN.length=σ.length->(∀j,j<m->aN[j]?=σ[j]?)->ax B F H aN ak ts->Q aN H
def iW:D->Option (List D)
 | .lst _ xs=>some xs
 | .fz xs=>some xs
 | _=>none
section
variable{B:Bs}{F H F1:Hp}{σ:L2.St}{δ:Dl}{ts:List (D × V)}
end
section
variable{X:Cx}{e a b c tg l iter:Expr}{es:List Expr}{pos:Pos}{t u:cW}{te:aY}{tt:fR}{ta:df}{m:Nat}
theorem vX{w w':TI}(h:PI X tg iter w)(m:∀σ H Q,w' σ H Q->w σ H Q):PI X tg iter w':=λpins s σ H Q I q=>h pins s σ H Q I (m σ H Q q)
theorem Ue{w w':TG}(h:PG X tg w)(m:∀v σ H Q,w' v σ H Q->w v σ H Q):PG X tg w':=λpins s σ H v u Q I r q=>h pins s σ H v u Q I r (m v σ H Q q)
def gN(i:Nat):iV:=λd δ Q=>Q (δ.set i (some d))
theorem cC{i:Nat}{x:Str}(hN:X.N.Nodup)(hi:X.N[i]?=some x)(hx:Loc X.env.scope x)(hm:m<=i:=by decide)(hf:X.fn x=true\/X.env.scope.names.lookup x=some .local:=by first | exact .inl rfl | exact .inr rfl | assumption):PG X (.Name x pos) (lG m (gN i)) :=
 Ue (Cb hN hi hx hf) λv σ H Q ⟨B,F,δ,ts,d,Qd,c,q,k⟩=>k _ _ q (by simp) (λj hj=>by rw[vk (by omega)]) (c.store i)
theorem ot{K:PySem.W.Frag}{F H:Hp}{p:Addr}{xs:List D}{ws:List V}(hp:Rd F p (.lst ws))(r:R F H xs ws [])(hF:Full F H):JD (GC K p) F xs where
 go:=λi H' hs hi=>by
  have l:=r.length
  have iu:i<ws.length:=by omega
  exact⟨ws,ws[i],.inl (iT hp hs),aJ iu⟩
 ku:=λi H' x H2 hs hi zz=>by
  obtain⟨e,y⟩:=zz
  subst e
  have hx:=y ws (.inl (iT hp hs))
  obtain⟨v,A1,e2,r1,sub⟩:=(r.full hF hs rfl).get (aJ hi)
  rw[hx]at e2;cases e2
  have:A1=[]:=dd0.mpr λa ha=>by simpa using sub ha
  subst this
  exact⟨_,aJ hi,ah.refl _,r1⟩
 stop:=λi H' hs hi=>⟨ws,.inl (iT hp hs),by have:=r.length;omega⟩
theorem Cz{F:Hp}(lo:Int)(n:Nat):JD (zj lo n) F ((aZ n).map λ(k:Nat)=>D.int (lo+(k:Int))) where
 go:=λi H' hs hi=>by
  have iu:i<n:=by simpa using hi
  exact iu
 ku:=λi H' x H2 hs hi zz=>by
  obtain⟨e,y⟩:=zz
  subst e y
  have iu:i<n:=by simpa using hi
  exact⟨.int (lo+i),by simp[kh iu],ah.refl _,.int .nil⟩
 stop:=λi H' hs hi=>by
  have iu:n<=i:=by simpa using hi
  exact iu
def qN(t:aY):jV:=λδ Q=>t δ λd ak=>∃xs,iW d=some xs/\Q true (xs.map D.sh) ak
theorem cZ8(xs:List D){F H:Hp}{ws:List V}(r:R F H (xs.map D.sh) ws []):(xs.map D.sh).map D.sh=xs.map D.sh:=mL r.pl
theorem CA(h:PE X l (lE te)):PI X tg l (lI (qN te)) :=
 vX (Sz h) λσ H Q ⟨B,F,δ,ts,Qd,c,q,k⟩=>⟨B,F,δ,ts,_,c,q,λd av v F1 H1 hd f1 h1 c1=>by
  obtain⟨xs,e,hq⟩:=hd
  obtain⟨F2,f2,c2⟩:=c1.Hs
  have tp:=c2.top
  have c3:=c2.pop.snap
  have e2:=c2.ext
  have sn:=t8 e2
  cases d with
  | lst o ys =>
   obtain rfl:=cT e
   rw[de]at tp
   cases tp with
   | @shr p ws _ _ _ hp r _ =>
    have r3:=r.shared sn (ah.refl _)
    refine⟨p,rfl,⟨ws,bQ.of (e2 _ _ hp)⟩,k true _ av _ _ H1 hq ((f1.trans f2).trans sn) h1 c3 ?_ λ_=>⟨r.pl,ot (.inl (sn _ _ hp)) r3 vV⟩⟩
    rw[cZ8 _ r]
    exact ot (.inl (e2 _ _ hp)) (r.shared e2 (ah.refl _)) (Full.refl _)
  | fz ys =>
   obtain rfl:=cT e
   cases tp with
   | @fz p o ws _ _ _ hp r _ =>
    have r3:=r.shared sn (ah.refl _)
    have es:=mL r.pl
    rw[es]at hq
    refine⟨p,rfl,⟨ws,.inl (.inr ⟨o,e2 _ _ hp⟩)⟩,k true _ av _ _ H1 hq ((f1.trans f2).trans sn) h1 c3 ?_ λ_=>⟨r.pl,ot (.inr ⟨o,sn _ _ hp⟩) r3 vV⟩⟩
    rw[es]
    exact ot (.inr ⟨o,e2 _ _ hp⟩) (r.shared e2 (ah.refl _)) (Full.refl _)
  | ay=>cases e
  | bl _=>cases e
  | int _=>cases e
  | str _=>cases e
  | tup _=>cases e
  | obj _ _ _=>cases e
  | bN _=>cases e⟩
def ou(t:aY):jV:=λδ Q=>t δ λd ak=>∃xs,iW d=some xs/\Q d.pl xs ak
theorem fS(h:PE X l (lB te)):PI X tg l (lI (ou te)) :=
 vX (Sz h) λσ H Q ⟨B,F,δ,ts,Qd,c,q,k⟩=>⟨B,F,δ,ts,_,c,q,λd av v F1 H1 hd f1 h1 c1 s=>by
  obtain⟨xs,e,hq⟩:=hd
  have c3:=c1.snap
  have e2:=c1.ext
  have sn:=t8 e2
  cases s with
  | @shr p ws ys _ _ hp r _ =>
   obtain rfl:=cT e
   refine⟨p,rfl,⟨ws,bQ.of (e2 _ _ hp)⟩,k _ _ av _ _ H1 hq (f1.trans sn) h1 c3 ?_ λ_=>⟨r.pl,ot (.inl (sn _ _ hp)) (r.shared sn (ah.refl _)) vV⟩⟩
   rw[mL r.pl]
   exact ot (.inl (e2 _ _ hp)) (r.shared e2 (ah.refl _)) (Full.refl _)
  | @own p ws ys _ _ hp r _ =>
   obtain rfl:=cT e
   refine⟨p,rfl,⟨ws,bQ.of hp⟩,k _ _ av _ _ H1 hq (f1.trans sn) h1 c3 (ot (.inl hp) (r.frozen e2) (Full.refl _)) λz=>by simp[fi]at z⟩
  | @fz p o ws ys _ _ hp r _ =>
   obtain rfl:=cT e
   refine⟨p,rfl,⟨ws,.inl (.inr ⟨o,e2 _ _ hp⟩)⟩,k _ _ av _ _ H1 hq (f1.trans sn) h1 c3 ?_ λ_=>⟨r.pl,ot (.inr ⟨o,sn _ _ hp⟩) (r.shared sn (ah.refl _)) vV⟩⟩
   rw[mL r.pl]
   exact ot (.inr ⟨o,e2 _ _ hp⟩) (r.shared e2 (ah.refl _)) (Full.refl _)
  | ay _=>cases e
  | bl _=>cases e
  | int _=>cases e
  | str _=>cases e
  | tup _ _ _=>cases e
  | obj _ _ _ _=>cases e
  | bN _ _=>cases e⟩
theorem zW(f:Nat->Int)(l:List Nat):(l.map λk=>D.int (f k)).map D.sh=l.map λk=>D.int (f k):=by simp[D.sh]
theorem Ug(f:Nat->Int)(l:List Nat):(l.map λk=>D.int (f k)).all D.pl=true:=by simp[D.pl]
def qO(t:df):jV:=λδ Q=>t δ λds ak=>∃j:Int,ds=[.int j]/\(-(2 ^ 62)<=j/\j<2 ^ 62)/\Q true ((aZ j.toNat).map λ(k:Nat)=>D.int (0+(k:Int))) ak
theorem kF{p:Pos}(hg:Gl X "range")(hm:X.mg "range"=none)(ha:PA X [a] (lA ta))(hs:starEach [a] X.env=[(false,eval a X.env)]:=by rfl):PI X tg (.Call (.Name "range" p) [a] [] pos) (lI (qO ta)) :=
 vX (bZ4 hg hm ha hs) λσ H Q ⟨B,F,δ,ts,Qd,c,q,k⟩=>⟨B,F,δ,ts,_,c,q,λds av vs F1 H1 hd f1 h1 c1 s=>by
  obtain⟨j,rfl,⟨b1,b2⟩,hq⟩:=hd
  cases s with
  | int s =>
   cases s
   refine⟨j,rfl,b1,b2,k true _ av _ _ H1 hq f1 h1 c1 ?_ λ_=>⟨Ug _ _,Cz 0 _⟩⟩
   rw[zW]
   exact Cz 0 _⟩
def qP(t:df):jV:=λδ Q=>t δ λds ak=>∃i j:Int,ds=[.int i,.int j]/\(-(2 ^ 62)<=i/\i<2 ^ 62/\-(2 ^ 62)<=j/\j<2 ^ 62)/\Q true ((aZ (j-i).toNat).map λ(k:Nat)=>D.int (i+(k:Int))) ak
theorem CB{p:Pos}(hg:Gl X "range")(hm:X.mg "range"=none)(ha:PA X [a,b] (lA ta))(hs:starEach [a,b] X.env=[(false,eval a X.env),(false,eval b X.env)]:=by rfl)(jr:starEach [b] X.env=[(false,eval b X.env)]:=by rfl) :
  PI X tg (.Call (.Name "range" p) [a,b] [] pos) (lI (qP ta)) :=
 vX (cc8 hg hm ha hs jr) λσ H Q ⟨B,F,δ,ts,Qd,c,q,k⟩=>⟨B,F,δ,ts,_,c,q,λds av vs F1 H1 hd f1 h1 c1 s=>by
  obtain⟨i,j,rfl,bd,hq⟩:=hd
  cases s with
  | int s =>
   cases s with
   | int s =>
    cases s
    refine⟨i,j,rfl,bd,k true _ av _ _ H1 hq f1 h1 c1 ?_ λ_=>⟨Ug _ _,Cz i _⟩⟩
    rw[zW]
    exact Cz i _⟩
def fE(xs:List D)(g:iV)(tb:cW):cW:=λEn av=>∃Iv:Nat->Dl->Prop,Iv 0 av /\
 (∀i d ak,xs[i]?=some d->Iv i ak->g d ak λbh=>tb { En with nx:=Iv (i+1),ct:=Iv (i+1),bk:=En.nx } bh)/\∀ak,Iv xs.length ak->En.nx ak
theorem fE.mk{xs:List D}{g:iV}{tb:cW}{En:t9}{δ:Dl}(Iv:Nat->Dl->Prop)(h0:Iv 0 δ)(ht:∀i d ak,xs[i]?=some d->Iv i ak->g d ak λbh=>tb { En with nx:=Iv (i+1),ct:=Iv (i+1),bk:=En.nx } bh)
  (hf:∀ak,Iv xs.length ak->En.nx ak):fE xs g tb En δ:=⟨Iv,h0,ht,hf⟩
def qQ(ti:jV)(g:iV)(tb:cW):cW:=λEn δ=>ti δ λsh xs av=>sh=true/\fE xs g tb En av
theorem gu{ti:jV}{g:iV}{body:List Stmt}(hp:PassesOwn (model X.prog X.w) X.A X.env X.xe)(hc:X.calm=true)(hi:PI X tg iter (lI ti))(hg:PG X tg (lG 0 g))(hb:PSs X body (lS X t))
  (hs:∀x,foldedSetIterable iter X.env x=pure x:=by intro _;rfl):PS X (.For tg iter body [] pos) (lS X (qQ ti g t)) :=
 mP (cK6 hp hc hi hg hb hs) λEn σ H ⟨B,F,δ,Dd,c,q,k1,k2,k3,k4⟩=>⟨B,F,δ,[],_,c,q,λsh xs av J F1 H1 hq f1 h1 c1 _ jd=>by
  obtain⟨zD,Iv,i0,turn,fin⟩:=hq
  obtain⟨bR,jd⟩:=jd zD
  have un:∀{F' H':Hp} {aN:L2.St} {ak:Dl} {ts:List (D × V)},ax ⟨B.H0,F1⟩ F' H' aN ak ts->ax B F' H' aN ak ts:=λc'=>c'.dE4 c1.b2 c1.b3
  refine⟨λi m σ H=>m=xs.length-i/\i<=xs.length/\∃F δ,ax ⟨B.H0,F1⟩ F H σ δ []/\Iv i δ,⟨_,rfl,jL _,F1,av,c1.rebase,i0⟩,?_⟩
  rintro i m mF H2 ⟨rfl,hi,F2,bh,c2,iv⟩
  have s2:ah F1 H2:=c2.b2.trans c2.ext
  by_cases gC:i<xs.length
  ·refine .inr ⟨jd.go i H2 s2 gC,λaN H'=>∃F δ,ax ⟨B.H0,F1⟩ F H' aN δ []/\Iv (i+1) δ,λaN H' z=>⟨xs.length-(i+1),by omega,rfl,gC,z⟩,λx H3 y=>?_⟩
   obtain⟨d,e,s3,r⟩:=jd.ku i H2 x H3 s2 gC y
   have c3:=(c2.grow s3).pushS (d:=d) (v:=x) ((r.s).mono c2.b2 (ah.refl _)) (by have:=r.pl;simpa using this)
   refine⟨⟨B.H0,F1⟩,F2,bh,[],d,_,c3,turn i d bh e iv,λak aN hq _ _ c4=>?_⟩
   exact⟨⟨B.H0,F1⟩,F2,ak,_,c4,hq,λjW ow F5 H5 h5 c5=>⟨F5,jW,c5,h5⟩,λd5 v5 jW ow F5 H5 h5 c5=>k2 d5 v5 jW ow F5 H5 h5 (un c5),λjW ow F5 H5 h5 c5=>k1 jW ow F5 H5 h5 (un c5),λjW ow F5 H5 h5 c5=>⟨F5,jW,c5,h5⟩,⟨λC jW pins ow F5 H5 s5 a T h5 c5=>k4.2.1 C jW pins ow F5 H5 s5 a T h5 (un c5),λC jW pins ow F5 H5 s5 h' e vs h5 c5=>k4.2.2 C jW pins ow F5 H5 s5 h' e vs h5 (un c5)⟩⟩
  ·have e:i=xs.length:=by omega
   subst e
   exact .inl ⟨jd.stop _ H2 s2 (bM _),k1 bh mF F2 H2 (fin bh iv) (un c2)⟩⟩
end
end L3
namespace L3
open PySem L2 PySem.Spec PyProof.Rows
def iX(δ:Dl)(q:Str × Nat):Option D:=(δ[q.2]?).getD none
def iA(δ:Dl)(q:Str × Nat):Bool:=match iX δ q with
 | some d=>d.pl
 | none=>true
def fU(aH:List (Str × Nat))(n:Nat)(δ:Dl):Dl:=(aH.map λq=>(iX δ q).map D.sh)++bF n none
def vY(sh:Bool)(xs:List D)(aH:List (Str × Nat))(n:Nat)(g:iV)(tt:fR)(te:aY)(av:Dl)(Q:D->Dl->Prop):Prop:=∃(p:D->Bool) (f:D->D),
 (∀x∈xs.map D.sh,g x (fU aH n av) λbh=>tt bh λb iU=>b=p x/\(p x=true->te iU λd _=>d=f x)) /\
 ((sh&&aH.all (iA av))=true\/∀x∈xs.map D.sh,p x=true->(f x).fr=true)/\xs.length<=sizeLine/\Q (.lst true (((xs.map D.sh).filter p).map f)) av
def mW(ti:jV)(aH:List (Str × Nat))(n:Nat)(g:iV)(tt:fR)(te:aY):aY:=λδ Q=>ti δ λsh xs av=>vY sh xs aH n g tt te av Q
def kG:fR:=λδ Q=>Q true δ
theorem cj5{sh:Bool}{xs:List D}{aH:List (Str × Nat)}{n m:Nat}{te:aY}{av:Dl}{Q:D->Dl->Prop}(f:D->D)(hx:∀x∈xs.map D.sh,te ((fU aH n av).set m (some x)) λd _=>d=f x)
  (eZ:(sh&&aH.all (iA av))=true\/∀x∈xs.map D.sh,(f x).fr=true) (hl:xs.length<=sizeLine) (hq:Q (.lst true ((xs.map D.sh).map f)) av):vY sh xs aH n (gN m) kG te av Q :=
 ⟨λ_=>true,f,λx h=>⟨rfl,λ_=>hx x h⟩,eZ.imp id λh x hx _=>h x hx,hl,by rw[dd1.mpr (λ_ _=>rfl)];exact hq⟩
section
variable{B:Bs}{F H:Hp}{σ:L2.St}{δ:Dl}{ts:List (D × V)}
theorem Uh(c:ax B F H σ δ ts)(n:Nat):∀(aH:List (Str × Nat)),aH.all (iA δ)=true->RS F H (fU aH n δ) (ix aH n σ) []
 | [],_=>by
  have z:∀n,RS F H (bF n none) (bF n none) []:=λn=>by
   induction n with
   | zero=>exact .nil
   | succ n ih=>exact .ay ih
  exact z n
 | q::r,h=>by
  rw[dU,eQ]at h
  have ih:=Uh c n r h.2
  show RS F H ((iX δ q).map D.sh::fU r n δ) ((σ[q.2]?).getD none::ix r n σ) []
  cases e:iX δ q with
  | none=>exact .ay ih
  | some d =>
   have e2:δ[q.2]?=some (some d):=by
    unfold iX at e
    cases z:δ[q.2]? with
    | none=>rw[z]at e;cases e
    | some o=>rw[z]at e;exact congrArg some e
   have hp:d.pl=true:=by have:=h.1;unfold iA at this;rw[e]at this;exact this
   obtain⟨v,e3,s⟩:=c.look e2
   rw[e3]
   show RS F H (some d.sh::_) (some v::_) []
   rw[D.Cr hp]
   exact .g5 (A:=[]) (s.r (by simp[hp])) ih
theorem Ui(c:ax B F H σ δ ts)(n:Nat):∀(aH:List (Str × Nat)),RS H H (fU aH n δ) (ix aH n σ) []
 | []=>by
  have z:∀n,RS H H (bF n none) (bF n none) []:=λn=>by
   induction n with
   | zero=>exact .nil
   | succ n ih=>exact .ay ih
  exact z n
 | q::r=>by
  have ih:=Ui c n r
  show RS H H ((iX δ q).map D.sh::fU r n δ) ((σ[q.2]?).getD none::ix r n σ) []
  cases e:iX δ q with
  | none=>exact .ay ih
  | some d =>
   have e2:δ[q.2]?=some (some d):=by
    unfold iX at e
    cases z:δ[q.2]? with
    | none=>rw[z]at e;cases e
    | some o=>rw[z]at e;exact congrArg some e
   obtain⟨v,e3,s⟩:=c.look e2
   rw[e3]
   exact .g5 (A:=[]) (s.frozen c.ext) ih
theorem Uj{α:Type}(xs:List α)(p:α->Bool)(i:Nat)(x:α)(h:xs[i]?=some x):(xs.take (i+1)).filter p=(xs.take i).filter p++(if p x=true then [x]else []):=by
 rw[mr,h,List.filter_append]
 simp only[RN]
 by_cases hp:p x=true<;>simp[hp]
end
section
variable{X:Cx}{elt iter tg:Expr}{pos:Pos}{ifs:List Expr}{scope:Scope}{cl:List (Str × Addr)}{ti:jV}{tt:fR}{te:aY}{g:iV}
theorem Uk{B:Bs}{F1 H1:Hp}{σ:L2.St}{av:Dl}{ts:List (D × V)}{J:It}{Qd:D->Dl->Prop}{Q:VK}{xs:List D}{sh:Bool}{aH:List (Str × Nat)}{n:Nat}(c1:ax B F1 H1 σ av ts)
  (ub:JD J H1 (xs.map D.sh)) (zX:sh=true->xs.all D.pl=true/\JD J F1 xs) (p:D->Bool) (f:D->D)
  (hx:∀x∈xs.map D.sh,g x (fU aH n av) λbh=>tt bh λb iU=>b=p x/\(p x=true->te iU λd _=>d=f x))
  (eZ:(sh&&aH.all (iA av))=true\/∀x∈xs.map D.sh,p x=true->(f x).fr=true) (hlen:xs.length<=sizeLine) (hq:Qd (.lst true (((xs.map D.sh).filter p).map f)) av)
  (k:∀d ak v F' H',Qd d ak->ah F1 F'->ah H1 H'->ax B F' H' σ ak ((d,v)::ts)->Q v H'):TR J aH n (lG aH.length g) (lT tt) (lE te) σ H1 Q:=by
 intro Dp hD
 have cD:ax B F1 (upd H1 Dp (.lst [])) σ av ((.lst true [],.ref Dp)::ts):=c1.qB hD .nil rfl
 refine⟨λi m acc H2=>m=xs.length-i/\i<=xs.length/\H2 Dp=some (.lst acc)/\ah H1 H2/\acc.length<=i/\∃F2,ah F1 F2 /\
  ax B F2 H2 σ av ((.lst true ((((xs.map D.sh).take i).filter p).map f),.ref Dp)::ts),⟨xs.length,rfl,jL _,cH,ah.upd hD,bM _,F1,ah.refl _,by simpa using cD⟩,?_⟩
 rintro i m acc H2 ⟨rfl,hi,Hx,zY,hal,F2,mX,c2⟩
 refine⟨Hx,?_⟩
 by_cases gC:i<xs.length
 case neg =>
  have e:i=xs.length:=by omega
  subst e
  refine .inl ⟨ub.stop _ H2 zY (by simp),k _ av _ F2 H2 ?_ mX zY c2⟩
  have:(xs.map D.sh).take xs.length=xs.map D.sh:=by rw[tw (by simp)]
  rw[this]
  exact hq
 case pos =>
  refine .inr ⟨ub.go i H2 zY (by simpa using gC),λx H3 y=>?_⟩
  obtain⟨d0,e0,Hy,r0⟩:=ub.ku i H2 x H3 zY (by simpa using gC) y
  have Ul:d0∈xs.map D.sh:=vo e0
  have Um:H3 Dp=some (.lst acc):=Hy _ _ Hx
  have c3:=c2.grow Hy
  have Hz:=zY.trans Hy
  refine⟨Um,?_⟩
  have HA:=hx d0 Ul
  have turn:∀Fi,ah Fi H3->RS Fi H3 (fU aH n av) (ix aH n σ) []->S Fi H3 [d0] [x]->d0.pl=true ->
    (∀d v F' H' A,d=f d0->p d0=true->ah H3 H'->ah Fi F'->ah F' H'->(∀a ws,F' a=some (.lst ws)->Fi a=some (.lst ws)\/H3 a=none)->R F' H' [d] [v] A->A.Nodup->(∀a∈A,H3 a=none) ->
     ∃F4,ah F2 F4/\ax B F4 H' σ av ((d,v)::(.lst true ((((xs.map D.sh).take i).filter p).map f),.ref Dp)::ts)) ->
    lG aH.length g x (ix aH n σ) H3 λgY H4 =>
     (gY.length=(ix aH n σ).length/\∀j,j<aH.length->gY[j]?=(ix aH n σ)[j]?)/\lT tt gY H4 λb H5=>H5 Dp=some (.lst acc) /\
     if b=true then lE te gY H5 λy H6=>H6 Dp=some (.lst acc)/\acc.length<sizeLine/\∃m',m'<xs.length-i /\
      (m'=xs.length-(i+1)/\i+1<=xs.length/\upd H6 Dp (.lst (acc++[y])) Dp=some (.lst (acc++[y]))/\ah H1 (upd H6 Dp (.lst (acc++[y])))/\(acc++[y]).length<=i+1/\∃F2,ah F1 F2 /\
       ax B F2 (upd H6 Dp (.lst (acc++[y]))) σ av ((.lst true ((((xs.map D.sh).take (i+1)).filter p).map f),.ref Dp)::ts))
     else ∃m',m'<xs.length-i/\(m'=xs.length-(i+1)/\i+1<=xs.length/\H5 Dp=some (.lst acc)/\ah H1 H5/\acc.length<=i+1/\∃F2,ah F1 F2 /\
       ax B F2 H5 σ av ((.lst true ((((xs.map D.sh).take (i+1)).filter p).map f),.ref Dp)::ts)):=by
   intro Fi hFi hRS hS bR back
   have ci:ax ⟨H3,Fi⟩ Fi H3 (ix aH n σ) (fU aH n av) []:=⟨hFi,ah.refl _,ah.refl _,λ_ _ q=>.inl q,[],[],.nil,hRS,by simp,by simp⟩
   refine⟨⟨H3,Fi⟩,Fi,fU aH n av,[],d0,_,ci.pushS hS bR,HA,λak gY hq1 l1 k1 c4=>⟨⟨l1,k1⟩,⟨H3,Fi⟩,Fi,ak,[],_,c4,hq1,λb jW F5 H5 hb f5 h5 c5=>?_⟩⟩
   obtain⟨hb,ht⟩:=hb
   have CC:H5 Dp=some (.lst acc):=h5 _ _ Um
   refine⟨CC,?_⟩
   by_cases hp:p d0=true
   ·rw[hb,hp]
    refine qu ⟨⟨H3,Fi⟩,F5,jW,[],_,c5,ht hp,λd δ6 v F6 H6 hd f6 h6 c6=>?_⟩
    have Uo:H6 Dp=some (.lst acc):=h6 _ _ CC
    obtain⟨A,C,r,s,nd,fr⟩:=c6.own
    obtain⟨F4,qR,c7⟩:=back d v F6 H6 A hd hp c6.b1 c6.b2 c6.ext c6.b3 r (iz.mp nd).1 λa ha=>fr a (gP _ ha)
    have c8:=c7.dE9 Uo
    refine⟨Uo,by omega,xs.length-(i+1),by omega,rfl,gC,cH,?_,by simpa using hal,F4,mX.trans qR,?_⟩
    ·have Up:=Hz.trans c6.b1
     exact⟨λa o q n=>by rw[bx (fB q hD)];exact Up.get a o q n,λa ps q=>by rw[bx (fB q hD)];exact Up.tb a ps q⟩
    ·have e9:(((xs.map D.sh).take (i+1)).filter p).map f=(((xs.map D.sh).take i).filter p).map f++[d]:=by
      rw[Uj _ p i d0 e0,hp,hd];simp
     rw[e9]
     exact c8
   ·have Uq:p d0=false:=by simpa using hp
    rw[hb,Uq]
    refine mK ⟨xs.length-(i+1),by omega,rfl,gC,CC,Hz.trans h5,by omega,F2,mX,?_⟩
    have e9:(((xs.map D.sh).take (i+1)).filter p).map f=(((xs.map D.sh).take i).filter p).map f:=by
     rw[Uj _ p i d0 e0,Uq];simp
    rw[e9]
    exact c3.grow h5
  by_cases hA:(sh&&aH.all (iA av))=true
  ·rw[eQ]at hA
   obtain⟨bR,jd⟩:=zX hA.1
   have zD:=mL bR
   rw[zD]at e0
   obtain⟨d1,e1,_,r1⟩:=jd.ku i H2 x H3 (mX.trans c2.ext) gC y
   rw[e0]at e1;cases e1
   have dG1:d0.pl=true:=by have:=r1.pl;simpa using this
   refine turn F2 c3.ext (Uh c3 n aH hA.2) ((r1.s).mono mX (ah.refl _)) dG1 λd v F' H' A hd hp hs hf he h3 r nd fr=>⟨F',hf,c3.call hs hf he h3 r nd fr⟩
  ·have dG2:=eZ.resolve_left hA
   refine turn H3 (ah.refl _) (Ui c3 n aH) ((r0.shared Hz (ah.refl _)).s) (by have:=r0.pl;simpa using this) λd v F' H' A hd hp hs hf he h3 r nd fr=>⟨F2,ah.refl _,?_⟩
   exact c3.Hr hs (r.Hq (by rw[hd];simp[dG2 d0 Ul hp]) (c3.ext.trans hf)) nd fr
theorem dw{Y:Cx}:n5 Y [] (lT kG):=λ_ _ _ H _ I ⟨B,F,δ,ts,Qd,c,q,k⟩=>cA8 _ _ _ H _ I (k true δ F H q (ah.refl _) (ah.refl _) c)
theorem ud{Y:Cx}{c:Expr}(h:PT Y c (lT tt)):n5 Y [c] (lT tt):=cA2 h
end
end L3
namespace L3
open PySem L2 PySem.Spec PyProof.Rows
section
variable{X:Cx}{F H:Hp}{v w:V}
def l2(rd:cP):R2:=λv w H Q=>∃B F σ δ ts x y Qd,ax B F H σ δ ts/\S F H [x] [v]/\S F H [y] [w]/\rd x y Qd/\∀d z H',Qd d->ah H H'->ax B F H' σ δ ((d,z)::ts)->Q z H'
theorem bS.of{f:Value->Value->Sem Value}{rd:cP}(h:cK X f (l2 rd)):bS X f rd:=⟨_,h,λ{B F H σ δ ts x y v w Q Qd} c sx sy q k=>⟨B,F,σ,δ,ts,x,y,Qd,c,sx,sy,q,k⟩⟩
theorem zZ{f:Value->Value->Sem Value}{C:Int->Int->Prop}{g:Int->Int->V}{gd:Int->Int->D}(ho:cK X f (rI C g))(hg:∀i j F H,S F H [gd i j] [g i j])(hp:∀i j,(gd i j).pl=true):bS X f λx y Q=>∃i j,x=.int i/\y=.int j/\C i j/\Q (gd i j) :=
 ⟨_,ho,λ{B F H σ δ ts x y v w Q Qd} c sx sy h k=>by
  obtain⟨i,j,rfl,rfl,hc,q⟩:=h
  cases sx;cases sy
  exact⟨i,j,rfl,rfl,hc,k _ _ _ q (ah.refl _) (c.pushS (hg i j F H) (hp i j))⟩⟩
theorem mY{f:Value->Value->Sem Value}{g:Int->Int->V}{gd:Int->Int->D}(ho:cK X f (jP g))(hg:∀i j F H,S F H [gd i j] [g i j])(hp:∀i j,(gd i j).pl=true):bS X f λx y Q=>∃i j,x=.int i/\y=.int j/\Q (gd i j) :=
 ⟨_,ho,λ{B F H σ δ ts x y v w Q Qd} c sx sy h k=>by
  obtain⟨i,j,rfl,rfl,q⟩:=h
  cases sx;cases sy
  exact⟨i,j,rfl,rfl,k _ _ _ q (ah.refl _) (c.pushS (hg i j F H) (hp i j))⟩⟩
theorem iY{o:Bool}{xs:List D}(s:S F H [.lst o xs] [v])(e:ah F H):∃p ws,v=.ref p/\H p=some (.lst ws)/\S F H xs ws:=by
 cases s with
 | shr h r _=>exact⟨_,_,rfl,e _ _ h,r.s⟩
 | own h r _=>exact⟨_,_,rfl,h,r⟩
theorem lh{xs:List D}(s:S F H [.tup xs] [v]):∃p ws,v=.ref p/\H p=some (.tup ws)/\S F H xs ws:=by
 cases s with
 | tup h r _=>exact⟨_,_,rfl,h,r⟩
theorem mZ{d:D}{xs:List D}(s:S F H [d] [v])(e:ah F H)(h:iW d=some xs):∃p ws,v=.ref p/\Rd H p (.lst ws)/\S F H xs ws:=by
 cases s with
 | shr h' r _=>cases h;exact⟨_,_,rfl,.inl (e _ _ h'),r.s⟩
 | own h' r _=>cases h;exact⟨_,_,rfl,.inl h',r⟩
 | fz h' r _=>cases h;exact⟨_,_,rfl,.inr ⟨_,e _ _ h'⟩,r.s⟩
 | ay _=>cases h
 | bl _=>cases h
 | int _=>cases h
 | str _=>cases h
 | tup _ _ _=>cases h
 | obj _ _ _ _=>cases h
 | bN _ _=>cases h
theorem S.rep{xs:List D}{ws:List V}(s:S F H xs ws):∀k:Nat,S F H (bF k xs).flatten (bF k ws).flatten
 | 0=>by simpa using S.nil
 | k+1=>by
  rw[sZ,sZ,vp,vp]
  exact s.append (S.rep s k)
def oy:cP:=λx y Q=>match x,y with
 | .int i,.int j=>Q (.int (i+j))
 | .str a,.str b=>a.length+b.length<=sizeLine/\Q (.str (a++b))
 | .lst _ xs,.lst _ ys=>(xs.length+ys.length<=sizeLine/\xs.all D.pl=true/\ys.all D.pl=true)/\Q (.lst true (xs++ys))
 | _,_=>False
theorem cQ8:bS X (binaryOp .Add) λx y Q=>∃o xs o' ys,x=.lst o xs/\y=.lst o' ys/\(xs.length+ys.length<=sizeLine/\xs.all D.pl=true/\ys.all D.pl=true)/\Q (.lst true (xs++ys)) :=
 ⟨_,Td,λ{B F H σ δ ts x y v w Q Qd} c sx sy h k=>by
  obtain⟨o,xs,o',ys,rfl,rfl,⟨hz,h1,h2⟩,q⟩:=h
  obtain⟨p,ws,rfl,e1,s1⟩:=iY sx c.ext
  obtain⟨p',gq,rfl,e2,s2⟩:=iY sy c.ext
  refine⟨p,p',ws,gq,rfl,rfl,e1,e2,by rw[<-s1.length,<- s2.length];exact hz,λr hr=>?_⟩
  exact k _ _ _ q (ah.upd hr) (c.qB hr (s1.append s2) (by simp[h1,h2]))⟩
theorem dG4:bS X (binaryOp .Add) λx y Q=>∃i j,x=.str i/\y=.str j/\i.length+j.length<=sizeLine/\Q (.str (i++j)) :=
 ⟨_,bW6,λ{B F H σ δ ts x y v w Q Qd} c sx sy h k=>by
  obtain⟨i,j,rfl,rfl,hz,q⟩:=h
  cases sx;cases sy
  exact⟨i,j,rfl,rfl,hz,k _ _ _ q (ah.refl _) (c.pushS (.str .nil) rfl)⟩⟩
theorem cQ:bS X (binaryOp .Add) oy:=((mY (gd:=λi j=>.int (i+j)) cL0 (λ_ _ _ _=>.int .nil) λ_ _=>rfl).or (dG4.or cQ8)).imp λx y Q h=>by
 unfold oy at h
 split at h
 ·exact .inl ⟨_,_,rfl,rfl,h⟩
 ·exact .inr (.inl ⟨_,_,rfl,rfl,h.1,h.2⟩)
 ·exact .inr (.inr ⟨_,_,_,_,rfl,rfl,h.1,h.2⟩)
 ·exact h.elim
def iI(C:Int->Int->Prop)(g:Int->Int->D):cP:=λx y Q=>match x,y with
 | .int i,.int j=>C i j/\Q (g i j)
 | _,_=>False
def gH(g:Int->Int->D):cP:=λx y Q=>match x,y with
 | .int i,.int j=>Q (g i j)
 | _,_=>False
theorem CD{f:Value->Value->Sem Value}{C:Int->Int->Prop}{g:Int->Int->D}(h:bS X f λx y Q=>∃i j,x=.int i/\y=.int j/\C i j/\Q (g i j)):bS X f (iI C g):=h.imp λx y Q h=>by
 unfold iI at h
 split at h
 ·exact⟨_,_,rfl,rfl,h.1,h.2⟩
 ·exact h.elim
theorem oA{f:Value->Value->Sem Value}{g:Int->Int->D}(h:bS X f λx y Q=>∃i j,x=.int i/\y=.int j/\Q (g i j)):bS X f (gH g):=h.imp λx y Q h=>by
 unfold gH at h
 split at h
 ·exact⟨_,_,rfl,rfl,h⟩
 ·exact h.elim
def qS:cP:=gH λi j=>.int (i-j)
theorem gD:bS X (binaryOp .Sub) qS:=oA (mY GK (λ_ _ _ _=>.int .nil) λ_ _=>rfl)
def HB(_ j:Int):Prop:=0<j/\j.natAbs.log2<9000
theorem jB{i j:Int}(h1:0<j)(h2:j<1073741824):HB i j:=⟨h1,by
 have h:j.natAbs<2 ^ 30:=by omega
 have:=(Nat.log2_lt (show j.natAbs≠0 by omega)).mpr h
 omega⟩
theorem ci9:cK X (binaryOp .FloorDiv) (rI HB λi j=>.int (i/j)):=zw λi j _ _ _ _ _ hc q =>
 floordiv_int (show j≠0 by have:=hc.1;omega) (by rw[db0 i (by have:=hc.1;omega)];exact q) (.inl (PyProof.noPylong_of_log2 hc.2))
def qT:cP:=iI HB λi j=>.int (i/j)
theorem jC:bS X (binaryOp .FloorDiv) qT:=CD (zZ ci9 (λ_ _ _ _=>.int .nil) λ_ _=>rfl)
def qU:cP:=iI (λ_ j=>0<j) λi j=>.int (i%j)
theorem dh:bS X (binaryOp .Mod) qU:=CD (zZ cP5 (λ_ _ _ _=>.int .nil) λ_ _=>rfl)
def qV:cP:=iI TN λi j=>.int (i*2 ^ j.toNat)
theorem vZ:bS X (binaryOp .LShift) qV:=CD (zZ TQ (λ_ _ _ _=>.int .nil) λ_ _=>rfl)
def qW:cP:=iI (λ_ j=>0<=j) λi j=>.int (i/2 ^ j.toNat)
theorem Ur:bS X (binaryOp .RShift) qW:=CD (zZ cK7 (λ_ _ _ _=>.int .nil) λ_ _=>rfl)
def qX:cP:=gH λi j=>.int (pZ i j)
theorem Us:bS X (binaryOp .BitAnd) qX:=oA (mY cI9 (λ_ _ _ _=>.int .nil) λ_ _=>rfl)
def qY:cP:=gH λi j=>.int (p5 i j)
theorem z4:bS X (binaryOp .BitXor) qY:=oA (mY cK1 (λ_ _ _ _=>.int .nil) λ_ _=>rfl)
theorem cm7:cK X (binaryOp .Mult) (rI IntMulOk λi j=>.int (i*j)):=zw λ_ _ _ _ _ _ _ hc q=>mul_int q hc
def oB:cP:=λx y Q=>match x,y with
 | .int i,.int j=>IntMulOk i j/\Q (.int (i*j))
 | .lst _ xs,.int k=>(-(2 ^ 63)<=k/\k<2 ^ 63/\xs.length*k.toNat<=sizeLine/\xs.all D.pl=true)/\Q (.lst true (bF k.toNat xs).flatten)
 | _,_=>False
theorem cR9:bS X (binaryOp .Mult) λx y Q=>∃o xs k,x=.lst o xs/\y=.int k/\(-(2 ^ 63)<=k/\k<2 ^ 63/\xs.length*k.toNat<=sizeLine/\xs.all D.pl=true)/\Q (.lst true (bF k.toNat xs).flatten) :=
 ⟨_,cI4,λ{B F H σ δ ts x y v w Q Qd} c sx sy h k=>by
  obtain⟨o,xs,n,rfl,rfl,⟨b1,b2,hz,h1⟩,q⟩:=h
  obtain⟨p,ws,rfl,e1,s1⟩:=iY sx c.ext
  cases sy
  refine⟨p,n,ws,rfl,rfl,e1,b1,b2,by rw[<-s1.length];exact hz,λr hr=>?_⟩
  refine k _ _ _ q (ah.upd hr) (c.qB hr (s1.rep _) ?_)
  rw[dv]
  intro x hx
  obtain⟨l,hl,ue⟩:=List.mem_flatten.mp hx
  rw[(FQ.mp hl).2]at ue
  exact dv.mp h1 x ue⟩
theorem iB:bS X (binaryOp .Mult) oB:=((zZ (gd:=λi j=>.int (i*j)) cm7 (λ_ _ _ _=>.int .nil) λ_ _=>rfl).or cR9).imp λx y Q h=>by
 unfold oB at h
 split at h
 ·exact .inl ⟨_,_,rfl,rfl,h.1,h.2⟩
 ·exact .inr ⟨_,_,_,rfl,rfl,h.1,h.2⟩
 ·exact h.elim
theorem cN3:bS X (inplaceOp .Add) (gH λi j=>.int (i+j)):=oA (mY cF8 (λ_ _ _ _=>.int .nil) λ_ _=>rfl)
theorem CF:bS X (inplaceOp .BitXor) (gH λi j=>.int (p5 i j)):=oA (mY cA9 (λ_ _ _ _=>.int .nil) λ_ _=>rfl)
def qZ:cP:=gH λi j=>.bl (decide (i<j))
def q0:cP:=gH λi j=>.bl (decide (i<=j))
def q5:cP:=gH λi j=>.bl (decide (j<i))
def q8:cP:=gH λi j=>.bl (decide (j<=i))
theorem v3:bS X (compareOp .Lt) qZ:=oA (mY cW2 (λ_ _ _ _=>.bl .nil) λ_ _=>rfl)
theorem z5:bS X (compareOp .LtE) q0:=oA (mY cR1 (λ_ _ _ _=>.bl .nil) λ_ _=>rfl)
theorem HC:bS X (compareOp .Gt) q5:=oA (mY cV9 (λ_ _ _ _=>.bl .nil) λ_ _=>rfl)
theorem Ut:bS X (compareOp .GtE) q8:=oA (mY cS7 (λ_ _ _ _=>.bl .nil) λ_ _=>rfl)
def lj:D->Bool
 | .ay=>true
 | _=>false
def oE:cP:=λx y Q=>match y with
 | .ay=>Q (.bl (lj x))
 | _=>False
def oF:cP:=λx y Q=>match y with
 | .ay=>Q (.bl (!lj x))
 | _=>False
theorem Uu{d:D}(s:S F H [d] [v]):decide (v=.ay)=lj d:=by cases s<;>simp[lj]
theorem q9:bS X (compareOp .Is) oE:=⟨_,cN0,λ{B F H σ δ ts x y v w Q Qd} c sx sy h k=>by
 unfold oE at h
 split at h
 ·cases sy
  refine⟨rfl,?_⟩
  rw[Uu sx]
  exact k _ _ _ h (ah.refl _) (c.pushS (.bl .nil) rfl)
 ·exact h.elim⟩
theorem HD:bS X (compareOp .IsNot) oF:=⟨_,cB2,λ{B F H σ δ ts x y v w Q Qd} c sx sy h k=>by
 unfold oF at h
 split at h
 ·cases sy
  refine⟨rfl,?_⟩
  rw[Uu sx]
  exact k _ _ _ h (ah.refl _) (c.pushS (.bl .nil) rfl)
 ·exact h.elim⟩
def bJ:D->D->Bool
 | .ay,.ay=>true
 | .bl a,.bl b=>a==b
 | .bl a,.int b=>(if a then 1 else 0)==b
 | .int a,.bl b=>a==(if b then 1 else 0)
 | .int a,.int b=>a==b
 | .str a,.str b=>a==b
 | .lst _ xs,.lst _ ys=>fF xs ys
 | .tup xs,.tup ys=>fF xs ys
 | _,_=>false
where fF:List D->List D->Bool
 | [],[]=>true
 | x::xs,y::ys=>bJ x y&&fF xs ys
 | _,_=>false
def cX:Nat->D->Bool
 | _,.ay=>true
 | _,.bl _=>true
 | _,.int _=>true
 | _,.str _=>true
 | n+1,.lst _ xs=>xs.all (cX n)
 | n+1,.tup xs=>xs.all (cX n)
 | _,_=>false
theorem HE:∀(xs ys:List D),xs.length=ys.length->bJ.fF xs ys=(aZ xs.length).all λj=>bJ (xs.getD j .ay) (ys.getD j .ay)
 | [],[],_=>rfl
 | x::xs,y::ys,h=>by
  rw[gR,dd2,dU,mv]
  show(bJ x y&&bJ.fF xs ys)=_
  rw[HE xs ys (by simpa using h)]
  rfl
theorem HF:∀(xs ys:List D),xs.length≠ys.length->bJ.fF xs ys=false
 | [],[],h=>absurd rfl h
 | [],_::_,_=>rfl
 | _::_,[],_=>rfl
 | x::xs,y::ys,h=>by
  show(bJ x y&&bJ.fF xs ys)=false
  rw[HF xs ys (by simpa using h),Bool.and_false]
def ofV:V->D
 | .bl b=>.bl b
 | .int i=>.int i
 | .str z=>.str z
 | _=>.ay
theorem z6{x:D}{v:V}(h:cX 0 x=true)(s:S F H [x] [v]):x=ofV v:=by
 cases s with
 | ay _=>rfl
 | bl _=>rfl
 | int _=>rfl
 | str _=>rfl
 | _=>cases h
theorem Uv{x:D}(h:cX 0 x=true):bJ x x=true:=by
 cases x with
 | ay=>rfl
 | bl b=>exact beq_self_eq_true b
 | int i=>exact beq_self_eq_true i
 | str z=>exact beq_self_eq_true z
 | _=>cases h
theorem rf{n:Nat}{x:D}(h:cX (n+1) x=true):cX 0 x=true\/(∃o xs,x=.lst o xs/\xs.all (cX n)=true)\/∃xs,x=.tup xs/\xs.all (cX n)=true:=by
 cases x with
 | lst o xs=>exact .inr (.inl ⟨o,xs,rfl,h⟩)
 | tup xs=>exact .inr (.inr ⟨xs,rfl,h⟩)
 | obj _ _ _=>exact absurd h gg
 | fz _=>exact absurd h gg
 | bN _=>exact absurd h gg
 | _=>exact .inl rfl
theorem CG{x:D}{p:Addr}(h:cX 0 x=true)(s:S F H [x] [.ref p]):False:=by
 rw[z6 h s]at s
 cases s
theorem Uw:∀(n:Nat) {xs ys:List D} {vs:List V},xs.all (cX n)=true->ys.all (cX n)=true->S F H xs vs->S F H ys vs->ah F H->bJ.fF xs ys=true:=by
 intro n xs
 induction n generalizing xs with
 | zero =>
  induction xs with
  | nil=>intro ys vs _ _ s1 s2 _;cases s1;cases s2;rfl
  | cons x xs ih =>
   intro ys vs h1 h2 s1 s2 e
   obtain⟨v,cO,rfl,q1,r1⟩:=s1.dD
   cases ys with
   | nil=>cases s2
   | cons y ys =>
    obtain⟨v',T9,ee,q2,r2⟩:=s2.dD
    obtain⟨rfl,rfl⟩:=nM ee
    rw[dU,eQ]at h1 h2
    show(bJ x y&&bJ.fF xs ys)=true
    rw[ih h1.2 h2.2 r1 r2 e,ki,z6 h2.1 q2,<- z6 h1.1 q1]
    exact Uv h1.1
 | succ n Ux =>
  induction xs with
  | nil=>intro ys vs _ _ s1 s2 _;cases s1;cases s2;rfl
  | cons x xs ih =>
   intro ys vs h1 h2 s1 s2 e
   obtain⟨v,cO,rfl,q1,r1⟩:=s1.dD
   cases ys with
   | nil=>cases s2
   | cons y ys =>
    obtain⟨v',T9,ee,q2,r2⟩:=s2.dD
    obtain⟨rfl,rfl⟩:=nM ee
    rw[dU,eQ]at h1 h2
    show(bJ x y&&bJ.fF xs ys)=true
    rw[ih h1.2 h2.2 r1 r2 e,ki]
    have h1:=h1.1
    have h2:=h2.1
    clear ih r1 r2 s1 s2
    rcases rf h1 with k1 | ⟨o1,a1,rfl,k1⟩ | ⟨a1,rfl,k1⟩
    ·rcases rf h2 with k2 | ⟨o2,a2,rfl,k2⟩ | ⟨a2,rfl,k2⟩
     ·rw[z6 k2 q2,<- z6 k1 q1]
      exact Uv k1
     ·obtain⟨p,ws,rfl,_⟩:=iY q2 e
      exact(CG k1 q1).elim
     ·obtain⟨p,ws,rfl,_⟩:=lh q2
      exact(CG k1 q1).elim
    ·obtain⟨p,ws,rfl,e1,t1⟩:=iY q1 e
     rcases rf h2 with k2 | ⟨o2,a2,rfl,k2⟩ | ⟨a2,rfl,k2⟩
     ·exact(CG k2 q2).elim
     ·obtain⟨p2,HG,ev,e2,t2⟩:=iY q2 e
      cases ev
      cases e1.symm.trans e2
      exact Ux k1 k2 t1 t2 e
     ·obtain⟨p2,HG,ev,e2,t2⟩:=lh q2
      cases ev
      cases e1.symm.trans e2
    ·obtain⟨p,ws,rfl,e1,t1⟩:=lh q1
     rcases rf h2 with k2 | ⟨o2,a2,rfl,k2⟩ | ⟨a2,rfl,k2⟩
     ·exact(CG k2 q2).elim
     ·obtain⟨p2,HG,ev,e2,t2⟩:=iY q2 e
      cases ev
      cases e1.symm.trans e2
     ·obtain⟨p2,HG,ev,e2,t2⟩:=lh q2
      cases ev
      cases e1.symm.trans e2
      exact Ux k1 k2 t1 t2 e
end
end L3
namespace L3
open PySem L2 PySem.Spec PyProof.Rows
structure Uy(A:Around)(s:Shared)(u w:Value)(b:Bool):Prop where
 rc:SeqAt.RcAt A s u w b
 ne:SeqAt.RcNeAt A s u w (!b)
 eq:Fz A s u w b
section
variable{X:Cx}{F H:Hp}{v w:V}
theorem Uz{xs:List V}{us:List Value}(r:Vals xs us){j:Nat}(h:j<us.toArray.size):∃x,xs[j]?=some x/\RelV x us.toArray[j]:=by
 have l:=r.length
 have hj:j<xs.length:=by rw[l];simpa using h
 obtain⟨u,e,q⟩:=r.get (aJ hj)
 obtain⟨_,z⟩:=ji.mp e
 refine⟨_,aJ hj,?_⟩
 have:us.toArray[j]=u:=by simpa using z
 rw[this];exact q
theorem UA{xs:List D}{j:Nat}{d:D}(h:xs[j]?=some d):xs.getD j .ay=d:=by rw[aK,h];rfl
theorem v7{x:D}{v:V}{u:Value}(h:cX 0 x=true)(s:S F H [x] [v])(r:RelV v u):(x=.ay/\u=.none)\/(∃b,x=.bl b/\u=.bool b)\/(∃i t,x=.int i/\u=.int i t)\/∃z t,x=.str z/\u=.str z t:=by
 cases s with
 | ay _=>cases r;exact .inl ⟨rfl,rfl⟩
 | bl _=>cases r;exact .inr (.inl ⟨_,rfl,rfl⟩)
 | int _=>obtain⟨t,rfl⟩:=r;exact .inr (.inr (.inl ⟨_,t,rfl,rfl⟩))
 | str _=>obtain⟨t,rfl⟩:=r;exact .inr (.inr (.inr ⟨_,t,rfl,rfl⟩))
 | _=>exact absurd h gg
theorem UB{x y:D}{u u':Value}{A:Around}{s:Shared}(h1:(x=.ay/\u=.none)\/(∃b,x=.bl b/\u=.bool b)\/(∃i t,x=.int i/\u=.int i t)\/∃z t,x=.str z/\u=.str z t)(h2:(y=.ay/\u'=.none)\/(∃b,y=.bl b/\u'=.bool b)\/(∃i t,y=.int i/\u'=.int i t)\/∃z t,y=.str z/\u'=.str z t):Uy A s u u' (bJ x y):=by
 rcases h1 with⟨rfl,rfl⟩ | ⟨a,rfl,rfl⟩ | ⟨a,t,rfl,rfl⟩ | ⟨a,t,rfl,rfl⟩<;>rcases h2 with⟨rfl,rfl⟩ | ⟨b,rfl,rfl⟩ | ⟨b,t',rfl,rfl⟩ | ⟨b,t',rfl,rfl⟩
 ·exact⟨.none_none,.none_none,.same _⟩
 ·exact⟨.none_bool _,.none_bool _,.none_bool _⟩
 ·exact⟨.none_int _ _,.none_int _ _,.none_int _ _⟩
 ·exact⟨.none_str _ _,.none_str _ _,.none_str _ _⟩
 ·exact⟨.bool_none _,.bool_none _,.bool_none _⟩
 ·exact⟨.bool_bool _ _,.bool_bool _ _,.bool_bool _ _⟩
 ·exact⟨.bool_int _ _ _,.bool_int _ _ _,.bool_int _ _ _⟩
 ·exact⟨.bool_str _ _ _,.bool_str _ _ _,.bool_str _ _ _⟩
 ·exact⟨.int_none _ _,.int_none _ _,.int_none _ _⟩
 ·exact⟨.int_bool _ _ _,.int_bool _ _ _,.int_bool _ _ _⟩
 ·exact⟨.int_int _ _ _ _,.int_int _ _ _ _,.int_int _ _ _ _⟩
 ·exact⟨.int_str _ _ _ _,.int_str _ _ _ _,.int_str _ _ _ _⟩
 ·exact⟨.str_none _ _,.str_none _ _,.str_none _ _⟩
 ·exact⟨.str_bool _ _ _,.str_bool _ _ _,.str_bool _ _ _⟩
 ·exact⟨.str_int _ _ _ _,.str_int _ _ _ _,.str_int _ _ _ _⟩
 ·exact⟨.str_str _ _ _ _,.str_str _ _ _ _,.str_str _ _ _ _⟩
theorem UC{pins:List (Addr × Obj)}{σ:L2.St}{s:Shared}(I:Inv X pins σ H s)(e:ah F H):∀(n:Nat) (x y:D) (v w:V) (u u':Value) (A:Around),cX n x=true->cX n y=true->S F H [x] [v]->S F H [y] [w]->RelV v u->RelV w u' ->
  A.units+n<cLine->Uy A s u u' (bJ x y):=by
 intro n
 induction n with
 | zero =>
  intro x y v w u u' A hx hy sx sy rv gA hu
  exact UB (v7 hx sx rv) (v7 hy sy gA)
 | succ n ih =>
  intro x y v w u u' A hx hy sx sy rv gA hu
  have bI:A.units<cLine:=nL (Nat.le_add_right ..) hu
  have UD:A.in1.units+n<cLine:=by show A.units+1+n<cLine;rw[FR,BK 1];exact hu
  have items:∀{xs ys:List D} {vs ws:List V} {us v9:List Value},xs.all (cX n)=true->ys.all (cX n)=true->S F H xs vs->S F H ys ws->Vals vs us->Vals ws v9 ->
    ∀j (h1:j<us.toArray.size) (h2:j<v9.toArray.size),Fz A.in1 s us.toArray[j] v9.toArray[j] (bJ (xs.getD j .ay) (ys.getD j .ay)):=by
   intro xs ys vs ws us v9 hx hy sx sy r1 r2 j h1 h2
   obtain⟨a,e1,q1⟩:=Uz r1 h1
   obtain⟨b,e2,q2⟩:=Uz r2 h2
   obtain⟨d1,g1,t1⟩:=sx.get' e1
   obtain⟨d2,g2,t2⟩:=sy.get' e2
   rw[UA g1,UA g2]
   exact(ih d1 d2 a b _ _ A.in1 (dv.mp hx d1 (vo g1)) (dv.mp hy d2 (vo g2)) t1 t2 q1 q2 UD).eq
  clear ih hu UD
  rcases rf hx with k1 | ⟨o,xs,rfl,k1⟩ | ⟨xs,rfl,k1⟩
  ·have f:=v7 k1 sx rv
   rcases rf hy with k2 | ⟨o',ys,rfl,k2⟩ | ⟨ys,rfl,k2⟩
   ·exact UB f (v7 k2 sy gA)
   ·obtain⟨p',gq,rfl,e2,t2⟩:=iY sy e
    cases gA
    obtain⟨lC,r2,p2,z2⟩:=I.list (bQ.of (K:=X.K) e2)
    have p2:=p2.isList
    rcases f with⟨rfl,rfl⟩ | ⟨a,rfl,rfl⟩ | ⟨a,t,rfl,rfl⟩ | ⟨a,t,rfl,rfl⟩
    ·exact⟨.none_list p2 bI,.none_list p2 bI,.none_list p2 bI⟩
    ·exact⟨.bool_list _ p2 bI,.bool_list _ p2 bI,.bool_list _ p2 bI⟩
    ·exact⟨.int_list _ _ p2 bI,.int_list _ _ p2 bI,.int_list _ _ p2 bI⟩
    ·exact⟨.str_list _ _ p2 bI,.str_list _ _ p2 bI,.str_list _ _ p2 bI⟩
   ·obtain⟨p',gq,rfl,e2,t2⟩:=lh sy
    cases gA
    obtain⟨lC,r2,p2,z2⟩:=I.tuple (iq.of (K:=X.K) e2)
    rcases f with⟨rfl,rfl⟩ | ⟨a,rfl,rfl⟩ | ⟨a,t,rfl,rfl⟩ | ⟨a,t,rfl,rfl⟩
    ·exact⟨.none_tuple p2 bI,.none_tuple p2 bI,.none_tuple p2 bI⟩
    ·exact⟨.bool_tuple _ p2 bI,.bool_tuple _ p2 bI,.bool_tuple _ p2 bI⟩
    ·exact⟨.int_tuple _ _ p2 bI,.int_tuple _ _ p2 bI,.int_tuple _ _ p2 bI⟩
    ·exact⟨.str_tuple _ _ p2 bI,.str_tuple _ _ p2 bI,.str_tuple _ _ p2 bI⟩
  ·obtain⟨p,ws,rfl,e1,t1⟩:=iY sx e
   cases rv
   obtain⟨its,r1,p1,z1⟩:=I.list (bQ.of (K:=X.K) e1)
   have p1:=p1.isList
   rcases rf hy with k2 | ⟨o',ys,rfl,k2⟩ | ⟨ys,rfl,k2⟩
   ·rcases v7 k2 sy gA with⟨rfl,rfl⟩ | ⟨a,rfl,rfl⟩ | ⟨a,t,rfl,rfl⟩ | ⟨a,t,rfl,rfl⟩
    ·exact⟨.list_none p1 bI,.list_none p1 bI,.list_none p1 bI⟩
    ·exact⟨.list_bool _ p1 bI,.list_bool _ p1 bI,.list_bool _ p1 bI⟩
    ·exact⟨.list_int _ _ p1 bI,.list_int _ _ p1 bI,.list_int _ _ p1 bI⟩
    ·exact⟨.list_str _ _ p1 bI,.list_str _ _ p1 bI,.list_str _ _ p1 bI⟩
   ·obtain⟨p',gq,rfl,e2,t2⟩:=iY sy e
    cases gA
    obtain⟨lC,r2,p2,z2⟩:=I.list (bQ.of (K:=X.K) e2)
    have p2:=p2.isList
    have uf:xs.length=its.length:=t1.length.trans r1.length
    have wa:ys.length=lC.length:=t2.length.trans r2.length
    by_cases hl:xs.length=ys.length
    ·have mG:its.toArray.size=lC.toArray.size:=by rw[dO,dO,<- uf,<- wa];exact hl
     have ev:(aZ its.toArray.size).all (λj=>bJ (xs.getD j .ay) (ys.getD j .ay))=bJ (.lst o xs) (.lst o' ys):=by
      show _=bJ.fF xs ys
      rw[HE xs ys hl,dO,<- uf]
     have a:=SeqAt.RcAt.lists (e:=λj=>bJ (xs.getD j .ay) (ys.getD j .ay)) p1 p2 mG bI (items k1 k2 t1 t2 r1 r2)
     have b:=SeqAt.RcNeAt.lists (e:=λj=>bJ (xs.getD j .ay) (ys.getD j .ay)) p1 p2 mG bI (items k1 k2 t1 t2 r1 r2)
     rw[ev]at a b
     refine⟨a,b,?_⟩
     by_cases lD:p=p'
     ·subst lD
      cases e1.symm.trans e2
      rw[show bJ (.lst o xs) (.lst o' ys)=true from Uw n k1 k2 t1 t2 e]
      exact .same _
     ·exact .of_refs lD a
    ·have mG:(its.toArray.size != lC.toArray.size)=true:=bne_iff_ne.mpr (by rw[dO,dO,<- uf,<- wa];exact hl)
     rw[show bJ (.lst o xs) (.lst o' ys)=false from HF xs ys hl]
     have a:=SeqAt.RcAt.lists_lengths p1 p2 mG bI
     refine⟨a,SeqAt.RcNeAt.lists_lengths p1 p2 mG bI,.of_refs (λlD=>?_) a⟩
     subst lD
     cases e1.symm.trans e2
     exact hl (t1.length.trans t2.length.symm)
   ·obtain⟨p',gq,rfl,e2,t2⟩:=lh sy
    cases gA
    obtain⟨lC,r2,p2,z2⟩:=I.tuple (iq.of (K:=X.K) e2)
    exact⟨.list_tuple p1 p2 bI,.list_tuple p1 p2 bI,.list_tuple p1 p2 bI⟩
  ·obtain⟨p,ws,rfl,e1,t1⟩:=lh sx
   cases rv
   obtain⟨its,r1,p1,z1⟩:=I.tuple (iq.of (K:=X.K) e1)
   rcases rf hy with k2 | ⟨o',ys,rfl,k2⟩ | ⟨ys,rfl,k2⟩
   ·rcases v7 k2 sy gA with⟨rfl,rfl⟩ | ⟨a,rfl,rfl⟩ | ⟨a,t,rfl,rfl⟩ | ⟨a,t,rfl,rfl⟩
    ·exact⟨.tuple_none p1 bI,.tuple_none p1 bI,.tuple_none p1 bI⟩
    ·exact⟨.tuple_bool _ p1 bI,.tuple_bool _ p1 bI,.tuple_bool _ p1 bI⟩
    ·exact⟨.tuple_int _ _ p1 bI,.tuple_int _ _ p1 bI,.tuple_int _ _ p1 bI⟩
    ·exact⟨.tuple_str _ _ p1 bI,.tuple_str _ _ p1 bI,.tuple_str _ _ p1 bI⟩
   ·obtain⟨p',gq,rfl,e2,t2⟩:=iY sy e
    cases gA
    obtain⟨lC,r2,p2,z2⟩:=I.list (bQ.of (K:=X.K) e2)
    have p2:=p2.isList
    exact⟨.tuple_list p1 p2 bI,.tuple_list p1 p2 bI,.tuple_list p1 p2 bI⟩
   ·obtain⟨p',gq,rfl,e2,t2⟩:=lh sy
    cases gA
    obtain⟨lC,r2,p2,z2⟩:=I.tuple (iq.of (K:=X.K) e2)
    have uf:xs.length=its.length:=t1.length.trans r1.length
    have wa:ys.length=lC.length:=t2.length.trans r2.length
    have ev:((aZ (min its.toArray.size lC.toArray.size)).all (λj=>bJ (xs.getD j .ay) (ys.getD j .ay))&&its.toArray.size==lC.toArray.size)=bJ (.tup xs) (.tup ys):=by
     show _=bJ.fF xs ys
     rw[dO,dO,<- uf,<- wa]
     by_cases hl:xs.length=ys.length
     ·rw[HE xs ys hl,<- hl,tD,beq_self_eq_true,ki]
     ·rw[HF xs ys hl,beq_false_of_ne hl,Bool.and_false]
    have a:=SeqAt.RcAt.tuples (e:=λj=>bJ (xs.getD j .ay) (ys.getD j .ay)) p1 p2 bI (items k1 k2 t1 t2 r1 r2)
    have b:=SeqAt.RcNeAt.tuples (e:=λj=>bJ (xs.getD j .ay) (ys.getD j .ay)) p1 p2 bI (items k1 k2 t1 t2 r1 r2)
    rw[ev]at a b
    refine⟨a,b,?_⟩
    by_cases lD:p=p'
    ·subst lD
     cases e1.symm.trans e2
     rw[show bJ (.tup xs) (.tup ys)=true from Uw n k1 k2 t1 t2 e]
     exact .same _
    ·exact .of_refs lD a
def rh:cP:=λx y Q=>(cX 6 x=true/\cX 6 y=true)/\Q (.bl (bJ x y))
def rj:cP:=λx y Q=>(cX 6 x=true/\cX 6 y=true)/\Q (.bl (!bJ x y))
theorem fV(hu:X.A.units+6<cLine):bS X (compareOp .Eq) rh:=bS.of λpins s σ H v w u u' Q I rv gA zz=>by
 obtain⟨B,F,aN,δ,ts,x,y,Qd,c,sx,sy,⟨⟨hx,hy⟩,q⟩,k⟩:=zz
 exact(UC I c.ext 6 x y v w u u' X.A hx hy sx sy rv gA hu).rc _ _ _ _ ⟨.bl _,H,I,rfl,k _ _ _ q (ah.refl _) (c.pushS (.bl .nil) rfl)⟩
theorem jX(hu:X.A.units+6<cLine):bS X (compareOp .NotEq) rj:=bS.of λpins s σ H v w u u' Q I rv gA zz=>by
 obtain⟨B,F,aN,δ,ts,x,y,Qd,c,sx,sy,⟨⟨hx,hy⟩,q⟩,k⟩:=zz
 exact(UC I c.ext 6 x y v w u u' X.A hx hy sx sy rv gA hu).ne _ _ _ _ ⟨.bl _,H,I,rfl,k _ _ _ q (ah.refl _) (c.pushS (.bl .nil) rfl)⟩
end
end L3
namespace L3
open PySem L2 PySem.Spec PyProof.Rows
section
variable{X:Cx}{F H:Hp}{v w:V}{e a b c o:Expr}{es:List Expr}{pos p p2 apos cj:Pos}{t ta tb tc te:aY}{tr:df}{x:Str}
theorem b06{r r':R2}{rd z7:cP}(hl:Cv r rd)(qo:Cv r' z7):∀σ H Q,lE (oi rd z7 ta tb tc) σ H Q->SH r r' (lB ta) (lB tb) (lB tc) σ H Q:=λσ H Q ⟨B,F,δ,ts,Qd,c,q,k⟩ =>
 ⟨B,F,δ,ts,_,c,q,λx av v F1 H1 q1 f1 h1 c1 s1=>⟨B,F1,av,ts,_,c1,q1,λy bh w F2 H2 q2 f2 h2 c2 s2=>by
  refine hl c2 (s1.mono f2 h2) s2 q2 λd z H' hd hs c3=>?_
  obtain⟨b,rfl,qb⟩:=hd
  have st:=c3.top
  cases st with
  | bl _ =>
   refine⟨b,rfl,?_⟩
   cases b with
   | true =>
    refine qu ⟨B,F2,bh,ts,_,c3.pop,by simpa using qb,λz iU w3 F3 H3 q3 f3 h3 c4 s3=>?_⟩
    exact qo c4 (s2.mono f3 (hs.trans h3)) s3 q3 λd z H' hd hs' c5=>k d iU z F3 H' hd ((f1.trans f2).trans f3) ((((h1.trans h2).trans hs).trans h3).trans hs') c5
   | false=>exact mK (k _ bh _ F2 H' (by simpa using qb) (f1.trans f2) ((h1.trans h2).trans hs) (c3.pop.pushS (.bl .nil) rfl))⟩⟩
theorem HH{op tR:CmpOp}{rd z7:cP}(ho:bS X (compareOp op) rd)(kQ:bS X (compareOp tR) z7)(ha:PE X a (lB ta))(hb:PE X b (lB tb))(hc:PE X c (lB tc))
  (hm:lastMarks [op,tR] [b,c]=false:=by with_unfolding_all rfl):PE X (.Compare a [op,tR] [b,c] pos) (lE (oi rd z7 ta tb tc)):=by
 obtain⟨r,h1,h2⟩:=ho
 obtain⟨r',kB,jQ⟩:=kQ
 exact dN (ci5 h1 kB ha hb hc hm) (b06 h2 jQ)
def rk(t:aY):aY:=λδ Q=>t δ λd ak=>match d with
 | .int i=>Q (.int (-i)) ak
 | _=>False
theorem HI(ha:PE X a (lB ta)):PE X (.UnaryOp .USub a pos) (lE (rk ta)):=dN (cW0 cL1 ha) λσ H Q ⟨B,F,δ,ts,Qd,c,q,k⟩=>⟨B,F,δ,ts,_,c,q,λd av v F1 H1 q1 f1 h1 c1 s1=>by
 cases s1 with
 | int _=>exact⟨_,rfl,k _ av _ F1 H1 q1 f1 h1 (c1.pushS (.int .nil) rfl)⟩
 | _=>exact q1.elim⟩
abbrev jY:=List D->(D->Prop)->Prop
def lc(rd:jY):List V->Hp->VK->Prop:=λvs H Q=>∃B F σ δ ts ds Qd,ax B F H σ δ ts/\S F H ds vs/\rd ds Qd/\∀d z H',Qd d->ah H H'->ax B F H' σ δ ((d,z)::ts)->Q z H'
def g7(X:Cx)(f:Value)(rd:jY):Prop:=gZ X f (lc rd)
theorem g7.of{f:Value}{r:List V->Hp->VK->Prop}{rd:jY}(h:gZ X f r)(m:∀vs H Q,lc rd vs H Q->r vs H Q):g7 X f rd:=λpins s σ H xs us Q I r q=>h pins s σ H xs us Q I r (m xs H Q q)
def m3(rd:jY)(t:df):aY:=λδ Q=>t δ λds ak=>rd ds λd=>Q d ak
theorem UE{rd:jY}:∀σ H Q,lE (m3 rd tr) σ H Q->GR (lc rd) (lA tr) σ H Q:=λσ H Q ⟨B,F,δ,ts,Qd,c,q,k⟩=>⟨B,F,δ,ts,_,c,q,λds av vs F1 H1 q1 f1 h1 c1 s1 =>
 ⟨B,F1,σ,av,ts,ds,_,c1,s1,q1,λd z H' hd hs c'=>k d av z F1 H' hd f1 (h1.trans hs) c'⟩⟩
theorem dQ{id:String}{rd:jY}(hc:g7 X (.builtin id) rd)(hg:Gl X x)(hm:X.mg x=none)(hv:bootBuiltins x=some (.builtin id))(ha:PA X (e::es) (lA tr))(hn:x≠"__name__":=by decide)(fh:(x==("__debug__":Str))=false:=by decide)
  (he:starEach (e::es) X.env=(false,eval e X.env)::starEach es X.env:=by rfl) (bR:(backTo pos (starEach es X.env)).any (·.1)=false:=by rfl):PE X (.Call (.Name x p) (e::es) [] pos) (lE (m3 rd tr)) :=
 dN (SV hc hg hm hv ha hn fh he bR) UE
theorem CH{T:String}{rd:jY}(hc:g7 X (.type T) rd)(hg:Gl X x)(hm:X.mg x=none)(hv:bootBuiltins x=some (.type T))(ha:PA X (e::es) (lA tr))(hn:x≠"__name__":=by decide)(fh:(x==("__debug__":Str))=false:=by decide)
  (he:starEach (e::es) X.env=(false,eval e X.env)::starEach es X.env:=by rfl) (bR:(backTo pos (starEach es X.env)).any (·.1)=false:=by rfl):PE X (.Call (.Name x p) (e::es) [] pos) (lE (m3 rd tr)) :=
 dN (b02 hc hg hm hv ha hn fh he bR) UE
theorem lH{d:D}{vs:List V}(s:S F H [d] vs):∃v,vs=[v]/\S F H [d] [v]:=by
 obtain⟨v,cO,rfl,h1,h2⟩:=s.dD
 cases h2
 exact⟨v,rfl,h1⟩
theorem cU9{d d':D}{vs:List V}(s:S F H [d,d'] vs):∃v v',vs=[v,v']/\S F H [d] [v]/\S F H [d'] [v']:=by
 obtain⟨v,cO,rfl,h1,h2⟩:=s.dD
 obtain⟨v',rfl,h3⟩:=lH h2
 exact⟨v,v',rfl,h1,h3⟩
theorem lJ{K:PySem.W.Frag}{p:Addr}{ws:List V}(h:Rd H p (.lst ws)):bQ K H p ws:=.inl h
def oG:jY:=λds Q=>match ds with
 | [.lst _ xs]=>Q (.int xs.length)
 | [.fz xs]=>Q (.int xs.length)
 | [.tup xs]=>Q (.int xs.length)
 | [.str z]=>z.length<=sizeLine/\Q (.int z.length)
 | _=>False
theorem fW:g7 X (.builtin "len") oG:=g7.of (du1.or bH9) λvs H Q zz=>by
 obtain⟨B,F,σ,δ,ts,ds,Qd,c,s,q,k⟩:=zz
 unfold oG at q
 split at q
 ·obtain⟨v,rfl,s1⟩:=lH s
  obtain⟨p,ws,rfl,h,t⟩:=mZ s1 c.ext rfl
  refine .inl ⟨p,ws,rfl,.inl (lJ h),?_⟩
  rw[<-t.length]
  exact k _ _ _ q (ah.refl _) (c.pushS (.int .nil) rfl)
 ·obtain⟨v,rfl,s1⟩:=lH s
  obtain⟨p,ws,rfl,h,t⟩:=mZ s1 c.ext rfl
  refine .inl ⟨p,ws,rfl,.inl (lJ h),?_⟩
  rw[<-t.length]
  exact k _ _ _ q (ah.refl _) (c.pushS (.int .nil) rfl)
 ·obtain⟨v,rfl,s1⟩:=lH s
  obtain⟨p,ws,rfl,h,t⟩:=lh s1
  refine .inl ⟨p,ws,rfl,.inr (iq.of h),?_⟩
  rw[<-t.length]
  exact k _ _ _ q (ah.refl _) (c.pushS (.int .nil) rfl)
 ·obtain⟨v,rfl,s1⟩:=lH s
  cases s1
  exact .inr ⟨_,rfl,q.1,k _ _ _ q.2 (ah.refl _) (c.pushS (.int .nil) rfl)⟩
 ·exact q.elim
def oH:jY:=λds Q=>match ds with
 | [.lst _ xs]=>xs.all D.pl=true/\Q (.lst true xs)
 | [.fz xs]=>Q (.lst true xs)
 | [.tup xs]=>xs.all D.pl=true/\Q (.lst true xs)
 | _=>False
theorem CI:g7 X (.type "list") oH:=g7.of bM0 λvs H Q zz=>by
 obtain⟨B,F,σ,δ,ts,ds,Qd,c,s,q,k⟩:=zz
 unfold oH at q
 split at q
 ·obtain⟨v,rfl,s1⟩:=lH s
  obtain⟨p,ws,rfl,h,t⟩:=mZ s1 c.ext rfl
  exact⟨p,ws,rfl,.inl (lJ h),λl hl=>k _ _ _ q.2 (ah.upd hl) (c.qB hl t q.1)⟩
 ·obtain⟨v,rfl,s1⟩:=lH s
  cases s1 with
  | fz h r _=>exact⟨_,_,rfl,.inl (lJ (.inr ⟨_,c.ext _ _ h⟩)),λl hl=>k _ _ _ q (ah.upd hl) (c.qB hl r.s r.pl)⟩
 ·obtain⟨v,rfl,s1⟩:=lH s
  obtain⟨p,ws,rfl,h,t⟩:=lh s1
  exact⟨p,ws,rfl,.inr (iq.of h),λl hl=>k _ _ _ q.2 (ah.upd hl) (c.qB hl t q.1)⟩
 ·exact q.elim
def ii(g:Int->Int->Int):jY:=λds Q=>match ds with
 | [.int i,.int j]=>Q (.int (g i j))
 | _=>False
theorem cT8{f:Value}{g:Int->Int->Int}(h:gZ X f (λxs H Q=>∃i j,xs=[.int i,.int j]/\Q (.int (g i j)) H)):g7 X f (ii g):=g7.of h λvs H Q zz=>by
 obtain⟨B,F,σ,δ,ts,ds,Qd,c,s,q,k⟩:=zz
 unfold ii at q
 split at q
 ·obtain⟨v,v',rfl,s1,s2⟩:=cU9 s
  cases s1;cases s2
  exact⟨_,_,rfl,k _ _ _ q (ah.refl _) (c.pushS (.int .nil) rfl)⟩
 ·exact q.elim
theorem cR0(hc:X.calm=true):g7 X (.builtin "min") (ii λi j=>if j<i then j else i):=cT8 (ce4 hc)
def wb(bs:List Bool):List D:=bs.map D.bl
theorem UG:∀{bs:List Bool} {ws:List V},S F H (wb bs) ws->ws=bs.map V.bl
 | [],_,s=>by cases s;rfl
 | b::bs,_,s=>by
  cases s with
  | bl s=>rw[UG s];rfl
def oI:jY:=λds Q=>match ds with
 | [.lst _ xs]=>∃bs,xs=wb bs/\Q (.bl (bs.all id))
 | _=>False
theorem CJ(hc:X.calm=true):g7 X (.builtin "all") oI:=g7.of (ck1 hc) λvs H Q zz=>by
 obtain⟨B,F,σ,δ,ts,ds,Qd,c,s,q,k⟩:=zz
 unfold oI at q
 split at q
 ·obtain⟨v,rfl,s1⟩:=lH s
  obtain⟨bs,rfl,q⟩:=q
  obtain⟨p,ws,rfl,h,t⟩:=mZ s1 c.ext rfl
  rw[UG t]at h
  exact⟨p,bs,rfl,lJ h,k _ _ _ q (ah.refl _) (c.pushS (.bl .nil) rfl)⟩
 ·exact q.elim
def HJ:D->Option String
 | .int _=>some "int"
 | .bl _=>some "bool"
 | .ay=>some "NoneType"
 | .str _=>some "str"
 | .lst _ _=>some "list"
 | .fz _=>some "list"
 | .tup _=>some "tuple"
 | _=>none
def HK(k n:String):Option Bool:=([("int","int",true),("int","bool",false),("int","list",false),("int","tuple",false),("int","str",false),("bool","int",true),("bool","bool",true),("bool","list",false),("bool","tuple",false),("bool","str",false),
 ("NoneType","int",false),("NoneType","bool",false),("NoneType","list",false),("NoneType","tuple",false),("NoneType","str",false),("str","int",false),("str","bool",false),("str","list",false),("str","tuple",false),("str","str",true),
 ("list","int",false),("list","bool",false),("list","list",true),("list","tuple",false),("list","str",false),("tuple","int",false),("tuple","bool",false),("tuple","list",false),("tuple","tuple",true),("tuple","str",false)].find? λz=>z.1==k&&z.2.1==n).map (·.2.2)
def m4(n:String)(d:D):Option Bool:=(HJ d).bind λk=>HK k n
theorem cK9{K:PySem.W.Frag}{k n:String}{r:Bool}(h:HK k n=some r):PySem.W.kitOne K (.type k) (.type n)=some r:=by
 unfold HK at h
 obtain⟨z,hz,rfl⟩:=vt.mp h
 have hm:=RP hz
 have hp:=List.find?_some hz
 rw[eQ,beq_iff_eq,beq_iff_eq]at hp
 obtain⟨rfl,rfl⟩:=hp
 simp only[cA,ij,or_false]at hm
 repeat' (rcases hm with hm | hm)
 all_goals rfl
theorem cG9{K:PySem.W.Frag}{d:D}(s:S F H [d] [v])(e:ah F H){k:String}(h:HJ d=some k):iN K H v (.type k):=by
 cases s with
 | int _=>cases h;exact .int _
 | bl _=>cases h;exact .bl _
 | ay _=>cases h;exact .ay
 | str _=>cases h;exact .str _
 | shr h' _ _=>cases h;exact .lst (e _ _ h')
 | own h' _ _=>cases h;exact .lst h'
 | fz h' _ _=>cases h;exact .cq (e _ _ h')
 | tup h' _ _=>cases h;exact .tup h'
 | obj _ _ _ _=>cases h
 | bN _ _=>cases h
theorem cQ7{K:PySem.W.Frag}{d:D}(s:S F H [d] [v])(e:ah F H){n:String}{r:Bool}(h:m4 n d=some r):∃t,iN K H v t/\PySem.W.kitOne K t (.type n)=some r:=by
 unfold m4 at h
 cases hk:HJ d with
 | none=>rw[hk]at h;cases h
 | some k=>rw[hk]at h;exact⟨_,cG9 s e hk,cK9 h⟩
def rl(n:String)(t:aY):aY:=λδ Q=>t δ λd ak=>∃r,m4 n d=some r/\Q (.bl r) ak
theorem wc{n:String}{y:Str}{q:Pos}(hg:Gl X "isinstance")(hm:X.mg "isinstance"=none)(hg2:Gl X y)(UH:X.mg y=none)(hv2:bootBuiltins y=some (.type n))(ha:PE X a (lB ta))
  (hn:y≠"__name__":=by decide) (hd:(y==("__debug__":Str))=false:=by decide)
  (hs:starEach [a,.Name y q] X.env=(false,eval a X.env)::starEach [.Name y q] X.env:=by rfl) (jr:starEach [.Name y q] X.env=(false,eval (.Name y q) X.env)::starEach [] X.env:=by rfl) (bR:(backTo pos (starEach [.Name y q] X.env)).any (·.1)=false:=by rfl) :
  PE X (.Call (.Name "isinstance" p) [a,.Name y q] [] pos) (lE (rl n ta)) :=
 dN (SV by7 hg hm bF3 (gz ha (gz (cW4 hg2 UH hv2 hn hd) ky jr) hs) (by decide) (by decide) hs bR) λσ H Q ⟨B,F,δ,ts,Qd,c,q,k⟩=>⟨B,F,δ,ts,_,c,q,λd av v F1 H1 q1 f1 h1 c1 s1=>by
  obtain⟨r,e,qr⟩:=q1
  obtain⟨t,h2,h3⟩:=cQ7 (K:=X.K) s1 c1.ext e
  exact⟨v,n,t,r,rfl,h2,h3,k _ av _ F1 H1 qr f1 h1 (c1.pushS (.bl .nil) rfl)⟩⟩
theorem HL{xs:List D}{ws:List V}{i:Int}{d:D}(s:S F H xs ws)(h:eK xs i=some d):∃v,eK ws i=some v/\S F H [d] [v]:=by
 unfold eK at h ⊢
 rw[<-s.length]
 cases e:iP xs.length i with
 | none=>rw[e]at h;cases h
 | some j =>
  rw[e]at h
  exact s.get h
def oJ(x y:D)(Q:D->Prop):Prop:=match x,y with
 | .lst _ xs,.int i=>∃d,eK xs i=some d/\Q d
 | .fz xs,.int i=>∃d,eK xs i=some d/\Q d
 | .tup xs,.int i=>∃d,eK xs i=some d/\Q d
 | .str z,.int i=>z.length<=sizeLine/\∃ch,eK z.cps.toList i=some ch/\Q (.str ⟨#[ch]⟩)
 | _,_=>False
def rm(ta tb:aY):aY:=λδ Q=>ta δ λx av=>tb av λy bh=>oJ x y λd=>Q d bh
theorem bG(ha:PE X a (lB ta))(hb:PE X b (lB tb))(hs:SX b):PE X (.Subscript a b pos) (lB (rm ta tb)) :=
 dN (cR6 cQ1 ha hb hs) λσ H Q ⟨B,F,δ,ts,Qd,c,q,k⟩=>⟨B,F,δ,ts,_,c,q,λx av v F1 H1 q1 f1 h1 c1 s1=>⟨B,F1,av,ts,_,c1,q1,λy bh w F2 H2 q2 f2 h2 c2 s2=>by
  have oK:=s1.mono f2 h2
  have fin:∀d z,Qd d bh->S F2 H2 [d] [z]->Q z H2:=λd z hd s=>k d bh z F2 H2 hd (f1.trans f2) (h1.trans h2) c2 s
  unfold oJ at q2
  split at q2
  ·obtain⟨d,ed,qd⟩:=q2
   cases s2
   obtain⟨p,ws,rfl,h,t⟩:=mZ oK c2.ext rfl
   obtain⟨z,ez,sz⟩:=HL t ed
   exact .inl ⟨p,ws,_,z,rfl,rfl,lJ h,ez,fin d z qd sz⟩
  ·obtain⟨d,ed,qd⟩:=q2
   cases s2
   obtain⟨p,ws,rfl,h,t⟩:=mZ oK c2.ext rfl
   obtain⟨z,ez,sz⟩:=HL t ed
   exact .inl ⟨p,ws,_,z,rfl,rfl,lJ h,ez,fin d z qd sz⟩
  ·obtain⟨d,ed,qd⟩:=q2
   cases s2
   obtain⟨p,ws,rfl,h,t⟩:=lh oK
   obtain⟨z,ez,sz⟩:=HL t ed
   exact .inr (.inl ⟨p,ws,_,z,rfl,rfl,iq.of h,ez,fin d z qd sz⟩)
  ·obtain⟨hz,ch,ec,qc⟩:=q2
   cases oK
   cases s2
   exact .inr (.inr ⟨_,_,ch,rfl,rfl,hz,ec,fin _ _ qc (.str .nil)⟩)
  ·exact q2.elim⟩⟩
abbrev we:=Dl->(Option Int->Dl->Prop)->Prop
def lP(t:we):TO:=λσ H Q=>∃B F δ ts Qd,ax B F H σ δ ts/\t δ Qd/\∀o ak F' H',Qd o ak->ah F F'->ah H H'->ax B F' H' σ ak ts->Q o H'
theorem UI{oe:Option Expr}{u u':TO}(h:PO X oe u)(m:∀σ H Q,u' σ H Q->u σ H Q):PO X oe u':=λpins s σ H Q I q=>h pins s σ H Q I (m σ H Q q)
def rn:we:=λδ Q=>Q none δ
def rp(t:aY):we:=λδ Q=>t δ λd ak=>match d with
 | .int i=>Q (some i) ak
 | _=>False
theorem ug:PO X none (lP rn):=UI cD4 λσ H Q ⟨B,F,δ,ts,Qd,c,q,k⟩=>k none δ F H q (ah.refl _) (ah.refl _) c
theorem uh(h:PE X e (lB t)):PO X (some e) (lP (rp t)):=UI (cE9 h) λσ H Q ⟨B,F,δ,ts,Qd,c,q,k⟩=>⟨B,F,δ,ts,_,c,q,λd av v F1 H1 q1 f1 h1 c1 s1=>by
 cases s1 with
 | int _=>exact⟨_,rfl,k _ av F1 H1 q1 f1 h1 c1⟩
 | _=>exact q1.elim⟩
def fj{α:Type}(xs:List α)(lo hi:Option Int):List α:=(xs.drop (HT.dm xs.length 0 lo)).take (HT.dm xs.length xs.length hi-HT.dm xs.length 0 lo)
theorem S.cut{xs:List D}{ws:List V}(s:S F H xs ws)(lo hi:Option Int):S F H (fj xs lo hi) (vM ws lo hi):=by
 unfold fj vM
 rw[<-s.length]
 exact(s.drop _).take _
theorem UJ{xs:List D}{p:D->Bool}(h:xs.all p=true)(lo hi:Option Int):(fj xs lo hi).all p=true:=by
 rw[dv]at h ⊢
 intro x hx
 exact h x (qf (qg hx))
def rq(t:aY):aY:=λδ Q=>t δ λd ak=>match d with
 | .int i=>Q (.int (Mf.bl i.natAbs:Nat)) ak
 | _=>False
theorem oM(ho:PE X o (lB t))(kW:attributeBase o "bit_length" X.env (eval o X.env)=eval o X.env:=by rfl)(kX:(apos.endLine==cj.line)=true:=by rfl):PE X (.Call (.Attribute o "bit_length" apos) [] [] cj) (lE (rq t)) :=
 dN (G7 ho kW kX) λσ H Q ⟨B,F,δ,ts,Qd,c,q,k⟩=>⟨B,F,δ,ts,_,c,q,λd av v F1 H1 q1 f1 h1 c1 s1=>by
  cases s1 with
  | int _=>exact⟨rfl,_,rfl,rfl,k _ av _ F1 H1 q1 f1 h1 (c1.pushS (.int .nil) rfl)⟩
  | _=>exact q1.elim⟩
end
end L3
namespace L3
open PySem L2 PySem.Spec PyProof.Rows
section
variable{X:Cx}{F H:Hp}{v w:V}{e a b c o tg:Expr}{es:List Expr}{pos p p2 apos cj pos':Pos}{t ta tb tc te ti:aY}{tr:df}{x:Str}{i:Nat}
def rz(i:Nat)(t:aY):cW:=λD δ=>(∃xs,δ[i]?=some (some (.lst true xs)))/\t δ λd ak=>∃xs,ak[i]?=some (some (.lst true xs))/\xs.length<sizeLine/\D.nx (ak.set i (some (.lst true (xs++[d]))))
theorem lK(hN:X.N[i]?=some x)(hv:mC X.env.scope x)(he:PE X e (lE t))(hd:(x==("__debug__":Str))=false:=by decide)(da:(x==("__classdict__":Str))=false:=by decide)
  (kW:attributeBase (.Name x p) "append" X.env (eval (.Name x p) X.env)=eval (.Name x p) X.env:=by rfl)
  (GX:((backTo cj (starEach [e] X.env)).all (λx=>!x.1)&&(backToKw cj (keywordEach [] X.env)).all (λx=>x.1.isSome)
   && decide ([e].length+([]:List Keyword).length+(if([]:List Keyword).isEmpty then 0 else 1)<30))=true:=by rfl)
  (kX:(apos.endLine==cj.line)=true:=by rfl) (hs:starEach [e] X.env=(false,eval e X.env)::starEach [] X.env:=by rfl) (GY:(backTo cj (starEach [] X.env)).any (·.1)=false:=by rfl)
  (ui:swapsWith (.Call (.Attribute (.Name x p) "append" apos) [e] [] cj) none pos.line X.env=pure false:=by rfl) :
  PS X (.Expr (.Call (.Attribute (.Name x p) "append" apos) [e] [] cj) pos) (lS X (rz i t)) :=
 mP (B8 (cW7 PySem.F.plainAttrs_list PySem.F.slot_list_append PySem.F.type_list_append Tc (tN hN hv hd da) (gz he ky hs) kW GX kX hs GY) ui) λEn σ H zz=>by
  obtain⟨B,F,δ,Dd,c,⟨⟨ys,ey⟩,q⟩,k1,k2,k3,k4⟩:=zz
  obtain⟨p0,zP,g1,g2,g3⟩:=c.ownAt ey
  refine⟨.ref p0,g1,.inl ⟨rfl,_,bQ.of g2⟩,B,F,δ,[],_,c,q,λd ak v F' H' hd sf sh c'=>?_⟩
  obtain⟨xs,ex,hl,hn⟩:=hd
  obtain⟨p1,ws,r1,r2,r3⟩:=c'.ownAt ex
  rw[g1]at r1;cases r1
  exact⟨p0,ws,v,rfl,rfl,r2,by omega,k1 _ _ F' _ hn (c'.app ex g1 r2)⟩
def rA(i:Nat)(te ti:aY):cW:=λD δ=>te δ λd av=>∃ys,av[i]?=some (some (.lst true ys))/\oh ti av λk bh=>match k with
 | .int n=>∃xs j,bh[i]?=some (some (.lst true xs))/\iP xs.length n=some j/\D.nx (bh.set i (some (.lst true (xs.set j d))))
 | _=>False
theorem wg(hN:X.N[i]?=some x)(hv:mC X.env.scope x)(he:PE X e (lE te))(hi:PE X b (lB ti))(hd:(x==("__debug__":Str))=false:=by decide)(da:(x==("__classdict__":Str))=false:=by decide)
  (ha:∀v,assign (.Subscript (.Name x p) b pos') X.env v=(do
   let ov<-holding [v] (eval (.Name x p) X.env)
   let iv<-holding [v,ov] (eval b X.env)
   standAt pos'
   holding [v,ov,iv] (setItem ov iv v)
   release [v,ov,iv] []):=by intro _;rfl)
  (hs:swapsWithSole [.Subscript (.Name x p) b pos'] e pos.line X.env=pure false:=by rfl) (hw:swappedStores [.Subscript (.Name x p) b pos'] e X.env=pure none:=by rfl)
  (h1:(assignEach [.Subscript (.Name x p) b pos'] X.env).map (·.2)=[assign (.Subscript (.Name x p) b pos') X.env]:=by rfl) :
  PS X (.Assign [.Subscript (.Name x p) b pos'] e pos) (lS X (rA i te ti)) :=
 mP (cL9 he (cI3 (tN hN hv hd da) (cN hi) cp4 ha) hs hw h1) λEn σ H ⟨B,F,δ,Dd,c,q,k1,k2,k3,k4⟩=>⟨B,F,δ,[],_,c,q,λd av v F1 H1 hq f1 h1 c1=>by
  obtain⟨ys,ey,hq⟩:=hq
  obtain⟨p0,zP,g1,g2,g3⟩:=c1.ownAt ey
  refine⟨.ref p0,g1,B,F1,av,[(d,v)],_,c1,hq,λkd bh kv F2 H2 hk f2 h2 c2=>?_⟩
  have st:=c2.top
  split at hk
  ·obtain⟨xs,j,ex,ej,hn⟩:=hk
   cases st
   have c3:=c2.pop
   obtain⟨p1,ws,r1,r2,r3⟩:=c3.ownAt ex
   rw[g1]at r1;cases r1
   exact⟨p0,ws,_,j,rfl,rfl,r2,by rw[<-r3];exact ej,k1 _ _ F2 _ hn (c3.dF0 ex g1 r2 j)⟩
  ·exact hk.elim⟩
end
end L3
namespace L3
open PySem L2 PySem.Spec PyProof.Rows
theorem dr{A:Around}{k:Nat}(hr:cL k A):A.units+6<cLine:=by have:=hr.un;omega
def aL(ns:List Int):List D:=ns.map D.int
def HM(o:Obj):Bool:=match o.cls with
 | .type n=>n != "list"
 | _=>true
def UK:bA:=λds Q=>∃ns:List Int,ds=[.fz (aL ns)]/\ns.length<=63/\Q (.bl true)
theorem lL{F H:Hp}:∀ns:List Int,R F H (aL ns) (ns.map V.int) []
 | []=>.nil
 | n::ns=>.int (lL ns)
theorem bM7{K:PySem.W.Frag}{a:Addr}{o:Obj}(h:K.lookup a=some o):(a,o)∈K:=by
 induction K with
 | nil=>cases h
 | cons p K ih =>
  obtain⟨b,u⟩:=p
  rw[gG]at h
  split at h
  ·rename_i z
   have:a=b:=by simpa using z
   cases h;subst this;simp
  ·exact dY _ (ih h)
end L3
namespace L3
open PySem L2 PySem.Spec PyProof.Rows
section
variable{B:Bs}{F H:Hp}{σ:L2.St}{δ:Dl}{ts ps:List (D × V)}{i k:Nat}{p q:Addr}{l1 l2 ys T4:List D}{ws v9:List V}
end
section
variable{X:Cx}{F H:Hp}{e b:Expr}{pos p pr apos cj HN:Pos}{t ti te:aY}{x y:Str}{i j:Nat}
end
end L3
namespace L3
open PySem L2 PySem.Spec PyProof.Rows
theorem uj(i:Int):(D.int i).pl=true:=rfl
theorem uk(i:Bool):(D.bl i).pl=true:=rfl
theorem um(i:Str):(D.str i).pl=true:=rfl
theorem uo:D.ay.pl=true:=rfl
theorem uq(xs:List D):(D.fz xs).pl=true:=rfl
theorem ur(C:Addr)(ns:List Str)(xs:List D):(D.obj C ns xs).pl=true:=rfl
theorem rB(i:Int):(D.int i).fr=true:=rfl
theorem uu(i:Bool):(D.bl i).fr=true:=rfl
theorem uv(i:Str):(D.str i).fr=true:=rfl
theorem uw:D.ay.fr=true:=rfl
theorem jD(i:Int):(D.int i).sh=.int i:=rfl
theorem uz(i:Bool):(D.bl i).sh=.bl i:=rfl
theorem uA(i:Str):(D.str i).sh=.str i:=rfl
theorem uB:D.ay.sh=.ay:=rfl
theorem uC(xs:List D):(D.fz xs).sh=.fz xs:=rfl
theorem uD(C:Addr)(ns:List Str)(xs:List D):(D.obj C ns xs).sh=.obj C ns xs:=rfl
theorem uE{α:Type}(n:Nat)(x:α):(bF n [x]).flatten=bF n x:=by
 induction n with
 | zero=>rfl
 | succ n ih=>rw[sZ,vp,ih];rfl
theorem lM(ns:List Int):(aL ns).length=ns.length:=by simp[aL]
theorem lN(ns:List Int):(aL ns).all D.pl=true:=by simp[aL,D.pl]
theorem oN(ns:List Int):(aL ns).all D.fr=true:=by simp[aL,D.fr]
theorem jE(ns:List Int):(aL ns).map D.sh=aL ns:=by simp[aL,D.sh]
theorem oO(a b:List Int):aL a++aL b=aL (a++b):=by simp[aL]
theorem uF(n:Nat)(i:Int):bF n (D.int i)=aL (bF n i):=by simp[aL]
theorem oQ(n:Nat)(i:Int):cX n (.int i)=true:=by cases n<;>rfl
theorem uG(n:Nat)(i:Str):cX n (.str i)=true:=by cases n<;>rfl
theorem rC(n:Nat):cX n .ay=true:=by cases n<;>rfl
theorem lQ(i j:Int):bJ (.int i) (.int j)=decide (i=j):=by
 show(i==j)=_
 rw[Bool.beq_eq_decide_eq]
theorem UL:∀(a b:List Int),bJ.fF (aL a) (aL b)=decide (a=b)
 | [],[]=>rfl
 | [],_::_=>by simp[aL,bJ.fF]
 | _::_,[]=>by simp[aL,bJ.fF]
 | x::xs,y::ys=>by
  show(bJ (.int x) (.int y)&&bJ.fF (aL xs) (aL ys))=_
  rw[UL xs ys,lQ,tf];simp
theorem rD(o o':Bool)(a b:List Int):bJ (.lst o (aL a)) (.lst o' (aL b))=decide (a=b):=UL a b
theorem ci8{ns:List Int}{k:Nat}(h:k<ns.length):(aL ns)[k]?=some (.int ns[k]):=by simp[aL,h]
theorem m5{ns:List Int}{k:Int}(h0:0<=k)(h:k<ns.length):eK (aL ns) k=some (.int (ns.getD k.toNat 0)):=by
 unfold eK iP
 rw[if_pos h0,lM,if_pos h]
 show(aL ns)[k.toNat]?=_
 have hk:k.toNat<ns.length:=by omega
 rw[ci8 hk,aK,aJ hk];rfl
theorem rE(ns:List Int)(lo hi:Option Int):fj (aL ns) lo hi=aL (fj ns lo hi):=by simp[fj,aL,RQ,RU]
theorem uH(i:Int):m4 "int" (.int i)=some true:=by rfl
theorem uI(i:Int):m4 "bool" (.int i)=some false:=by rfl
theorem uJ(i:Int):m4 "list" (.int i)=some false:=by rfl
theorem uK(o:Bool)(xs:List D):m4 "list" (.lst o xs)=some true:=by rfl
theorem uL:m4 "int" .ay=some false:=by rfl
theorem uM(x:Str):m4 "str" (.str x)=some true:=by rfl
theorem uN(xs:List D):m4 "tuple" (.tup xs)=some true:=by rfl
theorem sL:sizeLine=16777216:=rfl
theorem uO{p:Prop}[Decidable p]:(decide p=true)=p:=by simp
theorem cC3{α:Type}(xs:List α)(a b:Nat):fj xs (some (a:Int)) (some (b:Int))=(xs.drop a).take (b-a):=by
 unfold fj
 rw[HT.GS,HT.GS]
 by_cases h:a<=xs.length
 ·rw[Nat.min_eq_left h]
  apply FT
  intro i
  rw[dd3,dd3,FU]
  by_cases hi:i<b-a
  ·rw[if_pos hi]
   by_cases hb:a+i<xs.length
   ·rw[if_pos (by omega)]
   ·rw[gU (by omega)];simp
  ·rw[if_neg hi,if_neg (by omega)]
 ·rw[Nat.min_eq_right (show xs.length<=a by omega),RV (bM _),RV (show xs.length<=a by omega)];simp
end L3
namespace L2
open PySem PySem.Spec PyProof.Rows
section
variable{X:Cx}{e:Expr}{te:TE}{lo hi:Option Expr}{st:Expr}{tl th ts:TO}{pos p2:Pos}
theorem UM(ns:List Int):∀k,k<=ns.length->preSum (λi=>ns.getD i 0) k=(ns.take k).sum
 | 0,_=>rfl
 | k+1,h=>by
  show preSum (λi=>ns.getD i 0) k+ns.getD k 0=_
  rw[UM ns k (by omega),mr,aJ (by omega),List.sum_append,aK,aJ (by omega)]
  simp
theorem b85(hc:X.calm=true):gZ X (.builtin "sum") (λxs H Q=>∃(p:Addr) (ns:List Int),xs=[.ref p]/\bQ X.K H p (ns.map V.int)/\Q (.int ns.sum) H):=by
 intro pins s σ H xs us Q I r h
 obtain⟨p,ns,rfl,hS,q⟩:=h
 obtain⟨u,rfl,ru⟩:=r.one
 cases ru
 obtain⟨its,rv,pl,hz⟩:=I.list hS
 have hi:=bW1 rv
 have hlen:ns.length=its.length:=by have:=rv.length;simpa using this
 have hl:=pl.isList
 have gC:p<s.heap.objs.size:=by obtain⟨_,e,_⟩:=hl;exact bU e
 refine call_sum_walkG (wpAny_pyIter_list hl ?_)
 refine⟨s.heap.objs.size,[s.heap.objs.size,p],[s.heap.objs.size],its.toArray.size,_,_,λi=>ns.getD i 0,rfl,Walks.list (A:=X.A.in1) (I.ok.hd hc) _ p (ft gC) its.toArray,
  ⟨⟨_,gQ _ rfl,rfl,rfl⟩,hl.push _⟩,λb hb=>?_,λi v hP=>?_,λh' tk t' hk=>?_⟩
 ·simp only[vn]
  rcases cA.mp hb with rfl | hb
  ·exact BH _
  ·rw[dW.mp hb];exact RW gC
 ·have e:its[i]?=some v:=by simpa using hP
  obtain⟨x,ex,q2⟩:∃x,(ns.map V.int)[i]?=some x/\RelV x v:=by
   have iu:i<its.length:=(ji.mp e).1
   obtain⟨u,e2,q2⟩:=rv.get (i:=i) (x:=V.int ns[i]) (by rw[bP,aJ (by omega)];rfl)
   rw[e]at e2;cases e2
   exact⟨_,by rw[bP,aJ (by omega)];rfl,q2⟩
  rw[bP]at ex
  obtain⟨n,en,rfl⟩:=vt.mp ex
  obtain⟨t,rfl⟩:=q2
  exact⟨t,by show pY n t=pY (ns.getD i 0) t;rw[aK,en];rfl⟩
 ·rw[dO,<- hlen,UM ns _ (bM _),tu]
  exact⟨.int _,H,I.kept (h':=h') (t':=tk) (G8 hk),⟨_,rfl⟩,q⟩
end
end L2
namespace L3
open PySem L2 PySem.Spec PyProof.Rows
section
variable{X:Cx}{F H:Hp}{e:Expr}{t:aY}{lo hi:Option Expr}{st:Expr}{tl th td:we}{pos p2:Pos}
theorem HP:∀{a:List Int} {ws:List V},S F H (aL a) ws->ws=a.map V.int
 | [],_,s=>by cases s;rfl
 | b::bs,_,s=>by
  cases s with
  | int s=>rw[HP s];rfl
def lR:jY:=λds Q=>match ds with
 | [.lst _ xs]=>∃a,xs=aL a/\Q (.int a.sum)
 | _=>False
theorem cS0(hc:X.calm=true):g7 X (.builtin "sum") lR:=g7.of (b85 hc) λvs H Q zz=>by
 obtain⟨B,F,σ,δ,ts,ds,Qd,c,s,q,k⟩:=zz
 unfold lR at q
 split at q
 ·obtain⟨v,rfl,s1⟩:=lH s
  obtain⟨a,rfl,q⟩:=q
  obtain⟨p,ws,rfl,h,t⟩:=mZ s1 c.ext rfl
  rw[HP t]at h
  exact⟨p,a,rfl,lJ h,k _ _ _ q (ah.refl _) (c.pushS (.int .nil) rfl)⟩
 ·exact q.elim
def HQ:Expr->Option Int
 | .Constant (.int i) _ _=>some i
 | _=>none
def CK:List Expr->Option (List Int)
 | []=>some []
 | e::es=>(HQ e).bind λi=>(CK es).map (i :: ·)
theorem ch6{e:Expr}{i:Int}(h:HQ e=some i):∃a b,e=.Constant (.int i) a b:=by
 cases e with
 | Constant c a b =>
  cases c with
  | int j=>cases h;exact⟨_,_,rfl⟩
  | _=>cases h
 | _=>cases h
def cS5(ns:List Int):df:=λδ Q=>Q (aL ns) δ
theorem UN:∀(es:List Expr) (ns:List Int),CK es=some ns->PA X es (lO (cS5 ns))
 | [],ns,h=>by cases h;exact dH
 | e::es,ns,h=>by
  obtain⟨i,hi,h2⟩:=Option.bind_eq_some_iff.mp (show(HQ e).bind (λi=>(CK es).map (i :: ·))=some ns from h)
  obtain⟨ms,hm,rfl⟩:=vt.mp h2
  obtain⟨a,b,rfl⟩:=ch6 hi
  exact zR (e5 (aw (i:=i)) (UN es ms hm)) λ_ _ _ q=>q
def rF(ns:List Int):aY:=λδ Q=>ns.length<=sizeLine/\Q (.lst true (aL ns)) δ
theorem UO{es:List Expr}{ns:List Int}(h:CK es=some ns):PE X (.List es pos) (lE (rF ns)) :=
 dN (eM (UN es ns h)) λ_ _ _ ⟨B,F,δ,ts,Qd,c,q,k⟩=>⟨B,F,δ,ts,Qd,c,by
  show(aL ns).length<=sizeLine/\_
  rw[lM];exact q,k⟩
theorem HR{n:Nat}{g:iV}{tb:cW}{En:t9}{δ:Dl}(Iv:Nat->Dl->Prop)(h0:Iv 0 δ)(ht:∀k ak,k<n->Iv k ak->g (.int k) ak λbh=>tb { En with nx:=Iv (k+1),ct:=Iv (k+1),bk:=En.nx } bh)
  (hf:∀ak,Iv n ak->En.nx ak):fE (BP (λ(k:Nat)=>D.int (0+(k:Int))) (aZ (n:Int).toNat)) g tb En δ:=by
 rw[fO]
 refine fE.mk Iv h0 (λi d ak hd iv=>?_) λak iv=>hf ak (by simpa using iv)
 rw[bP]at hd
 obtain⟨k,hk,rfl⟩:=vt.mp hd
 have hi:i<n:=by have:=(ji.mp hk).1;simpa using this
 rw[kh hi]at hk
 cases hk
 rw[RX]
 exact ht i ak hi iv
theorem qt{xs:List D}{k:Int}{d:D}(h0:0<=k)(h:xs[k.toNat]?=some d):eK xs k=some d:=by
 unfold eK iP
 have hk:k.toNat<xs.length:=(ji.mp h).1
 rw[if_pos h0,if_pos (by omega)]
 exact h
end
end L3
namespace L3
open PySem L2 PySem.Spec PyProof.Rows
abbrev rG:=List D->(D->Prop)->(Addr->Prop)->Prop
def z8(sp:rG):Sp:=λvs H Q E=>∃F ds Qd Ed,ah F H/\R F H ds vs []/\sp ds Qd Ed/\(∀d v F' H' A,Qd d->ah H H'->ah F F'->ah F' H'->(∀a ws,F' a=some (.lst ws)->F a=some (.lst ws)\/H a=none)->R F' H' [d] [v] A->A.Nodup->(∀a∈A,H a=none)->Q v H') /\
 ∀C H',Ed C->ah H H'->E (.ref C) none H'
section
variable{P:Program}{w:World}{K:PySem.W.Frag}{mg:Str->Option Value}{base:Heap}
theorem UP{x qual:Str}{st:Stmt}{f:Addr}{fd:FuncData}{N ps:List Str}{k:Nat}{sp:rG}(F:bq K x qual st f fd)(S:bt N ps (az st))(len:∀ds Q E,sp ds Q E->ds.length=ps.length)
  (iO:∀(aI:Value) (A:Around) (outer:List Env) (s:Shared) (H:Hp) (E:XK),cL k (A.deeper (envOfC qual (az st) s.heap.objs.size f aI)) ->
   ∃t:cW,PSs (ju (n9 P w) P w K mg base N qual (az st) f aI A outer s H E) (bo st) (lS (ju (n9 P w) P w K mg base N qual (az st) f aI A outer s H E) t) /\
    ∀ds Q Ex,sp ds Q Ex->t { nx:=λ_=>Q .ay,rt:=Q,xc:=λC _=>Ex C,xr:=λC _=>Ex C } (jU N ds)):aQ P w K mg base (n9 P w) (k+1) f fd ps (z8 sp):=by
 obtain⟨oc,od,kV,doc,pm,an,aI,ct,mI,rfl,lk,da⟩:=F.ex
 refine GQ lk da S (λvs H Q E ⟨F,ds,Qd,Ed,e,r,h,_⟩=>by rw[<-r.length];exact len ds Qd Ed h) λA outer s H vs Q E hr zz=>?_
 obtain⟨F,ds,Qd,Ed,e,r,h,k,kx⟩:=zz
 obtain⟨t,ht,hq⟩:=iO aI A outer s H E hr
 have fin:∀d v ak aN F' H',Qd d->ax ⟨H,F⟩ F' H' aN ak [(d,v)]->Q v H':=λd v ak aN F' H' hd c=>by
  obtain⟨A,C,r',s',nd,fr⟩:=c.own
  exact k d v F' H' A hd c.b1 c.b2 c.ext c.b3 r' (iz.mp nd).1 λa ha=>fr a (gP _ ha)
 have e1:L2.start N vs=vs.map some++bF (N.length-ds.length) none:=by unfold L2.start;rw[r.length]
 refine⟨_,ht,⟨H,F⟩,F,jU N ds,_,?_,hq ds Qd Ed h,λak aN F' H' hd c=>fin .ay .ay ak aN F' H' hd (c.pushS (.ay .nil) rfl),fin,λ_ _ _ _ z=>z.elim,λ_ _ _ _ z=>z.elim,λC ak pins aN F' H' s' a T hx c I tr pa pT=>?_,λC ak pins aN F' H' s' h' e vs hx c I hm=>?_⟩
 ·rw[e1]
  exact ax.start e r _
 ·exact cb9 I rfl rfl rfl tr pa pT λh' T' g=>⟨a,T',.ref C,H',rfl,I.os,I.bare,g.un,g.aO,g.zK,g.a0,g.a1,g.t0,g.t1,kx C H' hx c.b1⟩
 ·exact bZ0 I rfl rfl rfl hm λh' T' g=>⟨e,T',.ref C,H',rfl,I.os,I.bare,g.un,g.aO,g.zK,g.a0,g.a1,g.t0,g.t1,kx C H' hx c.b1⟩
end
section
variable{X:Cx}{n:Nat}{f:Addr}{fd:FuncData}{ps:List Str}{sp:rG}{x:Str}{p pos:Pos}{e:Expr}{es:List Expr}{t:df}{tx:fs8}
def rH(t:cW):cW:=λD δ=>t { D with xc:=λ_ _=>False,xr:=λ_ _=>False } δ
theorem cU7{st:Stmt}{u:cW}(h:PS X.gX st (lS X.gX u)):PS X st (lS X (rH u)):=by
 intro pins s σ H D I zz
 obtain⟨B,F,δ,Dd,c,q,k1,k2,k3,k4,xl⟩:=zz
 exact wpAny_mono (h pins s σ H D (I.kr _) ⟨B,F,δ,_,c,q,k1,k2,k3,k4,XL.none (λ_ _ z=>z) λ_ _ z=>z⟩) (λ_ _ q=>q.mE) λ_ _ z=>gb z
def rJ(C:Addr)(t:df):cW:=λD δ=>t δ λds ak=>ds.length<=9/\D.xr C ak
structure HS(K:PySem.W.Frag)(mg:Str->Option Value)(x:Str)(C:Addr):Prop where
 own:∀h:Heap,K.In h->h.Ns mainGlobals mg->∃newId Bn kH UQ B UR US CL,OwnCls x C CL newId mg h/\ExcBaseFacts Bn newId kH UQ/\CL.contains (.type Bn)=true/\ExcBaseFacts B UR US CL
theorem UT{C:Addr}{np cj:Pos}(hm:HS X.K X.mg x C)(hc:X.calm=true)(hg:Gl X x)(ha:PA X (e::es) (lA t))(fh:(x==("__debug__":Str))=false:=by decide)
  (he:starEach (e::es) X.env=(false,eval e X.env)::starEach es X.env:=by rfl) (bR:(backTo cj (starEach es X.env)).any (·.1)=false:=by rfl) :
  PS X (.Raise (some (.Call (.Name x np) (e::es) [] cj)) none pos) (lS X (rJ C t)):=by
 intro pins s σ H D I zz
 obtain⟨B,F,δ,Dd,c,q,k1,k2,k3,k4,xl⟩:=zz
 obtain⟨newId,Bn,kH,UQ,B',UR,US,CL,O,Fn,hBn,FB⟩:=hm.own X.base I.ok.mod.nU I.ok.mod.glob
 obtain⟨tl,N,nm,qn,bs,hdct,sn,sub,ab,col,dd,k0,uf,wa,k3',k5,mN,hC,hN,rK,T⟩:=O.obj
 refine wpAny_Raise_call_subU (k5:=k5) (k3:=k3') (k2:=wa) (k1:=uf) (k0:=k0) (dd:=dd) (col:=col) (ab:=ab) (sub:=sub) (sn:=sn) (hdct:=hdct) (bs:=bs) (N:=N) (q:=qn) (nm:=nm) (C:=C) Fn hBn FB (mN:=mN) (T.hasType FB.hasBase) (I.ok.hd hc) (by rw[he];show(false||(backTo cj (starEach es X.env)).any (·.1))=false;rw[bR];rfl) rK (B5 I hg O.bound ⟨rfl,?_⟩ fh)
 have CM:=ha cj pins s σ H (λvs H1=>vs.length<=9/\∃ak F',Dd.xr C ak/\ax B F' H1 σ ak []) I ⟨B,F,δ,[],_,c,q,λds av vs F1 H1 q1 f1 h1 c1 s1=>⟨by rw[<-s1.length];exact q1.1,av,F1,q1.2,c1⟩⟩
 rw[he]at CM ⊢
 refine Calls.evalArgs_plain (wpAny_mono CM (λus s2 h2=>?_) λ_ _ y=>y)
 obtain⟨vs,H1,I1,r,hl,ak,F',hx,c'⟩:=h2
 exact⟨rfl,by rw[<-r.length];exact eG hl (by decide),I1.bk _ _ hC,hN.keeps I1.bk,T.keeps I1.bk,λh' e' hm'=>xl.2 C ak pins σ F' H1 s2 h' e' _ hx c' I1 hm'⟩
end
end L3
namespace L3
open PySem L2 PySem.Spec PyProof.Rows
section
variable{X:Cx}{pins Gp:List (Addr × Obj)}{σ:L2.St}{H:Hp}{s:Shared}{a:Addr}
end
section
variable{X:Cx}{tb th:cW}{body dJ1:List Stmt}{dJ2:Stmt}{K n:Str}{Kc:Addr}{i:Nat}{kp dJ3 pos:Pos}
end
end L3
namespace L3
open PySem L2 PySem.Spec PyProof.Rows
section
variable{X:Cx}{F H:Hp}{v:V}{a:Expr}{ta:aY}{p pos:Pos}
end
section
variable{K:PySem.W.Frag}{mg:Str->Option Value}{x:Str}{C:Addr}
theorem cJ5(hm:mg x=some (.ref C))(q:PySem.W.excIn K C [.type "ValueError",.type "Exception",.type "BaseException",.type "object"] "ValueError.__new__"=true):HS K mg x C:=by
 refine⟨λh X G=>⟨"ValueError.__new__","ValueError",_,_,"ValueError",_,_,[.type "ValueError",.type "Exception",.type "BaseException",.type "object"],?_,PySem.F.excBase_ValueError,rfl,PySem.F.excBase_ValueError⟩⟩
 refine⟨hm,?_⟩
 unfold PySem.W.excIn at q
 split at q
 ·rename_i dd cd sl ho
  split at q
  ·rename_i C' bm k0 k1 k2 k3 n k5 hm hs
   simp only[eQ,beq_iff_eq,Bool.not_eq_true']at q
   obtain⟨⟨⟨⟨⟨rfl,rfl⟩,UU⟩,ht⟩,aO⟩,rK⟩:=q
   obtain⟨nm,bs,mro,ns,qn,hd,sn,sub,ab,col,del⟩:=cd
   dsimp only at hm UU aO rK
   subst hm UU
   have hsl:sl=#[k0,k1,k2,k3,some (.builtin "ValueError.__new__"),k5]:=by
    obtain⟨l⟩:=sl
    simp only at hs
    rw[hs]
   subst hsl
   exact⟨bm,ns,nm,qn,bs,hd,sn,sub,ab,col,dd,k0,k1,k2,k3,k5,_,X _ _ ho,.of_isNs (PySem.W.isNs_of_in X aO),PySem.W.nsMap_none_of_in X aO rK,PySem.W.tail_of_in X ht⟩
  ·cases q
 ·cases q
end
theorem HU{P:Program}{w:World}{X:Cx}:mH (n9 P w) X E0:=by
 rintro _ _ _ _ _ _ _ ⟨_,_,_,_,_,_,_,_,_,_,_,_,_,_,z⟩
 exact z.elim
theorem HV{P:Program}{w:World}{K:PySem.W.Frag}{mg:Str->Option Value}{base:Heap}{k:Nat}{f:Addr}{fd:FuncData}{ps:List Str}{sp:rG}(h:aQ P w K mg base (n9 P w) k f fd ps (z8 sp)) :
  aQ P w K mg base (n9 P w) k f fd ps (bw λds Q=>sp ds Q λ_=>False) :=
 h.imp λvs H Q E ⟨F,ds,Qd,e,r,q,k⟩=>⟨F,ds,Qd,_,e,r,q,k,λ_ _ z=>z.elim⟩
end L3
namespace L3
open PySem L2 PySem.Spec PyProof.Rows
theorem uP{CX:fg}{P:Program}{w:World}{K:PySem.W.Frag}{mg:Str->Option Value}{base:Heap}{N:List Str}{q:Str}{sc:Scope}{f:Addr}{aI:Value}{A:Around}{outer:List Env}{s:Shared}{H:Hp}{E:XK}:(ju CX P w K mg base N q sc f aI A outer s H E).K=K:=rfl
theorem uQ(φ:vU):(D.bN φ).pl=true:=rfl
theorem uR(φ:vU):(D.bN φ).sh=.bN φ:=rfl
end L3
namespace L3
open PySem L2 PySem.Spec PyProof.Rows
theorem uS{X:Cx}:X.gX.K=X.K:=rfl
end L3
namespace L3
open PySem L2 PySem.Spec PyProof.Rows
def di(xs ys:List D):List D:=cZ (λx y=>D.tup [x,y]) xs ys
def fk(xs:List D):List D:=xs.mapIdx λi x=>D.tup [.int i,x]
theorem CN(xs ys:List D):(di xs ys).map D.sh=di (xs.map D.sh) (ys.map D.sh):=by
 unfold di
 rw[tE,tF]
 congr 1
theorem cC9{xs ys:List D}(h1:xs.all D.pl=true)(h2:ys.all D.pl=true):(di xs ys).all D.pl=true:=by
 unfold di
 rw[dv]at h1 h2 ⊢
 intro d hd
 obtain⟨i,hi,e⟩:=gx hd
 rw[dd4]at e
 subst e
 rw[jS]
 simp only[dU,qh,ki,eQ]
 exact⟨h1 _ (cB _),h2 _ (cB _)⟩
theorem cm8(xs:List D):(fk xs).map D.sh=fk (xs.map D.sh):=by
 unfold fk
 apply FT
 intro i
 simp only[bP,yT,Option.map_map]
 cases xs[i]? with
 | none=>rfl
 | some x =>
  show some (D.sh (.tup [.int i,x]))=some (D.tup [.int i,x.sh])
  rw[jT];rfl
theorem ck5{xs:List D}(h1:xs.all D.pl=true):(fk xs).all D.pl=true:=by
 unfold fk
 rw[dv]at h1 ⊢
 intro d hd
 obtain⟨i,hi,e⟩:=gx hd
 rw[List.getElem_mapIdx]at e
 subst e
 rw[jS]
 simp only[dU,qh,ki,eQ]
 exact⟨rfl,h1 _ (cB _)⟩
theorem oR(xs:List D):(fk xs).length=xs.length:=by simp[fk]
theorem HW(xs ys:List D):(di xs ys).length=min xs.length ys.length:=by simp[di]
section
variable{F H:Hp}{d:D}{v:V}{xs ys:List D}{ws us:List V}{p q:Addr}{K:PySem.W.Frag}
theorem HX(s:S F H [d] [v])(e2:ah F H)(e:iW d=some xs):∃p ws,v=.ref p/\Rd H p (.lst ws)/\R H H (xs.map D.sh) ws []/\(d.pl=true->xs.all D.pl=true/\Rd F p (.lst ws)/\R F H xs ws []):=by
 cases s with
 | @shr p ws ys _ _ hp r _ =>
  obtain rfl:=cT e
  refine⟨p,ws,rfl,.inl (e2 _ _ hp),?_,λ_=>⟨r.pl,.inl hp,r⟩⟩
  rw[mL r.pl]
  exact r.shared e2 (ah.refl _)
 | @own p ws ys _ _ hp r _ =>
  obtain rfl:=cT e
  exact⟨p,ws,rfl,.inl hp,r.frozen e2,λz=>by simp[fi]at z⟩
 | @fz p o ws ys _ _ hp r _ =>
  obtain rfl:=cT e
  refine⟨p,ws,rfl,.inr ⟨o,e2 _ _ hp⟩,?_,λ_=>⟨r.pl,.inr ⟨o,hp⟩,r⟩⟩
  rw[mL r.pl]
  exact r.shared e2 (ah.refl _)
 | ay _=>cases e
 | bl _=>cases e
 | int _=>cases e
 | str _=>cases e
 | tup _ _ _=>cases e
 | obj _ _ _ _=>cases e
 | bN _ _=>cases e
theorem HY(r:R F H xs ws []){i:Nat}(hi:i<xs.length){x:V}(hx:ws[i]?=some x):R F H [xs[i]] [x] []:=by
 obtain⟨v,A1,e2,r1,sub⟩:=r.get (aJ hi)
 rw[hx]at e2;cases e2
 have:A1=[]:=dd0.mpr λa ha=>by simpa using sub ha
 subst this
 exact r1
theorem UW(hp:Rd F p (.lst ws))(r:R F H xs ws [])(hq:Rd F q (.lst us))(t:R F H ys us [])(hF:Full F H):JD (Hf K p q) F (di xs ys) where
 go:=λi H' hs hi=>by
  rw[HW]at hi
  have l1:=r.length
  have l2:=t.length
  exact⟨ws,us,_,_,.inl (iT hp hs),.inl (iT hq hs),aJ (show i<ws.length by omega),aJ (show i<us.length by omega)⟩
 ku:=λi H' v H2 hs hi zz=>by
  obtain⟨T,x,y,e1,e2,e3,hx,hy⟩:=zz
  subst e1 e3
  have CO:=hi
  rw[HW]at CO
  have h1:=HY (r.full hF hs rfl) (show i<xs.length by omega) (hx ws (.inl (iT hp hs)))
  have h2:=HY (t.full hF hs rfl) (show i<ys.length by omega) (hy us (.inl (iT hq hs)))
  have sm:=ah.upd (o:=.tup [x,y]) e2
  refine⟨_,aJ hi,sm,?_⟩
  have eg:(di xs ys)[i]=.tup [xs[i]'(by omega),ys[i]'(by omega)]:=by simp[di]
  rw[eg]
  exact R.tup (A:=[]) (B:=[]) cH ((h1.shared (ah.refl _) sm).cons (h2.shared (ah.refl _) sm)) .nil
 stop:=λi H' hs hi=>by
  rw[HW]at hi
  have l1:=r.length
  have l2:=t.length
  exact⟨ws,us,.inl (iT hp hs),.inl (iT hq hs),by omega⟩
theorem UX(hp:Rd F p (.lst ws))(r:R F H xs ws [])(hF:Full F H):JD (Hk K p) F (fk xs) where
 go:=λi H' hs hi=>by
  rw[oR]at hi
  have l1:=r.length
  exact⟨ws,_,.inl (iT hp hs),aJ (show i<ws.length by omega)⟩
 ku:=λi H' v H2 hs hi zz=>by
  obtain⟨T,x,e1,e2,e3,hx⟩:=zz
  subst e1 e3
  have CO:=hi
  rw[oR]at CO
  have h1:=HY (r.full hF hs rfl) CO (hx ws (.inl (iT hp hs)))
  have sm:=ah.upd (o:=.tup [.int i,x]) e2
  refine⟨_,aJ hi,sm,?_⟩
  have eg:(fk xs)[i]=.tup [.int i,xs[i]]:=by simp[fk]
  rw[eg]
  exact R.tup (A:=[]) (B:=[]) cH (.int (h1.shared (ah.refl _) sm)) .nil
 stop:=λi H' hs hi=>by
  rw[oR]at hi
  have l1:=r.length
  exact⟨ws,.inl (iT hp hs),by omega⟩
end
section
variable{X:Cx}{a b:Expr}{ta:df}{p pos tT:Pos}{elts:List Expr}{x1:Nat}
def rL(t:df):jV:=λδ Q=>t δ λds ak=>match ds with
 | [d1,d2]=>∃xs ys,iW d1=some xs/\iW d2=some ys/\Q (d1.pl&&d2.pl) (di xs ys) ak
 | _=>False
theorem lU(hg:Gl X "zip")(hm:X.mg "zip"=none)(ha:PA X [a,b] (lA ta))(hs:starEach [a,b] X.env=[(false,eval a X.env),(false,eval b X.env)]:=by rfl)(jr:starEach [b] X.env=[(false,eval b X.env)]:=by rfl) :
  PI X (.Tuple elts x1 tT) (.Call (.Name "zip" p) [a,b] [] pos) (lI (rL ta)) :=
 vX (cQ0 hg hm ha hs jr) λσ H Q ⟨B,F,δ,ts,Qd,c,q,k⟩=>⟨B,F,δ,ts,_,c,q,λds av vs F1 H1 hd f1 h1 c1 s=>by
  match ds,hd,s with
  | [d1,d2],⟨xs,ys,i1,i2,hq⟩,s =>
   obtain⟨v1,cO,rfl,s1,s2⟩:=s.dD
   obtain⟨v2,fs9,rfl,s2,s3⟩:=s2.dD
   cases s3
   have e2:=c1.ext
   have sn:=t8 e2
   obtain⟨p1,w1,rfl,r1,t1,u1⟩:=HX s1 e2 i1
   obtain⟨p2,w2,rfl,r2,t2,u2⟩:=HX s2 e2 i2
   refine⟨p1,p2,rfl,⟨w1,.inl r1⟩,⟨w2,.inl r2⟩,k _ _ av _ _ H1 hq (f1.trans sn) h1 c1.snap ?_ λz=>?_⟩
   ·rw[CN]
    exact UW r1 t1 r2 t2 (Full.refl _)
   ·rw[eQ]at z
    obtain⟨a1,a2,a3⟩:=u1 z.1
    obtain⟨b1,b2,b3⟩:=u2 z.2
    exact⟨cC9 a1 b1,UW (iT a2 sn) (a3.shared sn (ah.refl _)) (iT b2 sn) (b3.shared sn (ah.refl _)) vV⟩⟩
def rM(t:df):jV:=λδ Q=>t δ λds ak=>match ds with
 | [d1]=>∃xs,iW d1=some xs/\Q d1.pl (fk xs) ak
 | _=>False
theorem rN(hg:Gl X "enumerate")(hm:X.mg "enumerate"=none)(ha:PA X [a] (lA ta))(hs:starEach [a] X.env=[(false,eval a X.env)]:=by rfl) :
  PI X (.Tuple elts x1 tT) (.Call (.Name "enumerate" p) [a] [] pos) (lI (rM ta)) :=
 vX (cy7 hg hm ha hs) λσ H Q ⟨B,F,δ,ts,Qd,c,q,k⟩=>⟨B,F,δ,ts,_,c,q,λds av vs F1 H1 hd f1 h1 c1 s=>by
  match ds,hd,s with
  | [d1],⟨xs,i1,hq⟩,s =>
   obtain⟨v1,cO,rfl,s1,s2⟩:=s.dD
   cases s2
   have e2:=c1.ext
   have sn:=t8 e2
   obtain⟨p1,w1,rfl,r1,t1,u1⟩:=HX s1 e2 i1
   refine⟨p1,rfl,⟨w1,.inl r1⟩,k _ _ av _ _ H1 hq (f1.trans sn) h1 c1.snap ?_ λz=>?_⟩
   ·rw[cm8]
    exact UX r1 t1 (Full.refl _)
   ·obtain⟨a1,a2,a3⟩:=u1 z
    exact⟨ck5 a1,UX (iT a2 sn) (a3.shared sn (ah.refl _)) vV⟩⟩
end
end L3
namespace L3
open PySem L2 PySem.Spec PyProof.Rows
section
variable{X:Cx}{F H:Hp}{e b:Expr}{pos p p2 p3 pr apos cj HN:Pos}{t ti te:aY}{x y:Str}{i j:Nat}
theorem HZ{α:Type}{xs:List α}{k:Nat}{v:α}(h:xs[k]?=some v):eK xs (k:Int)=some v:=by
 unfold eK iP
 have hk:k<xs.length:=(ji.mp h).1
 rw[if_pos (by omega),if_pos (by omega)]
 exact h
end
section
variable{X:Cx}{CX:fg}{k:Nat}{f:Addr}{fd:FuncData}{ps:List Str}{sp:bA}{E:XK}{fn x1 x2 y1 y2:Str}{i1 i2 j1 j2:Nat}{tk:Nat}
 {tp t1 t2 zp ft0 q1 q2 fp ft1 a1 a2 dJ9 ft2 ft3 cp HN pr apos cj ft4 pos:Pos}
end
end L3
namespace L3
open PySem L2 PySem.Spec PyProof.Rows
theorem ax.dK0{B:Bs}{F H:Hp}{σ:L2.St}{δ:Dl}{ts:List (D × V)}{a b:D}{v:V}(c:ax B F H σ δ ((.tup [a,b],v)::ts)):∃p u w,v=.ref p/\H p=some (.tup [u,w])/\ax B F H σ δ ((a,u)::(b,w)::ts):=by
 obtain⟨A,C,r,s,nd,fr⟩:=c.own
 cases r with
 | @tup p ws xs A1 _ _ B1 hp r1 r2 =>
  obtain⟨u,gq,A2,A3,rfl,rfl,h1,h2⟩:=r1.dD
  obtain⟨w,ft5,A4,A5,rfl,rfl,h3,h4⟩:=h2.dD
  cases h4
  refine⟨p,u,w,rfl,hp,c.ext,c.b1,c.b2,c.b3,A2++(A4++B1),C,h1.cons (h3.cons r2),s,?_,?_⟩
  ·simpa using nd
  ·intro a ha;exact fr a (by simpa using ha)
section
variable{X:Cx}{y1 y2:Str}{i1 i2 tk m:Nat}{t1 t2 tp:Pos}
def iC(i1 i2:Nat):iV:=λd δ Q=>match d with
 | .tup [a,b]=>Q ((δ.set i1 (some a)).set i2 (some b))
 | _=>False
theorem gv(hc:X.calm=true)(UY:X.N.Nodup)(m1:X.N[i1]?=some y1)(l1:Loc X.env.scope y1)(m2:X.N[i2]?=some y2)(l2:Loc X.env.scope y2)(hm1:m<=i1:=by decide)(UH:m<=i2:=by decide)
  (f1:X.fn y1=true\/X.env.scope.names.lookup y1=some .local:=by first | exact .inl rfl | exact .inr rfl | assumption) (f2:X.fn y2=true\/X.env.scope.names.lookup y2=some .local:=by first | exact .inl rfl | exact .inr rfl | assumption)
  (hag:(assignEach [.Name y1 t1,.Name y2 t2] X.env).map (·.2)=assign (.Name y1 t1) X.env::(assignEach [.Name y2 t2] X.env).map (·.2):=by rfl) (dK2:(assignEach [.Name y2 t2] X.env).map (·.2)=assign (.Name y2 t2) X.env::(assignEach [] X.env).map (·.2):=by rfl)
  (hn:(assignEach [.Name y1 t1,.Name y2 t2] X.env).length=2:=by rfl) (dG:(assignEach [.Name y1 t1,.Name y2 t2] X.env).findIdx? (·.1)=none:=by rfl) :
  PG X (.Tuple [.Name y1 t1,.Name y2 t2] tk tp) (lG m (iC i1 i2)) :=
 Ue (cJ6 hc (Sv (Cb UY m1 l1 f1) (Sv (Cb UY m2 l2 f2) cE3 dK2) hag) hn dG) λv σ H Q zz=>by
  obtain⟨B,F,δ,ts,d,Qd,c,q,k⟩:=zz
  obtain⟨a,b,rfl,q⟩:∃a b,d=D.tup [a,b]/\Qd ((δ.set i1 (some a)).set i2 (some b)):=by
   unfold iC at q
   split at q
   ·exact⟨_,_,rfl,q⟩
   ·exact q.elim
  obtain⟨p,u,w,rfl,hp,c2⟩:=c.dK0
  refine⟨p,[u,w],rfl,iq.of hp,rfl,u,[w],rfl,w,[],rfl,rfl,k _ _ q (by simp) (λj hj=>?_) ((c2.store i1).store i2)⟩
  rw[vk (by omega),vk (by omega)]
end
open Classical in
theorem dX{α:Type}{sh:Bool}{xs:List D}{aH:List (Str × Nat)}{n m:Nat}{te:aY}{av:Dl}{Q:D->Dl->Prop}(l:List α)(e g:α->D)(iD:xs.map D.sh=l.map e)(inj:∀a b,e a=e b->a=b)
  (hx:∀a∈l,te ((fU aH n av).set m (some (e a))) λd _=>d=g a) (eZ:(sh&&aH.all (iA av))=true\/∀a∈l,(g a).fr=true) (hl:l.length<=sizeLine) (hq:Q (.lst true (l.map g)) av):vY sh xs aH n (gN m) kG te av Q:=by
 let f:D->D:=λx=>if h:∃a∈l,e a=x then g h.choose else .ay
 have hf:∀a∈l,f (e a)=g a:=λa ha=>by
  have h:∃b∈l,e b=e a:=⟨a,ha,rfl⟩
  show(if h:∃b∈l,e b=e a then g h.choose else .ay)=g a
  rw[dif_pos h]
  exact congrArg g (inj _ _ h.choose_spec.2)
 refine cj5 f (λx h=>?_) (eZ.imp id λh x hx=>?_) ?_ ?_
 ·rw[iD]at h
  obtain⟨a,ha,rfl⟩:=bE.mp h
  rw[hf a ha];exact hx a ha
 ·rw[iD]at hx
  obtain⟨a,ha,rfl⟩:=bE.mp hx
  rw[hf a ha];exact h a ha
 ·have:=congrArg Fx iD
  simp at this
  omega
 ·rw[iD,bZ,show l.map (f ∘ e)=l.map g from nN λa ha=>hf a ha]
  exact hq
end L3
namespace L3
open PySem L2 PySem.Spec PyProof.Rows
end L3
namespace L2
open PySem PySem.Spec PyProof.Rows
section
variable{X:Cx}
end
end L2
namespace L3
open PySem L2 PySem.Spec PyProof.Rows
abbrev tx(l:List Nat):D:=.str ⟨l.toArray⟩
section
variable{X:Cx}{F H:Hp}{e:Expr}{es:List Expr}{t:aY}{pos p p2 apos cj:Pos}
def oS(x:D)(lo hi:Option Int)(Q:D->Prop):Prop:=match x with
 | .lst _ xs=>xs.all D.pl=true/\Q (.lst true (fj xs lo hi))
 | .fz xs=>Q (.lst true (fj xs lo hi))
 | .str z=>z.length<=sizeLine/\Q (tx (fj z.cps.toList lo hi))
 | _=>False
def rO(t:aY)(tl th:we):aY:=λδ Q=>t δ λx av=>tl av λl bh=>th bh λu iU=>oS x l u λd=>Q d iU
theorem uT{lo hi:Option Expr}{tl th:we}(he:PE X e (lB t))(hl:PO X lo (lP tl))(hu:PO X hi (lP th)):PE X (.Subscript e (.Slice lo hi none p2) pos) (lE (rO t tl th)) :=
 dN (co0 (dt7.or cJ0) he hl hu) λσ H Q ⟨B,F,δ,ts,Qd,c,q,k⟩=>⟨B,F,δ,ts,_,c,q,λx av v F1 H1 q1 f1 h1 c1 s1=>⟨B,F1,av,ts,_,c1,q1,λl bh F2 H2 q2 f2 h2 c2=>⟨B,F2,bh,ts,_,c2,q2,λu iU F3 H3 q3 f3 h3 c3=>by
  have oK:=s1.mono (f2.trans f3) (h2.trans h3)
  unfold oS at q3
  split at q3
  ·obtain⟨p,ws,rfl,h,t⟩:=mZ oK c3.ext rfl
   exact .inl ⟨p,ws,rfl,lJ h,λr hr=>k _ iU _ F3 _ q3.2 ((f1.trans f2).trans f3) (((h1.trans h2).trans h3).trans (ah.upd hr)) (c3.qB hr (t.cut _ _) (UJ q3.1 _ _))⟩
  ·obtain⟨p,ws,rfl,h,t⟩:=mZ oK c3.ext rfl
   cases oK with
   | fz h' r _=>exact .inl ⟨_,_,rfl,lJ (.inr ⟨_,c3.ext _ _ h'⟩),λr' hr=>k _ iU _ F3 _ q3 ((f1.trans f2).trans f3) (((h1.trans h2).trans h3).trans (ah.upd hr)) (c3.qB hr (r.s.cut _ _) (UJ r.pl _ _))⟩
  ·cases oK with
   | str _=>exact .inr ⟨_,rfl,q3.1,k _ iU _ F3 H3 q3.2 ((f1.trans f2).trans f3) ((h1.trans h2).trans h3) (c3.pushS (.str .nil) rfl)⟩
  ·exact q3.elim⟩⟩⟩
end
theorem uU(a:List Nat):(⟨a.toArray⟩:Str).length=a.length:=by show a.toArray.size=_;simp
end L3
namespace L3
open PySem L2 PySem.Spec PyProof.Rows
def aq(l:List Nat):List D:=aL (l.map λ(n:Nat)=>(n:Int))
theorem eo(l:List Nat):(aq l).length=l.length:=by unfold aq;rw[lM,br]
theorem cw(l:List Nat):aq l=l.map λ(n:Nat)=>D.int (n:Int):=by unfold aq aL;rw[bZ];rfl
theorem m6(l:List Nat):(aq l).map D.sh=l.map λ(n:Nat)=>D.int (n:Int):=by unfold aq;rw[jE];exact cw l
theorem g8(a b:Nat)(h:D.int (a:Int)=D.int (b:Int)):a=b:=by injection h with h;omega
theorem kI(l:List Nat):(aq l).all D.pl=true:=lN _
theorem m8(l:List Nat):(aq l).map D.sh=aq l:=jE _
theorem oU(a b:List Nat):aq a++aq b=aq (a++b):=by unfold aq;rw[oO,gh]
theorem uV(l:List Nat)(lo hi:Option Int):fj (aq l) lo hi=aq (fj l lo hi):=by
 unfold aq
 rw[rE]
 congr 1
 unfold fj
 rw[br,RU,RQ]
theorem UZ{α:Type}(xs:List α)(b:Nat):fj xs none (some (b:Int))=xs.take b:=by
 have:=cC3 xs 0 b
 unfold fj at this ⊢
 simpa[HT.dm]using this
theorem CP{α:Type}(xs:List α)(a:Nat):fj xs (some (a:Int)) none=xs.drop a:=by
 unfold fj
 rw[HT.GS]
 show(xs.drop (min a xs.length)).take (xs.length-min a xs.length)=_
 by_cases h:a<=xs.length
 ·rw[Nat.min_eq_left h,tw (by rw[jk];exact bM _)]
 ·rw[Nat.min_eq_right (by omega),List.drop_length,RV (by omega)];simp
end L3
namespace L2
open PySem PySem.Spec PyProof.Rows
section
variable{X:Cx}{tg l o e:Expr}{tl to te:TE}{apos cj:Pos}
end
end L2
namespace L3
open PySem L2 PySem.Spec PyProof.Rows
section
variable{X:Cx}{F H:Hp}{tg l e:Expr}{te t tb:aY}{apos cj pos:Pos}
variable{o:Expr}
def kH:cP:=λx y Q=>match x,y with
 | .int i,.lst _ xs=>∃ns:List Int,xs=aL ns/\Q (.bl (decide (i∈ns)))
 | _,_=>False
theorem CQ:∀{ns:List Int} {ws:List V},S F H (aL ns) ws->ws=ns.map V.int
 | [],_,s=>by cases s;rfl
 | n::ns,_,s=>by
  cases s with
  | int s=>rw[CQ s];rfl
theorem cV1:bS X (compareOp .In) kH :=
 ⟨_,bX8,λ{B F H σ δ ts x y v w Q Qd} c sx sy h k=>by
  unfold kH at h
  split at h
  ·rename_i i o xs
   obtain⟨ns,rfl,q⟩:=h
   obtain⟨p,ws,rfl,e1,s1⟩:=iY sy c.ext
   have e:=CQ s1
   subst e
   cases sx
   refine⟨p,_,rfl,.inl (bQ.of e1),rfl,by simp[mJ],?_⟩
   have ei:tX (.int i) (ns.map V.int)=decide (i∈ns):=by
    unfold tX
    rw[RY,tf,FI,decide_eq_true_iff]
    constructor
    ·rintro⟨x,hx,he⟩
     have:x=i:=by simpa[kA]using he
     rw[<-this];exact hx
    ·intro hx
     exact⟨i,hx,by simp[kA]⟩
   show Q (.bl (if false then _ else tX (.int i) (ns.map V.int))) H
   rw[if_neg (by decide),ei]
   exact k _ _ _ q (ah.refl _) (c.pushS (.bl .nil) rfl)
  ·exact h.elim⟩
end
end L3
namespace L3
open PySem L2 PySem.Spec PyProof.Rows
end L3
namespace L2
open PySem PySem.Spec PyProof.Rows
def Tb(ts:List Addr)(H:Hp):Prop:=∀P∈ts,∃ps,H P=some (.dM ps)
structure wj(ts:List Addr)(H:Hp):Prop where
 any:∀b,H b=none\/(∃o xs,H b=some (.cq o (.lst xs)))\/(b∈ts/\H b=some (.dM #[]))
 tab:∀P∈ts,H P=some (.dM #[])
theorem wj.tb{ts:List Addr}{H:Hp}(h:wj ts H):Tb ts H:=λP hP=>⟨#[],h.tab P hP⟩
def Bm(mg:Str->Option Value)(base:Heap):Prop:=∃bm o,mg "__builtins__"=some (.ref bm)/\bm≠builtinsNs/\bm≠mainGlobals/\base.get? bm=some o/\o.cls=.type "module"/\o.dict=some builtinsNs/\o.data=.plain
theorem b94{P:Program}{w:World}{K:PySem.W.Frag}{mg mb:Str->Option Value}{CX:fg}{k:Nat}{fa a:Addr}{fd:FuncData}{x:Str}{sp:Sp}{bK:Shared}{vs:List Value}{ns:List Int}{ts:List Addr}
  (KX:K.In bK.heap) (CS:bK.heap.Ns mainGlobals mg) (hb:bK.heap.Ns builtinsNs mb) (hbb:∀x:Str,x≠"__name__"->mb x=bootBuiltins x) (dK6:bK.heap.NoLimit) (hg:bK.gens=#[])
  (ht:∀P∈ts,bK.heap.get? P=some (PySem.W.tabObj #[])) (Ia:∀P∈ts,isCodeTable bK.heap P) (hkt:∀P∈ts,K.lookup P=none)
  (ha:bK.heap.get? a=some { cls:=.type "list",data:=.seq vs.toArray }) (hi:IntsAre vs ns) (hl:ns.length<=sizeLine) (hr:cL k callerA)
  (z9:Bm mg bK.heap) (F:∀base:Heap,K.In base->base.Ns mainGlobals mg->Bm mg base->aQ P w K mg base CX k fa fd [x] sp) (dK8:∀(s:Shared) (u:Value),BindsTo s fd ⟨[u],[]⟩ [(x,u)])
  (jv:∀H:Hp,wj ts H->bQ K H a (ns.map V.int)->sp [.ref a] H (λv _=>v=.bl true) λ_ _ _=>False)
  (Ib:∀H e s',CX [] H bK (λ_ _ _=>False) e s'->False) :
  codeAny (model P w) callerA (.call (.ref fa) ⟨[.ref a],[]⟩) (λr s'=>r=.ok (.ret (.bool true))/\OldK bK.heap s'.heap/\s'.os=bK.os/\AllBare s'.gens) bK:=by
 have rv:=Tf hi
 have dK9:=hi.length
 have nat:a ∉ ts:=λz=>by
  have:=ht a z
  rw[ha]at this
  cases this
 have core:∀H:Hp,wj ts H->bQ K H a (ns.map V.int)->cU P w H bK.heap->(∀b,H b≠none->b=a\/b∈ts)->(H a≠none->K.lookup a=none) ->
   codeAny (model P w) callerA (.call (.ref fa) ⟨[.ref a],[]⟩) (λr s'=>r=.ok (.ret (.bool true))/\OldK bK.heap s'.heap/\s'.os=bK.os/\AllBare s'.gens) bK:=by
  intro H hO hS aO hA hK
  have Ic:∀{b:Addr} {o:Obj},bK.heap.get? b=some o->H b=none->(mB bK.heap H).get? b=some o:=λe n=>cp7 e n
  have zy:∀{b:Addr} {o:Obj} {es:Array DictEntry} {ep:Nat},bK.heap.get? b=some o->o.data=.dict es ep->H b=none:=λ{b o es ep} e d=>by
   cases q:H b with
   | none=>rfl
   | some u =>
    rcases hA b (by rw[q];simp)with e' | e'
    ·subst e'
     rw[ha]at e;cases e
     have d':Data.seq vs.toArray _=Data.dict es ep:=d
     cases d'
    ·rw[ht b e']at e;cases e
     have d':Data.fields #[]=Data.dict es ep:=d
     cases d'
  have CT:∀{b:Addr} {m:Str->Option Value},bK.heap.Ns b m->(mB bK.heap H).Ns b m:=λ{b m} ⟨o,es,ep,e,d,r⟩=>⟨o,es,ep,Ic e (zy e d),d,r⟩
  have U0:K.In (mB bK.heap H):=λb o e=>Ic (KX b o e) (by
   cases q:H b with
   | none=>rfl
   | some u =>
    rcases hA b (by rw[q];simp)with e' | e'
    ·subst e'
     rw[hK (by rw[q];simp)]at e;cases e
    ·rw[hkt b e']at e;cases e)
  have hBm:Bm mg (mB bK.heap H):=by
   obtain⟨bm,o,b1,b2,b3,b4,b5,b6,b7⟩:=z9
   refine⟨bm,o,b1,b2,b3,Ic b4 ?_,b5,b6,b7⟩
   cases q:H bm with
   | none=>rfl
   | some u =>
    rcases hA bm (by rw[q];simp)with e' | e'
    ·rw[e',ha]at b4;cases b4
     have d':Data.seq vs.toArray _=Data.plain:=b7
     cases d'
    ·rw[ht bm e']at b4;cases b4
     have d':Data.fields #[]=Data.plain:=b7
     cases d'
  have hM:Mod K mg (mB bK.heap H):=⟨U0,CT CS,⟨mb,CT hb,hbb⟩,let⟨mc,h1,h2⟩:=dK6;⟨mc,CT h1,h2⟩⟩
  have e0:jt P w K mg (mB bK.heap H) callerA [] bK H:=⟨rfl,hM,λb o e=>cG8 e,BG (ca9 _ _),trivial,λb hb=>absurd (show b∈([]:List Addr) from hb) (by simp),aO,.of_eq hg⟩
  refine codeAny_mono ((F _ U0 (CT CS) hBm).run callerA [] bK H ⟨[.ref a],[]⟩ [.ref a] [.ref a] _ _ hr e0 (dK8 bK (.ref a)) (.cons rfl .nil) (jv H hO hS)) λr s' h=>?_
  cases r with
  | error e=>exact(Ib H e s' h).elim
  | ok fl =>
   cases fl with
   | next=>exact gb h
   | brk=>exact gb h
   | cont=>exact gb h
   | ret u =>
    obtain⟨v,H',os,bare,un,U1,r',q⟩:=h
    have q':v=.bl true:=q
    subst q'
    obtain rfl:u=Fv true:=r'
    have each:∀b o,bK.heap.get? b=some o->asItWas bK.heap s'.heap b o/\∃o',s'.heap.get? b=some o':=λb o e=>by
     cases q:H b with
     | none =>
      have z:=un.keep b o e q (by intro z;exact absurd (show b∈([]:List Addr) from z) (by simp)) (by simp)
      exact⟨.inl z,o,z⟩
     | some u =>
      rcases hO.any b with z | ⟨ob,xs,z⟩ | ⟨jZ,z⟩
      ·rw[q]at z;cases z
      ·have z2:=un.jN b ob _ z
       obtain⟨e1,_⟩:=aO b _ z
       obtain⟨e2,_⟩:=U1 b _ z2
       rw[e]at e1;cases e1
       exact⟨.inl e2,_,e2⟩
      ·obtain⟨more,z2⟩:=un.iM b _ z
       have e2:=(U1 b _ z2).1
       rw[ht b jZ]at e;cases e
       exact⟨.inr (.inl ⟨Ia b jZ,rfl,#[],more,rfl,e2⟩),_,e2⟩
    exact⟨rfl,⟨λb o e=>(each b o e).1,λb o e=>(each b o e).2⟩,os,bare⟩
 have tok:∀(H:Hp) (b:Addr),b∈ts->eH P w H bK.heap b (.dM #[]):=λH b hb=>⟨ht b hb,trivial,λpos cv q=>by cases q⟩
 cases hk:K.lookup a with
 | some o =>
  have e:=KX a o hk
  rw[ha]at e
  cases e
  refine core (λb=>if b∈ts then some (.dM #[])else none) ⟨λb=>?_,λb hb=>if_pos hb⟩ (.inr ⟨_,vs.toArray,_,hk,rfl,rfl,rfl,by rw[dO,dK9];exact hl,by simpa using rv⟩) (λb u z=>?_) (λb z=>?_) λz=>absurd (if_neg nat) z
  ·by_cases hb:b∈ts
   ·exact .inr (.inr ⟨hb,if_pos hb⟩)
   ·exact .inl (if_neg hb)
  ·by_cases hb:b∈ts
   ·have z':=(if_pos hb).symm.trans z
    cases z'
    exact tok _ b hb
   ·have z':=(if_neg hb).symm.trans z
    cases z'
  ·by_cases hb:b∈ts
   ·exact .inr hb
   ·exact absurd (if_neg hb) z
 | none =>
  refine core (λb=>if b=a then some (.cq { cls:=.type "list",data:=.seq vs.toArray } (.lst (ns.map V.int)))else if b∈ts then some (.dM #[])else none) ⟨λb=>?_,λb hb=>?_⟩ (.inl (.inr ⟨{ cls:=.type "list",data:=.seq vs.toArray },if_pos rfl⟩)) (λb u z=>?_) (λb z=>?_) λ_=>hk
  ·by_cases hb:b=a
   ·exact .inr (.inl ⟨_,_,if_pos hb⟩)
   ·by_cases jZ:b∈ts
    ·exact .inr (.inr ⟨jZ,(if_neg hb).trans (if_pos jZ)⟩)
    ·exact .inl ((if_neg hb).trans (if_neg jZ))
  ·have tZ:b≠a:=λz=>nat (z ▸ hb)
   exact(if_neg tZ).trans (if_pos hb)
  ·by_cases hb:b=a
   ·have z':=(if_pos hb).symm.trans z
    cases z'
    subst hb
    exact⟨ha,by rw[br];exact hl,vs,_,rv,ha⟩
   ·by_cases jZ:b∈ts
    ·have z':=((if_neg hb).trans (if_pos jZ)).symm.trans z
     cases z'
     exact tok _ b jZ
    ·have z':=((if_neg hb).trans (if_neg jZ)).symm.trans z
     cases z'
  ·by_cases hb:b=a
   ·exact .inl hb
   ·by_cases jZ:b∈ts
    ·exact .inr jZ
    ·exact absurd ((if_neg hb).trans (if_neg jZ)) z
theorem dL1{l:PySem.W.OpenLaw}{n k:Nat}{q:Program}{loose:List Str}{XP:(Str->Option Value)->Heap->Prop}{YP:World->Heap->Prop}{d:DefRec}{K:Params->PySem.W.Frag}{CX:World->fg}{sp:World->Sp}{x:Str}{ts:List Addr}
  (hn:l.most=some n) (Cf:n<=sizeLine) (zE:d.params.defaults=[]) (hr:cL k callerA)
  (hY:∀(w:World) (h:Heap),YP w h->(K w.params).In h/\∀P∈ts,h.get? P=some (PySem.W.tabObj #[]))
  (hC:∀(w:World) (h:Heap),(K w.params).In h->∀P∈ts,(K w.params).lookup P=none/\∃c,PySem.W.CodeHd h c P)
  (F:∀(w:World) (mg:Str->Option Value) (fa:Addr) (h:Heap),(K w.params).In h->h.Ns mainGlobals mg->mg d.name=some (.ref fa) ->
   ∃fd:FuncData,(∀(s:Shared) (u:Value),BindsTo s fd ⟨[u],[]⟩ [(x,u)]) /\
    ∀base:Heap,(K w.params).In base->base.Ns mainGlobals mg->Bm mg base->aQ l.prog w (K w.params) mg base (CX w) k fa fd [x] (sp w))
  (jv:∀(w:World) (H:Hp) (a:Addr) (ns:List Int),ns.length<=n->wj ts H->bQ (K w.params) H a (ns.map V.int)->sp w [.ref a] H (λv _=>v=.bl true) λ_ _ _=>False)
  (Ib:∀(w:World) (H:Hp) (s:Shared) (e:Value) (s':Shared),CX w [] H s (λ_ _ _=>False) e s'->False) :
  PySem.W.WalkO q loose XP YP l.row.toRowW d [] (λf vs=>PySem.call f vs):=by
 refine Att.dw3 hn zE λw cV bK mg mb fa o pm cd doc a vs ns G Y ho hd da zF G0 hints hlen hg=>?_
 obtain⟨KX,hT⟩:=hY w _ Y
 obtain⟨fd,hb,hF⟩:=F w mg fa _ KX G.T.g zF
 have Ia:∀P∈ts,isCodeTable bK.heap P:=λP hP=>by
  obtain⟨_,c,C⟩:=hC w _ KX P hP
  exact(C.tab (hT P hP)).isCodeTable
 have z9:Bm mg bK.heap:=by
  obtain⟨bm,ob,b1,b2,b3,b4,b5,b6⟩:=G.T.bmain
  refine⟨bm,ob,b1,b2,λq=>?_,b3,b4,b5,b6⟩
  obtain⟨o,es,ep,e,hd,_⟩:=G.T.g
  rw[q,e]at b3;cases b3;rw[hd]at b6;cases b6
 exact b94 KX G.T.g G.T.b G.T.builtins G.T.nolimit hg hT Ia (λP hP=>(hC w _ KX P hP).1) G0 hints (eG hlen Cf) hr z9 hF hb (λH hO hS=>jv w H a ns hlen hO hS) λH e s'=>Ib w H bK e s'
end L2
namespace L3
open PySem L2 PySem.Spec PyProof.Rows
def Aa(ts:List Addr)(sp:Sp):Sp:=λvs H Q E=>Tb ts H/\sp vs H Q E
theorem U2{X:Cx}{pins:List (Addr × Obj)}{σ:L2.St}{H:Hp}{s:Shared}{ts:List Addr}(I:Inv X pins σ H s)(h:Tb ts X.kP):Tb ts H:=λP hP=>by
 obtain⟨ps,e⟩:=h P hP
 obtain⟨m,e2⟩:=I.base.iM P ps e
 exact⟨_,e2⟩
def CU(ts:List Addr)(K:PySem.W.Frag):Sp:=λvs H Q _=>∃(a:Addr) (ns:List Int),vs=[.ref a]/\wj ts H/\bQ K H a (ns.map V.int)/\ns.length<=63/\∀H',Q (.bl true) H'
theorem cp1{ts:List Addr}{K:PySem.W.Frag}(nl:K.all (λp=>HM p.2)=true){vs:List V}{H:Hp}{Q:VK}{E:XK}(h:CU ts K vs H Q E):Aa ts (bw UK) vs H Q E:=by
 obtain⟨a,ns,rfl,hO,hS,hl,q⟩:=h
 have hz:∃o,H a=some (.cq o (.lst (ns.map V.int))):=by
  rcases hS with (hS | hS) | ⟨o,its,n,hk,hc,_⟩
  ·rcases hO.any a with z | ⟨o,xs,z⟩ | ⟨_,z⟩
   ·rw[hS]at z;cases z
   ·rw[hS]at z;cases z
   ·rw[hS]at z;cases z
  ·exact hS
  ·have hm:=bM7 hk
   have:=dv.mp nl _ hm
   simp[HM,hc]at this
 obtain⟨o,ho⟩:=hz
 refine⟨hO.tb,H,[.fz (aL ns)],λd=>d=.bl true,ah.refl _,.fz ho (lL ns) .nil,⟨ns,rfl,hl,rfl⟩,λd v F' H' A hd hs hf he h3 r nd fr=>?_⟩
 subst hd
 cases r
 exact q H'
end L3
namespace L2
open PySem PySem.Spec PyProof.Rows
def rem(H:Hp)(f c:Addr):Hp:=λb=>if b=f\/b=c then none else H b
def oV(H H':Hp)(f c:Addr):Hp:=λb=>if b=f\/b=c then H b else H' b
section
variable{P:Program}{w:World}{H H':Hp}{h:Heap}{a b f c:Addr}{o:HO}{of oc:Obj}
theorem U3:rem H f c f=none:=if_pos (.inl rfl)
theorem CV:rem H f c c=none:=if_pos (.inr rfl)
theorem iE(h1:b≠f)(h2:b≠c):rem H f c b=H b:=if_neg (by simp[h1,h2])
theorem wk(e:H b=none):rem H f c b=none:=by unfold rem;split;rfl;exact e
theorem U4(e:rem H f c b=some o):b≠f/\b≠c/\H b=some o:=by
 unfold rem at e
 split at e
 ·cases e
 ·rename_i n
  exact⟨λz=>n (.inl z),λz=>n (.inr z),e⟩
theorem rP(h1:b≠f)(h2:b≠c):oV H H' f c b=H' b:=if_neg (by simp[h1,h2])
theorem U5:oV H H' f c f=H f:=if_pos (.inl rfl)
theorem Ie:oV H H' f c c=H c:=if_pos (.inr rfl)
theorem eH.rem{φ:Heap->Prop}(x:eH P w H h a o)(ha:a≠f)(hf:H f=some (.ext φ))(hc:H c=some (.own f)\/H c=none)(Ig:¬ ∀h',φ h'->∃q,h'.CodeRec (.ref f) q):eH P w (rem H f c) h a o:=by
 have own:∀b,H b=some (.own a)->L2.rem H f c b=some (.own a):=λb e=>by
  rw[iE (λz=>by subst z;rw[hf]at e;cases e) (λz=>by subst z;rcases hc with hc | hc<;>(rw[hc]at e;cases e);exact ha rfl)];exact e
 have tup:∀b xs,H b=some (.tup xs)->L2.rem H f c b=some (.tup xs):=λb xs e=>by
  rw[iE (λz=>by subst z;rw[hf]at e;cases e) (λz=>by subst z;rcases hc with hc | hc<;>(rw[hc]at e;cases e))];exact e
 induction o with
 | lst xs=>exact x
 | tup xs=>exact x
 | dK dP=>exact x
 | dT dP =>
  obtain⟨z,y,xs,r,ob⟩:=x
  exact⟨z,y,xs,Paired.Gi r λp q z=>⟨z.1,tup _ _ z.2.1,z.2.2⟩,ob⟩
 | set S n=>exact x
 | ins C dx fs =>
  obtain⟨d,r⟩:=x
  exact⟨own _ d,r⟩
 | own y=>exact x
 | xd fs=>exact x
 | y9 lo hi=>exact x
 | cq ob u ih=>obtain⟨e,q⟩:=x;exact⟨e,ih q⟩
 | dM ps =>
  obtain⟨e,t,cc⟩:=x
  refine⟨e,t,λpos cv q=>?_⟩
  obtain⟨d,φ,e1,e2,e3⟩:=cc pos cv q
  refine⟨d,φ,e1,?_,e3⟩
  rw[iE (λz=>?_) (λz=>by subst z;rcases hc with hc | hc<;>(rw[hc]at e2;cases e2))]
  ·exact e2
  ·subst z
   rw[hf]at e2;cases e2
   exact Ig e3
 | met f y=>exact x
 | ext φ=>obtain⟨p,r,st⟩:=x;exact⟨p,r,λh1 h2 p1 kk=>st h1 h2 p1 λb o hb q=>kk b o (hb.imp id (own b)) q⟩
theorem U6{φ:Heap->Prop}{fd:FuncData}(p:φ h)(g:∀h',φ h'->h'.get? f=some of)(hd:of.data=.func fd):¬ ∀h',φ h'->∃q,h'.CodeRec (.ref f) q:=λz=>by
 obtain⟨q,k,ok,vs,t,q1,q2,q3,_⟩:=z h p
 cases q1
 rw[g h p]at q2;cases q2
 rw[hd]at q3;cases q3
theorem cU.lam(ok:cU P w H h)(hf:H f=some (.ext (L3.jR of oc c f))):L3.jR of oc c f h:=(ok f _ hf).1
theorem cU.rem{fd:FuncData}(ok:cU P w H h)(hf:H f=some (.ext (L3.jR of oc c f)))(hc:H c=some (.own f))(hd:of.data=.func fd):cU P w (rem H f c) h:=λb o e =>
 let⟨h1,_,h3⟩:=U4 e;(ok b o h3).rem h1 hf (.inl hc) (U6 (ok.lam hf) (λ_ p=>p.1) hd)
end
theorem jt.rem{P:Program}{w:World}{K:PySem.W.Frag}{mg:Str->Option Value}{base:Heap}{A:Around}{outer:List Env}{s:Shared}{H:Hp}{f c:Addr}{of oc:Obj}{fd:FuncData}(e:jt P w K mg base A outer s H)
  (hf:H f=some (.ext (L3.jR of oc c f))) (hc:H c=some (.own f)) (hd:of.data=.func fd):jt P w K mg base A outer s (rem H f c) :=
 ⟨e.frames,e.mod,λb o q=>⟨(e.bs b o q).1,wk (e.bs b o q).2⟩,e.km,e.gW,λb hb=>wk (e.kq b hb),e.aO.rem hf hc hd,e.bare⟩
theorem CE.add{P:Program}{w:World}{K:PySem.W.Frag}{mg:Str->Option Value}{base:Heap}{A:Around}{outer:List Env}{s s':Shared}{H:Hp}{f c:Addr}{of oc:Obj}{Q Q':VK}{u:Value}(e0:jt P w K mg base A outer s H)
  (hf:H f=some (.ext (L3.jR of oc c f))) (hc:H c=some (.own f)) (h:CE outer P w (rem H f c) s Q u s') (hQ:∀v H',Q v H'->H' f=none->H' c=none->Q' v (oV H H' f c)):CE outer P w H s Q' u s':=by
 obtain⟨v,H',os,bare,un,aO,r,q⟩:=h
 obtain⟨gf,gc⟩:=e0.aO.lam hf
 have U7:∀{b o},H b=some o->b ∉ eI outer:=λ{b o} e z=>by rw[e0.kq b z]at e;cases e
 have nf:H' f=none:=un.free f _ gf U3 (by simp)
 have nc:H' c=none:=un.free c _ gc CV (by simp)
 have kf:=un.keep f _ gf U3 (U7 hf) (by simp)
 have kc:=un.keep c _ gc CV (U7 hc) (by simp)
 refine⟨v,oV H H' f c,os,bare,⟨λb o e n=>un.keep b o e (wk n),λb o e n=>un.slot b o e (wk n),λb o e n x=>?_,un.there,λb xs e=>?_,λb ob xs e=>?_,λb ps e=>?_⟩,λb o e=>?_,r,hQ v H' q nf nc⟩
 ·rw[rP (λz=>by subst z;rw[hf]at n;cases n) (λz=>by subst z;rw[hc]at n;cases n)]
  exact un.free b o e (wk n) x
 ·have n1:b≠f:=λz=>by subst z;rw[hf]at e;cases e
  have n2:b≠c:=λz=>by subst z;rw[hc]at e;cases e
  rw[rP n1 n2]
  exact un.kj b xs (by rw[iE n1 n2];exact e)
 ·have n1:b≠f:=λz=>by subst z;rw[hf]at e;cases e
  have n2:b≠c:=λz=>by subst z;rw[hc]at e;cases e
  rw[rP n1 n2]
  exact un.jN b ob xs (by rw[iE n1 n2];exact e)
 ·have n1:b≠f:=λz=>by subst z;rw[hf]at e;cases e
  have n2:b≠c:=λz=>by subst z;rw[hc]at e;cases e
  rw[rP n1 n2]
  exact un.iM b ps (by rw[iE n1 n2];exact e)
 ·by_cases z:b=f
  ·subst z
   rw[U5,hf]at e;cases e
   refine⟨⟨kf,kc⟩,⟨_,kf⟩,λh1 h2 p kk=>⟨kk b _ (.inl rfl) p.1,kk c _ (.inr ?_) p.2⟩⟩
   rw[Ie];exact hc
  ·by_cases z2:b=c
   ·subst z2
    rw[Ie,hc]at e;cases e
    exact⟨_,kc⟩
   ·rw[rP z z2]at e
    have up:∀{b' o'},H' b'=some o'->oV H H' f c b'=some o':=λ{b' o'} q=>by
     rw[rP (λz=>by subst z;rw[nf]at q;cases q) (λz=>by subst z;rw[nc]at q;cases q)];exact q
    exact(aO b o e).kO (λ_ _ _ q=>q) (λ_ q=>up q) (λ_ _ q=>up q) λ_ _ q=>up q
theorem cj3{prog:Program}{w:World}{A:Around}{R:Result->Shared->Prop}{s:Shared}{a:Addr}{args:Args}{o:Obj}{fd:FuncData}{body:Expr}{q:Str}(dL4:A.depth<recursionLimit)
  (ho:s.heap.get? a=some o)
  (zc:o.data=.func fd) (hco:fd.scope.isCoroutine=false) (dL6:fd.scope.isGenerator=false) (iO:fd.body=.expr body) (da:s.heap.CodeRec fd.code q)
  (h:wpAny (model prog w) A.in1 (bindArgs fd args) (λbinds bK =>
   wpAny (model prog w) A.in1 (newFunctionEnv fd.scope fd.globals fd.closure binds (q++".<locals>.") (some a) fd.code none fd.builtins)
    (λenv kS=>kS.heap.NoLimit/\codeAny (model prog w) A (.expr body env) R kS) (λe s'=>R (.error e) s') bK) (λe s'=>R (.error e) s') s) :
  codeAny (model prog w) A (.call (.ref a) args) R s:=by
 refine codeAny_of_tree ?_
 show wpAny _ A.in1 (callAny (.ref a) args) _ _ s
 simp only[callAny]
 refine wpAny_bind (wpAny_load ho ?_)
 obtain⟨c,oc,vs,tq,hc,jo,Ih,hq⟩:=da
 simp only[zc,callFunction,hco,dL6,iO,hc]
 rw[hc]at h
 refine wpAny_bind (m:=field (.ref c) 1) (wpAny_field jo Ih hq (wpAny_bind (wpAny_pure ?_)))
 exact wpAny_bind (wpAny_mono h (λbinds bK CW=>wpAny_bind (wpAny_mono CW (λenv kS U8=>wpAny_bind (wpAny_enterFrame U8.1 dL4
  (wpAny_pure (And.intro rfl U8.2)))) λ_ _ h'=>h')) λ_ _ h'=>h')
structure U9(p1 p2 x:Str)(sc:Scope):Prop where
 kind:sc.kind=.function
 co:sc.isCoroutine=false
 gen:sc.isGenerator=false
 nd:[p1,p2,x].Nodup
 l1:sc.names.lookup p1=some .local
 l2:sc.names.lookup p2=some .local
 Va:∀y∈sc.names,y.2≠.cell
 only:∀y∈sc.names,y.2=.free->y.1=x
 lx:sc.names.lookup x=some .free
def uW(CX:fg)(P:Program)(w:World)(K:PySem.W.Frag)(mg:Str->Option Value)(base:Heap)(N:List Str)(qual:Str)(scope:Scope)(f:Addr)(cd:Value)(cl:List (Str × Addr))(A:Around)(outer:List Env)(s:Shared)(H:Hp)(E:XK):Cx where
 prog:=P
 w:=w
 K:=K
 mg:=mg
 base:=base
 A:=A.deeper (PySem.W.envX qual scope s.heap.objs.size f cd cl)
 N:=N
 cV:=s
 kP:=H
 env:=PySem.W.envX qual scope s.heap.objs.size f cd cl
 outer:=outer
 stack:=PySem.W.envX qual scope s.heap.objs.size f cd cl::outer
 ex:=[]
 calm:=true
 fn:=λ_=>false
 pn:=[]
 xe:=λe s'=>wpAny (model P w) (A.deeper (PySem.W.envX qual scope s.heap.objs.size f cd cl)) (leaving (PySem.W.envX qual scope s.heap.objs.size f cd cl) e) (λ_ tV=>CX outer H s E e tV) (λe' tV=>CX outer H s E e' tV) s'
theorem cD3{CX:fg}{P:Program}{w:World}{K:PySem.W.Frag}{mg:Str->Option Value}{base:Heap}{p1 p2 x qn q:Str}{params:Arguments}{body:Expr}{scope:Scope}{pm jF:Value}{f c c':Addr}{k:Nat}{A:Around}{outer:List Env}{s:Shared}{H:Hp}{E:XK}
  {u1 u2 uc:Value} {v1 v2 vc:V} {Q:VK} {t:TE} {args:Args} (S:U9 p1 p2 x scope) (e0:jt P w K mg base A outer s H) (hr:cL (k+1) A)
  (hf:s.heap.get? f=some (PySem.W.kla_obj "<lambda>" qn params body scope [(x,c)] pm c' jF)) (hc:s.heap.IsCell c (some uc)) (rc:RelV vc uc) (hH:H c=none) (da:s.heap.CodeRec (.ref c') q)
  (hb:bindArgs (PySem.W.kla_fn "<lambda>" qn params body scope [(x,c)] pm (.ref c') jF) args=pure [(p1,u1),(p2,u2)]) (r1:RelV v1 u1) (r2:RelV v2 u2)
  (ht:PE (uW CX P w K mg base [p1,p2,x] q scope f (.ref c') [(x,c)] A outer s H E) body t) (h:t [some v1,some v2,some vc] H Q) :
  codeAny (model P w) A (.call (.ref f) args) (CR CX outer P w H s Q E) s:=by
 have lim:s.heap.NoLimit:=e0.mod.nolimit.keeps λb o e=>(e0.bs b o e).1
 refine cj3 hr.depth hf rfl S.co S.gen rfl da ?_
 rw[hb]
 have dL8:∀y∈[(p1,u1),(p2,u2)],scope.names.lookup y.1=some .local:=λy hy=>by
  simp at hy
  rcases hy with rfl | rfl
  ·exact S.l1
  ·exact S.l2
 refine wpAny_pure (wpAny_newFunctionEnv S.Va dL8 (λCW CS Vb=>⟨lim.fresh _ Vb,?_⟩) S.kind)
 show codeAny _ _ (.expr body (PySem.W.envX q scope s.heap.objs.size f (.ref c') [(x,c)])) _ _
 have hk:∀b o,s.heap.get? b=some o->CW.get? b=some o:=λb o e=>Vb.extBut b o (ft (bU e)) (fN _ e)
 have e7:p1≠p2/\p1≠x/\p2≠x:=by have:=S.nd;simp at this;exact⟨this.1.1,this.1.2,this.2⟩
 have look:∀y d,([(x,c)]:List (Str × Addr)).lookup y=some d->y=x/\d=c:=λy d e=>by
  rw[gG]at e
  split at e
  ·rename_i z;exact⟨beq_iff_eq.mp z,(cT e).symm⟩
  ·cases e
 have I:Inv (uW CX P w K mg base [p1,p2,x] q scope f (.ref c') [(x,c)] A outer s H E) [] [some v1,some v2,some vc] H { s with heap:=CW,toks:=s.toks+[(p1,u1),(p2,u2)].length }:=by
  refine⟨⟨e0.mod,S.kind,rfl,rfl,bM _,λy z d h1 h2=>?_,λy hy=>?_,λy d z _=>absurd z (by simp[uW]),λ_=>hr.hd,Around.frames_deeper e0.frames,.inr ⟨rfl,rfl⟩,λb z=>absurd z (by simp[uW]),e0.bs,e0.km,λb _ _=>by simp[uW],λb z=>absurd z (by simp[uW]),e0.gW,e0.kq⟩,
   rfl,e0.bare,Un.kept hk,⟨_,CS,λi y v h1 h2 h3=>?_⟩,λy d h=>?_,e0.aO.fresh (bM _),λy d h=>?_,λp hp=>absurd (show p∈([]:List (Addr × Obj)) from hp) (by simp),e0.aO.kept hk,rfl⟩
  ·exact(look y d h1).1.trans (look z d h2).1.symm
  ·have hy:scope.names.lookup y=some .cell\/scope.names.lookup y=some .free:=hy
   rcases hy with hy | hy
   ·exact absurd rfl (S.Va _ (PySem.mem_of_lookup hy))
   ·obtain rfl:y=x:=S.only _ (PySem.mem_of_lookup hy) rfl
    exact⟨c,by show([(y,c)]:List (Str × Addr)).lookup y=_;rw[gG,beq_self_eq_true]⟩
  ·match i,h1,h2 with
   | 0,h1,h2 =>
    cases h1;cases h2
    exact⟨u1,r1,.inl ⟨S.l1,by
     show([(p1,u1),(p2,u2)]:List (Str × Value)).reverse.lookup p1=_
     simp[gG,beq_eq_false_iff_ne.mpr e7.1]⟩⟩
   | 1,h1,h2 =>
    cases h1;cases h2
    exact⟨u2,r2,.inl ⟨S.l2,by
     show([(p1,u1),(p2,u2)]:List (Str × Value)).reverse.lookup p2=_
     simp[gG]⟩⟩
   | 2,h1,h2 =>
    cases h1;cases h2
    exact⟨uc,rc,.inr ⟨.inr S.lx,c,by show([(x,c)]:List (Str × Addr)).lookup x=_;rw[gG,beq_self_eq_true],hc.keeps hk⟩⟩
   | n+3,h1,h2=>cases h2
  ·obtain⟨rfl,rfl⟩:=look y d h
   exact⟨_,hc.keeps hk⟩
  ·obtain⟨rfl,rfl⟩:=look y d h
   exact hH
 refine PySem.W.kla_codeExpr (wpAny_mono (ht [] _ _ H _ I h) (λu s' hs=>?_) λe s' hs=>hs)
 obtain⟨v,H',J,rv,q⟩:=hs
 exact⟨v,H',J.os,J.bare,J.base,J.aO,rv,q⟩
end L2
namespace L3
open PySem L2 PySem.Spec PyProof.Rows
theorem ah.oV{H H':Hp}{f c:Addr}{o1 o2:HO}(h:ah (rem H f c) H')(h1:H f=some o1)(n1:jz o1=true)(h2:H c=some o2)(n2:jz o2=true):ah H (oV H H' f c) where
 get b o e n:=by
  by_cases z:b=f
  ·rw[z,U5,<- z];exact e
  ·by_cases z2:b=c
   ·rw[z2,Ie,<- z2];exact e
   ·rw[rP z z2];exact h.get b o (by rw[iE z z2];exact e) n
 tb b ps e:=by
  have z:b≠f:=λz=>by subst z;rw[h1]at e;cases e;cases n1
  have z2:b≠c:=λz=>by subst z;rw[h2]at e;cases e;cases n2
  rw[rP z z2]
  exact h.tb b ps (by rw[iE z z2];exact e)
abbrev wm:=Int->Int->(Int->Prop)->Prop
structure Ab(P:Program)(w:World)(K:PySem.W.Frag)(mg:Str->Option Value)(base:Heap)(n:Nat)(of oc:Obj)(c k:Addr)(sp:wm):Prop where
 fn:∃o1 od fd sl,of=⟨o1,od,.func fd,sl⟩
 run:∀(A:Around) (outer:List Env) (s:Shared) (H:Hp) (f:Addr) (t u:Tok) (i j:Int) (Qd:Int->Prop),cL n A->jt P w K mg base A outer s H->s.heap.get? f=some of->s.heap.get? c=some oc->H c=none->(∃q,s.heap.CodeRec (.ref k) q)->sp i j Qd ->
  codeAny (model P w) A (.call (.ref f) ⟨[.int i t,.int j u],[]⟩) (CR bf outer P w H s (λv H'=>∃r,v=.int r/\Qd r/\ah H H') (λ_ _ _=>False)) s
def rQ(L:Obj->Obj->Addr->Addr->wm->Prop)(i:Nat)(ta:df):aY:=λδ Q=>∃of oc c k sp,δ[i]?=some (some (.bN (.lam of oc c k)))/\L of oc c k sp/\ta δ λds ak=>∃a b,ds=[.int a,.int b]/\sp a b λr=>Q (.int r) ak
theorem Vc{X:Cx}{n i:Nat}{x:Str}{p pos:Pos}{e1 e2:Expr}{ta:df}(hN:X.N[i]?=some x)(hv:mC X.env.scope x)(hr:cL n X.A)(ha:PA X [e1,e2] (lA ta))
  (hd:(x==("__debug__":Str))=false:=by decide) (da:(x==("__classdict__":Str))=false:=by decide) (he:starEach [e1,e2] X.env=(false,eval e1 X.env)::starEach [e2] X.env:=by rfl) (bR:(backTo pos (starEach [e2] X.env)).any (·.1)=false:=by rfl) :
  PE X (.Call (.Name x p) [e1,e2] [] pos) (lE (rQ (Ab X.prog X.w X.K X.mg X.base n) i ta)):=by
 intro pins s σ H Q I zz
 obtain⟨B,F,δ,ts,Qd,c,⟨of,oc,cc,k,sp,ed,L,q⟩,kk⟩:=zz
 obtain⟨v,ev,sv⟩:=c.look ed
 obtain⟨f,rfl,lam⟩:∃f,v=.ref f/\kC H f of oc cc k:=by
  cases sv with
  | bN h _=>exact⟨_,rfl,h⟩
 refine wpAny_Call_Name_kw (bc (tN hN hv hd da pins s σ H (λv' H'=>v'=.ref f/\H'=H) I ⟨_,ev,rfl,rfl⟩) λu s1 zz=>?_)
 obtain⟨v',H',I1,r1,e1,e2⟩:=zz
 subst e1 e2
 obtain rfl:u=.ref f:=r1
 have fnAt:∀{H1:Hp} {s2:Shared},Inv X pins σ H1 s2->kC H1 f of oc cc k->PySem.W.FnAt f s2.heap:=λ{H1 s2} J l=>by
  obtain⟨o1,od,fd,sl,e⟩:=L.fn
  exact⟨o1,od,fd,sl,by rw[<-e];exact(J.aO.lam l.fn).1⟩
 refine PySem.W.callWith_F (fnAt I1 lam) (bc (ha pos pins s1 σ H' (λvs H2=>∃a b ak F',vs=[.int a,.int b]/\(sp a b λr=>Qd (.int r) ak)/\ah F F'/\ah H' H2/\ax B F' H2 σ ak ts) I1
  ⟨B,F,δ,ts,_,c,q,λds ak vs F' H2 ⟨a,b,eds,q2⟩ f1 h1 c1 s1=>?_⟩) λus s2 ⟨vs,H2,I2,r2,a,b,ak,F',evs,q2,f1,h1,c1⟩=>⟨fnAt I2 ((show t7 H' f (.lam of oc cc k) from lam).mono λa o e _ t=>h1.get a o e t),?_⟩) he bR
 ·subst eds
  refine⟨a,b,ak,F',?_,q2,f1,h1,c1⟩
  cases s1 with
  | int s1=>cases s1 with
   | int s1=>cases s1;rfl
 ·subst evs
  have rR:kC H2 f of oc cc k:=(show t7 H' f (.lam of oc cc k) from lam).mono λa o e _ t=>h1.get a o e t
  obtain⟨o1,od,fd,sl,eof⟩:=L.fn
  have dM1:of.data=.func fd:=by rw[eof]
  obtain⟨gf,gc⟩:=I2.aO.lam rR.fn
  obtain⟨ψ,eψ,Ac⟩:=rR.Ho
  obtain⟨u1,u2,t1,t2,rfl⟩:∃(u1 u2:Unit) (t1 t2:Tok),us=[.int a t1,.int b t2]:=by
   cases r2 with
   | cons ra r2=>cases r2 with
    | cons rb r2 =>
     cases r2
     obtain⟨t1,rfl⟩:=ra
     obtain⟨t2,rfl⟩:=rb
     exact⟨(),(),t1,t2,rfl⟩
  refine wpAny_call (codeAny_mono (L.run X.A X.stack s2 (rem H2 f cc) f t1 t2 a b _ hr (I2.zx.rem rR.fn rR.cell dM1) gf gc CV (Ac _ (I2.aO k _ eψ).1) q2) λr s' hq=>?_)
  cases r with
  | error e=>exact hq.elim
  | ok fl =>
   cases fl with
   | ret u =>
    refine I2.after (CE.add I2.zx rR.fn rR.cell hq (Q':=Q) ?_)
    rintro v H3 ⟨r,rfl,hqd,hs⟩ nf nc
    have sm:=hs.oV rR.fn rfl rR.cell rfl
    exact kk _ ak _ F' _ hqd f1 (h1.trans sm) ((c1.grow sm).pushS (.int .nil) rfl)
   | next=>exact gb hq
   | brk=>exact gb hq
   | cont=>exact gb hq
end L3
namespace L2
open PySem PySem.Spec PyProof.Rows
theorem bI6{p:Pos}{c:Value}(l:List Value)(h:TriplesOk l):TriplesOk (l++[rawInt p.line,rawInt p.col,c]):=by
 fun_induction TriplesOk l with
 | case1=>simp[TriplesOk,rawInt]
 | case2 a b d e f rest ih=>exact ih h
 | case3=>exact h.elim
theorem bX0{p q:Pos}{c cv:Value}(l:List Value)(h:TriplesOk l)(e:codeAmong q (l++[rawInt p.line,rawInt p.col,c])=some cv):codeAmong q l=some cv\/cv=c:=by
 fun_induction TriplesOk l with
 | case1 =>
  simp only[nH,rawInt,codeAmong]at e
  split at e
  ·exact .inr (cT e).symm
  ·cases e
 | case2 a b d e' f rest ih =>
  simp only[nO,codeAmong]at e ⊢
  split at e
  ·rename_i z;rw[if_pos z];exact .inl e
  ·rename_i z;rw[if_neg z];exact ih h e
 | case3=>exact h.elim
def oW(f:Addr)(o:Obj):Heap->Prop:=λh=>h.get? f=some o
def cY8(P c:Addr)(x:Str)(params:Arguments)(body:Expr)(scope:Scope):TE:=λ_ H Q=>(∃ps,H P=some (.dM ps)) /\
 ∀f k qn pm jF H',H f=none->H' f=some (.ext (oW f (PySem.W.kla_obj "<lambda>" qn params body scope [(x,c)] pm k jF)))->L3.Hm H' k->k≠f->L3.ah H H'->(∀a ws,H' a=some (.lst ws)->H a=some (.lst ws))->Q (.ref f) H'
theorem Vd{X:Cx}{P c cc:Addr}{x:Str}{params:Arguments}{body:Expr}{scope:Scope}{pos:Pos}(gw:closureFor scope X.env=pure [(x,c)])(CY:X.env.code=.ref cc)(hK:PySem.W.codeHdIn X.K cc P=true)(z9:Bm X.mg X.base)
  (dM7:defaultsOf params X.env=([],[]):=by rfl):PE X (.Lambda params body scope pos) (cY8 P c x params body scope):=by
 intro pins s σ H Q I zz
 obtain⟨⟨ps,hP⟩,q⟩:=zz
 obtain⟨bm,ob,b1,b2,b3,b4,b5,b6,b7⟩:=z9
 have C:=PySem.W.codeHd_of_K I.dF hK
 obtain⟨oP,CZ,codes⟩:=I.aO P _ hP
 have hg:=I.mod.glob.keeps I.bk
 have Ve:∀{b o},X.base.get? b=some o->b≠P:=λ{b o} e z=>by
  have:=(I.bs b o e).2
  rw[z,hP]at this;cases this
 have hgP:mainGlobals≠P:=by
  obtain⟨o,es,ep,e,_⟩:=I.mod.glob
  exact Ve e
 have Vf:s.heap.BuiltinsAt X.mg P:=⟨bm,ob,b1,b2,b3,Ve b4,I.bk _ _ b4,b5,b6,b7⟩
 refine PySem.W.kla_eval dM7 ?_
 have fresh:∀{b:Addr},s.heap.objs.size<=b->H b=none:=λ{b} h=>I.aO.fresh h
 cases wo:codeAmong pos ps.toList with
 | none =>
  refine PySem.W.kla_makeFunction (mg:=X.mg) gw I.ok.glob hg CY C oP CZ wo hgP Vf λk jF h' tk hx Ad gC dM9 Vg=>?_
  have Ii:P<s.heap.objs.size:=bU oP
  have hPk:k≠P:=λz=>by rw[z]at Ad;exact absurd Ii (yU.mpr Ad)
  have uX:s.heap.objs.size<=h'.objs.size:=eG Ad (BC gC)
  have hPf:h'.objs.size≠P:=λz=>by rw[<-z]at Ii;exact absurd Ii (yU.mpr uX)
  have Vh:k≠h'.objs.size:=ft gC
  generalize Vi:PySem.W.kla_obj "<lambda>" (X.env.qual++"<lambda>") params body scope [(x,c)] ((X.mg "__name__").getD .none) k jF=obj
  have eZ:obj.isFreed=false:=by rw[<-Vi];rfl
  have Ae:∀b,b≠P->b≠k->b≠h'.objs.size->upd (upd (upd H P (.dM (ps++#[rawInt pos.line,rawInt pos.col,.ref k]))) k (.ext λh=>∃q,h.CodeRec (.ref k) q)) h'.objs.size (.ext (oW h'.objs.size obj)) b=H b:=λb n1 n2 n3=>by
   rw[bx n3,bx n2,bx n1]
  have C2:upd (upd (upd H P (.dM (ps++#[rawInt pos.line,rawInt pos.col,.ref k]))) k (.ext λh=>∃q,h.CodeRec (.ref k) q)) h'.objs.size (.ext (oW h'.objs.size obj)) h'.objs.size=some (.ext (oW h'.objs.size obj)):=cH
  have atK:upd (upd (upd H P (.dM (ps++#[rawInt pos.line,rawInt pos.col,.ref k]))) k (.ext λh=>∃q,h.CodeRec (.ref k) q)) h'.objs.size (.ext (oW h'.objs.size obj)) k=some (.ext λh=>∃q,h.CodeRec (.ref k) q):=by rw[bx Vh,cH]
  have C3:upd (upd (upd H P (.dM (ps++#[rawInt pos.line,rawInt pos.col,.ref k]))) k (.ext λh=>∃q,h.CodeRec (.ref k) q)) h'.objs.size (.ext (oW h'.objs.size obj)) P=some (.dM (ps++#[rawInt pos.line,rawInt pos.col,.ref k])):=by rw[bx hPf.symm,bx hPk.symm,cH]
  generalize hHn:upd (upd (upd H P (.dM (ps++#[rawInt pos.line,rawInt pos.col,.ref k]))) k (.ext λh=>∃q,h.CodeRec (.ref k) q)) h'.objs.size (.ext (oW h'.objs.size obj))=Hn at Ae C2 atK C3
  have old:∀{b o},H b=some o->b≠P->Hn b=some o:=λ{b o} e n=>by
   have hb:b<s.heap.objs.size:=I.aO.lt e
   rw[Ae b n (λz=>absurd hb (yU.mpr (z ▸ Ad))) (λz=>absurd hb (yU.mpr (z ▸ uX)))];exact e
  have kept:∀b o,b≠P->s.heap.get? b=some o->(h'.push obj).get? b=some o:=λb o n e=>fN _ (hx b o n e)
  have un:Un X.fs [] H Hn s.heap (h'.push obj):=by
   refine⟨λb o e n _ _=>kept b o (λz=>by rw[z,hP]at n;cases n) e,λb o e n _ _=>⟨o.slots,kept b o (λz=>by rw[z,hP]at n;cases n) e⟩,λb o e n _=>?_,λb o e _=>?_,λb xs e=>old e (λz=>by rw[z,hP]at e;cases e),λb ob xs e=>old e (λz=>by rw[z,hP]at e;cases e),λb Vj e=>?_⟩
   ·have hb:=bU e
    rw[Ae b (λz=>by rw[z,hP]at n;cases n) (λz=>absurd hb (yU.mpr (z ▸ Ad))) (λz=>absurd hb (yU.mpr (z ▸ uX)))];exact n
   ·by_cases z:b=P
    ·rw[z];exact⟨_,fN _ Vg⟩
    ·exact⟨o,kept b o z e⟩
   ·by_cases z:b=P
    ·subst z
     rw[hP]at e;cases e
     exact⟨_,C3⟩
    ·exact⟨#[],by rw[old e z];simp⟩
  have aO:cU X.prog X.w Hn (h'.push obj):=λb o e=>by
   by_cases z1:b=h'.objs.size
   ·subst z1
    rw[C2]at e;cases e
    exact⟨gQ _ eZ,⟨_,gQ _ eZ⟩,λh1 h2 p kk=>kk _ _ (.inl rfl) p⟩
   ·by_cases z2:b=k
    ·subst z2
     rw[atK]at e;cases e
     have hr:=dM9.push obj
     refine⟨⟨_,hr⟩,?_,λh1 h2 ⟨q,c1,o1,vs,t,e1,e2,r⟩ kk=>?_⟩
     ·obtain⟨c1,o1,vs,t,e1,e2,_⟩:=hr
      cases e1
      exact⟨o1,e2⟩
     ·cases e1
      exact⟨q,_,o1,vs,t,rfl,kk _ _ (.inl rfl) e2,r⟩
    ·by_cases z3:b=P
     ·subst z3
      rw[C3]at e;cases e
      refine⟨fN _ Vg,by rw[dd5];exact bI6 _ CZ,λp' cv e'=>?_⟩
      rw[dd5]at e'
      rcases bX0 _ CZ e' with e' | e'
      ·obtain⟨d,φ,e1,e2,e3⟩:=codes p' cv e'
       exact⟨d,φ,e1,old e2 (λz=>by rw[z,hP]at e2;cases e2),e3⟩
      ·exact⟨k,_,e',atK,λh' p=>p⟩
     ·rw[Ae b z3 z2 z1]at e
      have nP:∀{b' o'},H b'=some o'->(∀ps,o'≠.dM ps)->b'≠P:=λ{b' o'} e n z=>by rw[z,hP]at e;cases e;exact n _ rfl
      refine(I.aO b o e).kO (λb' u Af e'=>kept b' u ?_ e') (λb' e'=>old e' (nP e' (λps z=>by cases z))) (λb' xs e'=>old e' (nP e' (λps z=>by cases z))) λb' φ e'=>old e' (nP e' (λps z=>by cases z))
      rcases Af with rfl | Af
      ·exact z3
      ·exact nP Af (λps z=>by cases z)
  refine⟨.ref h'.objs.size,Hn,I.un un aO,rfl,q _ k _ _ _ _ (fresh uX) (by rw[Vi];exact C2) ⟨_,atK,λh p=>p⟩ Vh ⟨λb o e n=>old e (λz=>by rw[z,hP]at e;cases e;cases n),λb Vj e=>?_⟩ λa ws e=>?_⟩
  ·exact un.iM b Vj e
  ·by_cases z1:a=h'.objs.size
   ·subst z1;rw[C2]at e;cases e
   ·by_cases z2:a=k
    ·subst z2;rw[atK]at e;cases e
    ·by_cases z3:a=P
     ·subst z3;rw[C3]at e;cases e
     ·rw[Ae a z3 z2 z1]at e;exact e
 | some cv =>
  obtain⟨k,φ,rfl,hk,Ig⟩:=codes pos cv wo
  refine PySem.W.kla_makeFunctionHit (mg:=X.mg) gw I.ok.glob hg CY C oP CZ wo Vf λjF h' tk hx uX=>?_
  have hf:=fresh uX
  refine⟨.ref h'.objs.size,upd H h'.objs.size (.ext (oW h'.objs.size (PySem.W.kla_obj "<lambda>" (X.env.qual++"<lambda>") params body scope [(x,c)] ((X.mg "__name__").getD .none) k jF))),I.laid (λb u e=>fN _ (hx b u e)) uX ?_,rfl,q _ k (X.env.qual++"<lambda>") ((X.mg "__name__").getD .none) jF _ hf cH ⟨φ,?_,Ig⟩ (fB hk hf) (L3.ah.of λb o e=>?_) λa ws e=>?_⟩
  ·exact⟨gQ _ rfl,⟨_,gQ _ rfl⟩,λh1 h2 p kk=>kk _ _ (.inl rfl) p⟩
  ·rw[bx (fB hk hf)];exact hk
  ·rw[bx (fB e hf)];exact e
  ·by_cases z:a=h'.objs.size
   ·subst z;rw[cH]at e;cases e
   ·rw[bx z]at e;exact e
end L2
namespace L2
open PySem PySem.Spec PyProof.Rows
structure C4(K:PySem.W.Frag)(C:Addr)(m:Str)(f:Addr):Prop where
 ga:PySem.W.specialIn K (.ref C) "__getattribute__"=some (some (.builtin "type.__getattribute__"))
 rd:PySem.W.readsIn K C (.type "type")=true
 at_:PySem.W.findCls K (.ref C) (.type "type") m=some (.val (.ref f))
 kp:PySem.W.keepIn K (.ref f)=true
section
variable{X:Cx}{CX:fg}{k:Nat}{f C:Addr}{fd:FuncData}{ps:List Str}{sp:Sp}{E:XK}{x m:Str}{p pos apos:Pos}{e o:Expr}{es:List Expr}{ta:TE}{t:TA}
theorem cj1{pins:List (Addr × Obj)}{σ:St}{H:Hp}{s:Shared}{pl:Sem Bool}{A:Around}{E':Value->Shared->Prop}{Q:Value × List Value->Shared->Prop}(I:Inv X pins σ H s)(M:C4 X.K C m f)(h:∀s',Inv X pins σ H s'->Q (.ref f,[]) s') :
  wpAny (model X.prog X.w) A (getMethod (.ref C) m pl) Q E' s :=
 PySem.W.method_cls I.dF M.ga (PySem.W.cls_value (mc:=.type "type") I.dF M.rd M.at_ rfl (h _ (I.tok _)))
theorem cB3{pins:List (Addr × Obj)}{σ:St}{H:Hp}{s:Shared}{pl:Sem Bool}{Q:Value->Shared->Prop}{QA:List V->Hp->Prop}(I:Inv X pins σ H s)(M:C4 X.K C m f)(hg:Gl X x)(hm:X.mg x=some (.ref C))(ha:PA X (e::es) t)(h:t σ H QA)
  (hq:∀us s1 vs H1,Inv X pins σ H1 s1->Vals vs us->QA vs H1->wpAny (model X.prog X.w) X.A (call (.ref f) us) Q X.xe s1)
  (fh:(x==("__debug__":Str))=false:=by decide) (dG:starEach (e::es) X.env=(false,eval e X.env)::starEach es X.env:=by rfl) (bR:(backTo pos (starEach es X.env)).any (·.1)=false:=by rfl)
  (ht:eval (.Call (.Attribute (.Name x p) m apos) (e::es) [] pos) X.env=(do
   let ov<-eval (.Name x p) X.env
   standAt apos.atName
   let (f,first)<-holding [ov] (getMethod ov m pl)
   callWith pos f first (backTo pos (starEach (e::es) X.env)) (backToKw pos (keywordEach [] X.env))):=by rfl) :
  wpAny (model X.prog X.w) X.A (eval (.Call (.Attribute (.Name x p) m apos) (e::es) [] pos) X.env) Q X.xe s:=by
 refine PySem.W.methodCall_KW (pl:=pl) (B5 I hg hm ?_ fh) ht
 refine cj1 I M λs1 I1=>?_
 refine PySem.W.callWith_K (first:=[]) (h₀:=X.base) I.ok.mod.nU M.kp (bc (ha pos pins s1 σ H _ I1 h) λus s2 ⟨vs,H2,I2,r,q2⟩=>⟨I2.dF,?_⟩) dG bR
 exact hq us s2 vs H2 I2 r q2
def cS3(sp:Sp)(E:XK)(c:Addr)(i:Nat)(t:TA):TE:=λσ H Q=>t σ H λvs H1=>∃f of fd v,H1 f=some (.ext (oW f of))/\of.data=.func fd/\σ[i]?=some (some v) /\
 ∀oc u,oc.data=.cell (some u)->RelV v u->H1 c=none->c≠f->sp vs (upd (upd H1 f (.ext (L3.jR of oc c f))) c (.own f)) (λr H2=>H2 f=some (.ext (L3.jR of oc c f))/\H2 c=some (.own f)/\Q r (rem H2 f c)) E
theorem Vk{pl:Sem Bool}{y:Str}{c:Addr}{i:Nat}(M:C4 X.K C m f)(F:aQ X.prog X.w X.K X.mg X.base bf k f fd ps sp)(hr:cL k X.A)(hb:Binds X.K fd ps [])(hg:Gl X x)(hm:X.mg x=some (.ref C))
  (hN:X.N[i]?=some y) (hy:X.env.scope.names.lookup y=some .cell) (gw:X.env.cells.lookup y=some c) (ze:X.fn y=true) (ha:PA X (e::es) t)
  (fh:(x==("__debug__":Str))=false:=by decide) (dG:starEach (e::es) X.env=(false,eval e X.env)::starEach es X.env:=by rfl) (bR:(backTo pos (starEach es X.env)).any (·.1)=false:=by rfl)
  (ht:eval (.Call (.Attribute (.Name x p) m apos) (e::es) [] pos) X.env=(do
   let ov<-eval (.Name x p) X.env
   standAt apos.atName
   let (f,first)<-holding [ov] (getMethod ov m pl)
   callWith pos f first (backTo pos (starEach (e::es) X.env)) (backToKw pos (keywordEach [] X.env))):=by rfl) :
  PE X (.Call (.Attribute (.Name x p) m apos) (e::es) [] pos) (cS3 sp E c i t):=by
 intro pins s σ H Q I h
 refine cB3 (pl:=pl) I M hg hm ha h (λus s1 vs H1 I1 r ⟨fa,of,fdd,v,hf,hd,hv,hq⟩=>?_) fh dG bR ht
 obtain⟨ml,_,hl⟩:=I1.loc
 obtain⟨u,rv,lk⟩:=hl i y v hN hv (.inr (.inl hy))
 obtain⟨oc,gc,jo⟩:∃oc,s1.heap.get? c=some oc/\oc.data=.cell (some u):=by
  rcases lk with⟨hk,_⟩ | ⟨_,c',zf,ic⟩
  ·rw[show X.env.kindOf y=some .cell from hy]at hk;cases hk
  ·rw[gw]at zf;cases zf;exact ic
 have nc:H1 c=none:=I1.jO y c gw
 have rS:c≠fa:=λz=>by rw[z,hf]at nc;cases nc
 have gf:s1.heap.get? fa=some of:=(I1.aO fa _ hf).1
 have nV:=hq oc u jo rv nc rS
 have Vl:=I1.ok.tM y c ze gw
 generalize hH:upd (upd H1 fa (.ext (L3.jR of oc c fa))) c (.own fa)=Hp at nV
 have Vm:Hp c=some (.own fa):=by rw[<-hH,cH]
 have atf:Hp fa=some (.ext (L3.jR of oc c fa)):=by rw[<-hH,bx rS.symm,cH]
 have m9:∀b,b≠fa->b≠c->Hp b=H1 b:=λb n1 n2=>by rw[<-hH,bx n2,bx n1]
 have nfs:c ∉ X.fs:=λhb=>by
  obtain⟨_,o,ho,_⟩:=I1.ok.gW.mem hb
  exact absurd (dA (bU ho) Vl) (fM _)
 have nst:∀b∈eI X.stack,b≠c:=λb hb z=>by
  rcases cA.mp (I1.B0 b hb)with e | hb
  ·exact I1.ql y c gw (z ▸ e)
  ·exact nfs (z ▸ hb)
 have dN8:cU X.prog X.w Hp s1.heap:=λb ob q=>by
  by_cases z1:b=c
  ·subst z1;rw[Vm]at q;cases q;exact⟨_,gc⟩
  ·by_cases z2:b=fa
   ·subst z2;rw[atf]at q;cases q
    exact⟨⟨gf,gc⟩,⟨_,gf⟩,λh1 h2 p kk=>⟨kk _ _ (.inl rfl) p.1,kk _ _ (.inr Vm) p.2⟩⟩
   ·rw[m9 b z2 z1]at q
    have x1:=(I1.aO b ob q).rem (f:=fa) (c:=c) z2 hf (.inr nc) (U6 gf (λ_ p=>p) hd)
    have up:∀{b' o'},rem H1 fa c b'=some o'->Hp b'=some o':=λ{b' o'} q=>by
     obtain⟨n1,n2,q'⟩:=U4 q
     rw[m9 b' n1 n2];exact q'
    exact x1.kO (λ_ _ _ q=>q) (λ_ q=>up q) (λ_ _ q=>up q) λ_ _ q=>up q
 have e0:jt X.prog X.w X.K X.mg X.base X.A X.stack s1 Hp:=by
  have e1:=I1.zx
  refine⟨e1.frames,e1.mod,λb ob q=>⟨(e1.bs b ob q).1,?_⟩,e1.km,e1.gW,λb hb=>?_,dN8,e1.bare⟩
  ·have hb0:=(I1.ok.bs b ob q).1
   rw[m9 b (λz=>by have:=(e1.bs b ob q).2;rw[z,hf]at this;cases this) (λz=>absurd (dA (bU hb0) (z ▸ Vl)) (fM _))]
   exact(e1.bs b ob q).2
  ·have nb:=e1.kq b hb
   rw[m9 b (λz=>by rw[z,hf]at nb;cases nb) (nst b hb)];exact nb
 have hlen:us.length=ps.length:=by rw[<-r.length];exact F.len _ _ _ _ nV
 refine wpAny_call (codeAny_mono (F.run X.A X.stack s1 Hp ⟨us,[]⟩ us vs _ E hr e0 (by have:=hb s1 us I1.dF (by rw[mn];exact hlen);rwa [mn]at this) r nV) λrr s' hz=>?_)
 cases rr with
 | error e=>exact hz.elim
 | ok fl =>
  cases fl with
  | next=>exact gb hz
  | brk=>exact gb hz
  | cont=>exact gb hz
  | ret u' =>
   obtain⟨v',H2,os,bare,un,Vn,rv',q1,q2,q3⟩:=hz
   obtain⟨_,Vo⟩:=Vn.lam q1
   refine I1.after ⟨v',rem H2 fa c,os,bare,⟨λb ob g n hb hx=>?_,λb ob g n hb hx=>?_,λb ob g n hx=>?_,un.there,λb xs g=>?_,λb ob xs g=>?_,λb ps g=>?_⟩,Vn.rem q1 q2 hd,rv',q3⟩
   ·by_cases z:b=c
    ·rw[z,gc]at g;cases g;rw[z];exact Vo
    ·exact un.keep b ob g (by rw[m9 b (λz=>by rw[z,hf]at n;cases n) z];exact n) hb hx
   ·by_cases z:b=c
    ·rw[z,gc]at g;cases g;rw[z];exact⟨_,Vo⟩
    ·exact un.slot b ob g (by rw[m9 b (λz=>by rw[z,hf]at n;cases n) z];exact n) hb hx
   ·by_cases z:b=c
    ·rw[z];exact CV
    ·exact wk (un.free b ob g (by rw[m9 b (λz=>by rw[z,hf]at n;cases n) z];exact n) hx)
   ·have n1:b≠fa:=λz=>by rw[z,hf]at g;cases g
    have n2:b≠c:=λz=>by rw[z,nc]at g;cases g
    rw[iE n1 n2]
    exact un.kj b xs (by rw[m9 b n1 n2];exact g)
   ·have n1:b≠fa:=λz=>by rw[z,hf]at g;cases g
    have n2:b≠c:=λz=>by rw[z,nc]at g;cases g
    rw[iE n1 n2]
    exact un.jN b ob xs (by rw[m9 b n1 n2];exact g)
   ·have n1:b≠fa:=λz=>by rw[z,hf]at g;cases g
    have n2:b≠c:=λz=>by rw[z,nc]at g;cases g
    rw[iE n1 n2]
    exact un.iM b ps (by rw[m9 b n1 n2];exact g)
end
end L2
namespace L3
open PySem L2 PySem.Spec PyProof.Rows
theorem Ij{ts:List Addr}{H H':Hp}(h:Tb ts H)(s:ah H H'):Tb ts H':=λP hP=>by
 obtain⟨ps,e⟩:=h P hP
 obtain⟨m,e2⟩:=s.tb P ps e
 exact⟨_,e2⟩
theorem Vp{P:Program}{w:World}{K:PySem.W.Frag}{mg:Str->Option Value}{base:Heap}{n:Nat}{p1 p2 x qn:Str}{params:Arguments}{body:Expr}{scope:Scope}{pm jF:Value}{oc:Obj}{c k:Addr}{m:Int}{tm:Tok}{sp:wm}(S:U9 p1 p2 x scope)
  (jo:oc.data=.cell (some (.int m tm))) (hb:∀u1 u2:Value,bindArgs (PySem.W.kla_fn "<lambda>" qn params body scope [(x,c)] pm (.ref k) jF) ⟨[u1,u2],[]⟩=pure [(p1,u1),(p2,u2)])
  (iO:∀(q:Str) (f:Addr) (A:Around) (outer:List Env) (s:Shared) (H:Hp) (E:XK),cL n (A.deeper (PySem.W.envX q scope s.heap.objs.size f (.ref k) [(x,c)])) ->
   ∃t:aY,PE (uW bf P w K mg base [p1,p2,x] q scope f (.ref k) [(x,c)] A outer s H E).gX body (lE t)/\∀i j Qd,sp i j Qd->t [some (.int i),some (.int j),some (.int m)] λd _=>∃r,d=.int r/\Qd r) :
  Ab P w K mg base (n+1) (PySem.W.kla_obj "<lambda>" qn params body scope [(x,c)] pm k jF) oc c k sp where
 fn:=⟨_,_,_,_,rfl⟩
 run A outer s H f t u i j Qd hr e0 gf gc hH da h:=by
  obtain⟨q,da⟩:=da
  obtain⟨tt,ht,hq⟩:=iO q f A outer s H (λ_ _ _=>False) (hr.deeper _)
  refine cD3 (v1:=.int i) (v2:=.int j) (vc:=.int m) (E:=λ_ _ _=>False) S e0 hr gf ⟨oc,gc,jo⟩ ⟨tm,rfl⟩ hH da (hb _ _) ⟨t,rfl⟩ ⟨u,rfl⟩ ht.gX ?_
  refine⟨⟨H,H⟩,H,_,[],_,?_,hq i j Qd h,λd ak v F' H' hd f1 h1 c1=>?_⟩
  ·exact ax.start (ds:=[.int i,.int j,.int m]) (vs:=[.int i,.int j,.int m]) (ah.refl H) (.int (.int (.int .nil))) 0
  ·obtain⟨r,rfl,hd⟩:=hd
   have s1:=c1.top
   cases s1
   exact⟨r,rfl,hd,h1⟩
section
variable{X:Cx}{CX:fg}{n:Nat}{f:Addr}{fd:FuncData}{ps:List Str}{sp:bA}{E:XK}{x:Str}{p pos:Pos}{e:Expr}{es:List Expr}{t:df}{tl:List Addr}
theorem cD9(hT:Tb tl X.kP)(F:aQ X.prog X.w X.K X.mg X.base CX n f fd ps (Aa tl (bw sp)))(hr:cL n X.A)(hg:Gl X x)(hm:X.mg x=some (.ref f))(hk:PySem.W.keepIn X.K (.ref f)=true)(hb:Binds X.K fd ps [])(hx:mH CX X E)
  (ha:PA X (e::es) (lA t)) (fh:(x==("__debug__":Str))=false:=by decide) (he:starEach (e::es) X.env=(false,eval e X.env)::starEach es X.env:=by rfl) (bR:(backTo pos (starEach es X.env)).any (·.1)=false:=by rfl) :
  PE X (.Call (.Name x p) (e::es) [] pos) (lE (mU sp t)):=by
 intro pins s σ H Q I zz
 obtain⟨B,F',δ,ts,Qd,c,q,k⟩:=zz
 have tb:=U2 I hT
 refine tU F hr hg hm hk hb .nil hx ha fh he bR pins s σ H Q I ⟨B,F',δ,ts,_,c,q,λds av vs F1 H1 q1 f1 h1 c1 s1=>?_⟩
 refine⟨Ij tb h1,?_⟩
 rw[mn]
 exact Cy c1 s1 q1 λd v F' H' hd hf hs c'=>k d av v F' H' hd (f1.trans hf) (h1.trans hs) c'
end
section
variable{P:Program}{w:World}{K:PySem.W.Frag}{mg:Str->Option Value}{base:Heap}
theorem Vq{x qual:Str}{st:Stmt}{f:Addr}{fd:FuncData}{N ps:List Str}{k:Nat}{sp:bA}{tl:List Addr}(F:bq K x qual st f fd)(S:bt N ps (az st))(len:∀ds Q,sp ds Q->ds.length=ps.length)
  (iO:∀(aI:Value) (A:Around) (outer:List Env) (s:Shared) (H:Hp) (E:XK),Tb tl H->cL k (A.deeper (envOfC qual (az st) s.heap.objs.size f aI)) ->
   ∃t:cW,PSs (ju bf P w K mg base N qual (az st) f aI A outer s H E).gX (bo st) (lS (ju bf P w K mg base N qual (az st) f aI A outer s H E).gX t)/\∀ds Q,sp ds Q->t { nx:=λ_=>Q .ay,rt:=Q } (jU N ds)):aQ P w K mg base bf (k+1) f fd ps (Aa tl (bw sp)):=by
 refine F.ok S (λvs H Q E ⟨_,F,ds,Qd,e,r,h,_⟩=>by rw[<-r.length];exact len ds Qd h) λaI A outer s H vs Q E hr zz=>?_
 obtain⟨tb,F,ds,Qd,e,r,h,k⟩:=zz
 obtain⟨t,ht,hq⟩:=iO aI A outer s H E tb hr
 have fin:∀d v ak aN F' H',Qd d->ax ⟨H,F⟩ F' H' aN ak [(d,v)]->Q v H':=λd v ak aN F' H' hd c=>by
  obtain⟨A,C,r',s',nd,fr⟩:=c.own
  exact k d v F' H' A hd c.b1 c.b2 c.ext c.b3 r' (iz.mp nd).1 λa ha=>fr a (gP _ ha)
 have e1:L2.start N vs=vs.map some++bF (N.length-ds.length) none:=by unfold L2.start;rw[r.length]
 refine⟨_,ht,⟨H,F⟩,F,jU N ds,_,?_,hq ds Qd h,λak aN F' H' hd c=>fin .ay .ay ak aN F' H' hd (c.pushS (.ay .nil) rfl),fin,λ_ _ _ _ z=>z.elim,λ_ _ _ _ z=>z.elim,XL.none (λ_ _ z=>z) λ_ _ z=>z⟩
 rw[e1]
 exact ax.start e r _
theorem Vr{x qual:Str}{st:Stmt}{f cc:Addr}{fd:FuncData}{N ps:List Str}{k:Nat}{sp:Sp}(F:bq K x qual st f fd)(CY:fd.code=.ref cc)(S:bt N ps (az st))(len:∀vs H Q E,sp vs H Q E->vs.length=ps.length)
  (iO:∀(A:Around) (outer:List Env) (s:Shared) (H:Hp) (vs:List V) (Q:VK) (E:XK),cL k (A.deeper (envOfC qual (az st) s.heap.objs.size f (.ref cc)))->sp vs H Q E ->
   ∃t,PSs (ju bf P w K mg base N qual (az st) f (.ref cc) A outer s H E).gX (bo st) t/\t { nx:=λ_ H'=>Q .ay H',rt:=Q } (L2.start N vs) H):aQ P w K mg base bf (k+1) f fd ps sp:=by
 obtain⟨oc,od,kV,doc,pm,an,aI,ct,mI,rfl,lk,da⟩:=F.ex
 obtain rfl:aI=.ref cc:=CY
 refine GQ lk da S len λA outer s H vs Q E hr jv=>?_
 obtain⟨t,h,q⟩:=iO A outer s H vs Q E hr jv
 exact⟨t,h.gX,q⟩
end
end L3
namespace L3
open PySem L2 PySem.Spec PyProof.Rows
theorem bX2{ns:List Str}{xs:List D}{ws:List V}{F H:Hp}{f:Str}{d:D}(r:R F H xs ws [])(h:(ns.zip xs).lookup f=some d):∃w,(ns.zip ws).lookup f=some w/\R F H [d] [w] []:=by
 generalize e:([]:List Addr)=A at r
 induction ns generalizing xs ws A with
 | nil=>simp at h
 | cons n ns ih =>
  cases xs with
  | nil=>simp at h
  | cons x xs =>
   obtain⟨v,cO,A1,A2,rfl,rfl,h1,h2⟩:=R.dD r
   obtain⟨rfl,rfl⟩:=FN.mp e.symm
   rw[dd6]at h ⊢
   by_cases z:f=n
   ·subst z
    rw[gG,beq_self_eq_true]at h
    cases h
    refine⟨v,?_,h1⟩
    rw[gG,beq_self_eq_true]
   ·have z':(f==n)=false:=beq_eq_false_iff_ne.mpr z
    rw[gG,z']at h
    obtain⟨w,e1,e2⟩:=ih h [] rfl h2
    refine⟨w,?_,e2⟩
    rw[gG,z']
    exact e1
theorem Vs{ns:List Str}{ws:List V}{f:Str}(h:f ∉ ns):(ns.zip ws).lookup f=none:=by
 induction ns generalizing ws with
 | nil=>simp
 | cons n ns ih =>
  cases ws with
  | nil=>simp
  | cons w ws =>
   rw[dd6,gG]
   have hn:(f==n)=false:=beq_eq_false_iff_ne.mpr λz=>h (by rw[z];simp)
   simp only[hn]
   exact ih λz=>h (by simp[z])
theorem Ik{F H:Hp}{C:Addr}{ns:List Str}{xs:List D}{v:V}(s:S F H [.obj C ns xs] [v]):∃p dx ws,v=.ref p/\H p=some (.ins C dx (ns.zip ws))/\ns.length=ws.length/\R F H xs ws []:=by
 cases s with
 | obj h l r _=>exact⟨_,_,_,rfl,h,l,r⟩
section
variable{X:Cx}{e o:Expr}{es:List Expr}{f m x:Str}{pos p apos:Pos}{t to:aY}{ta:df}{n:Nat}
def oX(K:PySem.W.Frag)(t:aY)(f:Str):aY:=λδ Q=>t δ λd ak=>∃C ns xs v,d=.obj C ns xs/\eJ K C/\cI K C f/\(ns.zip xs).lookup f=some v/\Q v ak
theorem cS9(he:PE X e (lB t))(hb:attributeBase e f X.env (eval e X.env)=eval e X.env:=by rfl):PE X (.Attribute e f pos) (lB (oX X.K t f)) :=
 dN (Ci he hb) λσ H Q ⟨B,F,δ,ts,Qd,c,q,k⟩=>⟨B,F,δ,ts,_,c,q,λd ak v F' H' ⟨C,ns,xs,w,ed,hc,hn,hl,hq⟩ f1 h1 c1 s1=>by
  subst ed
  obtain⟨p,dx,ws,rfl,hp,_,r⟩:=Ik s1
  obtain⟨u,hu,ru⟩:=bX2 r hl
  exact⟨p,C,dx,_,u,rfl,hp,hc,hn,hu,k w ak u F' H' hq f1 h1 c1 ru.s⟩⟩
structure rT(P:Program)(w:World)(K:PySem.W.Frag)(mg:Str->Option Value)(base:Heap)(n:Nat)(m:Str)(C:Addr)(sp:bA):Prop where
 cls:eJ K C
 ex:∃f fd ps,Meth K C m f/\aQ P w K mg base bf n f fd ps (bw sp)/\Binds K fd ps []
def oY(MO:Addr->bA->Prop)(m:Str)(to:aY)(ta:df):aY:=λδ Q=>to δ λd av=>∃C ns xs sp,d=.obj C ns xs/\MO C sp/\m ∉ ns/\ta av λds bh=>sp ((D.obj C ns xs::ds).map D.sh) λr=>((D.obj C ns xs::ds).all D.pl||r.fr)=true/\Q r bh
theorem cL5{pl:Sem Bool}(ho:PE X o (lB to))(hr:cL n X.A)(ha:PA X (e::es) (lA ta))
  (dG:starEach (e::es) X.env=(false,eval e X.env)::starEach es X.env:=by rfl) (bR:(backTo pos (starEach es X.env)).any (·.1)=false:=by rfl)
  (ht:eval (.Call (.Attribute o m apos) (e::es) [] pos) X.env=(do
   let ov<-eval o X.env
   standAt apos.atName
   let (f,first)<-holding [ov] (getMethod ov m pl)
   callWith pos f first (backTo pos (starEach (e::es) X.env)) (backToKw pos (keywordEach [] X.env))):=by rfl) :
  PE X (.Call (.Attribute o m apos) (e::es) [] pos) (lE (oY (rT X.prog X.w X.K X.mg X.base n m) m to ta)):=by
 intro pins s σ H Q I zz
 obtain⟨B,F,δ,ts,Qd,c,q,k⟩:=zz
 refine PySem.W.methodCall_KW (pl:=pl) (bc (ho pins s σ H (λx H1=>∃d av F1,S F1 H1 [d] [x]/\ax B F1 H1 σ av ts/\ah F F1/\ah H H1/\∃C ns xs sp,d=.obj C ns xs/\rT X.prog X.w X.K X.mg X.base n m C sp/\m ∉ ns/\ta av λds bh=>sp ((D.obj C ns xs::ds).map D.sh) λr=>((D.obj C ns xs::ds).all D.pl||r.fr)=true/\Qd r bh) I
  ⟨B,F,δ,ts,_,c,q,λd av v F1 H1 hq f1 h1 c1 s1=>⟨d,av,F1,s1,c1,f1,h1,hq⟩⟩) λu s1 ⟨x,H1,I1,rx,d,av,F1,sd,c1,f1,h1,C,ns,xs,sp,ed,M,hm,hq⟩=>?_) ht
 subst ed
 obtain⟨a,dx,ws,rfl,ea,hl,r0⟩:=Ik sd
 obtain rfl:u=fL a:=rx
 obtain⟨f,fd,ps,Ag,FO,hb⟩:=M.ex
 refine GO I1 ea M.cls Ag (Vs hm) ?_
 refine PySem.W.callWith_K (first:=[.ref a]) (h₀:=X.base) I.ok.mod.nU Ag.kp (bc (ha pos pins s1 σ H1 (λvs H2=>∃ds bh F2,S F2 H2 ds vs/\ax B F2 H2 σ bh ts/\ah F1 F2/\ah H1 H2/\sp ((D.obj C ns xs::ds).map D.sh) λr=>((D.obj C ns xs::ds).all D.pl||r.fr)=true/\Qd r bh) I1
  ⟨B,F1,av,ts,_,c1,hq,λds bh vs F2 H2 hq f2 h2 c2 s2=>⟨ds,bh,F2,s2,c2,f2,h2,hq⟩⟩) λus s2 ⟨vs,H2,I2,r,ds,bh,F2,Il,c2,f2,h2,jv⟩=>⟨I2.dF,?_⟩) dG bR
 refine Cj (us:=.ref a::us) (vs:=.ref a::vs) (fP:=[]) FO hr hb .nil aP I2 (.cons rfl r) ?_
 rw[mn]
 exact Cy c2 (.obj (h2 _ _ ea) hl (r0.shared f2 h2) Il) jv λd v F' H' hd hf hs c'=>k d bh v F' H' hd (f1.trans (f2.trans hf)) (h1.trans (h2.trans hs)) c'
end
structure eA(x:Addr)(H H':Hp):Prop where
 get:∀b o,b≠x->H b=some o->jz o=true->H' b=some o
 tb:∀b ps,H b=some (.dM ps)->∃more,H' b=some (.dM (ps++more))
theorem eA.trans{x:Addr}{H H1 H2:Hp}(a:eA x H H1)(b:eA x H1 H2):eA x H H2 :=
 ⟨λc o n h t=>b.get c o n (a.get c o n h t) t,λc ps h=>by
  obtain⟨m1,e1⟩:=a.tb c ps h
  obtain⟨m2,e2⟩:=b.tb c _ e1
  exact⟨m1++m2,by rw[e2,BE]⟩⟩
theorem ah.x{x:Addr}{H H':Hp}(h:ah H H'):eA x H H':=⟨λb o _ e n=>h.get b o e n,h.tb⟩
theorem eA.upd{x C dx:Addr}{H:Hp}{o o':HO}(h:H x=some o)(n:jz o=true):eA x H (upd H x o') :=
 ⟨λb o z e _=>by rw[bx z];exact e,λb ps e=>⟨#[],by rw[bx (λz=>by rw[z,h]at e;cases e;cases n),e];simp⟩⟩
def Im(tl:List Addr)(C:Addr)(wq:List D->List Str->List D->Prop):Sp:=λvs H Q _=>∃x dx cO ds ns xs,vs=.ref x::cO/\Tb tl H/\H x=some (.ins C dx [])/\R H H ds cO []/\wq ds ns xs /\
 ∀H' ws A,eA x H H'->H' x=some (.ins C dx (ns.zip ws))->ns.length=ws.length->R (λ_=>none) H' xs ws A->A.Nodup->(∀a∈A,H a=none)->Q .ay H'
def rV(C:Addr)(wq:List D->List Str->List D->Prop)(ta:df):aY:=λδ Q=>ta δ λds ak=>∃ns xs,wq (ds.map D.sh) ns xs/\Q (.obj C ns (xs.map D.sh)) ak
theorem ax.made{B:Bs}{F H H':Hp}{σ:L2.St}{δ:Dl}{ts:List (D × V)}{C dx x:Addr}{ns:List Str}{xs:List D}{ws:List V}{A:List Addr}(c:ax B F H σ δ ts)(hs:ah H H')(hx:H' x=some (.ins C dx (ns.zip ws)))(hl:ns.length=ws.length)
  (r:R (λ_=>none) H' xs ws A) (fr:∀a∈A,H a=none):ah F (L3.cq F H' A)/\ax B (L3.cq F H' A) H' σ δ ((.obj C ns (xs.map D.sh),.ref x)::ts):=by
 have c1:=c.grow hs
 have hF:∀a∈A,F a=none:=λa ha=>c.ext.free (fr a ha)
 have r1:R F H' xs ws A:=r.keep (ah.of λb o e=>by cases e) (iy.same (ah.refl _)) jA.nil hF (by simp)
 have r2:=r1.cq c1.ext A (λ_ h=>h)
 have fs:ah F (L3.cq F H' A):=mM c1.ext
 obtain⟨A',C',r',s',nd,C5⟩:=c.own
 have out:∀a,(∃ws,H a=some (.lst ws))/\F a=none->L3.cq F H' A a=none:=λa zz=>by
  obtain⟨⟨ws,h⟩,hf⟩:=zz
  rw[Ct (λz=>by rw[fr a z]at h;cases h)];exact hf
 have g1:=r'.grow fs hs λa ha=>out a (r'.lists a ha)
 have g2:=s'.keep fs (iy.same hs) jA.nil (λa ha=>out a (s'.lists a ha)) (by simp)
 refine⟨fs,T8 c1.ext,c1.b1,c1.b2.trans fs,λa ws h=>?_,A',C',?_,g2,nd,C5⟩
 ·by_cases z:a∈A
  ·exact .inr (c.b1.free (fr a z))
  ·rw[Ct z]at h;exact c.b3 a ws h
 ·exact R.obj hx hl r2 g1
section
variable{X:Cx}{CX:fg}{n:Nat}{f C:Addr}{fd:FuncData}{ps:List Str}{wq:List D->List Str->List D->Prop}{E:XK}{x:Str}{p pos:Pos}{e:Expr}{es:List Expr}{t:df}{tl:List Addr}
theorem Vt(hT:Tb tl X.kP)(M:Mk X.K C f)(F:aQ X.prog X.w X.K X.mg X.base CX n f fd ps (Im tl C wq))(hr:cL (n+1) X.A)(hg:Gl X x)(hm:X.mg x=some (.ref C))(hb:Binds X.K fd ps [])(hx:mH CX X E)
  (ha:PA X (e::es) (lA t)) (fh:(x==("__debug__":Str))=false:=by decide) (he:starEach (e::es) X.env=(false,eval e X.env)::starEach es X.env:=by rfl) (bR:(backTo pos (starEach es X.env)).any (·.1)=false:=by rfl) :
  PE X (.Call (.Name x p) (e::es) [] pos) (lE (rV C wq t)):=by
 intro pins s σ H Q I zz
 obtain⟨B,F',δ,ts,Qd,c,q,k⟩:=zz
 have tb:=U2 I hT
 refine cB4 M F hr hg hm hb .nil hx ha fh he bR pins s σ H Q I ⟨B,F',δ,ts,_,c,q,λds av vs F1 H1 q1 f1 h1 c1 s1=>?_⟩
 intro x dx e7 iZ tZ
 obtain⟨ns,xs,hI,hq⟩:=q1
 have sm:ah H1 (upd (upd H1 dx (.own x)) x (.ins C dx [])):=.of λb o e=>by rw[bx (fB e e7),bx (fB e iZ)];exact e
 refine⟨x,dx,vs,ds.map D.sh,ns,xs,by rw[mn],Ij (Ij tb h1) sm,cH,(s1.frozen c1.ext).shared sm sm,hI,λH' ws A Vu dZ hl r nd fr=>⟨rfl,?_⟩⟩
 have s2:ah H1 H':=⟨λb o e n=>Vu.get b o (fB e e7) (sm.get b o e n) n,λb ps e=>by
  obtain⟨m1,e1⟩:=sm.tb b ps e
  obtain⟨m2,e2⟩:=Vu.tb b _ e1
  exact⟨m1++m2,by rw[e2,BE]⟩⟩
 obtain⟨fs,c2⟩:=c1.made s2 dZ hl r λa ha=>sm.free (fr a ha)
 exact k _ av _ _ H' hq (f1.trans fs) (h1.trans s2) c2
end
end L3
namespace Mf
open PySem L2 L3
def gm(m:Bool × Nat)(a b:Nat):Nat:=if m.1 then md (cl a b) m.2 else a*b%m.2
def aa(m:Bool × Nat):Nat:=if m.1 then 2 ^ (bl m.2-1)else m.2
def C6(g:Nat->Nat->Nat)(a:Nat):Nat->Nat->List Int->Option (List Int)
 | 0,_,_=>none
 | f+1,p,acc=>if p=1 then some acc else if p<64 then C6 g a f (g p a) (acc++[(p:Int)])else none
def Io(g:Nat->Nat->Nat)(a:Nat):Option (List Int):=C6 g a 64 (g 1 a) [1]
def C7(g:Nat->Nat->Nat)(many:Nat):Nat->Nat->List Int->Option (List Int)
 | 0,_,_=>none
 | f+1,st,l=>if l.length+1<many then(match Io g (st+1)with | some l'=>C7 g many f (st+1) l' | none=>none)else some l
def Ah(g:Nat->Nat->Nat)(many:Nat):Option (List Int):=match Io g 1 with | some l=>C7 g many 62 1 l | none=>none
def bB(g:Nat->Nat->Nat):wm:=λi j Q=>∃a b:Nat,i=a/\j=b/\a<64/\b<64/\Q (g a b:Nat)
def gI:List Nat:=[7,11,13,19,25,31,37,41,47,55,59,61,67,73,87,91,97,103,109,115,117]
def oZ:List Nat:=[2,3,5,7,11,13,17,19,23,29,31,37,41,43,47,53,59,61]
def aD:List (Bool × Nat):=gI.map (λn=>(true,n))++oZ.map λn=>(false,n)
def pd(l:List Int):Nat->List Int
 | 0=>bF (l.length+1) 0
 | i+1=>(pd l i).set (l.getD i 0).toNat (i:Int)
def eN(l:List Int):List Int:=pd l l.length
theorem Ai(l:List Int):∀i,(pd l i).length=l.length+1
 | 0=>by simp[pd]
 | i+1=>by simp[pd,Ai l i]
def rW(l g:List Int)(a:Nat):List Int:=if a=0 then bF (l.length+1) 0 else 0::(aZ l.length).map λ(b:Nat)=>l.getD ((g.getD a 0+g.getD (b+1) 0)%(l.length:Int)).toNat 0
def wu(l g:List Int)(n:Nat):List D:=(aZ n).map λa=>D.lst true (aL (rW l g a))
def rX(l g:List Int):List D:=wu l g (l.length+1)
end Mf
namespace L3
open PySem L2 Mf
def LI(H:Hp)(p:Addr)(ns:List Int):Prop:=H p=some (.lst (ns.map V.int))
theorem LI.same{H H':Hp}{p:Addr}{ns:List Int}(h:LI H p ns)(s:ah H H'):LI H' p ns:=s.get _ _ h
theorem LI.upd{H:Hp}{p x:Addr}{ns:List Int}{o o':HO}(h:LI H p ns)(hx:H x=some o)(n:∀ws,o≠.lst ws):LI (upd H x o') p ns:=by
 unfold LI
 rw[bx (λz=>by rw[z]at h;unfold LI at h;rw[hx]at h;cases h;exact n _ rfl)];exact h
theorem Vv{F' H' H:Hp}{v:V}{A:List Addr}{ns:List Int}(r:R F' H' [.lst true (aL ns)] [v] A)(fr:∀a∈A,H a=none):∃p,v=.ref p/\LI H' p ns/\H p=none:=by
 cases r with
 | @own p ws xs A1 _ _ B1 hp hf r1 r2 =>
  have:=HP r1.s
  subst this
  exact⟨p,rfl,hp,fr p (by simp)⟩
structure dO5(K:PySem.W.Frag)(C f:Addr):Prop where
 cls:eJ K C
 many:cI K C "many"
 wide:cI K C "wide"
 Ip:cI K C "powers"
 dO6:cI K C "logs"
 step:cI K C "step"
 sp:Meth K C "step_power" f
structure Vw(g:Nat->Nat->Nat)(many:Nat)(l:List Int)(st:Int):Prop where
 lo:2<=many
 hi:many<=64
 step:Ah g many=some l
 len:l.length+1=many
 ins:∀x∈l,0<=x/\x.toNat<=l.length
 st:l[((1:Int)%((many:Int)-1)).toNat]?=some st
def iF(b:Str):List Str:=[b,"many","wide","powers","logs","step"]
def C8(n0:Int)(many:Nat)(p1 p2:Addr)(st:Int):List V:=[.int n0,.int many,.int ((bl many:Nat)-1),.ref p1,.ref p2,.int st]
theorem wz{f:Str}{v:V}:∀{fs:List (Str × V)},(∀p∈fs,p.1≠f)->gn f v fs=fs++[(f,v)]
 | [],_=>rfl
 | (g,x)::r,h=>by
  unfold gn
  rw[if_neg (h (g,x) (by simp)),wz λp hp=>h p (by simp[hp])];rfl
theorem kC.Aj{H:Hp}{x C dx f c k:Addr}{fs:List (Str × V)}{o':HO}{of oc:Obj}(h:kC H f of oc c k)(hx:H x=some (.ins C dx fs)):kC (L2.upd H x o') f of oc c k:=by
 obtain⟨ψ,e,Ac⟩:=h.Ho
 exact⟨by rw[bx (λz=>by rw[<-z,h.fn]at hx;cases hx)];exact h.fn,by rw[bx (λz=>by rw[<-z,h.cell]at hx;cases hx)];exact h.cell,ψ,by rw[bx (λz=>by rw[<-z,e]at hx;cases hx)];exact e,Ac⟩
theorem Ak{H:Hp}{x p:Addr}{o o':HO}(hx:H x=some o)(h:L2.upd H x o' p=none):H p=none:=by
 by_cases z:p=x
 ·subst z;rw[cH]at h;cases h
 ·rw[bx z]at h;exact h
theorem C9{α:Type}{b f:Str}{v:α}{r:List (Str × α)}(h:b≠f):((b,v)::r).lookup f=r.lookup f:=by
 rw[gG,beq_eq_false_iff_ne.mpr (fA h)]
section
variable{H2 H3 H':Hp}{x f c p:Addr}{o1 o2:HO}
theorem Al{b:Addr}{o:HO}(e:H3 b=some o)(nb:b≠f)(nc:H3 c=none):L2.upd (L2.upd H3 f o1) c o2 b=some o:=by
 rw[bx (fB e nc),bx nb];exact e
theorem Vx(hs:ah H2 H3)(nf:H2 f=none)(nc:H3 c=none)(s:eA x (L2.upd (L2.upd H3 f o1) c o2) H'):eA x H2 (rem H' f c) where
 get b o n e t:=by
  have z1:=fB e nf
  have e3:=hs.get b o e t
  rw[iE z1 (fB e3 nc)]
  exact s.get b o n (Al e3 z1 nc) t
 tb b ps e:=by
  have z1:=fB e nf
  obtain⟨m,e3⟩:=hs.tb b ps e
  obtain⟨m2,e4⟩:=s.tb b _ (Al e3 z1 nc)
  exact⟨m++m2,by rw[iE z1 (fB e3 nc),e4,BE]⟩
theorem Dc(hs:ah H2 H3)(h:L2.upd (L2.upd H3 f o1) c o2 p=none):H2 p=none:=by
 refine hs.free ?_
 by_cases z:p=c
 ·subst z;rw[cH]at h;cases h
 ·rw[bx z]at h
  by_cases z2:p=f
  ·subst z2;rw[cH]at h;cases h
  ·rw[bx z2]at h;exact h
theorem LI.rem{l:List Int}{φ:Heap->Prop}{y:Addr}(h:LI H' p l)(hf:H' f=some (.ext φ))(hc:H' c=some (.own y)):LI (rem H' f c) p l:=by
 unfold LI at h ⊢
 rw[iE (λz=>by rw[z,hf]at h;cases h) (λz=>by rw[z,hc]at h;cases h)];exact h
theorem Vy{of oc:Obj}{k:Addr}(tZ:c≠f)(nc:H3 c=none)(hk:Hm H3 k)(kf:k≠f):kC (L2.upd (L2.upd H3 f (.ext (jR of oc c f))) c (.own f)) f of oc c k:=by
 obtain⟨ψ,e,Ac⟩:=hk
 exact⟨by rw[bx tZ.symm,cH],cH,ψ,Al e kf nc,Ac⟩
end
def fl(m:Bool × Nat):List Int:=(Ah (gm m) (aa m)).getD []
def fst(m:Bool × Nat):Int:=(fl m).getD ((1:Int)%((aa m:Int)-1)).toNat 0
def Vz(m:Bool × Nat):Bool:=decide (2<=aa m)&&decide (aa m<=64)&&(Ah (gm m) (aa m)).isSome&&decide ((fl m).length+1=aa m)&&(fl m).all (λx=>decide (0<=x)&&decide (x.toNat<=(fl m).length))&&decide (((1:Int)%((aa m:Int)-1)).toNat<(fl m).length)
theorem cD8:aD.all Vz=true:=by decide +kernel
theorem cE{m:Bool × Nat}(h:m∈aD):Vw (gm m) (aa m) (fl m) (fst m):=by
 have h:=dv.mp cD8 m h
 simp only[Vz,eQ,decide_eq_true_eq,dv]at h
 obtain⟨⟨⟨⟨⟨h1,h2⟩,h3⟩,h4⟩,h5⟩,h6⟩:=h
 obtain⟨l,e⟩:=db1.mp h3
 have el:fl m=l:=by unfold fl;rw[e];rfl
 refine⟨h1,h2,by rw[e,el],h4,λx hx=>h5 x hx,?_⟩
 unfold fst
 rw[aK,aJ h6];rfl
theorem ci4:∀p∈oZ,(decide (2<=(p:Int))&&decide ((p:Int)<=61)&&(aZ ((p:Int).toNat-2)).all λi=>(p:Int)%(2+(i:Int)) != 0)=true:=by decide +kernel
theorem cA1:∀p∈gI,(decide (4<=(p:Int))&&decide ((p:Int)<=127)&&al (p:Int).toNat)=true:=by decide +kernel
theorem R.Aj{F H:Hp}{x C dx:Addr}{fs:List (Str × V)}{o':HO}{ds:List D}{vs:List V}{A:List Addr}(r:R F H ds vs A)(hx:H x=some (.ins C dx fs))(hd:ds.all D.fr=true):R F (L2.upd H x o') ds vs A:=by
 have up:∀{a o},H a=some o->(∀C dx fs,o≠.ins C dx fs)->L2.upd H x o' a=some o:=λ{a o} e n=>by
  rw[bx (λz=>by rw[z,hx]at e;cases e;exact n _ _ _ rfl)];exact e
 induction r with
 | nil=>exact .nil
 | ay _ ih=>exact .ay (ih (by simpa[D.fr]using hd))
 | bl _ ih=>exact .bl (ih (by simpa[D.fr]using hd))
 | int _ ih=>exact .int (ih (by simpa[D.fr]using hd))
 | str _ ih=>exact .str (ih (by simpa[D.fr]using hd))
 | shr h x _ i1 ih=>simp[eR]at hd
 | own h f _ _ i1 i2 =>
  rw[dU,eR,eQ,kg]at hd
  exact .own (up h λ_ _ _ z=>by cases z) f (i1 hd.1) (i2 hd.2)
 | tup h _ _ i1 i2 =>
  rw[dU,og,eQ]at hd
  exact .tup (up h λ_ _ _ z=>by cases z) (i1 hd.1) (i2 hd.2)
 | obj h l x _ i1 ih=>simp[D.fr]at hd
 | fz h x _ i1 ih=>simp[D.fr]at hd
 | @bN p z _ _ _ h r ih =>
  refine .bN ?_ (ih (by simpa[D.fr]using hd))
  cases z with
  | ext φ=>exact up h λ_ _ _ z=>by cases z
  | lam of oc c k=>exact kC.Aj h hx
theorem VA(l g:List Int):(rX l g).all D.fr=true:=by
 unfold rX wu
 rw[mv,dv]
 intro a _
 show(D.lst true (aL _)).fr=true
 rw[eR,oN];rfl
theorem eA.free{x a:Addr}{H H':Hp}(s:eA x H H')(hx:H' x≠none)(h:H' a=none):H a=none:=by
 cases q:H a with
 | none=>rfl
 | some o =>
  by_cases z:a=x
  ·subst z;exact absurd h hx
  ·cases n:jz o with
   | true=>rw[s.get a o z q n]at h;cases h
   | false =>
    obtain⟨ps,rfl⟩:=Hl n
    obtain⟨m,e⟩:=s.tb a ps q
    rw[e]at h;cases h
theorem VB(l:List Int):∀i,∀x∈pd l i,0<=x
 | 0=>λx hx=>by rw[(FQ.mp hx).2];exact Int.le_refl _
 | i+1=>λx hx=>by
  unfold pd at hx
  rcases yV hx with h | h
  ·exact VB l i x h
  ·rw[h];exact RB _
theorem VC:∀p∈gI,bl p<=7:=by decide +kernel
theorem VD:∀p∈gI,1<=bl p:=by decide +kernel
theorem cl0(a b:Nat):bl (cl a b)<=bl a+bl b:=by
 by_cases ha:a=0
 ·subst ha;rw[qw];exact jL _
 ·by_cases hb:b=0
  ·subst hb
   have:cl a 0=0:=rfl
   rw[this];exact jL _
  ·rw[Tx ha hb];omega
def pe(l g:List Int):List D:=(aZ (l.length+1)).map λa=>D.lst false (aL (rW l g a))
theorem cp6(l g:List Int):(D.lst true (rX l g)).sh=.lst false (pe l g):=by
 rw[de]
 unfold rX wu pe
 rw[bZ]
 congr 1
 apply nN
 intro a _
 show D.sh (.lst true (aL _))=_
 rw[de,jE]
theorem b91(l g:List Int):(pe l g).all D.pl=true:=by
 unfold pe
 rw[mv,dv]
 intro a _
 show(D.lst false (aL _)).pl=true
 rw[fi,lN];rfl
abbrev pD(m:Bool × Nat):List D:=[.int m.2,.int (aa m),.int ((bl (aa m):Nat)-1),.lst false (aL (fl m)),.lst false (aL (eN (fl m))),.int (fst m)]
def uY(C:Addr)(p:Nat):D:=.obj C (iF "prime") (pD (false,p))
def uZ(C:Addr)(p:Nat):D:=.obj C (iF "bits"++[("products":Str)]) (pD (true,p)++[.lst false (pe (fl (true,p)) (eN (fl (true,p))))])
def fD(cb cp:Addr)(m:Bool × Nat):D:=if m.1 then uZ cb m.2 else uY cp m.2
end L3
namespace L3
open PySem L2 Mf
theorem Am{u p:Nat}(h:bl u<bl p):md u p=u:=zJ (q:=0) (by rw[qw,p9]) h
theorem b00{u v n:Nat}(hu:bl u<n)(hv:bl v<n):bl (u ^^^ v)<n:=by
 have h1:u<2 ^ (n-1):=eY.mp (by omega)
 have h2:v<2 ^ (n-1):=eY.mp (by omega)
 have:=eY.mpr (vQ h1 h2)
 omega
theorem De{p:Nat}(hp:p≠0)(u v:Nat):md (u ^^^ v) p=md u p ^^^ md v p:=by
 obtain⟨⟨q1,e1⟩,l1⟩:=zI hp u
 obtain⟨⟨q2,e2⟩,l2⟩:=zI hp v
 refine zJ (q:=q1 ^^^ q2) ?_ (b00 l1 l2)
 rw[qv,<- Tn,<- e1,<- e2]
theorem VE{p:Nat}(hp:p≠0)(w:Nat):md (cl p w) p=0:=by rw[zH];exact cS1 w hp
theorem bW:∀m∈aD,0<m.2:=by decide +kernel
theorem g9(m:Bool × Nat)(a b:Nat):gm m a b=gm m b a:=by
 unfold gm
 split
 ·rw[zH]
 ·rw[nI]
theorem VF{n:Nat}(hn:n≠0)(u c:Nat):md (cl (md u n) c) n=md (cl u c) n:=by
 obtain⟨⟨q,e⟩,_⟩:=zI hn u
 have h:cl u c=cl n (cl q c) ^^^ cl (md u n) c:=by
  conv=>lhs;rw[e]
  rw[qv,zH n q,TH]
 rw[h,De hn,VE hn,p9]
theorem hE{m:Bool × Nat}(h:0<m.2)(a b c:Nat):gm m (gm m a b) c=gm m a (gm m b c):=by
 unfold gm
 split
 ·rw[VF (by omega),zH (md (cl b c) m.2) a,VF (by omega),TH a b c,zH (cl b c) a]
 ·rw[yW,RZ,<- yW,yW a (b*c%m.2),RZ,<- yW,vq]
theorem VG{m:Bool × Nat}(h:m.1=true){a:Nat}:a<aa m↔bl a<=bl m.2-1:=by
 unfold aa
 rw[if_pos h];exact eY.symm
theorem lV{m:Bool × Nat}{a:Nat}(ha:a<aa m):gm m 1 a=a:=by
 obtain⟨k,n⟩:=m
 cases k with
 | true =>
  show md (cl 1 a) n=a
  rw[G3]
  have h1:=(VG (m:=(true,n)) rfl).mp ha
  have h1:bl a<=bl n-1:=h1
  by_cases z:bl n=0
  ·have a0:a=0:=by
    have:=eY (n:=a) (m:=0)
    have:=this.mp (by omega)
    omega
   subst a0
   have n0:n=0:=by
    have:=(eY (n:=n) (m:=0)).mp (by omega)
    omega
   subst n0
   decide
  ·exact Am (by omega)
 | false=>show 1*a%n=a;rw[Nat.one_mul];exact yX ha
theorem pf{m:Bool × Nat}{a:Nat}(ha:a<aa m):gm m a 1=a:=by rw[g9];exact lV ha
def lg(m:Bool × Nat)(a:Nat):Int:=(eN (fl m)).getD a 0
def pw(m:Bool × Nat)(k:Nat):Int:=(fl m).getD k 0
def Iq(m:Bool × Nat):Bool:=((aZ (aa m-1)).all λk=>decide (1<=pw m k)&&decide (pw m k<aa m)&&decide (lg m (pw m k).toNat=k))&&((aZ (aa m-1)).all λa=>decide (0<=lg m (a+1))&&decide (lg m (a+1)<(aa m:Int)-1)&&decide (pw m (lg m (a+1)).toNat=((a+1:Nat):Int)))
theorem VH:aD.all Iq=true:=by decide +kernel
theorem Df{m:Bool × Nat}(hm:m∈aD){k:Nat}(hk:k<aa m-1):1<=pw m k/\pw m k<aa m/\lg m (pw m k).toNat=k:=by
 have h:=dv.mp VH m hm
 simp only[Iq,eQ,dv,decide_eq_true_eq,cS]at h
 have:=h.1 k hk
 exact⟨this.1.1,this.1.2,this.2⟩
theorem Dg{m:Bool × Nat}(hm:m∈aD){a:Nat}(h1:1<=a)(h2:a<aa m):0<=lg m a/\lg m a<(aa m:Int)-1/\pw m (lg m a).toNat=a:=by
 have h:=dv.mp VH m hm
 simp only[Iq,eQ,dv,decide_eq_true_eq,cS]at h
 have:=h.2 (a-1) (by omega)
 rw[show a-1+1=a by omega]at this
 exact⟨this.1.1,this.1.2,this.2⟩
theorem eT(m:Bool × Nat)(b:Nat)(h:0<m.2):gm m 0 b=0:=by
 unfold gm
 split
 ·rw[qw];exact Am (by rw[nX];exact ir (by omega))
 ·rw[Nat.zero_mul,Nat.zero_mod]
theorem gE(m:Bool × Nat)(b:Nat)(h:0<m.2):gm m b 0=0:=by rw[g9];exact eT m b h
def stC(m:Bool × Nat):Bool:=decide (pw m 0=1)&&(aZ (aa m-1)).all λk=>decide (gm m (pw m k).toNat (pw m (1%(aa m-1))).toNat=(pw m ((k+1)%(aa m-1))).toNat)
theorem VI:aD.all stC=true:=by decide +kernel
theorem cH1(m:Bool × Nat)(hm:m∈aD):pw m 0=1:=by
 have h:=dv.mp VI m hm
 simp only[stC,eQ,decide_eq_true_eq]at h
 exact h.1
def pN(m:Bool × Nat)(k:Nat):Nat:=(pw m (k%(aa m-1))).toNat
theorem cV8{m:Bool × Nat}(hm:m∈aD)(k:Nat):pN m k<aa m:=by
 have dq:=(cE hm).lo
 have:=Df hm (vv k (show 0<aa m-1 by omega))
 unfold pN
 omega
theorem VJ{m:Bool × Nat}(hm:m∈aD)(k:Nat):gm m (pN m k) (pN m 1)=pN m (k+1):=by
 have dq:=(cE hm).lo
 have h:=dv.mp VI m hm
 simp only[stC,eQ,decide_eq_true_eq,dv,cS]at h
 have h2:=h.2 (k%(aa m-1)) (vv k (by omega))
 rw[yY]at h2
 exact h2
theorem VL{m:Bool × Nat}(hm:m∈aD)(i:Nat):∀j,gm m (pN m i) (pN m j)=pN m (i+j)
 | 0=>by
  have e:pN m 0=1:=by unfold pN;rw[Nat.zero_mod,cH1 m hm];rfl
  rw[e,pf (cV8 hm i)];rfl
 | j+1=>by rw[<-VJ hm j,<- hE (bW m hm),VL hm i j,VJ hm];rfl
theorem Ir{m:Bool × Nat}(hm:m∈aD){a b:Nat}(a1:1<=a)(a2:a<aa m)(b1:1<=b)(b2:b<aa m):((gm m a b:Nat):Int)=pw m ((lg m a+lg m b)%((aa m:Int)-1)).toNat:=by
 have dq:=(cE hm).lo
 obtain⟨g0,g1,g2⟩:=Dg hm a1 a2
 obtain⟨f0,f1,f2⟩:=Dg hm b1 b2
 have ea:pN m (lg m a).toNat=a:=by unfold pN;rw[yX (by omega),g2];rfl
 have eb:pN m (lg m b).toNat=b:=by unfold pN;rw[yX (by omega),f2];rfl
 have e:=VL hm (lg m a).toNat (lg m b).toNat
 rw[ea,eb]at e
 rw[e]
 have ei:((lg m a+lg m b)%((aa m:Int)-1)).toNat=((lg m a).toNat+(lg m b).toNat)%(aa m-1):=by
  have:(((lg m a).toNat+(lg m b).toNat)%(aa m-1):Nat)=((lg m a+lg m b)%((aa m:Int)-1)):=by
   rw[qi,FV,tG g0,tG f0,Int.natCast_sub (by omega)];rfl
  omega
 rw[ei]
 have:=Df hm (vv ((lg m a).toNat+(lg m b).toNat) (show 0<aa m-1 by omega))
 unfold pN
 omega
theorem cE6{p a:Nat}(hp:p∈gI)(ha:a<aa (true,p)):rW (fl (true,p)) (eN (fl (true,p))) a=(aZ (aa (true,p))).map λb=>((gm (true,p) a b:Nat):Int):=by
 have hm:(true,p)∈aD:=gP _ (FW hp)
 have h0:=bW _ hm
 have hF:=cE hm
 have hlen:=hF.len
 unfold rW
 split
 ·rename_i h
  subst h
  rw[hlen]
  refine BQ (by simp) λi h1 h2=>?_
  simp[eT _ _ h0]
 ·rename_i h
  rw[<-hlen,dd2,dE,bZ,gE _ _ h0]
  congr 1
  apply nN
  intro b hb
  have hb:=cS.mp hb
  show(fl (true,p)).getD (((eN (fl (true,p))).getD a 0+(eN (fl (true,p))).getD (b+1) 0)%((fl (true,p)).length:Int)).toNat 0=((gm (true,p) a (b+1):Nat):Int)
  rw[Ir hm (by omega) ha (by omega) (by omega),show(((fl (true,p)).length:Nat):Int)=(aa (true,p):Int)-1 by omega]
  rfl
theorem Dh{p a b:Nat}(hp:p∈gI)(ha:a<aa (true,p))(hb:b<aa (true,p)):eK (aL (rW (fl (true,p)) (eN (fl (true,p))) a)) (b:Int)=some (.int (gm (true,p) a b:Nat)):=by
 refine qt (by omega) ?_
 rw[cE6 hp ha]
 unfold aL
 rw[fO,bP,bP,kh hb];rfl
theorem Di{p a:Nat}(hp:p∈gI)(ha:a<aa (true,p)):eK (pe (fl (true,p)) (eN (fl (true,p)))) (a:Int)=some (.lst false (aL (rW (fl (true,p)) (eN (fl (true,p))) a))):=by
 have hF:=cE (m:=(true,p)) (gP _ (FW hp))
 refine qt (by omega) ?_
 unfold pe
 rw[fO,bP,kh (by rw[hF.len];exact ha)];rfl
end L3
namespace L3
open PySem L2 Mf
theorem cJ3(C:Addr)(p:Nat):D.obj C (iF "bits"++[("products":Str)]) (BP D.sh [.int p,.int (aa (true,p)),.int ((bl (aa (true,p)):Nat)-1),.lst true (aL (fl (true,p))),.lst true (aL (eN (fl (true,p)))),.int (fst (true,p)),.lst true (rX (fl (true,p)) (eN (fl (true,p))))])=uZ C p:=by
 simp only[dE,jM]
 rw[cp6]
 simp only[de,jD,jE];rfl
theorem ci0(C:Addr)(p:Nat):D.obj C (iF "prime") (BP D.sh [.int p,.int p,.int ((bl p:Nat)-1),.lst true (aL (fl (false,p))),.lst true (aL (eN (fl (false,p)))),.int (fst (false,p))])=uY C p:=by
 simp only[dE,jM,de,jD,jE];rfl
theorem wA{n:Nat}(h:(true,n)∈aD):n∈gI:=by
 rcases bY.mp h with h | h
 ·obtain⟨x,hx,e⟩:=bE.mp h
  cases e;exact hx
 ·obtain⟨x,hx,e⟩:=bE.mp h
  cases e
theorem bP8{n:Nat}(h:(false,n)∈aD):n∈oZ:=by
 rcases bY.mp h with h | h
 ·obtain⟨x,hx,e⟩:=bE.mp h
  cases e
 ·obtain⟨x,hx,e⟩:=bE.mp h
  cases e;exact hx
open Classical in
theorem Iu{α:Type}{sh:Bool}{xs:List D}{aH:List (Str × Nat)}{n:Nat}{g0:iV}{te:aY}{av:Dl}{Q:D->Dl->Prop}(l:List α)(e g:α->D)(iD:xs.map D.sh=l.map e)(inj:∀a b,e a=e b->a=b)
  (hx:∀a∈l,g0 (e a) (fU aH n av) λbh=>te bh λd _=>d=g a) (hg:∀d δ (P P':Dl->Prop),(∀ak,P ak->P' ak)->g0 d δ P->g0 d δ P') (eZ:(sh&&aH.all (iA av))=true\/∀a∈l,(g a).fr=true) (hl:l.length<=sizeLine) (hq:Q (.lst true (l.map g)) av):vY sh xs aH n g0 kG te av Q:=by
 let f:D->D:=λx=>if h:∃a∈l,e a=x then g h.choose else .ay
 have hf:∀a∈l,f (e a)=g a:=λa ha=>by
  have h:∃b∈l,e b=e a:=⟨a,ha,rfl⟩
  show(if h:∃b∈l,e b=e a then g h.choose else .ay)=g a
  rw[dif_pos h]
  exact congrArg g (inj _ _ h.choose_spec.2)
 refine⟨λ_=>true,f,λx h=>?_,eZ.imp id λh x hx _=>?_,?_,?_⟩
 ·rw[iD]at h
  obtain⟨a,ha,rfl⟩:=bE.mp h
  rw[hf a ha]
  exact hg _ _ _ _ (λak h=>⟨rfl,λ_=>h⟩) (hx a ha)
 ·rw[iD]at hx
  obtain⟨a,ha,rfl⟩:=bE.mp hx
  rw[hf a ha];exact h a ha
 ·have:=congrArg Fx iD
  simp at this
  omega
 ·rw[iD,dd1.mpr (λ_ _=>rfl),bZ,show l.map (f ∘ e)=l.map g from nN λa ha=>hf a ha]
  exact hq
theorem Iw{i1 i2:Nat}(d:D)(δ:Dl)(P P':Dl->Prop)(h:∀ak,P ak->P' ak)(q:iC i1 i2 d δ P):iC i1 i2 d δ P':=by
 unfold iC at q ⊢
 split at q
 ·exact h _ q
 ·exact q
theorem VM(xs ys:List Int):(di (aL xs) (aL ys)).map D.sh=(xs.zip ys).map λz=>D.tup [.int z.1,.int z.2]:=by
 rw[CN,jE,jE]
 unfold di aL
 rw[tF,mw,tE]
theorem cz1{p x y:Nat}(hp:p≠0)(hx:bl x<bl p):md (cl x y) p=(if y%2=1 then x else 0) ^^^ md (cl (if bl (2*x)=bl p then 2*x ^^^ p else 2*x) (y/2)) p:=by
 have e0:md (if y%2=1 then x else 0) p=(if y%2=1 then x else 0):=by
  split
  ·exact Am hx
  ·exact Am (by rw[nX];exact ir hp)
 rw[Tu,De hp,e0]
 congr 1
 split
 ·rw[qv,De hp,VE hp,mq]
 ·rfl
theorem cF7{p x:Nat}(hp:p≠0)(hx:bl x<bl p):bl (if bl (2*x)=bl p then 2*x ^^^ p else 2*x)<bl p:=by
 have h2:=cL7 x
 have h0:=ir hp
 split
 ·rename_i h
  have n0:2*x≠0:=λz=>by rw[z,nX]at h;omega
  have a1:=jx (2*x)
  have a2:=jx p
  have b1:=vO n0
  have b2:=vO hp
  rw[h]at a1 b1
  obtain⟨k,hk⟩:∃k,bl p=k+1:=⟨bl p-1,by omega⟩
  rw[hk]at a1 a2 b1 b2 ⊢
  have:=eY.mpr (Ti a1 a2 b1 b2)
  omega
 ·omega
end L3
namespace L3
open PySem L2 PySem.Spec PyProof.Rows
structure Dj(P:Program)(w:World)(K:PySem.W.Frag)(mg:Str->Option Value)(base:Heap)(n:Nat)(m:Str)(C:Addr)(sp:rG):Prop where
 cls:eJ K C
 ex:∃f fd ps,Meth K C m f/\aQ P w K mg base (n9 P w) n f fd ps (z8 sp)/\Binds K fd ps []
section
variable{X:Cx}{e o:Expr}{es:List Expr}{f m x:Str}{pos p apos:Pos}{to:aY}{ta:df}{n:Nat}
def ph(MO:Addr->rG->Prop)(m:Str)(to:aY)(ta:df):aY:=λδ Q=>to δ λd av=>∃C ns xs sp,d=.obj C ns xs/\MO C sp/\m ∉ ns/\ta av λds bh=>sp ((D.obj C ns xs::ds).map D.sh) (λr=>((D.obj C ns xs::ds).all D.pl||r.fr)=true/\Q r bh) λ_=>False
theorem cz0{pl:Sem Bool}(ho:PE X o (lB to))(hr:cL n X.A)(ha:PA X (e::es) (lA ta))
  (dG:starEach (e::es) X.env=(false,eval e X.env)::starEach es X.env:=by rfl) (bR:(backTo pos (starEach es X.env)).any (·.1)=false:=by rfl)
  (ht:eval (.Call (.Attribute o m apos) (e::es) [] pos) X.env=(do
   let ov<-eval o X.env
   standAt apos.atName
   let (f,first)<-holding [ov] (getMethod ov m pl)
   callWith pos f first (backTo pos (starEach (e::es) X.env)) (backToKw pos (keywordEach [] X.env))):=by rfl) :
  PE X (.Call (.Attribute o m apos) (e::es) [] pos) (lE (ph (Dj X.prog X.w X.K X.mg X.base n m) m to ta)):=by
 intro pins s σ H Q I zz
 obtain⟨B,F,δ,ts,Qd,c,q,k⟩:=zz
 refine PySem.W.methodCall_KW (pl:=pl) (bc (ho pins s σ H (λx H1=>∃d av F1,S F1 H1 [d] [x]/\ax B F1 H1 σ av ts/\ah F F1/\ah H H1/\∃C ns xs sp,d=.obj C ns xs/\Dj X.prog X.w X.K X.mg X.base n m C sp/\m ∉ ns/\ta av λds bh=>sp ((D.obj C ns xs::ds).map D.sh) (λr=>((D.obj C ns xs::ds).all D.pl||r.fr)=true/\Qd r bh) λ_=>False) I
  ⟨B,F,δ,ts,_,c,q,λd av v F1 H1 hq f1 h1 c1 s1=>⟨d,av,F1,s1,c1,f1,h1,hq⟩⟩) λu s1 ⟨x,H1,I1,rx,d,av,F1,sd,c1,f1,h1,C,ns,xs,sp,ed,M,hm,hq⟩=>?_) ht
 subst ed
 obtain⟨a,dx,ws,rfl,ea,hl,r0⟩:=Ik sd
 obtain rfl:u=fL a:=rx
 obtain⟨f,fd,ps,Ag,FO,hb⟩:=M.ex
 refine GO I1 ea M.cls Ag (Vs hm) ?_
 refine PySem.W.callWith_K (first:=[.ref a]) (h₀:=X.base) I.ok.mod.nU Ag.kp (bc (ha pos pins s1 σ H1 (λvs H2=>∃ds bh F2,S F2 H2 ds vs/\ax B F2 H2 σ bh ts/\ah F1 F2/\ah H1 H2/\sp ((D.obj C ns xs::ds).map D.sh) (λr=>((D.obj C ns xs::ds).all D.pl||r.fr)=true/\Qd r bh) λ_=>False) I1
  ⟨B,F1,av,ts,_,c1,hq,λds bh vs F2 H2 hq f2 h2 c2 s2=>⟨ds,bh,F2,s2,c2,f2,h2,hq⟩⟩) λus s2 ⟨vs,H2,I2,r,ds,bh,F2,Il,c2,f2,h2,jv⟩=>⟨I2.dF,?_⟩) dG bR
 refine Cj (us:=.ref a::us) (vs:=.ref a::vs) (fP:=[]) (HV FO) hr hb .nil HU I2 (.cons rfl r) ?_
 rw[mn]
 exact Cy (sp:=λds Q=>sp ds Q λ_=>False) c2 (.obj (h2 _ _ ea) hl (r0.shared f2 h2) Il) jv λd v F' H' hd hf hs c'=>k d bh v F' H' hd (f1.trans (f2.trans hf)) (h1.trans (h2.trans hs)) c'
end
section
variable{X:Cx}{tb th:cW}{body dJ1:List Stmt}{dJ2:Stmt}{K:Str}{Kc:Addr}{kp dJ3 pos:Pos}
end
structure VN(K:PySem.W.Frag)(C:Addr):Prop where
 cls:eJ K C
 ha:PySem.W.findIn K (.ref C) "__class__"=some (some (.builtin "object.__class__"))
 hn:PySem.W.specialIn K (.builtin "object.__class__") "__get__"=some (some (.builtin "getset_descriptor.__get__"))
 GP:PySem.W.takesIn K (.builtin "object.__class__")=some true
 hm:PySem.W.mroIn K C (.type "object")=some true
end L3
namespace L3
open PySem L2 Mf
theorem VO{m:Bool × Nat}(hm:m∈aD){a b:Nat}(a1:1<=a)(a2:a<aa m)(b1:1<=b)(b2:b<aa m):∃r:Nat,pw m ((lg m a-lg m b)%((aa m:Int)-1)).toNat=r/\r<aa m/\gm m r b=a:=by
 have hF:=cE hm
 have dq:=hF.lo
 have n0:=jl (lg m a-lg m b) (show(aa m:Int)-1≠0 by omega)
 have n1:=jm (lg m a-lg m b) (show(0:Int)<(aa m:Int)-1 by omega)
 obtain⟨p1,p2,p3⟩:=Df hm (k:=((lg m a-lg m b)%((aa m:Int)-1)).toNat) (by omega)
 obtain⟨g0,g1,g2⟩:=Dg hm a1 a2
 refine⟨(pw m ((lg m a-lg m b)%((aa m:Int)-1)).toNat).toNat,by omega,by omega,?_⟩
 have e:=Ir hm (a:=(pw m ((lg m a-lg m b)%((aa m:Int)-1)).toNat).toNat) (by omega) (by omega) b1 b2
 rw[p3,tG n0,Int.emod_add_emod,Int.sub_add_cancel,Int.emod_eq_of_lt g0 g1,g2]at e
 omega
end L3
namespace L3
open PySem L2 PySem.Spec PyProof.Rows
section
variable{X:Cx}{e o a:Expr}{es:List Expr}{f m y:Str}{pos p apos q:Pos}{t to ta':aY}{ta:df}{n:Nat}{P:Program}{w:World}{K:PySem.W.Frag}{mg:Str->Option Value}{base:Heap}
theorem j4(he:PE X e (lB t))(hK:K=X.K:=by rfl)(hb:attributeBase e f X.env (eval e X.env)=eval e X.env:=by rfl):PE X (.Attribute e f pos) (lB (oX K t f)):=by
 subst hK;exact cS9 he hb
theorem rY{pl:Sem Bool}(ho:PE X o (lB to))(hr:cL n X.A)(ha:PA X (e::es) (lA ta))(hP:P=X.prog:=by rfl)(hw:w=X.w:=by rfl)(hK:K=X.K:=by rfl)(hm:mg=X.mg:=by rfl)(hb:base=X.base:=by rfl)
  (dG:starEach (e::es) X.env=(false,eval e X.env)::starEach es X.env:=by rfl) (bR:(backTo pos (starEach es X.env)).any (·.1)=false:=by rfl)
  (ht:eval (.Call (.Attribute o m apos) (e::es) [] pos) X.env=(do
   let ov<-eval o X.env
   standAt apos.atName
   let (f,first)<-holding [ov] (getMethod ov m pl)
   callWith pos f first (backTo pos (starEach (e::es) X.env)) (backToKw pos (keywordEach [] X.env))):=by rfl) :
  PE X (.Call (.Attribute o m apos) (e::es) [] pos) (lE (oY (rT P w K mg base n m) m to ta)):=by
 subst hP hw hK hm hb;exact cL5 ho hr ha dG bR ht
theorem VP{pl:Sem Bool}(ho:PE X o (lB to))(hr:cL n X.A)(ha:PA X (e::es) (lA ta))(hP:P=X.prog:=by rfl)(hw:w=X.w:=by rfl)(hK:K=X.K:=by rfl)(hm:mg=X.mg:=by rfl)(hb:base=X.base:=by rfl)
  (dG:starEach (e::es) X.env=(false,eval e X.env)::starEach es X.env:=by rfl) (bR:(backTo pos (starEach es X.env)).any (·.1)=false:=by rfl)
  (ht:eval (.Call (.Attribute o m apos) (e::es) [] pos) X.env=(do
   let ov<-eval o X.env
   standAt apos.atName
   let (f,first)<-holding [ov] (getMethod ov m pl)
   callWith pos f first (backTo pos (starEach (e::es) X.env)) (backToKw pos (keywordEach [] X.env))):=by rfl) :
  PE X (.Call (.Attribute o m apos) (e::es) [] pos) (lE (ph (Dj P w K mg base n m) m to ta)):=by
 subst hP hw hK hm hb;exact cz0 ho hr ha dG bR ht
end
theorem An:∀m∈Mf.aD,1<=Mf.bl m.2/\Mf.bl m.2<=7:=by decide +kernel
end L3
namespace L3
open PySem L2 Mf
def gp(m:Bool × Nat)(a b:Nat):Nat:=if m.1 then a ^^^ b else(a+b)%m.2
def gl(m:Bool × Nat)(a b:Nat):Int:=if m.1 then(a ^^^ b:Nat)else((a:Int)-b)%m.2
def gd(m:Bool × Nat)(xs ys:List Nat):Nat:=(cZ (gm m) xs ys).foldl (gp m) 0
def rZ(c:Int):Bool × Nat:=if c%2=0 then(true,gI.getD (c/2%21).toNat 0)else(false,oZ.getD (c/2%18).toNat 0)
theorem cj7(c:Int):rZ c∈aD:=by
 unfold rZ
 split
 ·refine gP _ (bE.mpr ⟨_,?_,rfl⟩)
  have h:(c/2%21).toNat<gI.length:=by
   have:=jm (c/2) (show(0:Int)<21 by decide)
   show _<21
   omega
  rw[aK,aJ h]
  exact cB _
 ·refine fc _ (bE.mpr ⟨_,?_,rfl⟩)
  have h:(c/2%18).toNat<oZ.length:=by
   have:=jm (c/2) (show(0:Int)<18 by decide)
   show _<18
   omega
  rw[aK,aJ h]
  exact cB _
def dy(m:Bool × Nat):D:=.tup [.bl m.1,.int m.2]
theorem wB(cb cp:Addr)(m:Bool × Nat):fD cb cp m=.obj (if m.1 then cb else cp) (if m.1 then iF "bits"++[("products":Str)]else iF "prime") (if m.1 then pD (true,m.2)++[.lst false (pe (fl (true,m.2)) (eN (fl (true,m.2))))]else pD (false,m.2)):=by
 obtain⟨k,n⟩:=m
 cases k<;>rfl
theorem VQ(m:Bool × Nat)(x:Str)(h:x ∉ (["bits","prime","many","wide","powers","logs","step","products"]:List Str)):x ∉ (if m.1 then iF "bits"++[("products":Str)]else iF "prime"):=by
 obtain⟨k,n⟩:=m
 intro z
 apply h
 cases k
 ·have z:x∈iF "prime":=z
  simp[iF]at z
  simp only[cA]
  rcases z with z | z | z | z | z | z<;>simp[z]
 ·have z:x∈iF "bits"++[("products":Str)]:=z
  simp[iF]at z
  simp only[cA]
  rcases z with z | z | z | z | z | z | z<;>simp[z]
theorem cU6(cb cp:Addr)(m:Bool × Nat):(fD cb cp m).sh=fD cb cp m:=by rw[wB];rfl
theorem cR4(cb cp:Addr)(m:Bool × Nat):(fD cb cp m).pl=true:=by rw[wB];rfl
theorem cF1(m:Bool × Nat):(dy m).sh=dy m:=rfl
theorem cC0(m:Bool × Nat):(dy m).pl=true:=rfl
theorem VR{p:Nat}(hp:0<p):∀(l:List Nat) (acc:Nat),acc<p->l.foldl (gp (false,p)) acc=(acc+l.sum)%p
 | [],acc,h=>by simp[yX h]
 | x::l,acc,h=>by
  rw[s8,show gp (false,p) acc x=(acc+x)%p from rfl,VR hp l _ (vv _ hp),R0]
  show((acc+x)%p+l.sum)%p=_
  rw[yY,FR]
theorem VS(p:Nat):∀xs ys:List Nat,(cZ (gm (false,p)) xs ys).sum%p=(cZ (· * ·) xs ys).sum%p
 | [],_=>by simp
 | _::_,[]=>by simp
 | x::xs,y::ys=>by
  simp only[R1,R0]
  show(x*y%p+_)%p=_
  rw[yY,Nat.add_mod,VS p xs ys,<- Nat.add_mod]
theorem VT:∀xs ys:List Nat,(cZ (· * ·) (xs.map λ(n:Nat)=>(n:Int)) (ys.map λ(n:Nat)=>(n:Int))).sum=(((cZ (· * ·) xs ys).sum:Nat):Int)
 | [],_=>by simp
 | _::_,[]=>by simp
 | x::xs,y::ys=>by
  simp only[dE,R1,R0]
  rw[VT xs ys,FV,vw]
theorem j5(m:Bool × Nat)(a b:Nat):gp m a b=gp m b a:=by
 unfold gp
 split
 ·rw[RG]
 ·rw[BK]
theorem Iy(m:Bool × Nat)(a b c:Nat):gp m (gp m a b) c=gp m a (gp m b c):=by
 unfold gp
 split
 ·rw[s9]
 ·rw[yY,Nat.add_mod_mod,FR]
theorem Dk{m:Bool × Nat}(h:0<m.2)(a b c:Nat):gm m (gp m a b) c=gp m (gm m a c) (gm m b c):=by
 unfold gm gp
 split
 ·rw[qv,De (by omega)]
 ·rw[yW,RZ,<- yW,Nat.add_mul,yY,Nat.add_mod_mod]
theorem u0{m:Bool × Nat}(h:0<m.2)(a b c:Nat):gm m c (gp m a b)=gp m (gm m c a) (gm m c b):=by rw[g9,Dk h,g9 m a,g9 m b]
theorem cg8:∀m∈aD,m.1=true->2<=bl m.2:=by decide +kernel
theorem Ao{m:Bool × Nat}(hm:m∈aD){a b:Nat}(ha:a<aa m)(hb:b<aa m):gp m a b<aa m:=by
 have h0:=bW m hm
 obtain⟨k,n⟩:=m
 cases k with
 | true=>exact vQ ha hb
 | false=>exact vv _ h0
theorem cg{m:Bool × Nat}(hm:m∈aD)(a b:Nat):gm m a b<aa m:=by
 have h0:=bW m hm
 obtain⟨k,n⟩:=m
 cases k with
 | true =>
  have h2:=cg8 (true,n) hm rfl
  have:=(zI (show n≠0 by have:0<n:=h0;omega) (cl a b)).2
  refine(VG rfl).mpr ?_
  show bl (md (cl a b) n)<=bl n-1
  omega
 | false=>exact vv _ h0
theorem r6{m:Bool × Nat}{a:Nat}(ha:a<aa m):gp m 0 a=a:=by
 obtain⟨k,n⟩:=m
 cases k with
 | true=>exact p9 a
 | false=>show(0+a)%n=a;rw[R3];exact yX ha
theorem r9{m:Bool × Nat}{a:Nat}(ha:a<aa m):gp m a 0=a:=by rw[j5];exact r6 ha
theorem cR5{m:Bool × Nat}(hm:m∈aD){a b:Nat}(ha:a<aa m)(hb:b<aa m):∃r:Nat,gl m a b=r/\r<aa m/\gp m r b=a:=by
 have h0:=bW m hm
 obtain⟨k,n⟩:=m
 cases k with
 | true=>exact⟨a ^^^ b,rfl,vQ ha hb,by show a ^^^ b ^^^ b=a;rw[s9,BO,mq]⟩
 | false =>
  have h0:0<n:=h0
  have ha:a<n:=ha
  have hb:b<n:=hb
  refine⟨(a+(n-b))%n,?_,vv _ h0,?_⟩
  ·show((a:Int)-b)%n=_
   rw[qi,FV,Int.natCast_sub (by omega),show((a:Int)+((n:Int)-b))=((a:Int)-b)+n by omega,Int.add_emod_right]
  ·show((a+(n-b))%n+b)%n=a
   rw[yY,show a+(n-b)+b=a+n by omega,Nat.add_mod_right,yX ha]
def eS(m:Bool × Nat)(n:Int):Nat:=(pw m (n%((aa m:Int)-1)).toNat).toNat
theorem Dm{m:Bool × Nat}(hm:m∈aD)(n:Int):1<=eS m n/\eS m n<aa m/\lg m (eS m n)=n%((aa m:Int)-1)/\pw m (n%((aa m:Int)-1)).toNat=eS m n:=by
 have dq:=(cE hm).lo
 have n0:=jl n (show(aa m:Int)-1≠0 by omega)
 have n1:=jm n (show(0:Int)<(aa m:Int)-1 by omega)
 obtain⟨p1,p2,p3⟩:=Df hm (k:=(n%((aa m:Int)-1)).toNat) (by omega)
 unfold eS
 rw[p3]
 omega
theorem cR3{m:Bool × Nat}(hm:m∈aD)(a b:Int):gm m (eS m a) (eS m b)=eS m (a+b):=by
 obtain⟨a1,a2,a3,_⟩:=Dm hm a
 obtain⟨b1,b2,b3,_⟩:=Dm hm b
 have e:=Ir hm a1 a2 b1 b2
 rw[a3,b3,<- Int.add_emod]at e
 have c:=(Dm hm (a+b)).2.2.2
 rw[c]at e
 omega
theorem VU{m:Bool × Nat}(hm:m∈aD){a:Nat}(h1:1<=a)(h2:a<aa m):eS m (lg m a)=a:=by
 obtain⟨g0,g1,g2⟩:=Dg hm h1 h2
 unfold eS
 rw[Int.emod_eq_of_lt g0 g1,g2];rfl
theorem cR2{m:Bool × Nat}(hm:m∈aD){a b:Nat}(a1:1<=a)(a2:a<aa m)(b1:1<=b)(b2:b<aa m):gm m a b≠0:=by
 rw[<-VU hm a1 a2,<- VU hm b1 b2,cR3 hm]
 have:=(Dm hm (lg m a+lg m b)).1
 omega
end L3
namespace L2
open PySem PySem.Spec PyProof.Rows
section
variable{X:Cx}{a:Expr}{ta:TA}{p pos:Pos}{tg:Expr}
end
end L2
namespace L3
open PySem L2 PySem.Spec PyProof.Rows
section
variable{F H:Hp}{K:PySem.W.Frag}{p:Addr}{ws:List V}{xs:List D}
end
section
variable{X:Cx}{a:Expr}{ta:df}{p pos:Pos}{tg:Expr}
end
end L3
namespace L3
open PySem L2 Mf
def px(m:Bool × Nat)(x:Nat):Nat->Nat
 | 0=>1
 | k+1=>gm m (px m x k) x
def AllLt(n:Nat)(l:List Nat):Prop:=∀a∈l,a<n
theorem AllLt.getD{n:Nat}{l:List Nat}(h:AllLt n l)(h0:0<n)(k:Nat):l.getD k 0<n:=by
 rw[aK]
 cases e:l[k]? with
 | none=>exact h0
 | some v=>exact h v (vo e)
end L3
namespace L3
open PySem L2 PySem.Spec PyProof.Rows
theorem cb1(n:Nat)(l:List Nat):(aq l).all (cX n)=true:=by
 rw[cw,mv,dv]
 intro a _
 exact oQ n _
theorem Ap(n:Nat)(o:Bool)(l:List Nat):cX (n+1) (.lst o (aq l))=true:=cb1 n l
theorem u3(o o':Bool)(a b:List Nat):bJ (.lst o (aq a)) (.lst o' (aq b))=decide (a=b):=by
 unfold aq
 rw[rD]
 congr 1
 apply propext
 constructor
 ·intro h
  have:=congrArg (BP Int.toNat) h
  have e:(Int.toNat ∘ λ(n:Nat)=>(n:Int))=id:=by funext x;rfl
  rw[bZ,bZ,e,List.map_id,List.map_id]at this
  exact this
 ·intro h;rw[h]
theorem i8{l:List Nat}{k:Int}(h0:0<=k)(h:k.toNat<l.length):eK (aq l) k=some (.int ((l.getD k.toNat 0:Nat):Int)):=by
 refine qt h0 ?_
 rw[cw,bP,aJ h,aK,aJ h];rfl
theorem Aq{n:Nat}{k:Int}(h0:0<=k)(h:k.toNat<n):iP n k=some k.toNat:=by
 unfold iP
 rw[if_pos h0,if_pos (by omega)]
theorem se{n:Nat}(k:Int)(h:k=n):(((aZ k.toNat).map λ(k:Nat)=>D.int (0+(k:Int))).map D.sh)=(aZ n).map λ(i:Nat)=>D.int (i:Int):=by
 subst h
 rw[zW,fO]
 simp
theorem Dn(l:List Nat)(k v:Nat):(aq l).set k (.int (v:Nat))=aq (l.set k v):=by
 rw[cw,cw,List.map_set]
theorem cg9(l:List Nat):(aq l).all D.fr=true:=oN _
theorem iG(o:Bool)(l:List Nat):(D.lst o (aq l)).sh=.lst false (aq l):=by rw[de,m8]
theorem gJ(l:List Nat):(D.lst true (aq l)).fr=true:=by rw[eR,cg9];rfl
theorem cG3{xs:List D}{i:Nat}{d:D}(h:(fk xs)[i]?=some d):∃hi:i<xs.length,d=.tup [.int i,xs[i]]:=by
 have hi:i<(fk xs).length:=(ji.mp h).1
 rw[oR]at hi
 refine⟨hi,?_⟩
 unfold fk at h
 rw[yT,aJ hi]at h
 exact(cT h).symm
theorem ch2{l:List Nat}{i:Nat}{d:D}(h:(fk (aq l))[i]?=some d):∃hi:i<l.length,d=.tup [.int i,.int (l[i]:Nat)]:=by
 obtain⟨hi,e⟩:=cG3 h
 rw[eo]at hi
 refine⟨hi,?_⟩
 rw[e]
 simp only[cw,vx]
theorem cj2{l:List Nat}{i:Nat}{d:D}(h:(aq l)[i]?=some d):∃hi:i<l.length,d=.int (l[i]:Nat):=by
 have hi:i<l.length:=by
  have:=(ji.mp h).1
  rw[eo]at this;exact this
 refine⟨hi,?_⟩
 rw[cw,bP,aJ hi]at h
 exact(cT h).symm
theorem ck0{a:Int}{n i:Nat}{d:D}(h:((aZ n).map λ(k:Nat)=>D.int (a+(k:Int)))[i]?=some d):i<n/\d=.int (a+i):=by
 have hi:i<n:=by
  have:=(ji.mp h).1
  simpa using this
 refine⟨hi,?_⟩
 rw[bP,kh hi]at h
 exact(cT h).symm
section
variable{X:Cx}
end
end L3
namespace L3
open PySem L2 Mf
def bC(m:Bool × Nat)(a b:Nat):Nat:=(gl m a b).toNat
theorem fG{m:Bool × Nat}(hm:m∈aD){a b:Nat}(ha:a<aa m)(hb:b<aa m):gl m a b=(bC m a b:Nat)/\bC m a b<aa m/\gp m (bC m a b) b=a:=by
 obtain⟨r,e,h1,h2⟩:=cR5 hm ha hb
 have:bC m a b=r:=by unfold bC;rw[e];rfl
 rw[this]
 exact⟨e,h1,h2⟩
theorem Dq{n:Nat}{f:Nat->Nat->Nat}:∀{a b:List Nat},(∀x∈a,∀y∈b,f x y<n)->AllLt n (cZ f a b)
 | [],_,_=>by intro x hx;simp at hx
 | _::_,[],_=>by intro x hx;simp at hx
 | x::a,y::b,h=>by
  intro z hz
  rw[R1]at hz
  rcases cA.mp hz with rfl | hz
  ·exact h x (by simp) y (by simp)
  ·exact Dq (λx hx y hy=>h x (by simp[hx]) y (by simp[hy])) z hz
theorem bW8(xs ys:List Nat):(di (aq xs) (aq ys)).map D.sh=(xs.zip ys).map λz=>D.tup [.int (z.1:Int),.int (z.2:Int)]:=by
 unfold aq
 rw[VM,List.zip_map,bZ];rfl
theorem Iz{sh:Bool}{aH:List (Str × Nat)}{n i1 i2:Nat}{te:aY}{av:Dl}{Q:D->Dl->Prop}(f:Nat->Nat->Nat){A B:List Nat}(hx:∀x∈A,∀y∈B,iC i1 i2 (.tup [.int (x:Int),.int (y:Int)]) (fU aH n av) λbh=>te bh λd _=>d=.int ((f x y:Nat):Int))
  (hl:A.length<=100000) (hq:Q (.lst true (aq (cZ f A B))) av):vY sh (di (aq A) (aq B)) aH n (iC i1 i2) kG te av Q:=by
 refine Iu (A.zip B) (λz=>D.tup [.int (z.1:Int),.int (z.2:Int)]) (λz=>D.int ((f z.1 z.2:Nat):Int)) (bW8 A B) (λa b h=>?_) (λz hz=>hx z.1 (sU hz).1 z.2 (sU hz).2) Iw (.inr λ_ _=>rfl) (by rw[qj,sL];omega) ?_
 ·injection h with h
  simp at h
  exact yZ (by omega) (by omega)
 ·rw[show((A.zip B).map λz=>D.int ((f z.1 z.2:Nat):Int))=aq (cZ f A B) by rw[cw,mw,tE,tE]]
  exact hq
end L3
namespace L3
open PySem L2 PySem.Spec PyProof.Rows
theorem ax.dS3{B:Bs}{F H:Hp}{σ:L2.St}{δ:Dl}{ps ts:List (D × V)}{p:Addr}{o:HO}{A1:List Addr}(c:ax B F H σ δ (ps++ts))(hp:H p=none)(r:R F (upd H p o) (ps.map (·.1)) (ps.map (·.2)) A1):p ∉ A1:=λh=>by
 obtain⟨A,C,r0,_,_,_⟩:=c.own
 rw[gh,gh]at r0
 obtain⟨v1,v2,B1,B2,e,rfl,h1,h2⟩:=R.split r0
 have l1:(ps.map (·.2)).length=v1.length:=by rw[<-h1.length];simp
 obtain⟨rfl,rfl⟩:=FP e l1
 have g1:=h1.grow (ah.refl F) (ah.upd (o:=o) hp) λa ha=>(h1.lists a ha).2
 have:A1=B1:=R.inj r g1
 subst this
 obtain⟨ws,e⟩:=(h1.lists p h).1
 rw[hp]at e;cases e
theorem ax.join{B:Bs}{F H:Hp}{σ:L2.St}{δ:Dl}{ts:List (D × V)}{p p' r:Addr}{xs ys:List D}{ws gq:List V}(c:ax B F H σ δ ((.lst true ys,.ref p')::(.lst true xs,.ref p)::ts))(e1:H p=some (.lst ws))(e2:H p'=some (.lst gq))(hr:H r=none) :
  ax B F (upd H r (.lst (ws++gq))) σ δ ((.lst true (xs++ys),.ref r)::ts):=by
 refine ax.pack (ps:=[(.lst true ys,.ref p'),(.lst true xs,.ref p)]) c (ah.upd hr) λA1 r1 nd=>?_
 have nin:=ax.dS3 (ps:=[(.lst true ys,.ref p'),(.lst true xs,.ref p)]) (ts:=ts) c hr r1
 have n1:p≠r:=λz=>by rw[z,hr]at e1;cases e1
 have n2:p'≠r:=λz=>by rw[z,hr]at e2;cases e2
 have r1:R F (upd H r (.lst (ws++gq))) [.lst true ys,.lst true xs] [.ref p',.ref p] A1:=r1
 cases r1 with
 | @own _ wy _ Ay _ _ By hy fy ry rb =>
  cases rb with
  | @own _ wx _ Ax _ _ Bx hx fx rx rc =>
   cases rc
   rw[bx n2,e2]at hy;cases hy
   rw[bx n1,e1]at hx;cases hx
   refine⟨r::(Ax++Ay),by simpa using R.own cH (c.ext.free hr) (rx.append ry) .nil,?_,λa ha=>?_⟩
   ·refine jj.mpr ⟨λz=>nin ?_,?_⟩
    ·rcases bY.mp z with z | z<;>simp[z]
    ·have sl:(Ay++Ax).Sublist (p'::Ay++(p::Ax++[])):=by
      rw[mn]
      exact(((dd7 p Ax).append_left Ay).trans (dd7 p' _))
     exact qe.nodup_iff.mp (nd.sublist sl)
   ·simp only[cA,bY]at ha ⊢
    rcases ha with rfl | ha | ha
    ·exact .inr hr
    ·simp[ha]
    ·simp[ha]
section
variable{X:Cx}{a b:Expr}{ta tb:aY}{pos:Pos}
def sg(ta tb:aY):aY:=λδ Q=>ta δ λx av=>tb av λy bh=>∃xs ys,x=.lst true xs/\y=.lst true ys/\xs.length+ys.length<=sizeLine/\Q (.lst true (xs++ys)) bh
theorem VV(ha:PE X a (lE ta))(hb:PE X b (lE tb)):PE X (.BinOp a .Add b pos) (lE (sg ta tb)) :=
 dN (zu Td ha hb) λσ H Q ⟨B,F,δ,ts,Qd,c,q,k⟩ =>
  ⟨B,F,δ,ts,_,c,q,λx av v F1 H1 q1 f1 h1 c1=>⟨B,F1,av,(x,v)::ts,_,c1,q1,λy bh w F2 H2 q2 f2 h2 c2=>by
   obtain⟨xs,ys,rfl,rfl,hz,hq⟩:=q2
   obtain⟨p',gq,rfl,e2,s2⟩:=iY c2.top c2.ext
   obtain⟨p,ws,rfl,e1,s1⟩:=iY c2.pop.top c2.ext
   refine⟨p,p',ws,gq,rfl,rfl,e1,e2,by rw[<-s1.length,<- s2.length];exact hz,λr hr=>?_⟩
   exact k _ bh _ F2 _ hq (f1.trans f2) ((h1.trans h2).trans (ah.upd hr)) (c2.join e1 e2 hr)⟩⟩
end
theorem VW{a b:List Nat}(h:aq a=aq b):a=b:=by
 have:=u3 true true a b
 rw[h,show bJ (D.lst true (aq b)) (D.lst true (aq b))=true from(u3 _ _ _ _).trans (decide_eq_true rfl)]at this
 exact of_decide_eq_true this.symm
theorem nh{o:Bool}(a b:List Nat)(h:D.lst o (aq a)=D.lst o (aq b)):a=b:=VW (by injection h)
end L3
namespace L3
open PySem L2 Mf
end L3
namespace L2
open PySem PySem.Spec PyProof.Rows
end L2
namespace L3
open PySem L2 PySem.Spec PyProof.Rows Mf
theorem Ar{m:Bool × Nat}(hm:m∈aD)(xs ys:List Nat):gd m xs ys<aa m:=by
 have dq:=(cE hm).lo
 unfold gd
 have:∀(l:List Nat) (a:Nat),a<aa m->AllLt (aa m) l->l.foldl (gp m) a<aa m:=by
  intro l
  induction l with
  | nil=>exact λa ha _=>ha
  | cons x l ih=>exact λa ha h=>ih _ (Ao hm ha (h x (by simp))) λy hy=>h y (by simp[hy])
 exact this _ _ (by omega) (Dq λx _ y _=>cg hm x y)
end L3
namespace L3
open PySem L2 Mf
def cf(l:List Nat)(k:Nat):Nat:=l.getD k 0
theorem si{l:List Nat}{k:Nat}(h:l.length<=k):cf l k=0:=by
 unfold cf;rw[aK,gU h];rfl
theorem cF{m:Bool × Nat}(hm:m∈aD){l:List Nat}(h:AllLt (aa m) l)(k:Nat):cf l k<aa m:=h.getD (by have:=(cE hm).lo;omega) k
theorem As(m:Bool × Nat)(x:Nat):bC m x x=0:=by
 obtain⟨k,n⟩:=m
 cases k with
 | true=>show(((x ^^^ x:Nat):Int)).toNat=0;rw[BO];rfl
 | false=>show(((x:Int)-(x:Int))%(n:Int)).toNat=0;rw[Int.sub_self,Int.zero_emod];rfl
end L3
namespace L3
open PySem L2 PySem.Spec PyProof.Rows
section
variable{B:Bs}{F H:Hp}{σ:L2.St}{δ:Dl}{ts ps:List (D × V)}{i k:Nat}{p q:Addr}{l1 l2 ys T4:List D}{ws v9:List V}
end
section
variable{X:Cx}{F H:Hp}{e b:Expr}{pos p p2 p3 pr apos cj HN:Pos}{t ti te:aY}{x y:Str}{i j:Nat}
end
end L3
namespace L3
structure Rg(N:Nat)(p q:Nat->Nat->Nat):Prop where
 pc:∀a b,p a b=p b a
 pa:∀a b c,p (p a b) c=p a (p b c)
 mc:∀a b,q a b=q b a
 ma:∀{a b c},a<N->b<N->c<N->q (q a b) c=q a (q b c)
 dl:∀a b c,q a (p b c)=p (q a b) (q a c)
 z:∀{a},a<N->p 0 a=a
 qz:∀a,q a 0=0
 one:∀{a},a<N->q 1 a=a
 lp:∀{a b},a<N->b<N->p a b<N
 lq:∀a b,q a b<N
 ng:∀{a},a<N->∃b,b<N/\p a b=0
section
variable{N:Nat}{p q:Nat->Nat->Nat}
def sm(p:Nat->Nat->Nat):Nat->(Nat->Nat)->Nat
 | 0,_=>0
 | n+1,f=>p (sm p n f) (f n)
theorem Rg.pos(r:Rg N p q):0<N:=nL (jL _) (r.lq 0 0)
theorem Rg.z'(r:Rg N p q){a:Nat}(h:a<N):p a 0=a:=by rw[r.pc];exact r.z h
theorem Rg.Dr(r:Rg N p q){a b c:Nat}(ha:a<N)(hb:b<N)(hc:c<N)(h:p a c=p b c):a=b:=by
 obtain⟨d,_,e⟩:=r.ng hc
 have:=congrArg (λx=>p x d) h
 simp only[r.pa,e]at this
 rw[r.z' ha,r.z' hb]at this
 exact this
theorem Rg.cn(r:Rg N p q){a b:Nat}(ha:a<N)(hb:b<N)(h:p a b=b):a=0:=r.Dr ha r.pos hb (by rw[h,r.z hb])
theorem cm{f g:Nat->Nat}:∀{n:Nat},(∀j,j<n->f j=g j)->sm p n f=sm p n g
 | 0,_=>rfl
 | n+1,h=>by rw[sm,sm,cm λj hj=>h j (by omega),h n (by omega)]
theorem j6(r:Rg N p q){f:Nat->Nat}:∀{n:Nat},(∀j,j<n->f j<N)->sm p n f<N
 | 0,_=>r.pos
 | n+1,h=>r.lp (j6 r λj hj=>h j (by omega)) (h n (by omega))
theorem gK(r:Rg N p q){f:Nat->Nat}:∀{n:Nat},(∀j,j<n->f j=0)->sm p n f=0
 | 0,_=>rfl
 | n+1,h=>by rw[sm,gK r λj hj=>h j (by omega),h n (by omega)];exact r.z r.pos
theorem Rg.four(r:Rg N p q)(a b c d:Nat):p (p a b) (p c d)=p (p a c) (p b d):=by
 rw[r.pa,r.pa,<- r.pa b,<- r.pa c,r.pc b c]
theorem nj(r:Rg N p q)(f g:Nat->Nat):∀n,sm p n (λj=>p (f j) (g j))=p (sm p n f) (sm p n g)
 | 0=>(r.z r.pos).symm
 | n+1=>by rw[sm,nj r f g n,sm,sm,r.four]
theorem Au(r:Rg N p q)(c:Nat)(f:Nat->Nat):∀n,sm p n (λj=>q c (f j))=q c (sm p n f)
 | 0=>(r.qz c).symm
 | n+1=>by rw[sm,Au r c f n,sm,r.dl]
theorem IA(r:Rg N p q){f:Nat->Nat}(n:Nat):∀k,(∀j,j<n+k->f j<N)->sm p (n+k) f=p (sm p n f) (sm p k λj=>f (n+j))
 | 0,h=>(r.z' (j6 r λj hj=>h j (by omega))).symm
 | k+1,h=>by
  rw[<-FR,sm,IA r n k λj hj=>h j (by omega),sm,r.pa]
theorem co1(r:Rg N p q){f:Nat->Nat}(n:Nat)(h:∀j,j<n+1->f j<N):sm p (n+1) f=p (f 0) (sm p n λj=>f (j+1)):=by
 rw[BK n 1,IA r 1 n λj hj=>h j (by omega)]
 show p (p 0 (f 0)) _=_
 rw[r.z (h 0 (by omega))]
 congr 1
 exact cm λj _=>by rw[BK]
end
end L3
namespace L3
section
variable{N:Nat}{p q:Nat->Nat->Nat}
end
end L3
namespace L3
open PySem L2 Mf
theorem rg{m:Bool × Nat}(hm:m∈aD):Rg (aa m) (gp m) (gm m) where
 pc:=j5 m
 pa:=Iy m
 mc:=g9 m
 ma:=λ_ _ _=>hE (bW m hm) _ _ _
 dl:=λa b c=>u0 (bW m hm) b c a
 z:=r6
 qz:=λa=>gE m a (bW m hm)
 one:=lV
 lp:=Ao hm
 lq:=cg hm
 ng:=λ{a} ha=>by
  have g:=fG hm (a:=0) (b:=a) (by omega) ha
  exact⟨_,g.2.1,(j5 m _ _).trans g.2.2⟩
theorem cn8(p:Nat->Nat->Nat)(l:List Nat):l.foldl p 0=sm p l.length λj=>l.getD j 0:=by
 have key:∀n,n<=l.length->(l.take n).foldl p 0=sm p n λj=>l.getD j 0:=by
  intro n
  induction n with
  | zero=>intro _;rfl
  | succ n ih =>
   intro h
   rw[mr,aJ (by omega),y6,ih (by omega),sm,aK,aJ (show n<l.length by omega)]
   rfl
 have:=key l.length (bM _)
 rw[tu]at this
 exact this
theorem cI2{m:Bool × Nat}(hm:m∈aD)(f:Nat)(b:List Nat)(j:Nat):cf (b.map (gm m f)) j=gm m f (cf b j):=by
 unfold cf
 rw[aK,bP,aK]
 cases b[j]? with
 | none=>exact(gE m f (bW m hm)).symm
 | some x=>rfl
theorem IB{m:Bool × Nat}(hm:m∈aD){a b:Nat}(ha:a<aa m)(hb:b<aa m)(h0:b≠0):∃r,r<aa m/\gm m r b=a:=by
 by_cases a0:a=0
 ·exact⟨0,by have:=(cE hm).lo;omega,by rw[a0];exact eT m b (bW m hm)⟩
 ·obtain⟨r,_,h1,h2⟩:=VO hm (show 1<=a by omega) ha (show 1<=b by omega) hb
  exact⟨r,h1,h2⟩
end L3
namespace L3
open PySem L2 PySem.Spec PyProof.Rows
section
variable{X:Cx}{i j:Nat}{x y:Str}{p pos pos' apos cj:Pos}
end
section
variable{X:Cx}{e:Expr}{t:aY}{p pos:Pos}
end
section
variable{X:Cx}
theorem cm1(i:Int)(ns:List Int):tX (.int i) (ns.map V.int)=decide (i∈ns):=by
 unfold tX
 rw[RY,tf,FI,decide_eq_true_iff]
 exact⟨λ⟨x,hx,he⟩=>(show x=i by simpa[kA]using he) ▸ hx,λhx=>⟨i,hx,by simp[kA]⟩⟩
def pj:cP:=λx y Q=>match x,y with
 | .int i,.lst _ xs=>∃ns:List Int,xs=aL ns/\Q (.bl (!decide (i∈ns)))
 | _,_=>False
theorem VX:bS X (compareOp .NotIn) pj :=
 ⟨_,bJ3,λ{B F H σ δ ts x y v w Q Qd} c sx sy h k=>by
  unfold pj at h
  split at h
  ·rename_i i o xs
   obtain⟨ns,rfl,q⟩:=h
   obtain⟨p,ws,rfl,e1,s1⟩:=iY sy c.ext
   have e:=CQ s1
   subst e
   cases sx
   refine⟨p,_,rfl,.inl (bQ.of e1),rfl,by simp[mJ],?_⟩
   rw[if_pos rfl,cm1]
   exact k _ _ _ q (ah.refl _) (c.pushS (.bl .nil) rfl)
  ·exact h.elim⟩
end
end L3
namespace L3
open PySem L2 Mf
def aE(o:Bool)(T:List (List Nat)):List D:=T.map λr=>.lst o (aq r)
theorem i9(o:Bool)(T:List (List Nat)):(aE o T).length=T.length:=by unfold aE;rw[br]
theorem dj(o:Bool)(T:List (List Nat)):(aE o T).map D.sh=aE false T:=by
 unfold aE
 rw[bZ]
 exact nN λr _=>iG o r
theorem nq(T:List (List Nat)):(aE false T).all D.pl=true:=by
 unfold aE
 rw[mv,dv]
 intro r _
 show(D.lst false (aq r)).pl=true
 rw[fi,kI];rfl
theorem pk(T:List (List Nat)):(aE true T).all D.fr=true:=by
 unfold aE
 rw[mv,dv]
 intro r _
 exact gJ r
theorem sj(o:Bool)(S T:List (List Nat)):aE o S++aE o T=aE o (S++T):=by unfold aE;rw[gh]
theorem u4(o:Bool)(T:List (List Nat))(lo hi:Option Int):fj (aE o T) lo hi=aE o (fj T lo hi):=by
 unfold aE fj
 rw[br,RU,RQ]
theorem sk(o:Bool){T:List (List Nat)}{i:Nat}(h:i<T.length):eK (aE o T) (i:Int)=some (.lst o (aq T[i])):=by
 refine L3.HZ ?_
 unfold aE
 rw[bP,aJ h];rfl
theorem bY4(n:Nat)(o:Bool)(T:List (List Nat)):(aE o T).all (cX (n+1))=true:=by
 unfold aE
 rw[mv,dv]
 intro r _
 exact Ap _ _ _
theorem IC(n:Nat)(o o':Bool)(T:List (List Nat)):cX (n+2) (.lst o (aE o' T))=true:=bY4 n o' T
theorem VY(o o':Bool):∀(a b:List (List Nat)),bJ.fF (aE o a) (aE o' b)=decide (a=b)
 | [],[]=>rfl
 | [],_::_=>by simp[aE,bJ.fF]
 | _::_,[]=>by simp[aE,bJ.fF]
 | x::xs,y::ys=>by
  show(bJ (.lst o (aq x)) (.lst o' (aq y))&&bJ.fF (aE o xs) (aE o' ys))=_
  rw[VY o o' xs ys,u3,tf];simp
theorem VZ(o o' o1 o2:Bool)(a b:List (List Nat)):bJ (.lst o (aE o1 a)) (.lst o' (aE o2 b))=decide (a=b):=VY o1 o2 a b
open Classical in
theorem u5{α:Type}{sh:Bool}{xs:List D}{aH:List (Str × Nat)}{n:Nat}{g0:iV}{tt:fR}{te:aY}{av:Dl}{Q:D->Dl->Prop}(l:List α)(e g:α->D)(kp:α->Bool)(iD:xs.map D.sh=l.map e)(inj:∀a b,e a=e b->a=b)
  (hx:∀a∈l,g0 (e a) (fU aH n av) λbh=>tt bh λb iU=>b=kp a/\(kp a=true->te iU λd _=>d=g a)) (eZ:(sh&&aH.all (iA av))=true\/∀a∈l,kp a=true->(g a).fr=true) (hl:l.length<=sizeLine) (hq:Q (.lst true ((l.filter kp).map g)) av):vY sh xs aH n g0 tt te av Q:=by
 have pick:∀{β:Type} (h:α->β) (z:β),∃f:D->β,∀a∈l,f (e a)=h a:=λh z=>⟨λx=>if w:∃a∈l,e a=x then h w.choose else z,λa ha=>by
  have w:∃b∈l,e b=e a:=⟨a,ha,rfl⟩
  show(if w:∃b∈l,e b=e a then h w.choose else z)=h a
  rw[dif_pos w]
  exact congrArg h (inj _ _ w.choose_spec.2)⟩
 obtain⟨f,hf⟩:=pick g .ay
 obtain⟨p,hp⟩:=pick kp false
 refine⟨p,f,λx h=>?_,eZ.imp id λh x dZ=>?_,?_,?_⟩
 ·rw[iD]at h
  obtain⟨a,ha,rfl⟩:=bE.mp h
  rw[hp a ha,hf a ha]
  exact hx a ha
 ·rw[iD]at dZ
  obtain⟨a,ha,rfl⟩:=bE.mp dZ
  rw[hp a ha,hf a ha];exact h a ha
 ·have:=congrArg Fx iD
  simp at this
  omega
 ·rw[iD,R4,bZ,show l.filter (p ∘ e)=l.filter kp from R5 λa ha=>hp a ha,show(l.filter kp).map (f ∘ e)=(l.filter kp).map g from nN λa ha=>hf a (nE.mp ha).1]
  exact hq
theorem ID{o:Bool}{G:List (List Nat)}{i:Nat}{d:D}(h:(fk (aE o G))[i]?=some d):∃hi:i<G.length,d=.tup [.int i,.lst o (aq G[i])]:=by
 unfold fk aE at h
 rw[yT,bP]at h
 by_cases hi:i<G.length
 ·rw[aJ hi]at h
  exact⟨hi,(cT h).symm⟩
 ·rw[gU (by omega)]at h;cases h
theorem V0(r:List Nat):(fk (aq r)).map D.sh=(aZ r.length).map λ(i:Nat)=>D.tup [.int (i:Int),.int ((r.getD i 0:Nat):Int)]:=by
 apply FT
 intro i
 unfold fk
 rw[cw,bP,yT,bP,bP]
 by_cases hi:i<r.length
 ·have e:r.getD i 0=r[i]:=by rw[aK,aJ hi];rfl
  rw[aJ hi,kh hi]
  show _=some (D.tup [D.int (i:Int),D.int ((r.getD i 0:Nat):Int)])
  rw[e];rfl
 ·rw[gU (show r.length<=i by omega),gU (show(aZ r.length).length<=i by simpa using hi)];rfl
theorem V1{r:List Nat}(h:∃x∈r,x≠0):((aZ r.length).filter λi=>r.getD i 0 != 0)[0]?=some (r.findIdx (· != 0)):=by
 obtain⟨x,hx,h0⟩:=h
 have hl:r.findIdx (· != 0)<r.length:=FX ⟨x,hx,by simpa using h0⟩
 rw[<-List.head?_eq_getElem?,List.head?_filter,List.find?_range_eq_some]
 refine⟨?_,cS.mpr hl,λj hj=>?_⟩
 ·rw[aK,aJ hl]
  exact dd8 (w:=hl)
 ·have:=List.not_of_lt_findIdx hj
  rw[aK,aJ (by omega)]
  simpa using this
def ag(T:List (List Nat)):Nat:=(T.headD []).length
def j7(T:List (List Nat))(j:Nat):Option Nat:=T.findIdx? λr=>r.getD j 0 != 0
def gL(m:Bool × Nat)(T:List (List Nat))(l:List Nat)(j:Nat):List (List Nat):=T.map λr=>cZ (λx y=>bC m x (gm m (r.getD j 0) y)) r l
def nt(m:Bool × Nat)(b:Nat):Nat:=((aZ (aa m)).find? λr=>gm m r b==1).getD 0
theorem Ds{m:Bool × Nat}(hm:m∈aD){b r:Nat}(hr:r<aa m)(h:gm m r b=1):nt m b=r:=by
 have m0:=bW m hm
 unfold nt
 cases e:(aZ (aa m)).find? λr=>gm m r b==1 with
 | none =>
  have:=R6.mp e r (cS.mpr hr)
  simp[h]at this
 | some r' =>
  have h':gm m r' b=1:=by simpa using List.find?_some e
  have l':r'<aa m:=cS.mp (RP e)
  show r'=r
  rw[<-pf hr,<- h',<- hE m0,g9 m r r',hE m0,h,pf l']
def RT(N w:Nat)(T:List (List Nat)):Prop:=∀r∈T,r.length=w/\AllLt N r
theorem RT.app{N w:Nat}{S T:List (List Nat)}(a:RT N w S)(b:RT N w T):RT N w (S++T):=λr hr=>(bY.mp hr).elim (a r) (b r)
theorem V2{m:Bool × Nat}(hm:m∈aD){w j:Nat}{T:List (List Nat)}{l:List Nat}(h:RT (aa m) w T)(hl:l.length=w):RT (aa m) w (gL m T l j):=λr hr=>by
 obtain⟨r,h1,rfl⟩:=bE.mp hr
 obtain⟨a,b⟩:=h r h1
 exact⟨by rw[ik,a,hl,tD],Dq λx hx y hy=>(fG hm (b x hx) (cg hm _ y)).2.1⟩
def eD(m:Bool × Nat)(T:List (List Nat))(i p:Nat):List Nat:=(T.getD i []).map (gm m (nt m ((T.getD i []).getD p 0)))
def iH(m:Bool × Nat)(s:List (List Nat) × List (List Nat))(p:Nat):List (List Nat) × List (List Nat):=match j7 s.2 p with
 | none=>s
 | some i=>(gL m s.1 (eD m s.2 i p) p++[eD m s.2 i p],gL m (s.2.take i++s.2.drop (i+1)) (eD m s.2 i p) p)
def jc(m:Bool × Nat)(G:List (List Nat))(k:Nat):List (List Nat) × List (List Nat):=(aZ k).foldl (iH m) ([],G)
def cG(m:Bool × Nat)(G:List (List Nat)):List (List Nat):=(jc m G (ag G)).1
theorem IE(m:Bool × Nat)(G:List (List Nat))(k:Nat):jc m G (k+1)=iH m (jc m G k) k:=by
 unfold jc
 rw[FY,y6];rfl
theorem Dt{T:List (List Nat)}{j i:Nat}(h:j7 T j=some i):∃hi:i<T.length,T[i].getD j 0≠0/\T.getD i []=T[i]:=by
 obtain⟨hi,h1,_⟩:=dd9.mp h
 exact⟨hi,by simpa using h1,by rw[aK,aJ hi];rfl⟩
structure Av(N w n:Nat)(s:List (List Nat) × List (List Nat)):Prop where
 a:RT N w s.1
 b:RT N w s.2
 l:s.1.length+s.2.length<=n
theorem cm2{m:Bool × Nat}(hm:m∈aD){w n p:Nat}{s:List (List Nat) × List (List Nat)}(h:Av (aa m) w n s):Av (aa m) w n (iH m s p):=by
 unfold iH
 split
 ·exact h
 ·rename_i i e
  obtain⟨hi,h1,h2⟩:=Dt e
  have hl:(eD m s.2 i p).length=w:=by unfold eD;rw[br,h2];exact(h.b _ (cB hi)).1
  have hr:RT (aa m) w [eD m s.2 i p]:=λr hr=>by
   rw[dW]at hr
   refine⟨by rw[hr];exact hl,λx hx=>?_⟩
   rw[hr]at hx
   obtain⟨y,_,rfl⟩:=bE.mp hx
   exact cg hm _ _
  refine⟨(V2 hm h.a hl).app hr,V2 hm (λr hr=>h.b r ?_) hl,?_⟩
  ·rcases bY.mp hr with hr | hr
   ·exact qg hr
   ·exact qf hr
  ·have:=h.l
   unfold gL
   rw[dS,br,br,dS,ig,jk]
   show s.1.length+1+_<=n
   omega
theorem wD{m:Bool × Nat}(hm:m∈aD){w:Nat}{G:List (List Nat)}(h:RT (aa m) w G):∀k,Av (aa m) w G.length (jc m G k)
 | 0=>⟨(λr hr=>nomatch hr),h,BG (R3 _)⟩
 | k+1=>by rw[IE];exact cm2 hm (wD hm h k)
theorem IF(j:Nat)(l:List Nat):decide ((j:Int)∈l.map λ(n:Nat)=>(n:Int))=l.contains j:=by
 rw[tf,decide_eq_true_iff,BR,bE]
 exact⟨λ⟨a,h,e⟩=>(show a=j by omega) ▸ h,λh=>⟨j,h,rfl⟩⟩
theorem V3{o:Bool}{G:List (List Nat)}{f:List Nat->Nat}{k:Nat}{d:D}(h:(di (aq (G.map f)) (aE o G))[k]?=some d):∃hk:k<G.length,d=.tup [.int ((f G[k]:Nat):Int),.lst o (aq G[k])]:=by
 unfold di aE at h
 rw[cw,mx,bP,bP,bP]at h
 by_cases hk:k<G.length
 ·rw[aJ hk]at h
  exact⟨hk,(cT h).symm⟩
 ·rw[gU (by omega)]at h;cases h
theorem IG{α:Type}(a:α->Nat)(b:α->Nat):∀(l:List α) (x:List Nat),(l.foldl (λx z=>x.set (a z) (b z)) x).length=x.length
 | [],_=>rfl
 | z::l,x=>by rw[s8,IG a b l,nG]
theorem cg7(G:List (List Nat))(u:List Nat):(di (aE false G) (aq u)).map D.sh=(G.zip u).map λz=>D.tup [.lst false (aq z.1),.int ((z.2:Nat):Int)]:=by
 rw[CN,dj,m8]
 unfold di aE
 rw[cw,tF,mw,tE]
end L3
namespace L2
open PySem PySem.Spec PyProof.Rows
theorem bV7{M:Model}{A:Around}{E:Value->Shared->Prop}{s:Shared}{scope:Scope}{globals:Addr}{cl:List (Str × Addr)}{qual:Str}{env:Env}{bi:Addr}{Q:Env->Shared->Prop}
  (hQ:Q (newEnv scope s.heap.objs.size globals (cellsFrom (s.heap.objs.size+1) scope.names cl) qual none .none (some env) bi) { s with heap:=pushCells (s.heap.push { cls:=.type "dict",data:=.dict #[] }) scope.names }) :
  wpAny M A (newFunctionEnv scope globals cl [] qual none .none (some env) bi) Q E s:=by
 simp only[newFunctionEnv,Option.isSome_some,if_true]
 refine wpAny_bind (wpAny_alloc (wpAny_bind (wpAny_layCells _ (λname kind cells=>by cases e:kind==FZ<;>simp[e]) _ _ _ _ ?_)))
 rw[List.forIn_nil]
 refine wpAny_bind (wpAny_pure (wpAny_pure ?_))
 have z:({ s with heap:=s.heap.push { cls:=.type "dict",data:=.dict #[] } }:Shared).heap.objs.size=s.heap.objs.size+1:=vn ..
 rw[z]
 exact hQ
theorem Aw:∀(ns:List (Str × NameKind)) (n:Nat) (acc:List (Str × Addr)) (y:Str) (c:Addr),(cellsFrom n ns acc).lookup y=some c->(n<=c/\(y,FZ)∈ns)\/acc.lookup y=some c
 | [],_,_,_,_,h=>.inr h
 | (z,k)::r,n,acc,y,c,h=>by
  unfold cellsFrom at h
  split at h
  ·rename_i hk
   rcases Aw r (n+1) _ y c h with⟨h1,h2⟩ | h1
   ·exact .inl ⟨by omega,dY _ h2⟩
   ·rw[gG]at h1
    cases q:y==z with
    | true =>
     rw[q]at h1;cases h1
     exact .inl ⟨bM _,by rw[eq_of_beq q,eq_of_beq hk];exact fZ⟩
    | false=>rw[q]at h1;exact .inr h1
  ·rcases Aw r n acc y c h with⟨h1,h2⟩ | h1
   ·exact .inl ⟨h1,dY _ h2⟩
   ·exact .inr h1
theorem IH:∀(ns:List (Str × NameKind)) (n:Nat) (acc:List (Str × Addr)),(∀y z c,acc.lookup y=some c->acc.lookup z=some c->y=z)->(∀y c,acc.lookup y=some c->c<n) ->
  ∀y z c,(cellsFrom n ns acc).lookup y=some c->(cellsFrom n ns acc).lookup z=some c->y=z
 | [],_,_,i,_,y,z,c,h1,h2=>i y z c h1 h2
 | (u,k)::r,n,acc,i,b,y,z,c,h1,h2=>by
  unfold cellsFrom at h1 h2
  split at h1
  ·rw[if_pos (by assumption)]at h2
   refine IH r (n+1) ((u,n)::acc) (λy z c e1 e2=>?_) (λy c e=>?_) y z c h1 h2
   ·rw[gG]at e1 e2
    cases q1:y==u with
    | true =>
     rw[q1]at e1;cases e1
     cases q2:z==u with
     | true=>rw[eq_of_beq q1,eq_of_beq q2]
     | false=>rw[q2]at e2;exact absurd (b _ _ e2) (fM _)
    | false =>
     rw[q1]at e1
     cases q2:z==u with
     | true=>rw[q2]at e2;cases e2;exact absurd (b _ _ e1) (fM _)
     | false=>rw[q2]at e2;exact i y z c e1 e2
   ·rw[gG]at e
    cases q:y==u with
    | true=>rw[q]at e;cases e;exact BH _
    | false=>rw[q]at e;exact RW (b _ _ e)
  ·rw[if_neg (by assumption)]at h2
   exact IH r n acc i b y z c h1 h2
theorem II:∀(ns:List (Str × NameKind)) (n:Nat) (acc:List (Str × Addr)) (y:Str) (c:Addr),(y,FZ)∈ns->(cellsFrom n ns acc).lookup y=some c->n<=c
 | [],_,_,_,_,m,_=>nomatch m
 | (z,k)::r,n,acc,y,c,m,h=>by
  unfold cellsFrom at h
  split at h
  ·rename_i hk
   rcases cA.mp m with e | m
   ·have e1:y=z:=(Prod.mk.inj e).1
    rcases Aw r (n+1) _ y c h with⟨h1,_⟩ | h1
    ·exact BS h1
    ·rw[gG,e1,beq_self_eq_true]at h1
     exact BG (cT h1)
   ·exact BS (II r (n+1) _ y c m h)
  ·rename_i hk
   rcases cA.mp m with e | m
   ·cases e;exact absurd rfl hk
   ·exact II r n acc y c m h
def eE(X:Cx)(scope:Scope)(N:List Str)(cl:List (Str × Addr))(C:Addr)(s:Shared)(H:Hp)(fp:List Addr):Cx :=
 { Co X scope N (cellsFrom (C+1) scope.names cl) C s H fp with fn:=λy=>scope.names.contains (y,FZ) }
section
variable{X:Cx}{scope:Scope}{cl:List (Str × Addr)}
theorem cn4{pins:List (Addr × Obj)}{σ:St}{H:Hp}{s:Shared}{fp:List Addr}{C:Addr}(I:Inv X pins σ H s)(jw:scope.kind=.function)(hC:s.heap.objs.size<=C)
  (gw:∀y c,cl.lookup y=some c->X.env.cells.lookup y=some c) (dT4:∀y,((relabel scope X.env).names.lookup y=some .cell\/(relabel scope X.env).names.lookup y=some .free)->∃c,(cellsFrom (C+1) scope.names cl).lookup y=some c)
  (hf:∀b∈fp,jq X pins H b) (ho:∀b∈fp,∃o,s.heap.get? b=some o/\∀v,o.data≠.cell v) (N:List Str):(eE X scope N cl C s H fp).Ok where
 mod:=I.ok.mod
 kind:=jw
 glob:=I.ok.glob
 blt:=I.ok.blt
 above:=hC
 inj:=IH scope.names (C+1) cl (λy z c h1 h2=>I.ok.inj y z c (gw _ _ h1) (gw _ _ h2)) λy c e=>by
  obtain⟨v,o,ho,_⟩:=I.cell y c (gw y c e)
  exact Nat.lt_succ_of_le (BC (dA (bU ho) hC))
 has:=dT4
 tM:=λy c h e=>eG hC (BS (II _ _ _ y c (BR.mp h) e))
 hd:=I.ok.hd
 frames:=I.ok.frames
 za:=.inl rfl
 zb:=λb hb=>⟨by
  obtain⟨o,e,_⟩:=ho b hb
  exact ft (dA (bU e) hC),λy c e z=>by
  rcases Aw _ _ _ y c e with⟨h1,_⟩ | h1
  ·obtain⟨o,e,_⟩:=ho b hb
   rw[z]at h1
   exact absurd (dA (bU e) (eG hC (BS h1))) (fM _)
  ·exact(hf b hb).2.2.2.2.1 y c (gw _ _ h1) z⟩
 bs:=I.bs
 km:=eG I.ok.km I.sz
 vG:=λb o e hb=>by
  rcases(hf b hb).2.2.2.1 with z | z
  ·exact I.ok.vG b o e z
  ·exact absurd (dA (bU (I.ok.bs b o e).1) z) (fM _)
 vH:=λb hb z=>(cA.mp (I.B0 b z)).elim (hf b hb).2.1 (hf b hb).2.2.1
 gW:=I.stack
 kq:=I.Gj
end
theorem IJ:∀(ns:List (Str × NameKind)) (h:Heap) (acc:List (Str × Addr)) (y:Str) (c:Addr),(cellsFrom h.objs.size ns acc).lookup y=some c->(∃o,(pushCells h ns).get? c=some o/\o.data=.cell none)\/acc.lookup y=some c
 | [],_,_,_,_,e=>.inr e
 | (z,k)::r,h,acc,y,c,e=>by
  unfold cellsFrom at e
  unfold pushCells
  split at e
  ·rename_i hk
   rw[if_pos hk]
   rw[<-vn h { cls:=.type "cell",data:=.cell none }]at e
   rcases IJ r _ _ y c e with h1 | h1
   ·exact .inl h1
   ·rw[gG]at h1
    cases q:y==z with
    | true =>
     rw[q]at h1;cases h1
     exact .inl ⟨_,pushCells_keeps _ _ _ _ (gQ _ rfl),rfl⟩
    | false=>rw[q]at h1;exact .inr h1
  ·rename_i hk
   rw[if_neg hk]
   exact IJ r h acc y c e
end L2
namespace L2
open PySem PySem.Spec PyProof.Rows
section
variable{X:Cx}{elt iter tg:Expr}{pos:Pos}{ifs:List Expr}{scope:Scope}{cl:List (Str × Addr)}{wi:TI}{tt:TT}{te:TE}{g:TG}
theorem V4(aH:List (Str × Nat))(bX:List Str)(hc:X.calm=true)(hi:PI X tg iter wi)
  (hg:∀C s H fp,PG (eE X scope (aH.map (·.1)++bX) cl C s H fp) tg g)
  (ht:∀C s H fp,n5 (eE X scope (aH.map (·.1)++bX) cl C s H fp) ifs tt) (he:∀C s H fp,PE (eE X scope (aH.map (·.1)++bX) cl C s H fp) elt te)
  (pq:closureFor scope X.env=pure cl) (pz:n6 X cl) (pB:∀C:Addr,n8 (cellsFrom (C+1) scope.names cl) (relabel scope X.env).names) (pE:∀C:Addr,nZ X scope (cellsFrom (C+1) scope.names cl) aH)
  (jw:scope.kind=.function) (pF:∀y∈scope.names,y.2=.local->scope.names.lookup y.1=some .local)
  (hs:∀x,foldedSetIterable iter X.env x=pure x:=by intro _;rfl) {pins:List (Addr × Obj)} {s:Shared} {σ:L2.St} {H:Hp} {Q:VK} {use:Option (Value->Sem Unit)} {cj:Pos} {Rf:Value->Shared->Prop} (I:Inv X pins σ H s) (h:Cp wi aH bX.length g tt te σ H Q)
  (dT5:∀(s':Shared) (H':Hp) (C Da:Addr) (m:Str->Option Value),Inv X pins σ H' s'->s'.heap.Ns C m->H' C=none->C≠X.env.locals->X.cV.heap.objs.size<=C->(∀x c,X.env.cells.lookup x=some c->c≠C)->(∀p∈X.pn++pins,p.1≠C)->C ∉ X.fs->Q (.ref Da) H' ->
   compPost (model X.prog X.w) X.A X.xe use Rf (.ref Da) C (.ok .next) s') :
  wpAny (model X.prog X.w) X.A (comprehension (.ListComp elt [⟨tg,iter,ifs,0⟩] scope pos) scope X.env cj (newList []) false (eval iter X.env) use) Rf X.xe s:=by
 have gw:=pz.all
 refine wpAny_comprehension_free (use:=use) rfl hs pq jw pF (bc (hi pins s σ H _ I h) λv s1 h1=>bc h1 λGB s2 h2=>?_)
 obtain⟨it,fp,tn,J,H2,e,I2,T,zr,f2,q⟩:=h2
 subst e
 refine wpAny_newList ?_
 refine bV7 ?_
 have hD:H2 s2.heap.objs.size=none:=I2.aO.fresh (bM _)
 obtain⟨W,⟨m0,w0⟩,turn⟩:=q s2.heap.objs.size hD
 generalize IK:s2.heap.push { cls:=.type "list",data:=.seq ([]:List Value).toArray }=g0 at ⊢
 have hCs:g0.objs.size=s2.heap.objs.size+1:=by rw[<-IK,vn]
 have hDC:s2.heap.objs.size≠g0.objs.size:=by omega
 have hle:s2.heap.objs.size<=g0.objs.size:=by omega
 have vI:∀b o,s2.heap.get? b=some o->b≠g0.objs.size:=λb o e=>ft (dA (bU e) hle)
 obtain⟨g1,Du⟩:∃g1,g1=pushCells (g0.push { cls:=.type "dict",data:=.dict #[] }) scope.names:=⟨_,rfl⟩
 have ns1:g1.Ns g0.objs.size (λ_=>none):=by rw[Du];exact(Heap.Ns.new g0 (.type "dict")).keeps (pushCells_keeps _ _)
 have V5:∀b o,g0.get? b=some o->g1.get? b=some o:=λb o e=>by rw[Du];exact pushCells_keeps _ _ b o (fN _ e)
 have old:∀b o,s2.heap.get? b=some o->g1.get? b=some o:=λb o e=>V5 b o (IK ▸ fN _ e)
 rw[<-Du]
 have hDg:g1.get? s2.heap.objs.size=some { cls:=.type "list",data:=.seq ([]:List Value).toArray }:=V5 _ _ (IK ▸ gQ _ rfl)
 have V6:∀b∈fp,∃o,s2.heap.get? b=some o/\∀v,o.data≠.cell v:=T.obj _ _ zr
 have Dv:=cn4 (scope:=scope) (cl:=cl) (C:=g0.objs.size) I2 jw hle gw (pB g0.objs.size).all f2 V6 (aH.map (·.1)++bX)
 have I4:Inv (eE X scope (aH.map (·.1)++bX) cl g0.objs.size s2 H2 fp) [] (ix aH bX.length σ) (upd H2 s2.heap.objs.size (.lst [])) { s2 with heap:=g1 }:=by
  refine⟨Dv,rfl,I2.bare,Un.laid old (bM _) hD,⟨_,ns1,λi y v h1 h2 h3=>?_⟩,λy c e=>?_,?_,λy c e=>?_,λp hp=>absurd hp (by simp[eE,Co]),I2.aO.laid old (bM _) ⟨jL _,[],0,.nil,hDg⟩,by simp[ix,eE,Co]⟩
  ·by_cases IL:i<aH.length
   case neg =>
    have jQ:((aH.map λp=>(σ[p.2]?).getD none)++bF bX.length none)[i]?=some (some v):=h2
    rw[sV (by simpa using IL),BI]at jQ
    split at jQ<;>cases jQ
   case pos =>
    have kB:(aH.map (·.1))[i]?=some y:=by
     have z:(aH.map (·.1)++bX)[i]?=some y:=h1
     rwa [sW (by simpa using IL)]at z
    have jQ:(aH.map λp=>(σ[p.2]?).getD none)[i]?=some (some v):=by
     have z:((aH.map λp=>(σ[p.2]?).getD none)++bF bX.length none)[i]?=some (some v):=h2
     rwa [sW (by simpa using IL)]at z
    rw[bP]at kB jQ
    cases hj:aH[i]? with
    | none=>rw[hj]at kB;cases kB
    | some p =>
     rw[hj]at kB jQ
     have ey:p.1=y:=cT kB
     have ev:(σ[p.2]?).getD none=some v:=cT jQ
     obtain⟨hN,hk,Az,c,e1,e2⟩:=(pE g0.objs.size).at p (vo hj)
     obtain⟨m,hn,hl⟩:=I2.loc
     have es:σ[p.2]?=some (some v):=by
      cases z:σ[p.2]? with
      | none=>rw[z]at ev;cases ev
      | some o=>rw[z]at ev;exact congrArg some ev
     obtain⟨u,ru,lk⟩:=hl p.2 p.1 v hN es (hk.elim (λz=>.inr (.inl z)) λz=>.inr (.inr z))
     refine⟨u,ru,?_⟩
     rcases lk with⟨lk,_⟩ | ⟨_,c',e3,ic⟩
     ·rcases hk with hk | hk
      ·have:=hk.symm.trans lk;cases this
      ·have:=hk.symm.trans lk;cases this
     ·rw[e2]at e3
      cases e3
      subst ey
      obtain⟨oc,jo,Ih⟩:=ic
      exact .inr ⟨Az,c,e1,oc,old _ _ jo,Ih⟩
  ·rcases IJ _ _ _ y c (show(cellsFrom (g0.push { cls:=.type "dict",data:=.dict #[] }).objs.size scope.names cl).lookup y=some c by rw[vn];exact e)with h1 | h1
   ·rw[<-Du]at h1
    exact⟨none,h1⟩
   ·obtain⟨v,o,ho,hd⟩:=I2.cell y c (gw y c h1)
    exact⟨v,o,old _ _ ho,hd⟩
  ·show upd H2 _ _ g0.objs.size=none
   rw[bx (fA hDC)]
   exact I2.aO.fresh hle
  ·rcases Aw _ _ _ y c e with⟨h1,_⟩ | h1
   ·rw[bx (RA (nL hle h1))]
    exact I2.aO.fresh (eG hle (BS h1))
   ·obtain⟨v,o,ho,hd⟩:=I2.cell y c (gw y c h1)
    rw[bx (ft (bU ho))]
    exact I2.jO y c (gw y c h1)
 have fin:∀(s':Shared) (H':Hp) (aN:L2.St),Inv (eE X scope (aH.map (·.1)++bX) cl g0.objs.size s2 H2 fp) [] aN H' s'->Q (.ref s2.heap.objs.size) H' ->
   compPost (model X.prog X.w) X.A X.xe use Rf (.ref s2.heap.objs.size) g0.objs.size (.ok .next) s':=by
  intro s' H' aN I' q'
  obtain⟨m,hn,_⟩:=I'.loc
  have u:=I'.base
  have hC':H' g0.objs.size=none:=I'.free
  have IX:Inv X pins σ H' s':=I2.dg9 (s':=s') (ch:=fp) I'.os ⟨u.keep,u.slot,u.free,u.there,u.kj,u.jN,u.iM⟩ I'.aO I'.bare λb hb=>by
   obtain⟨_,y1,y2,y3,y4,y5⟩:=f2 b hb
   exact⟨y3,y1,y4,y5⟩
  have V7:∀b,(∃o,s2.heap.get? b=some o)->b≠g0.objs.size:=λb ⟨o,e⟩=>vI b o e
  refine dT5 s' H' g0.objs.size s2.heap.objs.size m IX hn hC' (λz=>?_) (eG I2.sz hle) (λx c e z=>?_) (λp hp z=>?_) (λz=>?_) q'
  ·have h0:X.env.locals<s2.heap.objs.size:=I2.lt
   rw[<-z]at h0
   exact fM _ (dA h0 hle)
  ·obtain⟨v,o,ho,_⟩:=I2.cell x c e
   exact V7 c ⟨o,ho⟩ z
  ·exact V7 p.1 ⟨_,(I2.pin p hp).1⟩ z
  ·exact I2.Sj hle z
 have IM:∀(H':Hp),(∀b∈fp,H' b=none)->∀b∈fp,jq (eE X scope (aH.map (·.1)++bX) cl g0.objs.size s2 H2 fp) [] H' b:=λH' hn b hb =>
  ⟨hn b hb,(Dv.zb b hb).1,Dv.vH b hb,.inl hb,(Dv.zb b hb).2,λp hp=>absurd hp (by simp[eE,Co])⟩
 have loop:codeAny (model X.prog X.w) X.A (.compLoop (.ListComp elt [⟨tg,iter,ifs,0⟩] scope pos) 0 (.ref it) (.ref s2.heap.objs.size) (compEnvC scope (cellsFrom (g0.objs.size+1) scope.names cl) g0.objs.size X.env))
   (compPost (model X.prog X.w) X.A X.xe use Rf (.ref s2.heap.objs.size) g0.objs.size) { s2 with heap:=g1 }:=by
  refine bL3 (λn s'=>∃i acc H',Inv (eE X scope (aH.map (·.1)++bX) cl g0.objs.size s2 H2 fp) [] (ix aH bX.length σ) H' s'/\tn i s'.heap/\(∀b∈fp,H' b=none)/\W i n acc H') ?_ m0
   ⟨0,[],_,I4,T.keep _ _ _ zr λb hb o e=>old b o e,λb hb=>?_,w0⟩
  ·rintro n s' ⟨i,acc,H',I',qp,C5,w'⟩
   obtain⟨Hx,⟨stop,qn⟩ | ⟨go,step⟩⟩:=turn i n acc H' w'
   ·refine bc (T.done (eE X scope (aH.map (·.1)++bX) cl g0.objs.size s2 H2 fp) rfl rfl rfl hc i [] s' _ H' (λ_ _=>False) I' (IM H' C5) qp stop) λr t1 zz=>?_
    obtain⟨hr,I1⟩:=zz
    subst hr
    exact fin _ _ _ I1 qn
   ·refine bc (T.item (eE X scope (aH.map (·.1)++bX) cl g0.objs.size s2 H2 fp) rfl rfl rfl hc i [] s' _ H' (λ_ _=>False) I' (IM H' C5) qp go) λr t1 zz=>?_
    obtain⟨u,hr,h4⟩:=zz
    subst hr
    refine bc h4 λ_ t2 zz=>?_
    obtain⟨x5,H5,I5,r5,y5,tQ,GF⟩:=zz
    obtain⟨CC,st6⟩:=step x5 H5 y5
    have GG:=I5.pinned (IM H5 GF) (T.obj _ _ tQ)
    refine bc (hg _ _ _ _ _ t2 _ H5 x5 u _ GG r5 st6) λ_ t3 zz=>?_
    obtain⟨GH,H6,I6,⟨dU1,dU2⟩,st7⟩:=zz
    have back:∀(s7:Shared) (H7:Hp) (IQ:List V) (m7:Nat),Inv (eE X scope (aH.map (·.1)++bX) cl g0.objs.size s2 H2 fp) ([]++zk fp t2.heap) GH H7 s7->W (i+1) m7 IQ H7 ->
      ∃i acc H',Inv (eE X scope (aH.map (·.1)++bX) cl g0.objs.size s2 H2 fp) [] (ix aH bX.length σ) H' s7/\tn i s7.heap/\(∀b∈fp,H' b=none)/\W i m7 acc H':=λs7 H7 IQ m7 I7 w7 =>
     ⟨i+1,IQ,H7,(I7.zo).weak dU1.symm λj v z=>by
       by_cases hj:j<aH.length
       ·rw[dU2 j hj];exact z
       ·have z':((aH.map λp=>(σ[p.2]?).getD none)++bF bX.length none)[j]?=some (some v):=z
        rw[sV (by simpa using hj),BI]at z'
        split at z'<;>(cases z'),
      T.keep _ _ _ tQ λb hb o e=>(I7.pin (b,o) (fc _ (fc _ (Cd hb e)))).1,λb hb=>by
       obtain⟨o,e,d⟩:=T.obj _ _ tQ b hb
       exact(I7.pin (b,o) (fc _ (fc _ (Cd hb e)))).2.1,w7⟩
    refine bc (ht _ _ _ _ _ t3 _ H6 _ I6 st7) λok t4 zz=>?_
    obtain⟨H7,I7,hD7,q7⟩:=zz
    cases ok with
    | false =>
     obtain⟨m',hm,w7⟩:=(show ∃m',m'<n/\W (i+1) m' acc H7 from q7)
     exact⟨m',hm,back t4 H7 acc m' I7 w7⟩
    | true =>
     refine bc (he _ _ _ _ _ t4 _ H7 _ I7 q7) λy t5 zz=>?_
     obtain⟨v8,H8,I8,r8,hD8,hl8,m',hm,w8⟩:=zz
     exact bc (Tc _ t5 _ H8 (.ref s2.heap.objs.size) [v8] (.ref s2.heap.objs.size) [y] (λ_ H9=>H9=upd H8 s2.heap.objs.size (.lst (acc++[v8]))) I8 rfl (.cons r8 .nil) ⟨_,acc,v8,rfl,rfl,hD8,hl8,rfl⟩) λ_ t6 zz=>by
      obtain⟨_,H9,I9,_,e9⟩:=zz
      subst e9
      exact⟨m',hm,back t6 _ _ m' I9 w8⟩
  ·obtain⟨o,e,_⟩:=V6 b hb
   rw[bx (ft (bU e))]
   exact(f2 b hb).1
 exact codeAny_compStart_list loop (T.self _ 0 _ _ _ (T.keep _ _ _ zr λb hb o e=>old b o e) loop)
theorem ck3(aH:List (Str × Nat))(bX:List Str)(hc:X.calm=true)(hi:PI X tg iter wi)
  (hg:∀C s H fp,PG (eE X scope (aH.map (·.1)++bX) cl C s H fp) tg g)
  (ht:∀C s H fp,n5 (eE X scope (aH.map (·.1)++bX) cl C s H fp) ifs tt) (he:∀C s H fp,PE (eE X scope (aH.map (·.1)++bX) cl C s H fp) elt te)
  (pq:closureFor scope X.env=pure cl) (pz:n6 X cl) (pB:∀C:Addr,n8 (cellsFrom (C+1) scope.names cl) (relabel scope X.env).names) (pE:∀C:Addr,nZ X scope (cellsFrom (C+1) scope.names cl) aH)
  (jw:scope.kind=.function) (pF:∀y∈scope.names,y.2=.local->scope.names.lookup y.1=some .local)
  (hs:∀x,foldedSetIterable iter X.env x=pure x:=by intro _;rfl):PE X (.ListComp elt [⟨tg,iter,ifs,0⟩] scope pos) (Cp wi aH bX.length g tt te):=by
 intro pins s σ H Q I h
 rw[eval_ListComp]
 refine V4 aH bX hc hi hg ht he pq pz pB pE jw pF hs I h λs' H' C Da m IX hn hC hL h1 h2 h3 h4 q'=>?_
 exact⟨m,hn,λh' sb=>⟨.ref Da,H',IX.turned (t':=s'.toks) (λb o hb e=>sb.extBut b o hb e) hC hL (.inr h1) h2 h3,rfl,q'⟩⟩
theorem ck8{i:Nat}{x:Str}{pos' apos:Pos}(hN:X.N.Nodup)(rK:X.N[i]?=some x)(hx:Loc X.env.scope x)(hf:X.fn x=true\/X.env.scope.names.lookup x=some .local)(aH:List (Str × Nat))(bX:List Str)(hc:X.calm=true)(hi:PI X tg iter wi)
  (hg:∀C s H fp,PG (eE X scope (aH.map (·.1)++bX) cl C s H fp) tg g)
  (ht:∀C s H fp,n5 (eE X scope (aH.map (·.1)++bX) cl C s H fp) ifs tt) (he:∀C s H fp,PE (eE X scope (aH.map (·.1)++bX) cl C s H fp) elt te)
  (pq:closureFor scope X.env=pure cl) (pz:n6 X cl) (pB:∀C:Addr,n8 (cellsFrom (C+1) scope.names cl) (relabel scope X.env).names) (pE:∀C:Addr,nZ X scope (cellsFrom (C+1) scope.names cl) aH)
  (jw:scope.kind=.function) (pF:∀y∈scope.names,y.2=.local->scope.names.lookup y.1=some .local)
  (ui:swapsWith (.ListComp elt [⟨tg,iter,ifs,0⟩] scope pos) (some (.Name x pos')) apos.line X.env=pure true) (hs:∀x,foldedSetIterable iter X.env x=pure x:=by intro _;rfl):PS X (.Assign [.Name x pos'] (.ListComp elt [⟨tg,iter,ifs,0⟩] scope pos) apos) (GA (Cp wi aH bX.length g tt te) (Ca i)):=by
 intro pins s σ H D I h
 rw[exec_Assign_Name_used x pos' _ apos ui]
 refine wpAny_bind (wpAny_standAt (wpAny_bind ?_))
 have hh:Cp wi aH bX.length g tt te σ H λv H1=>D.nx (σ.set i (some v)) H1:=h
 show wpAny _ _ (comprehension (.ListComp elt [⟨tg,iter,ifs,0⟩] scope pos) scope X.env (firstIterPos [⟨tg,iter,ifs,0⟩] pos) (newList []) false (eval iter X.env) (some (assign (.Name x pos') X.env)) >>= λ_=>pure ()) _ _ _
 refine wpAny_bind (V4 (use:=some (assign (.Name x pos') X.env)) (pos:=pos) aH bX hc hi hg ht he pq pz pB pE jw pF hs I hh λs' H' C Da m IX hn hC hL h1 h2 h3 h4 q'=>?_)
 obtain⟨oC,es,ep,hoC,V8,rest⟩:=id hn
 have IP:Inv X (pins++[(C,oC)]) σ H' s':=⟨IX.ok,IX.os,IX.bare,IX.base,IX.loc,IX.cell,IX.free,IX.jO,λp hp=>by
  rcases bY.mp hp with z | z
  ·exact IX.pin p (gP _ z)
  ·rcases bY.mp z with z | z
   ·exact IX.pin p (fc _ z)
   ·obtain rfl:=dW.mp z
    exact⟨hoC,hC,hL,h4,λv w=>by rw[V8]at w;cases w⟩,IX.aO,IX.len⟩
 refine bc (Cb (X:=X) hN rK hx hf _ s' σ H' (.ref Da) (.ref Da) (λmF H2=>mF=σ.set i (some (.ref Da))/\H2=H') IP rfl ⟨rfl,rfl⟩) λ_ s2 zz=>?_
 obtain⟨mF,H2,I2,e1,e2⟩:=zz
 subst e1 e2
 have pC:=I2.pin (C,oC) (fc _ (fc _ (by simp)))
 refine⟨m,⟨oC,es,ep,pC.1,V8,rest⟩,λh' sb=>wpAny_pure (wpAny_pure ?_)⟩
 exact⟨σ.set i (some (.ref Da)),H2,(I2.zo).turned (t':=s2.toks) (λb o hb e=>sb.extBut b o hb e) hC hL (.inr h1) h2 h3,q'⟩
end
end L2
namespace L3
open PySem L2 PySem.Spec PyProof.Rows
section
variable{X:Cx}{elt iter tg:Expr}{pos:Pos}{ifs:List Expr}{scope:Scope}{cl:List (Str × Addr)}{ti:jV}{tt:fR}{te:aY}{g:iV}
theorem du(aH:List (Str × Nat))(bX:List Str)(hc:X.calm=true)(hi:PI X tg iter (lI ti))
  (hg:∀C s H fp,PG (eE X scope (aH.map (·.1)++bX) cl C s H fp) tg (lG aH.length g))
  (ht:∀C s H fp,n5 (eE X scope (aH.map (·.1)++bX) cl C s H fp) ifs (lT tt)) (he:∀C s H fp,PE (eE X scope (aH.map (·.1)++bX) cl C s H fp) elt (lE te))
  (pq:closureFor scope X.env=pure cl) (pz:n6 X cl) (pB:∀C:Addr,n8 (cellsFrom (C+1) scope.names cl) (relabel scope X.env).names) (pE:∀C:Addr,nZ X scope (cellsFrom (C+1) scope.names cl) aH)
  (jw:scope.kind=.function) (pF:∀y∈scope.names,y.2=.local->scope.names.lookup y.1=some .local)
  (hs:∀x,foldedSetIterable iter X.env x=pure x:=by intro _;rfl):PE X (.ListComp elt [⟨tg,iter,ifs,0⟩] scope pos) (lE (mW ti aH bX.length g tt te)) :=
 dN (ck3 aH bX hc hi hg ht he pq pz pB pE jw pF hs) λσ H Q ⟨B,F,δ,ts,Qd,c,q,k⟩=>⟨B,F,δ,ts,_,c,q,λsh xs av J F1 H1 hq f1 h1 c1 ub zX=>by
  obtain⟨p,f,hx,eZ,hlen,hQ⟩:=hq
  exact Uk c1 ub zX p f hx eZ hlen hQ λd ak v F' H' hd hf hs c'=>k d ak v F' H' hd (f1.trans hf) (h1.trans hs) c'⟩
theorem wF{i:Nat}{x:Str}{pos' apos:Pos}(hN:X.N.Nodup)(rK:X.N[i]?=some x)(hx:L2.Loc X.env.scope x)(aH:List (Str × Nat))(bX:List Str)(hc:X.calm=true)(hi:PI X tg iter (lI ti))
  (hg:∀C s H fp,PG (eE X scope (aH.map (·.1)++bX) cl C s H fp) tg (lG aH.length g))
  (ht:∀C s H fp,n5 (eE X scope (aH.map (·.1)++bX) cl C s H fp) ifs (lT tt)) (he:∀C s H fp,PE (eE X scope (aH.map (·.1)++bX) cl C s H fp) elt (lE te))
  (pq:closureFor scope X.env=pure cl) (pz:n6 X cl) (pB:∀C:Addr,n8 (cellsFrom (C+1) scope.names cl) (relabel scope X.env).names) (pE:∀C:Addr,nZ X scope (cellsFrom (C+1) scope.names cl) aH)
  (jw:scope.kind=.function) (pF:∀y∈scope.names,y.2=.local->scope.names.lookup y.1=some .local)
  (ui:swapsWith (.ListComp elt [⟨tg,iter,ifs,0⟩] scope pos) (some (.Name x pos')) apos.line X.env=pure true:=by rfl) (hf:X.fn x=true\/X.env.scope.names.lookup x=some .local:=by first | exact .inl rfl | exact .inr rfl)
  (hs:∀x,foldedSetIterable iter X.env x=pure x:=by intro _;rfl):PS X (.Assign [.Name x pos'] (.ListComp elt [⟨tg,iter,ifs,0⟩] scope pos) apos) (lS X (mV i (mW ti aH bX.length g tt te))) :=
 mP (ck8 hN rK hx hf aH bX hc hi hg ht he pq pz pB pE jw pF ui hs) λEn σ H ⟨B,F,δ,Dd,c,q,k1,k2,k3,k4⟩=>⟨B,F,δ,[],_,c,q,λsh xs av J F1 H1 hq f1 h1 c1 ub zX=>by
  obtain⟨p,f,hx,eZ,hlen,hQ⟩:=hq
  exact Uk (Qd:=λd ak=>Dd.nx (ak.set i (some d))) c1 ub zX p f hx eZ hlen hQ λd ak v F' H' hd hf hs c'=>k1 _ _ F' H' hd (c'.store i)⟩
end
end L3
namespace L3
open PySem L2 Mf
theorem lo1{m:Bool × Nat}(hm:m∈aD):1<aa m:=by have:=(cE hm).lo;omega
inductive Sp(N:Nat)(p q:Nat->Nat->Nat)(S:(Nat->Nat)->Prop):(Nat->Nat)->Prop
 | mem {f:Nat->Nat}:S f->Sp N p q S f
 | zero:Sp N p q S λ_=>0
 | add {f g:Nat->Nat}:Sp N p q S f->Sp N p q S g->Sp N p q S λk=>p (f k) (g k)
 | mul {f:Nat->Nat} (c:Nat):c<N->Sp N p q S f->Sp N p q S λk=>q c (f k)
theorem Sp.trans{N:Nat}{p q:Nat->Nat->Nat}{S S':(Nat->Nat)->Prop}(h:∀f,S f->Sp N p q S' f){f:Nat->Nat}(s:Sp N p q S f):Sp N p q S' f:=by
 induction s with
 | mem a=>exact h _ a
 | zero=>exact .zero
 | add _ _ a b=>exact .add a b
 | mul c hc _ a=>exact .mul c hc a
def Gn(T:List (List Nat))(f:Nat->Nat):Prop:=∃r∈T,f=cf r
def dz(m:Bool × Nat)(T:List (List Nat))(f:Nat->Nat):Prop:=Sp (aa m) (gp m) (gm m) (Gn T) f
theorem dz.of{m:Bool × Nat}{T:List (List Nat)}{r:List Nat}(h:r∈T):dz m T (cf r):=.mem ⟨r,h,rfl⟩
theorem ci6{m:Bool × Nat}(hm:m∈aD){a:Nat}(ha:a<aa m){f f' l:Nat->Nat}(IS:∀k,f' k<aa m)(hl:∀k,l k<aa m)(h:∀k,gp m (f' k) (gm m a (l k))=f k):∃b,b<aa m/\f'=λk=>gp m (f k) (gm m b (l k)):=by
 have r:=rg hm
 obtain⟨b,hb,e⟩:=r.ng ha
 refine⟨b,hb,funext λk=>?_⟩
 rw[<-h k,r.pa,r.mc a,r.mc b,<- r.dl,e,r.qz,r.z' (IS k)]
theorem IT{m:Bool × Nat}(hm:m∈aD){r l:List Nat}{w:Nat}(hr:r.length=w)(hl:l.length=w)(a k:Nat):cf (cZ (λx y=>bC m x (gm m a y)) r l) k=bC m (cf r k) (gm m a (cf l k)):=by
 by_cases h:k<w
 ·unfold cf
  rw[aK,mx,aJ (by omega),aJ (by omega),aK,aJ (by omega),aK,aJ (by omega)]
  rfl
 ·rw[si (by rw[ik];omega),si (l:=r) (by omega),si (l:=l) (by omega),gE m _ (bW m hm),As]
theorem Dw{m:Bool × Nat}(hm:m∈aD){r l:List Nat}{w a:Nat}(hr:r.length=w)(hl:l.length=w)(ar:AllLt (aa m) r)(k:Nat):gp m (cf (cZ (λx y=>bC m x (gm m a y)) r l) k) (gm m a (cf l k))=cf r k:=by
 rw[IT hm hr hl]
 exact(fG hm (cF hm ar k) (cg hm _ _)).2.2
theorem IU{m:Bool × Nat}(hm:m∈aD){r l:List Nat}{w:Nat}(hr:r.length=w)(hl:l.length=w)(ar:AllLt (aa m) r)(a k:Nat):cf (cZ (λx y=>bC m x (gm m a y)) r l) k<aa m:=by
 rw[IT hm hr hl]
 exact(fG hm (cF hm ar k) (cg hm _ _)).2.1
theorem V9{m:Bool × Nat}(hm:m∈aD){w p i:Nat}{T:List (List Nat)}(hT:RT (aa m) w T)(e:j7 T p=some i):∃(g:List Nat) (c:Nat),g∈T/\T.getD i []=g/\g.length=w/\AllLt (aa m) g/\c<aa m/\gm m c (cf g p)=1/\(eD m T i p).length=w/\AllLt (aa m) (eD m T i p)/\(∀k,cf (eD m T i p) k=gm m c (cf g k))/\cf (eD m T i p) p=1/\∀k,gm m (cf g p) (cf (eD m T i p) k)=cf g k:=by
 obtain⟨hi,h1,h2⟩:=Dt e
 obtain⟨a,b⟩:=hT _ (cB hi)
 have l1:1<aa m:=lo1 hm
 obtain⟨c,hc,Dx⟩:=IB hm l1 (cF hm b p) h1
 have ec:nt m (cf T[i] p)=c:=Ds hm hc Dx
 have el:eD m T i p=T[i].map (gm m c):=by unfold eD;rw[h2,<- ec];rfl
 have ek:∀k,cf (eD m T i p) k=gm m c (cf T[i] k):=λk=>by rw[el];exact cI2 hm _ _ _
 refine⟨T[i],c,cB hi,h2,a,b,hc,Dx,by rw[el,br,a],λx hx=>?_,ek,by rw[ek];exact Dx,λk=>?_⟩
 ·rw[el]at hx
  obtain⟨y,_,rfl⟩:=bE.mp hx
  exact cg hm _ _
 ·rw[ek,<- hE (bW m hm),g9 m _ c,Dx,lV (cF hm b k)]
theorem Wa{m:Bool × Nat}{s:List (List Nat) × List (List Nat)}{p i:Nat}(e:j7 s.2 p=some i):iH m s p=(gL m s.1 (eD m s.2 i p) p++[eD m s.2 i p],gL m (s.2.take i++s.2.drop (i+1)) (eD m s.2 i p) p):=by unfold iH;rw[e]
theorem Wb{m:Bool × Nat}{s:List (List Nat) × List (List Nat)}{p:Nat}(e:j7 s.2 p=none):iH m s p=s:=by unfold iH;rw[e]
theorem Dy{α:Type}{T:List α}{i:Nat}{r:α}(h:r∈T.take i++T.drop (i+1)):r∈T:=(bY.mp h).elim qg qf
theorem co7{α:Type}{T:List α}{i:Nat}{r:α}(h:r∈T)(hi:i<T.length):r=T[i]\/r∈T.take i++T.drop (i+1):=by
 obtain⟨j,hj,rfl⟩:=gx h
 rcases Nat.lt_trichotomy j i with h | h | h
 ·exact .inr (bY.mpr (.inl (List.mem_take_iff_getElem.mpr ⟨j,by omega,rfl⟩)))
 ·subst h;exact .inl rfl
 ·exact .inr (bY.mpr (.inr (List.mem_drop_iff_getElem.mpr ⟨j-(i+1),by omega,by congr 1;omega⟩)))
theorem bW7{m:Bool × Nat}(hm:m∈aD){w n p:Nat}{s:List (List Nat) × List (List Nat)}(h:Av (aa m) w n s)(f:Nat->Nat):dz m (s.1++s.2) f↔dz m ((iH m s p).1++(iH m s p).2) f:=by
 cases e:j7 s.2 p with
 | none=>rw[Wb e]
 | some i =>
  obtain⟨g,c,g1,g2,g3,g4,c1,c2,l1,l2,l3,l4,l5⟩:=V9 hm h.b e
  obtain⟨hi,_,hg⟩:=Dt e
  rw[Wa e]
  generalize eD m s.2 i p=l at l1 l2 l3 l4 l5
  have ll:=cF hm l2
  have row:∀{T:List (List Nat)},RT (aa m) w T->∀r'∈gL m T l p,∃r∈T,∃b,b<aa m/\cf r'=λk=>gp m (cf r k) (gm m b (cf l k)):=λ{T} hT r' bg=>by
   obtain⟨r,hr,rfl⟩:=bE.mp bg
   obtain⟨a1,a2⟩:=hT r hr
   exact⟨r,hr,ci6 hm (cF hm a2 p) (IU hm a1 l1 a2 _) ll (Dw hm a1 l1 a2)⟩
  have Wc:∀{T:List (List Nat)},RT (aa m) w T->∀r∈T,∃r'∈gL m T l p,cf r=λk=>gp m (cf r' k) (gm m (cf r p) (cf l k)):=λ{T} hT r hr=>by
   obtain⟨a1,a2⟩:=hT r hr
   exact⟨_,bE.mpr ⟨r,hr,rfl⟩,funext λk=>(Dw hm a1 l1 a2 k).symm⟩
  have hB:RT (aa m) w (s.2.take i++s.2.drop (i+1)):=λr hr=>h.b r (Dy hr)
  constructor
  ·refine Sp.trans ?_
   rintro f ⟨r,hr,rfl⟩
   have hl:dz m ((gL m s.1 l p++[l])++gL m (s.2.take i++s.2.drop (i+1)) l p) (cf l):=dz.of (by simp)
   rcases bY.mp hr with hr | hr
   ·obtain⟨r',h1,h2⟩:=Wc h.a r hr
    rw[h2]
    exact .add (dz.of (by simp[h1])) (.mul _ (cF hm (h.a r hr).2 p) hl)
   ·rcases co7 hr hi with e' | bg
    ·have:cf r=λk=>gm m (cf g p) (cf l k):=funext λk=>by rw[l5 k,e',<- hg,g2]
     rw[this]
     exact .mul _ (cF hm g4 p) hl
    ·obtain⟨r',h1,h2⟩:=Wc hB r bg
     rw[h2]
     exact .add (dz.of (by simp[h1])) (.mul _ (cF hm (h.b r hr).2 p) hl)
  ·refine Sp.trans ?_
   rintro f ⟨r,hr,rfl⟩
   have hl:dz m (s.1++s.2) (cf l):=by
    have:cf l=λk=>gm m c (cf g k):=funext l3
    rw[this]
    exact .mul _ c1 (dz.of (fc _ g1))
   rcases bY.mp hr with hr | hr
   ·rcases bY.mp hr with hr | hr
    ·obtain⟨r1,h1,b,hb,h2⟩:=row h.a r hr
     rw[h2]
     exact .add (dz.of (gP _ h1)) (.mul _ hb hl)
    ·rw[dW]at hr
     rw[hr];exact hl
   ·obtain⟨r1,h1,b,hb,h2⟩:=row hB r hr
    rw[h2]
    exact .add (dz.of (fc _ (Dy h1))) (.mul _ hb hl)
structure RR(w:Nat)(R:List (List Nat))(H:Nat->Nat):Prop where
 u:∀i j,i<R.length->j<R.length->cf (R.getD i []) (H j)=if i=j then 1 else 0
 z:∀i,i<R.length->∀t,t<H i->cf (R.getD i []) t=0
 i:∀i j,i<j->j<R.length->H i<H j
 l:∀i,i<R.length->H i<w
theorem wG{α β:Type}(f:α->β){l:List α}{i:Nat}(h:i<l.length)(a:α)(b:β):(l.map f).getD i b=f (l.getD i a):=by
 rw[aK,bP,aK,aJ h];rfl
theorem dJ{α:Type}{l:List α}{i:Nat}(h:i<l.length)(a:α):l.getD i a∈l:=by
 rw[aK,aJ h];exact cB h
theorem bN1{m:Bool × Nat}(hm:m∈aD){w n p:Nat}{s:List (List Nat) × List (List Nat)}(h:Av (aa m) w n s){H:Nat->Nat}(I:RR p s.1 H)(e2:∀r∈s.2,∀t,t<p->cf r t=0):∃H',RR (p+1) (iH m s p).1 H'/\∀r∈(iH m s p).2,∀t,t<p+1->cf r t=0:=by
 cases e:j7 s.2 p with
 | none =>
  rw[Wb e]
  refine⟨H,⟨I.u,I.z,I.i,λi hi=>RW (I.l i hi)⟩,λr hr t ht=>?_⟩
  rcases R7 t p with h1 | h1
  ·exact e2 r hr t h1
  ·have:=de0.mp e r hr
   have z:r.getD p 0=0:=by simpa using this
   rw[show t=p by omega]
   exact z
 | some i0 =>
  obtain⟨g,c,g1,g2,g3,g4,c1,c2,l1,l2,l3,l4,l5⟩:=V9 hm h.b e
  rw[Wa e]
  generalize eD m s.2 i0 p=l at l1 l2 l3 l4 l5
  have m0:=bW m hm
  have lz:∀t,t<p->cf l t=0:=λt ht=>by rw[l3,e2 g g1 t ht,gE m _ m0]
  have AA:∀{r:List Nat},r.length=w->AllLt (aa m) r->(∀t,t<p->cf (cZ (λx y=>bC m x (gm m (r.getD p 0) y)) r l) t=cf r t)/\cf (cZ (λx y=>bC m x (gm m (r.getD p 0) y)) r l) p=0:=λ{r} a1 a2=>by
   constructor
   ·intro t ht
    have:=Dw hm (a:=r.getD p 0) a1 l1 a2 t
    rw[lz t ht,gE m _ m0,r9 (IU hm a1 l1 a2 _ _)]at this
    exact this
   ·rw[IT hm a1 l1,l4]
    show bC m (r.getD p 0) (gm m (r.getD p 0) 1)=0
    rw[pf (show r.getD p 0<aa m from cF hm a2 p),As]
  have nl:(gL m s.1 l p).length=s.1.length:=by unfold gL;rw[br]
  have Wd:∀i,i<s.1.length->∃r,s.1.getD i []=r/\r.length=w/\AllLt (aa m) r/\(gL m s.1 l p++[l]).getD i []=cZ (λx y=>bC m x (gm m (r.getD p 0) y)) r l:=λi hi=>by
   refine⟨_,rfl,(h.a _ (dJ hi [])).1,(h.a _ (dJ hi [])).2,?_⟩
   rw[aK,sW (by omega),<- aK]
   exact wG _ hi [] []
  have We:(gL m s.1 l p++[l]).getD s.1.length []=l:=by
   rw[aK,sV (by omega),nl,Ga];rfl
  have le:(gL m s.1 l p++[l]).length=s.1.length+1:=by rw[dS,nl];rfl
  refine⟨λi=>if i<s.1.length then H i else p,⟨λi j hi hj=>?_,λi hi t ht=>?_,λi j AB hj=>?_,λi hi=>?_⟩,λr hr t ht=>?_⟩
  ·show cf ((gL m s.1 l p++[l]).getD i []) _=_
   dsimp only at hi hj ⊢
   rw[le]at hi hj
   by_cases h1:i<s.1.length
   ·obtain⟨r,r1,r2,r3,r4⟩:=Wd i h1
    rw[r4]
    by_cases h2:j<s.1.length
    ·rw[if_pos h2,(AA r2 r3).1 _ (I.l j h2),<- r1]
     exact I.u i j h1 h2
    ·rw[if_neg h2,(AA r2 r3).2,if_neg (by omega)]
   ·have e1:i=s.1.length:=by omega
    rw[e1,We]
    by_cases h2:j<s.1.length
    ·rw[if_pos h2,lz _ (I.l j h2),if_neg (by omega)]
    ·rw[if_neg h2,l4,if_pos (by omega)]
  ·dsimp only at hi ht ⊢
   rw[le]at hi
   by_cases h1:i<s.1.length
   ·rw[if_pos h1]at ht
    obtain⟨r,r1,r2,r3,r4⟩:=Wd i h1
    rw[r4,(AA r2 r3).1 _ (by have:=I.l i h1;omega),<- r1]
    exact I.z i h1 t ht
   ·rw[if_neg h1]at ht
    have e1:i=s.1.length:=by omega
    rw[e1,We];exact lz t ht
  ·dsimp only at hj ⊢
   rw[le]at hj
   rw[if_pos (by omega)]
   by_cases h2:j<s.1.length
   ·rw[if_pos h2];exact I.i i j AB h2
   ·rw[if_neg h2];exact I.l i (by omega)
  ·dsimp only at hi ⊢
   rw[le]at hi
   split
   ·have:=I.l i (by omega);omega
   ·omega
  ·obtain⟨r1,u6,rfl⟩:=bE.mp hr
   obtain⟨a1,a2⟩:=h.b r1 (Dy u6)
   rcases R7 t p with h1 | h1
   ·rw[(AA a1 a2).1 t h1];exact e2 _ (Dy u6) t h1
   ·rw[show t=p by omega];exact(AA a1 a2).2
theorem Wf{m:Bool × Nat}(hm:m∈aD){w:Nat}{G:List (List Nat)}(h:RT (aa m) w G):∀k,(∃H,RR k (jc m G k).1 H/\∀r∈(jc m G k).2,∀t,t<k->cf r t=0)/\∀f,dz m G f↔dz m ((jc m G k).1++(jc m G k).2) f
 | 0=>⟨⟨λ_=>0,⟨(λ_ _ h=>nomatch h),(λ_ h=>nomatch h),(λ_ _ _ h=>nomatch h),(λ_ h=>nomatch h)⟩,λr _ t ht=>nomatch ht⟩,λf=>.rfl⟩
 | k+1=>by
  obtain⟨⟨H,h1,h2⟩,h3⟩:=Wf hm h k
  have D:=wD hm h k
  rw[IE]
  exact⟨bN1 hm D h1 h2,λf=>(h3 f).trans (bW7 hm D f)⟩
theorem wH{m:Bool × Nat}(hm:m∈aD){G:List (List Nat)}(h:RT (aa m) (ag G) G):(∃H,RR (ag G) (cG m G) H)/\RT (aa m) (ag G) (cG m G)/\(cG m G).length<=G.length/\∀f,dz m G f↔dz m (cG m G) f:=by
 obtain⟨⟨H,h1,h2⟩,h3⟩:=Wf hm h (ag G)
 have D:=wD hm h (ag G)
 refine⟨⟨H,h1⟩,D.a,by have:=D.l;show(jc m G (ag G)).1.length<=_;omega,λf=>(h3 f).trans ⟨Sp.trans ?_,Sp.trans ?_⟩⟩
 ·rintro f ⟨r,hr,rfl⟩
  rcases bY.mp hr with hr | hr
  ·exact dz.of hr
  ·have:cf r=λ_=>0:=funext λt=>by
    rcases R7 t (ag G)with h4 | h4
    ·exact h2 r hr t h4
    ·exact si (by rw[(D.b r hr).1];exact h4)
   rw[this];exact .zero
 ·rintro f ⟨r,hr,rfl⟩
  exact dz.of (gP _ hr)
theorem AD{N:Nat}{p q:Nat->Nat->Nat}(r:Rg N p q){f:Nat->Nat}{j0:Nat}(hf:f j0<N):∀{n:Nat},j0<n->(∀j,j<n->j≠j0->f j=0)->sm p n f=f j0
 | 0,h,_=>nomatch h
 | n+1,h,hz=>by
  rw[sm]
  by_cases e:j0=n
  ·subst e
   rw[gK r λj hj=>hz j (by omega) (by omega),r.z hf]
  ·rw[AD r hf (by omega) λj hj=>hz j (by omega),hz n (by omega) (by omega),r.z' hf]
theorem dz.ann{m:Bool × Nat}(hm:m∈aD){R:List (List Nat)}{n:Nat}{y:Nat->Nat}(h:∀x∈R,sm (gp m) n (λj=>gm m (cf x j) (y j))=0){f:Nat->Nat}(s:dz m R f):sm (gp m) n (λj=>gm m (f j) (y j))=0:=by
 have r:=rg hm
 have m0:=bW m hm
 induction s with
 | mem a=>obtain⟨x,hx,rfl⟩:=a;exact h x hx
 | zero=>exact gK r λj _=>eT m _ m0
 | @add f g _ _ a b =>
  rw[cm (g:=λj=>gp m (gm m (f j) (y j)) (gm m (g j) (y j))) λj _=>by dsimp only;rw[r.mc (gp m _ _),r.dl,r.mc (y j),r.mc (y j)],nj r,a,b,r.z r.pos]
 | @mul f e he _ a =>
  rw[cm (g:=λj=>gm m e (gm m (f j) (y j))) λj _=>hE m0 _ _ _,Au r,a,r.qz]
theorem RR.wI{m:Bool × Nat}(hm:m∈aD){w:Nat}{R:List (List Nat)}{H:Nat->Nat}(hR:RT (aa m) w R)(I:RR w R H){i:Nat}(hi:i<R.length):(R.getD i []).findIdx (· != 0)=H i/\∃x∈R.getD i [],x≠0:=by
 have a:=(hR _ (dJ hi [])).1
 have l:=I.l i hi
 have u:=I.u i i hi hi
 rw[if_pos rfl]at u
 have eu:(R.getD i [])[H i]'(by omega)=1:=by
  unfold cf at u
  rw[aK (l:=R.getD i []),aJ (by omega)]at u
  exact u
 refine⟨?_,_,cB (show H i<(R.getD i []).length by omega),by rw[eu];decide⟩
 rw[List.findIdx_eq (by omega)]
 refine⟨by rw[eu];rfl,λj hj=>?_⟩
 have z:=I.z i hi j hj
 unfold cf at z
 rw[aK (l:=R.getD i []),aJ (by omega)]at z
 simpa using z
theorem cD0{a b:List Nat}{w:Nat}(ha:a.length=w)(hb:b.length=w)(h:∀k,k<w->cf a k=cf b k):a=b:=by
 refine BQ (ha.trans hb.symm) λk h1 h2=>?_
 have:=h k (by omega)
 unfold cf at this
 rw[aK,aK,aJ h1,aJ h2]at this
 exact this
theorem Wg(f:Nat->Nat){w k:Nat}(h:k<w):cf ((aZ w).map f) k=f k:=by
 unfold cf
 rw[aK,bP,kh h];rfl
theorem u7(m:Bool × Nat){xs ys:List Nat}(h:xs.length=ys.length):gd m xs ys=sm (gp m) xs.length λj=>gm m (cf xs j) (cf ys j):=by
 unfold gd
 rw[cn8,ik,h,tD]
 refine cm λj hj=>?_
 unfold cf
 rw[aK,mx,aJ (by omega),aJ (by omega),aK,aJ (by omega),aK,aJ (by omega)]
 rfl
def pG(m:Bool × Nat)(xs:List Nat)(T:List (List Nat))(w:Nat):List Nat:=(aZ w).map λk=>gd m xs (T.map λr=>r.getD k 0)
theorem Wh{T:List (List Nat)}(k i:Nat):cf (T.map λr=>r.getD k 0) i=cf (T.getD i []) k:=by
 by_cases h:i<T.length
 ·exact wG (λr:List Nat=>r.getD k 0) h [] 0
 ·rw[si (by rw[br];omega),aK,gU (by omega)];rfl
theorem IV(m:Bool × Nat)(xs:List Nat)(T:List (List Nat))(w:Nat):(pG m xs T w).length=w:=by unfold pG;rw[br,dB]
theorem cM0(m:Bool × Nat){xs:List Nat}{T:List (List Nat)}{w k:Nat}(h:xs.length=T.length)(hk:k<w):cf (pG m xs T w) k=sm (gp m) T.length λi=>gm m (cf xs i) (cf (T.getD i []) k):=by
 unfold pG
 rw[Wg _ hk,u7 m (by rw[br,h]),h]
 exact cm λj _=>by rw[Wh]
theorem cO1{m:Bool × Nat}(hm:m∈aD){xs ys:List Nat}(h:xs.length=ys.length):gd m xs ys<aa m:=by
 rw[u7 m h];exact j6 (rg hm) λj _=>cg hm _ _
theorem Wi{m:Bool × Nat}(hm:m∈aD){xs:List Nat}{T:List (List Nat)}(w:Nat)(h:xs.length=T.length):AllLt (aa m) (pG m xs T w):=λx hx=>by
 obtain⟨k,_,rfl⟩:=bE.mp hx
 exact cO1 hm (by rw[br,h])
def aR(r:List Nat):Nat:=r.findIdx (· != 0)
def cY(G:List (List Nat))(u:List Nat):List (List Nat):=cZ (λr x=>r++[x]) G u
theorem IW{N:Nat}{G:List (List Nat)}{u:List Nat}(h0:0<G.length)(hu:u.length=G.length)(hR:RT N (ag G) G)(ha:AllLt N u):ag (cY G u)=ag G+1/\(cY G u).length=G.length/\RT N (ag G+1) (cY G u):=by
 refine⟨?_,by unfold cY;rw[ik,hu,tD],λr hr=>?_⟩
 ·cases G with
  | nil=>simp at h0
  | cons g G =>
   cases u with
   | nil=>simp at hu
   | cons y u=>show(g++[y]).length=g.length+1;simp
 ·unfold cY at hr
  obtain⟨i,hi,rfl⟩:=gx hr
  rw[ik]at hi
  rw[dd4]
  obtain⟨a,b⟩:=hR _ (cB (show i<G.length by omega))
  refine⟨by rw[dS,a];rfl,λx hx=>?_⟩
  rcases bY.mp hx with hx | hx
  ·exact b x hx
  ·rw[dW]at hx
   rw[hx];exact ha _ (cB _)
def lW(R:List (List Nat))(w:Nat):List Nat:=((R.map aR).zip R).foldl (λx z=>x.set z.1 (z.2.getD w 0)) (bF w 0)
def wJ(m:Bool × Nat)(G:List (List Nat))(u:List Nat):Option (List Nat):=if((cG m (cY G u)).map aR).contains (ag G)then none else some (lW (cG m (cY G u)) (ag G))
theorem AE{α:Type}(a b:α->Nat){j:Nat}:∀(l:List α) (x:List Nat),(∀z∈l,a z≠j)->cf (l.foldl (λx z=>x.set (a z) (b z)) x) j=cf x j
 | [],_,_=>rfl
 | z::l,x,h=>by
  rw[s8,AE a b l _ λy hy=>h y (dY _ hy)]
  unfold cf
  rw[aK,vk (h z fZ),<- aK]
theorem IY{α:Type}(a b:α->Nat):∀(l:List α) (x:List Nat),l.Pairwise (λy z=>a y≠a z)->∀z∈l,a z<x.length->cf (l.foldl (λx z=>x.set (a z) (b z)) x) (a z)=b z
 | [],_,_,_,h,_=>nomatch h
 | y::l,x,hp,z,hz,hl=>by
  rw[s8]
  rw[BU]at hp
  rcases cA.mp hz with rfl | hz
  ·rw[AE a b l _ λy hy=>fA (hp.1 y hy)]
   unfold cf
   rw[aK,Fw hl];rfl
  ·exact IY a b l _ hp.2 z hz (by rw[nG];exact hl)
theorem IZ{α:Type}(a b:α->Nat):∀(l:List α) (x:List Nat),(l.foldl (λx z=>x.set (a z) (b z)) x).length=x.length
 | [],_=>rfl
 | z::l,x=>by rw[s8,IZ a b l,nG]
theorem cI1{m:Bool × Nat}(hm:m∈aD){w:Nat}{R:List (List Nat)}{H:Nat->Nat}(hR:RT (aa m) (w+1) R)(I:RR (w+1) R H)(hw:∀i,i<R.length->H i≠w):(lW R w).length=w/\AllLt (aa m) (lW R w)/\(∀i,i<R.length->cf (lW R w) (H i)=cf (R.getD i []) w)/\∀j,(∀i,i<R.length->H i≠j)->cf (lW R w) j=0:=by
 have l1:=lo1 hm
 have zl:((R.map aR).zip R).length=R.length:=by rw[qj,br,tD]
 have zg:∀i (h:i<R.length),((R.map aR).zip R)[i]'(by omega)=(H i,R.getD i []):=λi h=>by
  rw[R8,vx]
  have e:R.getD i []=R[i]:=by rw[aK,aJ h];rfl
  have:=(I.wI hm hR h).1
  rw[e]at this ⊢
  exact yZ this rfl
 have zm:∀z∈(R.map aR).zip R,∃i,i<R.length/\z=(H i,R.getD i []):=λz hz=>by
  obtain⟨i,hi,rfl⟩:=gx hz
  exact⟨i,by omega,zg i (by omega)⟩
 have mz:∀i,i<R.length->(H i,R.getD i [])∈(R.map aR).zip R:=λi h=>by
  rw[<-zg i h];exact cB _
 have len:(lW R w).length=w:=by
  unfold lW
  rw[IZ (λz:Nat × List Nat=>z.1) (λz=>z.2.getD w 0),p7]
 have bd:∀z∈(R.map aR).zip R,z.2.getD w 0<aa m:=λz hz=>by
  obtain⟨i,hi,rfl⟩:=zm z hz
  exact cF hm (hR _ (dJ hi [])).2 w
 refine⟨len,?_,λi hi=>?_,λj hj=>?_⟩
 ·have key:∀(l:List (Nat × List Nat)) (x:List Nat),(∀z∈l,z.2.getD w 0<aa m)->AllLt (aa m) x->AllLt (aa m) (l.foldl (λx z=>x.set z.1 (z.2.getD w 0)) x):=by
   intro l
   induction l with
   | nil=>exact λx _ h=>h
   | cons z l ih =>
    intro x hz h
    rw[s8]
    refine ih _ (λy hy=>hz y (dY _ hy)) λy hy=>?_
    rcases yV hy with h1 | h1
    ·exact h y h1
    ·rw[h1];exact hz z fZ
  exact key _ _ bd λx hx=>by rw[(FQ.mp hx).2];omega
 ·have hp:((R.map aR).zip R).Pairwise (λy z:Nat × List Nat=>y.1≠z.1):=by
   rw[Gb]
   intro i j hi hj AB
   rw[zg i (by omega),zg j (by omega)]
   have:=I.i i j AB (by omega)
   show H i≠H j
   omega
  have h1:=I.l i hi
  have h2:=hw i hi
  exact IY (λz:Nat × List Nat=>z.1) (λz=>z.2.getD w 0) _ _ hp _ (mz i hi) (by rw[p7];show H i<w;omega)
 ·unfold lW
  rw[AE (λz:Nat × List Nat=>z.1) (λz=>z.2.getD w 0) _ _ λz hz=>?_]
  ·unfold cf
   rw[aK,BI]
   split<;>rfl
  ·obtain⟨i,hi,rfl⟩:=zm z hz
   exact hj i hi
theorem cI8{G:List (List Nat)}{u:List Nat}{w a:Nat}(ha:a<G.length)(hu:u.length=G.length)(hw:(G.getD a []).length=w):(∀j,j<w->cf ((cY G u).getD a []) j=cf (G.getD a []) j)/\cf ((cY G u).getD a []) w=cf u a:=by
 have e:(cY G u).getD a []=G.getD a []++[u.getD a 0]:=by
  unfold cY
  rw[aK,mx,aK,aK,aJ ha,aJ (by omega)];rfl
 rw[e]
 generalize G.getD a []=g at hw
 refine⟨λj hj=>?_,?_⟩
 ·unfold cf
  rw[aK,sW (by omega),<- aK]
 ·unfold cf
  rw[aK,sV (by omega),hw,Ga];rfl
theorem cV2{m:Bool × Nat}(hm:m∈aD):∃e,e<aa m/\gp m 1 e=0/\e≠0/\∀{a b},a<aa m->b<aa m->(gp m a (gm m b e)=0↔a=b):=by
 have r:=rg hm
 obtain⟨e,he,h⟩:=r.ng (lo1 hm)
 refine⟨e,he,h,λz=>?_,λ{a b} ha hb=>?_⟩
 ·rw[z,r.z' (lo1 hm)]at h;omega
 ·have k:gp m b (gm m b e)=0:=by
   have:=r.dl b 1 e
   rw[h,r.qz,pf hb]at this
   exact this.symm
  exact⟨λh1=>r.Dr ha hb (cg hm b e) (h1.trans k.symm),λh1=>h1 ▸ k⟩
theorem cM6{m:Bool × Nat}(hm:m∈aD){G:List (List Nat)}{u:List Nat}(h0:0<G.length)(hu:u.length=G.length)(hR:RT (aa m) (ag G) G)(ha:AllLt (aa m) u){x:Nat->Nat}(hx:∀j,x j<aa m)(h:∀a,a<G.length->sm (gp m) (ag G) (λj=>gm m (cf (G.getD a []) j) (x j))=cf u a):∃X,wJ m G u=some X/\X.length=ag G/\AllLt (aa m) X/\∀a,a<G.length->sm (gp m) (ag G) (λj=>gm m (cf (G.getD a []) j) (cf X j))=cf u a:=by
 obtain⟨w1,w2,w3⟩:=IW h0 hu hR ha
 have w4:=w3
 rw[<-w1]at w4
 obtain⟨⟨H,I⟩,iR,il,sp⟩:=wH hm w4
 rw[w1]at I iR
 have r:=rg hm
 obtain⟨e,e1,e2,e3,e4⟩:=cV2 hm
 have dot:∀(y:Nat->Nat),(∀j,y j<aa m)->∀a,a<G.length->sm (gp m) (ag G+1) (λj=>gm m (cf ((cY G u).getD a []) j) (if j<ag G then y j else e))=gp m (sm (gp m) (ag G) λj=>gm m (cf (G.getD a []) j) (y j)) (gm m (cf u a) e):=λy hy a h1=>by
  obtain⟨c1,c2⟩:=cI8 h1 hu (hR _ (dJ h1 [])).1
  rw[sm,if_neg (fM _),c2]
  refine congrArg (λz=>gp m z _) (cm λj hj=>?_)
  rw[c1 j hj,if_pos hj]
 have ann:∀x'∈cY G u,sm (gp m) (ag G+1) (λj=>gm m (cf x' j) (if j<ag G then x j else e))=0:=λx' dZ=>by
  obtain⟨a,h1,rfl⟩:=gx dZ
  have ea:(cY G u)[a]=(cY G u).getD a []:=by rw[aK,aJ h1];rfl
  rw[ea,dot x hx a (by omega),h a (by omega)]
  exact(e4 (cF hm ha a) (cF hm ha a)).mpr rfl
 have hw:∀i,i<(cG m (cY G u)).length->H i≠ag G:=λi hi z=>by
  have:=dz.ann hm ann ((sp _).mpr (dz.of (dJ hi [])))
  rw[sm,gK r λj hj=>?_,if_neg (fM _)]at this
  ·have u1:=I.u i i hi hi
   rw[z,if_pos rfl]at u1
   rw[u1,lV e1,r.z e1]at this
   exact e3 this
  ·rw[I.z i hi j (by omega),eT m _ (bW m hm)]
 obtain⟨X1,X2,X3,X4⟩:=cI1 hm iR I hw
 refine⟨lW (cG m (cY G u)) (ag G),?_,X1,X2,λa h1=>?_⟩
 ·unfold wJ
  rw[if_neg]
  intro c
  obtain⟨y,hy,hz⟩:=bE.mp (BR.mp c)
  obtain⟨i,hi,rfl⟩:=gx hy
  refine hw i hi ?_
  rw[<-(I.wI hm iR hi).1,<- hz,aK,aJ hi];rfl
 ·have dW0:∀x'∈cG m (cY G u),sm (gp m) (ag G+1) (λj=>gm m (cf x' j) (if j<ag G then cf (lW (cG m (cY G u)) (ag G)) j else e))=0:=λx' dZ=>by
   obtain⟨i,hi,rfl⟩:=gx dZ
   have ei:(cG m (cY G u))[i]=(cG m (cY G u)).getD i []:=by rw[aK,aJ hi];rfl
   have I0:=cF hm (iR _ (dJ hi [])).2
   have hl:H i<ag G:=by have:=I.l i hi;have:=hw i hi;omega
   rw[ei,sm,if_neg (fM _),AD r (f:=λj=>gm m (cf ((cG m (cY G u)).getD i []) j) (if j<ag G then cf (lW (cG m (cY G u)) (ag G)) j else e)) (cg hm _ _) hl λj hj hn=>?_]
   ·rw[if_pos hl,X3 i hi,I.u i i hi hi,if_pos rfl,lV (I0 _)]
    exact(e4 (I0 _) (I0 _)).mpr rfl
   ·rw[if_pos hj]
    by_cases c:∃i',i'<(cG m (cY G u)).length/\H i'=j
    ·obtain⟨i',h1,rfl⟩:=c
     rw[I.u i i' hi h1,if_neg (λz:i=i'=>hn (by rw[z])),eT m _ (bW m hm)]
    ·rw[X4 j λi' h1 h2=>c ⟨i',h1,h2⟩,r.qz]
  have:=dz.ann hm dW0 ((sp _).mp (dz.of (dJ (show a<(cY G u).length by omega) [])))
  rw[dot _ (cF hm X2) a h1]at this
  exact(e4 (j6 r λj _=>cg hm _ _) (cF hm ha a)).mp this
def cJ(T:List (List Nat)):List (List Nat):=(aZ (ag T)).map λj=>T.map λr=>r.getD j 0
theorem Dz{T:List (List Nat)}{a:Nat}(h:a<ag T):(cJ T).getD a []=T.map λr=>r.getD a 0:=by
 unfold cJ
 rw[aK,bP,kh h];rfl
theorem wK{N:Nat}{T:List (List Nat)}(h0:0<N)(hw:0<ag T)(hT:RT N (ag T) T):(cJ T).length=ag T/\ag (cJ T)=T.length/\RT N T.length (cJ T):=by
 have a:(cJ T).length=ag T:=by unfold cJ;rw[br,dB]
 have c:RT N T.length (cJ T):=λr hr=>by
  obtain⟨j,_,rfl⟩:=bE.mp hr
  refine⟨br _,λx hx=>?_⟩
  obtain⟨y,hy,rfl⟩:=bE.mp hx
  exact(hT y hy).2.getD h0 j
 refine⟨a,?_,c⟩
 have:=Dz hw
 have e:ag (cJ T)=((cJ T).getD 0 []).length:=by
  unfold ag
  cases cJ T<;>rfl
 rw[e,this,br]
end L3
namespace L3
open PySem L2 Mf
def lX(T:List (List Nat))(w:Nat):List Nat:=(aZ w).filter λj=>!(T.map aR).contains j
def je(m:Bool × Nat)(T:List (List Nat))(w f:Nat):List Nat:=(((T.map aR).zip T).foldl (λx z=>x.set z.1 (bC m 0 (z.2.getD f 0))) ((bF w 0).set f 1))
def jG(m:Bool × Nat)(T:List (List Nat))(w:Nat):List (List Nat):=(lX T w).map (je m T w)
theorem RR.heads{m:Bool × Nat}(hm:m∈aD){w:Nat}{R:List (List Nat)}{H:Nat->Nat}(hR:RT (aa m) w R)(I:RR w R H):R.map aR=(aZ R.length).map H:=by
 refine BQ (by rw[br,br,dB]) λi h1 h2=>?_
 rw[br]at h1
 rw[vx,vx,R9,<- (I.wI hm hR h1).1,aK,aJ h1];rfl
theorem RR.mem{m:Bool × Nat}(hm:m∈aD){w:Nat}{R:List (List Nat)}{H:Nat->Nat}(hR:RT (aa m) w R)(I:RR w R H)(j:Nat):j∈R.map aR↔∃i,i<R.length/\H i=j:=by
 rw[I.heads hm hR,bE]
 exact⟨λ⟨i,a,b⟩=>⟨i,cS.mp a,b⟩,λ⟨i,a,b⟩=>⟨i,cS.mpr a,b⟩⟩
theorem RR.free{m:Bool × Nat}(hm:m∈aD){w:Nat}{R:List (List Nat)}{H:Nat->Nat}(hR:RT (aa m) w R)(I:RR w R H)(j:Nat):j∈lX R w↔j<w/\∀i,i<R.length->H i≠j:=by
 unfold lX
 rw[nE,cS,Bool.not_eq_true',<- Bool.not_eq_true,BR,I.mem hm hR]
 exact and_congr_right λ_=>⟨λh i a b=>h ⟨i,a,b⟩,λh ⟨i,a,b⟩=>h i a b⟩
theorem Wj{m:Bool × Nat}(hm:m∈aD){w f:Nat}{R:List (List Nat)}{H:Nat->Nat}(hR:RT (aa m) w R)(I:RR w R H)(hf:f∈lX R w):(je m R w f).length=w/\AllLt (aa m) (je m R w f)/\cf (je m R w f) f=1/\(∀i,i<R.length->cf (je m R w f) (H i)=bC m 0 (cf (R.getD i []) f))/\∀j,j≠f->(∀i,i<R.length->H i≠j)->cf (je m R w f) j=0:=by
 obtain⟨f1,f2⟩:=(I.free hm hR f).mp hf
 have l1:=lo1 hm
 have zl:((R.map aR).zip R).length=R.length:=by rw[qj,br,tD]
 have zg:∀i (h:i<R.length),((R.map aR).zip R)[i]'(by omega)=(H i,R.getD i []):=λi h=>by
  rw[R8,vx]
  have e:R.getD i []=R[i]:=by rw[aK,aJ h];rfl
  have:=(I.wI hm hR h).1
  rw[e]at this ⊢
  exact yZ this rfl
 have zm:∀z∈(R.map aR).zip R,∃i,i<R.length/\z=(H i,R.getD i []):=λz hz=>by
  obtain⟨i,hi,rfl⟩:=gx hz
  exact⟨i,by omega,zg i (by omega)⟩
 have mz:∀i,i<R.length->(H i,R.getD i [])∈(R.map aR).zip R:=λi h=>by
  rw[<-zg i h];exact cB _
 have bd:∀z∈(R.map aR).zip R,bC m 0 (z.2.getD f 0)<aa m:=λz hz=>by
  obtain⟨i,hi,rfl⟩:=zm z hz
  exact(fG hm (by omega) (cF hm (hR _ (dJ hi [])).2 f)).2.1
 refine⟨?_,?_,?_,λi hi=>?_,λj hj hj2=>?_⟩
 ·unfold je
  rw[IZ (λz:Nat × List Nat=>z.1) (λz=>bC m 0 (z.2.getD f 0)),nG,p7]
 ·have key:∀(l:List (Nat × List Nat)) (x:List Nat),(∀z∈l,bC m 0 (z.2.getD f 0)<aa m)->AllLt (aa m) x->AllLt (aa m) (l.foldl (λx z=>x.set z.1 (bC m 0 (z.2.getD f 0))) x):=by
   intro l
   induction l with
   | nil=>exact λx _ h=>h
   | cons z l ih =>
    intro x hz h
    rw[s8]
    refine ih _ (λy hy=>hz y (dY _ hy)) λy hy=>?_
    rcases yV hy with h1 | h1
    ·exact h y h1
    ·rw[h1];exact hz z fZ
  refine key _ _ bd λx hx=>?_
  rcases yV hx with h1 | h1
  ·rw[(FQ.mp h1).2];omega
  ·omega
 ·unfold je
  rw[AE (λz:Nat × List Nat=>z.1) (λz=>bC m 0 (z.2.getD f 0)) _ _ λz hz=>?_]
  ·unfold cf
   rw[aK,Fw (by rw[p7];exact f1)];rfl
  ·obtain⟨i,hi,rfl⟩:=zm z hz
   exact f2 i hi
 ·have hp:((R.map aR).zip R).Pairwise (λy z:Nat × List Nat=>y.1≠z.1):=by
   rw[Gb]
   intro i j hi hj AB
   rw[zg i (by omega),zg j (by omega)]
   have:=I.i i j AB (by omega)
   show H i≠H j
   omega
  exact IY (λz:Nat × List Nat=>z.1) (λz=>bC m 0 (z.2.getD f 0)) _ _ hp _ (mz i hi) (by rw[nG,p7];exact I.l i hi)
 ·unfold je
  rw[AE (λz:Nat × List Nat=>z.1) (λz=>bC m 0 (z.2.getD f 0)) _ _ λz hz=>?_]
  ·unfold cf
   rw[aK,vk (fA hj),BI]
   split<;>rfl
  ·obtain⟨i,hi,rfl⟩:=zm z hz
   exact hj2 i hi
theorem cO2{N:Nat}{p q:Nat->Nat->Nat}(r:Rg N p q){f:Nat->Nat}{a b n:Nat}(ha:a<n)(hb:b<n)(hn:a≠b)(fa:f a<N)(fb:f b<N)(hz:∀j,j<n->j≠a->j≠b->f j=0):sm p n f=p (f a) (f b):=by
 have h1:=AD r (f:=λj=>if j=a then f a else 0) (j0:=a) (n:=n) (by rw[if_pos rfl];exact fa) ha λj _ h=>if_neg h
 have h2:=AD r (f:=λj=>if j=b then f b else 0) (j0:=b) (n:=n) (by rw[if_pos rfl];exact fb) hb λj _ h=>if_neg h
 rw[if_pos rfl]at h1 h2
 rw[<-h1,<- h2,<- nj r]
 refine cm λj hj=>?_
 by_cases ja:j=a
 ·rw[if_pos ja,if_neg (by omega),r.z' fa,ja]
 ·by_cases jb:j=b
  ·rw[if_neg ja,if_pos jb,r.z fb,jb]
  ·rw[if_neg ja,if_neg jb,hz j hj ja jb,r.z r.pos]
def dt(m:Bool × Nat)(w:Nat)(x y:Nat->Nat):Nat:=sm (gp m) w λj=>gm m (x j) (y j)
theorem cJ4{m:Bool × Nat}(hm:m∈aD)(w:Nat)(x y z:Nat->Nat):dt m w x (λk=>gp m (y k) (z k))=gp m (dt m w x y) (dt m w x z):=by
 have r:=rg hm
 unfold dt
 rw[<-nj r]
 exact cm λj _=>r.dl _ _ _
theorem cL6{m:Bool × Nat}(hm:m∈aD)(w c:Nat)(x y:Nat->Nat):dt m w x (λk=>gm m c (y k))=gm m c (dt m w x y):=by
 have r:=rg hm
 have m0:=bW m hm
 unfold dt
 rw[<-Au r]
 exact cm λj _=>by rw[<-hE m0,g9 m (x j),hE m0]
theorem Wk{m:Bool × Nat}(hm:m∈aD)(w:Nat)(x:Nat->Nat)(c:Nat->Nat)(F:Nat->Nat->Nat):∀n,dt m w x (λk=>sm (gp m) n λi=>gm m (c i) (F i k))=sm (gp m) n λi=>gm m (c i) (dt m w x (F i))
 | 0=>gK (rg hm) λj _=>(rg hm).qz _
 | n+1=>by
  rw[sm,<- Wk hm w x c F n,<- cL6 hm,<- cJ4 hm];rfl
theorem cN2{m:Bool × Nat}(hm:m∈aD){w f:Nat}{R:List (List Nat)}{H:Nat->Nat}(hR:RT (aa m) w R)(I:RR w R H)(hf:f∈lX R w){i:Nat}(hi:i<R.length):dt m w (cf (R.getD i [])) (cf (je m R w f))=0:=by
 have r:=rg hm
 obtain⟨f1,f2⟩:=(I.free hm hR f).mp hf
 obtain⟨k1,k2,k3,k4,k5⟩:=Wj hm hR I hf
 have il:=cF hm (hR _ (dJ hi [])).2
 have g:=fG hm (a:=0) r.pos (il f)
 unfold dt
 rw[cO2 r (f:=λj=>gm m (cf (R.getD i []) j) (cf (je m R w f) j)) (a:=H i) (b:=f) (I.l i hi) f1 (f2 i hi) (cg hm _ _) (cg hm _ _) λj hj ja jb=>?_]
 ·rw[k3,k4 i hi,I.u i i hi hi,if_pos rfl,lV g.2.1,pf (il f)]
  exact g.2.2
 ·by_cases c:∃i',i'<R.length/\H i'=j
  ·obtain⟨i',h1,rfl⟩:=c
   rw[I.u i i' hi h1,if_neg (λz:i=i'=>ja (by rw[z])),eT m _ (bW m hm)]
  ·rw[k5 j jb λi' h1 h2=>c ⟨i',h1,h2⟩,r.qz]
theorem dz.dt{m:Bool × Nat}(hm:m∈aD){R:List (List Nat)}{n:Nat}{y:Nat->Nat}(h:∀i,i<R.length->dt m n (cf (R.getD i [])) y=0){f:Nat->Nat}(s:dz m R f):dt m n f y=0:=by
 refine s.ann hm λx hx=>?_
 obtain⟨i,hi,rfl⟩:=gx hx
 have:=h i hi
 rw[aK,aJ hi]at this
 exact this
theorem cB5{N n:Nat}{M:List (List Nat)}(h:RT N n M)(h0:M≠[]):ag M=n:=by
 cases M with
 | nil=>exact absurd rfl h0
 | cons g M=>exact(h g fZ).1
theorem cM9{T:List (List Nat)}{i:Nat}(h:i<T.length):T.getD i []=T[i]:=by rw[aK,aJ h];rfl
theorem dz.red{m:Bool × Nat}(hm:m∈aD){G:List (List Nat)}(hG:RT (aa m) (ag G) G){f:Nat->Nat}(h:dz m G f):dz m (cG m G) f:=((wH hm hG).2.2.2 f).mp h
end L3
namespace L3
open PySem L2 PySem.Spec PyProof.Rows
section
variable{X:Cx}{F H:Hp}{e b:Expr}{pos pos' p p2 p3 apos cj:Pos}{ti te:aY}{x y:Str}{i j:Nat}
theorem R.rev:∀{xs:List D} {ws:List V} {A:List Addr},R F H xs ws A->A.Nodup->∃A',R F H xs.reverse ws.reverse A'/\A'.Nodup/\∀a∈A',a∈A
 | [],_,A,r,nd=>by cases r;exact⟨[],.nil,by simp,by simp⟩
 | d::ds,_,A,r,nd=>by
  obtain⟨w,gq,B1,B2,rfl,rfl,h1,h2⟩:=r.dD
  obtain⟨n1,n2,n3⟩:=iz.mp nd
  obtain⟨A',r',mO,sub⟩:=R.rev h2 n2
  refine⟨A'++B1,?_,iz.mpr ⟨mO,n1,λa ha hb=>n3 a hb (sub a ha)⟩,λa ha=>?_⟩
  ·rw[FA,FA]
   exact r'.append h1
  ·rcases bY.mp ha with z | z
   ·simp[sub a z]
   ·simp[z]
def sq(i:Nat):cW:=λD δ=>∃xs,δ[i]?=some (some (.lst true xs))/\D.nx (δ.set i (some (.lst true xs.reverse)))
theorem bX9(hN:X.N[i]?=some x)(hv:mC X.env.scope x)(hd:(x==("__debug__":Str))=false:=by decide)(da:(x==("__classdict__":Str))=false:=by decide)
  (kW:attributeBase (.Name x p) "reverse" X.env (eval (.Name x p) X.env)=eval (.Name x p) X.env:=by rfl) (kX:(apos.endLine==cj.line)=true:=by rfl)
  (ui:swapsWith (.Call (.Attribute (.Name x p) "reverse" apos) [] [] cj) none pos.line X.env=pure false:=by rfl) :
  PS X (.Expr (.Call (.Attribute (.Name x p) "reverse" apos) [] [] cj) pos) (lS X (sq i)) :=
 mP (B8 (S6 PySem.F.plainAttrs_list PySem.F.slot_list_reverse PySem.F.type_list_reverse bV0 (tN hN hv hd da) kW kX) ui) λEn σ H zz=>by
  obtain⟨B,F,δ,Dd,c,⟨ys,ey,hn⟩,k1,k2,k3,k4⟩:=zz
  obtain⟨p0,zP,g1,g2,g3⟩:=c.ownAt ey
  refine⟨.ref p0,g1,.inl ⟨rfl,_,bQ.of g2⟩,p0,zP,rfl,rfl,g2,k1 _ _ F _ hn ?_⟩
  exact ax.mut (ps:=[]) c ey g1 λgq A1 A2 h r1 r2 nd=>by
   rw[g2]at h;cases h
   obtain⟨A',r',mO,sub⟩:=r1.rev (iz.mp nd).1
   exact⟨A',r',mO,λa ha=>gP _ (sub a ha)⟩
end
section
variable{X:Cx}
end
section
variable{X:Cx}{es:List Expr}{tr:df}{pos:Pos}
theorem wL(h:PA X es (lA tr)):PE X (.List es pos) (lB (oj tr)) :=
 dN (SK h) λσ H Q ⟨B,F,δ,ts,Qd,c,q,k⟩=>⟨B,F,δ,ts,_,c,q,λds av vs F1 H1 q1 f1 h1 c1 s1=>⟨by rw[<-s1.length];exact q1.1,λp hp=>k _ av _ F1 _ q1.2 f1 (h1.trans (ah.upd hp)) (c1.grow (ah.upd hp)) (.own cH (s1.mono (ah.refl _) (ah.upd hp)) .nil)⟩⟩
end
end L3
namespace L3
open PySem L2 Mf
end L3
namespace L3
open PySem L2 Mf
end L3
namespace L3
open PySem L2 Mf
theorem Ja{r:List Nat}{k v:Nat}(hk:k<r.length)(j:Nat):cf (r.set k v) j=if j=k then v else cf r j:=by
 unfold cf
 rw[aK,List.getElem?_set,aK]
 by_cases h:k=j
 ·subst h
  rw[if_pos rfl,if_pos rfl,if_pos hk];rfl
 ·rw[if_neg h,if_neg (fA h)]
end L3
namespace L2
open PySem PySem.Spec PyProof.Rows
section
variable{X:Cx}
theorem Wl:∀{ns:List Int} {its:List Value},Vals (ns.map V.int) its->ns.length=its.length/\∀(i:Nat) (v:Value),its[i]?=some v->∃n t,ns[i]?=some n/\v=pY n t
 | [],_,r=>by cases r;exact⟨rfl,λi v h=>by simp at h⟩
 | n::ns,_,r=>by
  cases r with
  | cons a b =>
   obtain⟨h1,h2⟩:=Wl b
   obtain⟨t,rfl⟩:=a
   refine⟨by simp[h1],λi v h=>?_⟩
   cases i with
   | zero=>simp at h;exact⟨n,t,rfl,h.symm⟩
   | succ i=>simpa using h2 i v (by simpa using h)
theorem bZ1(hc:X.calm=true):gZ X (.builtin "any") (λxs H Q=>∃(p:Addr) (ns:List Int),xs=[.ref p]/\bQ X.K H p (ns.map V.int)/\Q (.bl (ns.any (· != 0))) H):=by
 intro pins s σ H xs us Q I r h
 obtain⟨p,ns,rfl,hS,q⟩:=h
 obtain⟨u,rfl,ru⟩:=r.one
 cases ru
 obtain⟨its,rv,pl,hz⟩:=I.list hS
 obtain⟨hlen,G9⟩:=Wl rv
 have hl:=pl.isList
 have gC:p<s.heap.objs.size:=by obtain⟨_,e,_⟩:=hl;exact bU e
 refine call_any_walk (wpAny_pyIter_list hl ?_)
 refine⟨s.heap.objs.size,[s.heap.objs.size,p],[s.heap.objs.size],its.toArray.size,_,_,λi=>((ns.map (· != 0))[i]?).getD false,rfl,Walks.list (A:=X.A.in1) (I.ok.hd hc) _ p (ft gC) its.toArray,
  ⟨⟨_,gQ _ rfl,rfl,rfl⟩,hl.push _⟩,λi v s' Q' E' hP hQ=>?_,λh' tk hk=>?_⟩
 ·obtain⟨n,t,e,rfl⟩:=G9 i v (by simpa using hP)
  simp only[bP,e,tH,qa]at hQ
  exact PyProof.Rows.truthy_int hQ
 ·have e:((aZ its.toArray.size).any λi=>((ns.map (· != 0))[i]?).getD false)=(ns.map (· != 0)).any id:=by
   rw[dO,<- hlen,<- br (f:=(· != 0)) (as:=ns)];exact cn2 _
  rw[e,RY]
  exact⟨.bl _,H,I.kept (h':=h') (t':=tk) (G8 hk),rfl,q⟩
end
end L2
namespace L3
open PySem L2 PySem.Spec PyProof.Rows
section
variable{X:Cx}
def pH:jY:=λds Q=>match ds with
 | [.lst _ xs]=>∃ns,xs=aL ns/\Q (.bl (ns.any (· != 0)))
 | _=>False
theorem Wm(hc:X.calm=true):g7 X (.builtin "any") pH:=g7.of (bZ1 hc) λvs H Q zz=>by
 obtain⟨B,F,σ,δ,ts,ds,Qd,c,s,q,k⟩:=zz
 unfold pH at q
 split at q
 ·obtain⟨v,rfl,s1⟩:=lH s
  obtain⟨ns,rfl,q⟩:=q
  obtain⟨p,ws,rfl,h,t⟩:=mZ s1 c.ext rfl
  rw[CQ t]at h
  exact⟨p,ns,rfl,lJ h,k _ _ _ q (ah.refl _) (c.pushS (.bl .nil) rfl)⟩
 ·exact q.elim
end
end L3
namespace L2
open PySem PySem.Spec PyProof.Rows
section
variable{X:Cx}{a:Expr}{ta:TE}{p p2 pos AF:Pos}
end
end L2
namespace L3
open PySem L2 PySem.Spec PyProof.Rows
section
variable{X:Cx}{a:Expr}{t:aY}{p p2 pos AF:Pos}
end
end L3
namespace L3
open PySem L2 PySem.Spec PyProof.Rows
section
variable{F H:Hp}
end
section
variable{X:Cx}{e:Expr}{t:aY}{p2 pos:Pos}
end
end L3
namespace L3
open PySem L2 PySem.Spec PyProof.Rows
section
variable{F H:Hp}
end
section
variable{P:Program}{w:World}{K:PySem.W.Frag}{mg:Str->Option Value}{base:Heap}
end
section
variable{X:Cx}{CX:fg}{n i:Nat}{f:Addr}{fd:FuncData}{ps:List Str}{sp:bA}{E:XK}{fn x:Str}{e:Expr}{te:aY}{p p2 pos pos' AF:Pos}
end
end L3
namespace L2
section
variable{α:Type}{P:List α->Prop}
theorem cP4(h:P []):∀us:List α,us.length=0->P us:=by
 intro us hl;rcases us with _ | ⟨a,t⟩
 ·exact h
 ·cases hl
theorem hJ(h:∀a,P [a]):∀us:List α,us.length=1->P us:=by
 intro us hl;rcases us with _ | ⟨a,t⟩
 ·cases hl
 ·exact cP4 (P:=λt=>P (a::t)) (h a) t (y7 hl)
theorem hV(h:∀a b,P [a,b]):∀us:List α,us.length=2->P us:=by
 intro us hl;rcases us with _ | ⟨a,t⟩
 ·cases hl
 ·exact hJ (P:=λt=>P (a::t)) (h a) t (y7 hl)
theorem fm(h:∀a b c,P [a,b,c]):∀us:List α,us.length=3->P us:=by
 intro us hl;rcases us with _ | ⟨a,t⟩
 ·cases hl
 ·exact hV (P:=λt=>P (a::t)) (h a) t (y7 hl)
theorem lY(h:∀a b c d,P [a,b,c,d]):∀us:List α,us.length=4->P us:=by
 intro us hl;rcases us with _ | ⟨a,t⟩
 ·cases hl
 ·exact fm (P:=λt=>P (a::t)) (h a) t (y7 hl)
theorem Jb(h:∀a b c d e,P [a,b,c,d,e]):∀us:List α,us.length=5->P us:=by
 intro us hl;rcases us with _ | ⟨a,t⟩
 ·cases hl
 ·exact lY (P:=λt=>P (a::t)) (h a) t (y7 hl)
theorem cL2(h:∀a b c d e f,P [a,b,c,d,e,f]):∀us:List α,us.length=6->P us:=by
 intro us hl;rcases us with _ | ⟨a,t⟩
 ·cases hl
 ·exact Jb (P:=λt=>P (a::t)) (h a) t (y7 hl)
end
end L2
namespace L3
open PySem L2 PySem.Spec PyProof.Rows
section
variable{B:Bs}{F H:Hp}{σ:L2.St}{δ:Dl}{ts:List (D × V)}
end
section
variable{X:Cx}{elt iter tg:Expr}{pos:Pos}{scope:Scope}{cl:List (Str × Addr)}{ti:jV}{te:aY}{g:iV}
end
end L3
namespace L2
open PySem PySem.Spec PyProof.Rows
section
variable{X:Cx}
end
end L2
namespace L3
open PySem L2 PySem.Spec PyProof.Rows
section
variable{X:Cx}
end
end L3
namespace L3
open PySem L2 Mf
theorem DA{m:Bool × Nat}(hm:m∈aD){a b:Nat}(ha:a<aa m)(hb:b<aa m):gm m a b=0↔a=0\/b=0:=by
 constructor
 ·intro h
  by_cases a0:a=0
  ·exact .inl a0
  ·by_cases b0:b=0
   ·exact .inr b0
   ·exact absurd h (cR2 hm (by omega) ha (by omega) hb)
 ·rintro (rfl | rfl)
  ·exact eT m _ (bW m hm)
  ·exact gE m _ (bW m hm)
theorem Wn{m:Bool × Nat}(hm:m∈aD)(x:Nat->Nat)(hx:∀j,x j<aa m):∀(n:Nat) (c:Nat->Nat),(∀j,c j<aa m)->(∀i j,i<n->j<n->x i=x j->i=j)->(∀i,i<n->sm (gp m) n (λj=>gm m (c j) (px m (x j) i))=0)->∀j,j<n->c j=0
 | 0,_,_,_,_,j,hj=>absurd hj (by omega)
 | n+1,c,hc,hd,h,j,hj=>by
  have r:=rg hm
  have h0:=bW m hm
  have dq:=lo1 hm
  have dn:∀j,bC m (x j) (x n)<aa m/\gp m (bC m (x j) (x n)) (x n)=x j:=λj=>(fG hm (hx j) (hx n)).2
  have key:∀i,i<n->sm (gp m) n (λj=>gm m (gm m (c j) (bC m (x j) (x n))) (px m (x j) i))=0:=λi hi=>by
   have h1:=h (i+1) (by omega)
   have hz:=h i (by omega)
   have e:∀j,gm m (c j) (px m (x j) (i+1))=gp m (gm m (gm m (c j) (bC m (x j) (x n))) (px m (x j) i)) (gm m (x n) (gm m (c j) (px m (x j) i))):=λj=>by
    show gm m (c j) (gm m (px m (x j) i) (x j))=_
    have e1:gm m (px m (x j) i) (x j)=gm m (px m (x j) i) (gp m (bC m (x j) (x n)) (x n)):=by rw[(dn j).2]
    rw[e1,u0 h0,u0 h0]
    congr 1
    ·rw[hE h0,g9 m (px m (x j) i)]
    ·rw[g9 m (px m (x j) i),<- hE h0,g9 m (c j),hE h0]
   rw[cm λj _=>e j,nj r,Au r,hz,r.qz]at h1
   have ln:sm (gp m) n (λj=>gm m (gm m (c j) (bC m (x j) (x n))) (px m (x j) i))<aa m:=j6 r λ_ _=>cg hm _ _
   rw[sm,As,gE m _ h0,eT m _ h0,r9 ln,r9 ln]at h1
   exact h1
  have ih:=Wn hm x hx n (λj=>gm m (c j) (bC m (x j) (x n))) (λ_=>cg hm _ _) (λi j hi hj=>hd i j (by omega) (by omega)) key
  have cz:∀j,j<n->c j=0:=λj hj=>by
   rcases(DA hm (hc j) (dn j).1).mp (ih j hj)with z | z
   ·exact z
   ·have:=(dn j).2
    rw[z,r6 (hx n)]at this
    exact absurd (hd n j (by omega) (by omega) this) (by omega)
  by_cases c0:j<n
  ·exact cz j c0
  ·have ej:j=n:=by omega
   subst ej
   have:=h 0 (by omega)
   rw[sm,gK r λi hi=>by rw[cz i hi,eT m _ h0]]at this
   rw[show px m (x j) 0=1 from rfl,pf (hc j),r6 (hc j)]at this
   exact this
theorem cD6{xs ys:List Nat}{i:Nat}{d:D}(h:(di (aq xs) (aq ys))[i]?=some d):∃(hi:i<xs.length) (hj:i<ys.length),d=.tup [.int (xs[i]:Nat),.int (ys[i]:Nat)]:=by
 unfold di at h
 rw[cw,cw,tF]at h
 have hl:=(ji.mp h).1
 rw[ik]at hl
 have hi:i<xs.length:=by omega
 have hj:i<ys.length:=by omega
 rw[mx,aJ hi,aJ hj]at h
 exact⟨hi,hj,(cT h).symm⟩
theorem cl2(xs ys:List Nat):(di (aq xs) (aq ys)).length=min xs.length ys.length:=by unfold di;rw[ik,eo,eo]
end L3
namespace L3
open PySem L2 Mf
def cy(m:Bool × Nat)(c:List Nat)(os:List (List Nat)):List (List Nat):=os.map λo =>
 (cZ (λx y=>bC m x (gm m (gm m (o.getD (aR c) 0) (nt m (c.getD (aR c) 0))) y)) o c).take (aR c)++(cZ (λx y=>bC m x (gm m (gm m (o.getD (aR c) 0) (nt m (c.getD (aR c) 0))) y)) o c).drop (aR c+1)
abbrev Cs:=List Nat × List (List Nat)
def nul(c:List Nat):Bool:=c.all (·==0)
def jf(m:Bool × Nat)(w:Nat)(z:Cs × Nat):Cs:=(z.1.1++[w-z.1.2.length+z.2],cy m (z.1.2.getD z.2 []) (z.1.2.drop (z.2+1)))
def fH(s:Cs):List (Cs × Nat):=(aZ s.2.length).map λi=>(s,i)
def dR(l:List Cs):List (Cs × Nat):=l.flatMap fH
def pI(z:Cs × Nat):Bool:=nul (z.1.2.getD z.2 [])
def u9(m:Bool × Nat)(w:Nat):Nat->List Cs->Option (List Nat)
 | 0,_=>none
 | f+1,l=>if l=[]then none else match (dR l).find? pI with
  | some z=>some (z.1.1++[w-z.1.2.length+z.2])
  | none=>u9 m w f ((dR l).map (jf m w))
def gM(m:Bool × Nat)(C:Nat->Nat->Nat)(ps:List Nat)(c:Nat->Nat)(k:Nat):Nat:=sm (gp m) ps.length λt=>gm m (c t) (C (ps.getD t 0) k)
def kJ(m:Bool × Nat)(C:Nat->Nat->Nat)(ps:List Nat):Prop:=∀c:Nat->Nat,(∀t,c t<aa m)->(∀k,gM m C ps c k=0)->∀t,t<ps.length->c t=0
structure Gs(m:Bool × Nat)(C:Nat->Nat->Nat)(w:Nat)(s:Cs):Prop where
 le:s.2.length<=w
 inc:s.1.Pairwise (· < ·)
 off:∀p∈s.1,p<w-s.2.length
 nx:∀j,(∀p∈s.1,p<j)->w-s.2.length<=j
 rt:∃h,RT (aa m) h s.2
 rel:∀a:Nat->Nat,(∀i,a i<aa m)->((∀k,sm (gp m) s.2.length (λi=>gm m (a i) (cf (s.2.getD i []) k))=0)↔∃c:Nat->Nat,(∀t,c t<aa m)/\∀k,gp m (sm (gp m) s.2.length λi=>gm m (a i) (C (w-s.2.length+i) k)) (gM m C s.1 c k)=0)
 ind:kJ m C s.1
section
variable{m:Bool × Nat}{C:Nat->Nat->Nat}{w:Nat}
theorem cM3(hm:m∈aD)(C:Nat->Nat->Nat)(ps:List Nat)(c:Nat->Nat)(k:Nat):gM m C ps c k<aa m:=j6 (rg hm) λ_ _=>cg hm _ _
theorem DB(hm:m∈aD)(C:Nat->Nat->Nat)(ps:List Nat)(j:Nat)(c:Nat->Nat)(k:Nat):gM m C (ps++[j]) c k=gp m (gM m C ps c k) (gm m (c ps.length) (C j k)):=by
 unfold gM
 rw[dS,FC,sm]
 congr 1
 ·refine cm λt ht=>?_
  rw[aK,sW ht,<- aK]
 ·rw[aK,sV (bM _),Ga];rfl
theorem Wo{ps:List Nat}{c c':Nat->Nat}{k:Nat}(h:∀t,t<ps.length->c t=c' t):gM m C ps c k=gM m C ps c' k:=cm λt ht=>by rw[h t ht]
theorem pJ(hm:m∈aD){n i e:Nat}(hi:i<n)(a' X:Nat->Nat):sm (gp m) n (λj=>gm m (if j<i then 0 else if j=i then e else a' (j-i-1)) (X j))=gp m (sm (gp m) (n-i-1) λj=>gm m (a' j) (X (i+1+j))) (gm m e (X i)):=by
 have r:=rg hm
 have h0:=bW m hm
 obtain⟨d,rfl⟩:∃d,n=(i+1)+d:=⟨n-i-1,by omega⟩
 rw[IA r (i+1) d λ_ _=>cg hm _ _,sm,gK r λj hj=>by rw[if_pos hj,eT m _ h0],if_neg (fM _),if_pos rfl,r.z (cg hm _ _),j5]
 congr 1
 rw[show i+1+d-i-1=d by omega]
 refine cm λj hj=>?_
 rw[if_neg (by omega),if_neg (by omega),show i+1+j-i-1=j by omega]
theorem wM{c:List Nat}:nul c=true↔∀k,cf c k=0:=by
 unfold nul
 rw[dv]
 constructor
 ·intro h k
  by_cases hk:k<c.length
  ·unfold cf
   have:=h _ (dJ hk 0)
   exact beq_iff_eq.mp this
  ·exact si (by omega)
 ·intro h x hx
  obtain⟨k,hk,rfl⟩:=gx hx
  have:=h k
  unfold cf at this
  rw[aK,aJ hk]at this
  exact beq_iff_eq.mpr this
theorem Jc{c:List Nat}(h:nul c=false):aR c<c.length/\cf c (aR c)≠0:=by
 have hx:∃x∈c,(x != 0)=true:=by
  refine FG λz=>?_
  have:nul c=true:=by
   unfold nul
   rw[dv]
   intro x hx
   refine FG λy=>z ⟨x,hx,?_⟩
   simpa using y
  rw[h]at this;cases this
 have hl:aR c<c.length:=FX hx
 refine⟨hl,?_⟩
 have h2:(c[aR c] != 0)=true:=dd8 (xs:=c) (p:=(· != 0)) (w:=hl)
 unfold cf
 rw[aK,aJ hl]
 simpa using h2
theorem DC(hm:m∈aD){b:List Nat}{os:List (List Nat)}{h:Nat}(hb:b.length=h)(ab:AllLt (aa m) b)(lZ:RT (aa m) h os)(nb:nul b=false){a:Nat->Nat}(ha:∀i,a i<aa m) :
  (∀k,sm (gp m) os.length (λj=>gm m (a j) (cf ((cy m b os).getD j []) k))=0)↔∃e,e<aa m/\∀k,gp m (sm (gp m) os.length λj=>gm m (a j) (cf (os.getD j []) k)) (gm m e (cf b k))=0:=by
 have r:=rg hm
 have h0:=bW m hm
 have dq:=lo1 hm
 obtain⟨hp,bp⟩:=Jc nb
 have Wq:=cF hm ab (aR b)
 obtain⟨iv,iv1,Wr⟩:=IB hm (a:=1) (by omega) Wq bp
 have Jd:nt m (b.getD (aR b) 0)=iv:=Ds hm iv1 Wr
 obtain⟨D,hD⟩:∃D:Nat->List Nat,∀j,D j=cZ (λx y=>bC m x (gm m (gm m ((os.getD j []).getD (aR b) 0) iv) y)) (os.getD j []) b:=⟨_,λ_=>rfl⟩
 have Ws:∀j,j<os.length->∀k,gp m (cf (D j) k) (gm m (gm m (cf (os.getD j []) (aR b)) iv) (cf b k))=cf (os.getD j []) k:=λj hj k=>by
  rw[hD]
  exact Dw hm (lZ _ (dJ hj [])).1 hb (lZ _ (dJ hj [])).2 k
 have Dlt:∀j,j<os.length->∀k,cf (D j) k<aa m:=λj hj k=>by
  rw[hD]
  exact IU hm (lZ _ (dJ hj [])).1 hb (lZ _ (dJ hj [])).2 _ k
 have Dp:∀j,j<os.length->cf (D j) (aR b)=0:=λj hj=>by
  have l1:=cF hm (lZ _ (dJ hj [])).2 (aR b)
  have:=Ws j hj (aR b)
  rw[hE h0,Wr,pf l1]at this
  exact r.cn (Dlt j hj _) l1 this
 have dX7:∀j,j<os.length->(D j).length=h:=λj hj=>by
  rw[hD,ik,(lZ _ (dJ hj [])).1,hb,tD]
 have Je:∀j,j<os.length->∀k,cf ((cy m b os).getD j []) k=cf (D j) (if k<aR b then k else k+1):=λj hj k=>by
  have e1:(cy m b os).getD j []=(D j).take (aR b)++(D j).drop (aR b+1):=by
   unfold cy
   rw[wG _ hj [] [],Jd,hD]
  rw[e1]
  have lt:((D j).take (aR b)).length=aR b:=by rw[ig,dX7 j hj];omega
  unfold cf
  by_cases hk:k<aR b
  ·rw[if_pos hk,aK,sW (by omega),db2 hk,<- aK]
  ·rw[if_neg hk,aK,sV (by omega),lt,FU,show aR b+1+(k-aR b)=k+1 by omega,<- aK]
 obtain⟨F,hF⟩:∃F,F=sm (gp m) os.length λj=>gm m (a j) (gm m (cf (os.getD j []) (aR b)) iv):=⟨_,rfl⟩
 have Flt:F<aa m:=by rw[hF];exact j6 r λ_ _=>cg hm _ _
 have Wt:∀k,(sm (gp m) os.length λj=>gm m (a j) (cf (os.getD j []) k))=gp m (sm (gp m) os.length λj=>gm m (a j) (cf (D j) k)) (gm m F (cf b k)):=λk=>by
  rw[cm (g:=λj=>gp m (gm m (a j) (cf (D j) k)) (gm m (cf b k) (gm m (a j) (gm m (cf (os.getD j []) (aR b)) iv)))) λj hj=>?_,nj r,Au r,<- hF,g9 m (cf b k)]
  rw[<-Ws j hj k,u0 h0]
  congr 1
  rw[<-hE h0,g9 m _ (cf b k)]
 have lR:(∀k,sm (gp m) os.length (λj=>gm m (a j) (cf ((cy m b os).getD j []) k))=0)↔∀k,sm (gp m) os.length (λj=>gm m (a j) (cf (D j) k))=0:=by
  constructor
  ·intro h k
   by_cases e:k=aR b
   ·exact gK r λj hj=>by rw[e,Dp j hj,gE m _ h0]
   ·by_cases c:k<aR b
    ·rw[<-h k]
     exact cm λj hj=>by rw[Je j hj,if_pos c]
    ·rw[<-h (k-1)]
     exact cm λj hj=>by rw[Je j hj,if_neg (by omega),show k-1+1=k by omega]
  ·intro h k
   rw[cm λj hj=>by rw[Je j hj]]
   exact h _
 rw[lR]
 constructor
 ·intro h
  obtain⟨e,e1,e2⟩:=r.ng Flt
  refine⟨e,e1,λk=>?_⟩
  rw[Wt k,h k,r.z (cg hm _ _),<- Dk h0,e2,eT m _ h0]
 ·rintro⟨e,e1,h⟩
  have key:∀k,gp m (sm (gp m) os.length λj=>gm m (a j) (cf (D j) k)) (gm m (gp m F e) (cf b k))=0:=λk=>by
   rw[Dk h0,<- Iy,<- Wt k]
   exact h k
  have fe:gp m F e=0:=by
   have:=key (aR b)
   rw[gK r λj hj=>by rw[Dp j hj,gE m _ h0],r.z (cg hm _ _)]at this
   rcases(DA hm (Ao hm Flt e1) Wq).mp this with z | z
   ·exact z
   ·exact absurd z bp
  intro k
  have:=key k
  rw[fe,eT m _ h0,r9 (j6 r λ_ _=>cg hm _ _)]at this
  exact this
theorem sr(m:Bool × Nat)(b:List Nat)(os:List (List Nat)):(cy m b os).length=os.length:=by unfold cy;rw[br]
theorem wN(hm:m∈aD){b:List Nat}{os:List (List Nat)}{h:Nat}(hb:b.length=h)(lZ:RT (aa m) h os)(nb:nul b=false):RT (aa m) (h-1) (cy m b os):=λx hx=>by
 obtain⟨o,ho,rfl⟩:=bE.mp hx
 obtain⟨hp,_⟩:=Jc nb
 obtain⟨l1,l2⟩:=lZ o ho
 refine⟨by rw[dS,ig,jk,ik,l1,hb];omega,λy hy=>?_⟩
 have:AllLt (aa m) (cZ (λx y=>bC m x (gm m (gm m (o.getD (aR b) 0) (nt m (b.getD (aR b) 0))) y)) o b):=Dq λx hx y _=>(fG hm (l2 x hx) (cg hm _ y)).2.1
 rcases bY.mp hy with z | z
 ·exact this y (qg z)
 ·exact this y (qf z)
theorem Gs.next(hm:m∈aD){s:Cs}(G:Gs m C w s){i:Nat}(hi:i<s.2.length)(nb:nul (s.2.getD i [])=false)(hC:∀j k,C j k<aa m):Gs m C w (jf m w (s,i)):=by
 have r:=rg hm
 have h0:=bW m hm
 have dq:=lo1 hm
 have hle:=G.le
 obtain⟨h,DD⟩:=G.rt
 obtain⟨bl,ba⟩:=DD _ (dJ hi [])
 have su:RT (aa m) h (s.2.drop (i+1)):=λx hx=>DD x (qf hx)
 have kl:(jf m w (s,i)).2.length=s.2.length-i-1:=by
  show(cy m _ _).length=_
  rw[sr,jk]
  show s.2.length-(i+1)=_
  omega
 have dl:(s.2.drop (i+1)).length=s.2.length-i-1:=by rw[jk];omega
 have ko:w-(jf m w (s,i)).2.length=w-s.2.length+i+1:=by omega
 have dg:∀j,(s.2.drop (i+1)).getD j []=s.2.getD (i+1+j) []:=λj=>by rw[aK,FU,<- aK]
 refine⟨by omega,?_,λp hp=>?_,λj hj=>?_,⟨h-1,wN hm bl su nb⟩,λa ha=>?_,λc hc hz t ht=>?_⟩
 ·refine BV.mpr ⟨G.inc,Sa _ _,λx hx y hy=>?_⟩
  rw[dW.mp hy]
  have:=G.off x hx
  show x<w-s.2.length+i
  omega
 ·rw[ko]
  rcases bY.mp hp with z | z
  ·have:=G.off p z;omega
  ·rw[dW.mp z];exact BH _
 ·rw[ko]
  have:=hj (w-s.2.length+i) (fc _ (dW.mpr rfl))
  omega
 ·have e1:(∀k,sm (gp m) (jf m w (s,i)).2.length (λj=>gm m (a j) (cf ((jf m w (s,i)).2.getD j []) k))=0)↔∃e,e<aa m/\∀k,gp m (sm (gp m) (s.2.length-i-1) λj=>gm m (a j) (cf (s.2.getD (i+1+j) []) k)) (gm m e (cf (s.2.getD i []) k))=0:=by
   have:=DC hm bl ba su nb ha
   rw[dl]at this
   rw[kl]
   refine this.trans ?_
   constructor
   ·rintro⟨e,e1,e2⟩
    exact⟨e,e1,λk=>by rw[<-e2 k,cm λj _=>by rw[<-dg j]]⟩
   ·rintro⟨e,e1,e2⟩
    exact⟨e,e1,λk=>by rw[<-e2 k,cm λj _=>by rw[dg j]]⟩
  rw[e1]
  have al:∀e,e<aa m->∀j,(if j<i then 0 else if j=i then e else a (j-i-1))<aa m:=λe he j=>by
   split
   ·omega
   ·split
    ·exact he
    ·exact ha _
  have Wu:∀(c:Nat->Nat) (e k:Nat),gp m (sm (gp m) s.2.length λj=>gm m (if j<i then 0 else if j=i then e else a (j-i-1)) (C (w-s.2.length+j) k)) (gM m C s.1 c k)=gp m (sm (gp m) (s.2.length-i-1) λj=>gm m (a j) (C (w-s.2.length+i+1+j) k)) (gp m (gM m C s.1 c k) (gm m e (C (w-s.2.length+i) k))):=λc e k=>by
   rw[pJ hm hi a (λj=>C (w-s.2.length+j) k),Iy,j5 m (gm m e _)]
   congr 1
   exact cm λj _=>by rw[show w-s.2.length+(i+1+j)=w-s.2.length+i+1+j by omega]
  have ln:∀c k,gM m C (jf m w (s,i)).1 c k=gp m (gM m C s.1 c k) (gm m (c s.1.length) (C (w-s.2.length+i) k)):=λc k=>DB hm C s.1 _ c k
  constructor
  ·rintro⟨e,e1,e2⟩
   obtain⟨c,c1,c2⟩:=(G.rel _ (al e e1)).mp λk=>by
    rw[pJ hm hi a (λj=>cf (s.2.getD j []) k)]
    exact e2 k
   refine⟨λt=>if t=s.1.length then e else c t,λt=>by
    show(if t=s.1.length then e else c t)<aa m
    split
    ·exact e1
    ·exact c1 t,λk=>?_⟩
   rw[ln,ko,kl,if_pos rfl,Wo (c':=c) λt ht=>if_neg (ft ht),<- Wu c e k]
   exact c2 k
  ·rintro⟨c,c1,c2⟩
   refine⟨c s.1.length,c1 _,λk=>?_⟩
   have:=(G.rel _ (al _ (c1 s.1.length))).mpr ⟨c,c1,λk=>by
    rw[Wu c _ k]
    have:=c2 k
    rw[ln,ko,kl]at this
    exact this⟩ k
   rw[pJ hm hi a (λj=>cf (s.2.getD j []) k)]at this
   exact this
 ·have ln:∀k,gp m (gM m C s.1 c k) (gm m (c s.1.length) (C (w-s.2.length+i) k))=0:=λk=>by
   rw[<-DB hm C s.1 _ c k]
   exact hz k
  have e0:c s.1.length=0:=by
   refine FG λz=>?_
   have al:∀j,(if j<i then 0 else if j=i then c s.1.length else(λ_=>0) (j-i-1))<aa m:=λj=>by
    split
    ·omega
    ·split
     ·exact hc _
     ·show 0<_;omega
   have z0:∀(n:Nat) (X:Nat->Nat),sm (gp m) n (λj=>gm m ((λ_=>0) j) (X j))=0:=λn X=>gK r λ_ _=>eT m _ h0
   have:=(G.rel _ al).mpr ⟨c,hc,λk=>by
    rw[pJ hm hi (λ_=>0) (λj=>C (w-s.2.length+j) k),z0,r.z (cg hm _ _),j5]
    exact ln k⟩
   have nn:nul (s.2.getD i [])=true:=wM.mpr λk=>by
    have q:=this k
    rw[pJ hm hi (λ_=>0) (λj=>cf (s.2.getD j []) k),z0,r.z (cg hm _ _)]at q
    rcases(DA hm (hc _) (cF hm ba k)).mp q with y | y
    ·exact absurd y z
    ·exact y
   rw[nb]at nn;cases nn
  have hs:∀k,gM m C s.1 c k=0:=λk=>by
   have:=ln k
   rw[e0,eT m _ h0,r9 (cM3 hm C _ c k)]at this
   exact this
  have hl:(jf m w (s,i)).1.length=s.1.length+1:=by show(s.1++[_]).length=_;rw[dS];rfl
  by_cases ct:t<s.1.length
  ·exact G.ind c hc hs t ct
  ·rw[show t=s.1.length by omega];exact e0
theorem Gs.bound(hm:m∈aD){s:Cs}(G:Gs m C w s){i:Nat}(hi:i<s.2.length)(hC:∀j k,C j k<aa m):nul (s.2.getD i [])=true↔∃c:Nat->Nat,(∀t,c t<aa m)/\c s.1.length=1/\∀k,gM m C (s.1++[w-s.2.length+i]) c k=0:=by
 have r:=rg hm
 have h0:=bW m hm
 have dq:=lo1 hm
 obtain⟨h,DD⟩:=G.rt
 obtain⟨bl,ba⟩:=DD _ (dJ hi [])
 have al:∀j,(if j<i then 0 else if j=i then 1 else(λ_=>0) (j-i-1))<aa m:=λj=>by
  split
  ·omega
  ·split
   ·omega
   ·show 0<_;omega
 have z0:∀(n:Nat) (X:Nat->Nat),sm (gp m) n (λj=>gm m ((λ_=>0) j) (X j))=0:=λn X=>gK r λ_ _=>eT m _ h0
 have e1:nul (s.2.getD i [])=true↔∀k,sm (gp m) s.2.length (λj=>gm m (if j<i then 0 else if j=i then 1 else(λ_=>0) (j-i-1)) (cf (s.2.getD j []) k))=0:=by
  rw[wM]
  refine forall_congr' λk=>?_
  rw[pJ hm hi (λ_=>0) (λj=>cf (s.2.getD j []) k),z0,r.z (cg hm _ _),lV (cF hm ba k)]
 rw[e1,G.rel _ al]
 constructor
 ·rintro⟨c,c1,c2⟩
  refine⟨λt=>if t=s.1.length then 1 else c t,λt=>by
   show(if t=s.1.length then 1 else c t)<aa m
   split
   ·omega
   ·exact c1 t,if_pos rfl,λk=>?_⟩
  rw[DB hm,if_pos rfl,Wo (c':=c) λt ht=>if_neg (ft ht),j5,<- c2 k,pJ hm hi (λ_=>0) (λj=>C (w-s.2.length+j) k),z0,r.z (cg hm _ _)]
 ·rintro⟨c,c1,c2,c3⟩
  refine⟨c,c1,λk=>?_⟩
  have:=c3 k
  rw[DB hm,c2]at this
  rw[pJ hm hi (λ_=>0) (λj=>C (w-s.2.length+j) k),z0,r.z (cg hm _ _),j5]
  exact this
end
end L3
namespace L3
open PySem L2 Mf
def jH:List Nat->List Nat->Prop
 | a::as,b::bs=>a<b\/(a=b/\jH as bs)
 | _,_=>False
theorem Wv:∀l:List Nat,¬ jH l l
 | [],h=>h
 | a::l,h=>h.elim (λz=>fM _ z) λz=>Wv l z.2
theorem Ww:∀a b:List Nat,jH a b->¬ jH b a
 | [],_,h,_=>h
 | _::_,[],h,_=>h
 | a::as,b::bs,h,h'=>by
  rcases h with h | ⟨rfl,h⟩
  ·rcases h' with h' | ⟨e,_⟩
   ·omega
   ·omega
  ·rcases h' with h' | ⟨_,h'⟩
   ·omega
   ·exact Ww as bs h h'
theorem Wx:∀(a b:List Nat) (x y:List Nat),a.length=b.length->jH a b->jH (a++x) (b++y)
 | [],_,_,_,_,h=>h.elim
 | _::_,[],_,_,_,h=>h.elim
 | a::as,b::bs,x,y,hl,h=>by
  rcases h with h | ⟨e,h⟩
  ·exact .inl h
  ·exact .inr ⟨e,Wx as bs x y (by simpa using hl) h⟩
theorem Wy:∀(a:List Nat) (x y:Nat),x<y->jH (a++[x]) (a++[y])
 | [],_,_,h=>.inl h
 | _::as,x,y,h=>.inr ⟨rfl,Wy as x y h⟩
def fI(w:Nat)(S:List Nat):Prop:=S.Pairwise (· < ·)/\∀x∈S,x<w
theorem Wz:∀(S:List Nat) (lo w:Nat),S.Pairwise (· < ·)->(∀x∈S,lo<=x/\x<w)->S.length<=w-lo
 | [],_,_,_,_=>jL _
 | a::S,lo,w,hp,h=>by
  rw[BU]at hp
  have ih:=Wz S (a+1) w hp.2 λx hx=>⟨hp.1 x hx,(h x (dY _ hx)).2⟩
  have ha:=h a (fZ ..)
  rw[gR]
  omega
theorem fI.len{S:List Nat}{w:Nat}(h:fI w S):S.length<=w:=Wz S 0 w h.1 λx hx=>⟨jL _,h.2 x hx⟩
theorem fI.take{S:List Nat}{w:Nat}(h:fI w S)(k:Nat):fI w (S.take k):=⟨h.1.sublist (List.take_sublist k S),λx hx=>h.2 x (qg hx)⟩
def j8(w:Nat)(z:Cs × Nat):List Nat:=z.1.1++[w-z.1.2.length+z.2]
structure Lv(m:Bool × Nat)(C:Nat->Nat->Nat)(w k:Nat)(l:List Cs):Prop where
 gs:∀s∈l,Gs m C w s/\s.1.length=k
 all:∀S,fI w S->S.length=k->∃s∈l,s.1=S
 ord:(l.map (·.1)).Pairwise jH
theorem wO{l:List Cs}{z:Cs × Nat}:z∈dR l↔z.1∈l/\z.2<z.1.2.length:=by
 unfold dR
 rw[List.mem_flatMap]
 constructor
 ·rintro⟨s,hs,hz⟩
  obtain⟨i,hi,rfl⟩:=bE.mp hz
  exact⟨hs,cS.mp hi⟩
 ·rintro⟨h1,h2⟩
  exact⟨z.1,h1,bE.mpr ⟨z.2,cS.mpr h2,rfl⟩⟩
section
variable{m:Bool × Nat}{C:Nat->Nat->Nat}{w:Nat}
theorem Jf{k:Nat}:∀{l:List Cs},(∀s∈l,s.1.length=k)->(l.map (·.1)).Pairwise jH->((dR l).map (j8 w)).Pairwise jH
 | [],_,_=>RF
 | s::l,hl,ho=>by
  rw[dE,BU]at ho
  show(((fH s)++dR l).map (j8 w)).Pairwise jH
  rw[gh,BV]
  refine⟨?_,Jf (λs hs=>hl s (dY _ hs)) ho.2,λa ha b hb=>?_⟩
  ·unfold fH
   rw[bZ]
   refine Sb.mpr (de1.imp λ{a b} hab=>?_)
   exact Wy s.1 _ _ (show w-s.2.length+a<w-s.2.length+b by omega)
  ·obtain⟨z,hz,rfl⟩:=bE.mp ha
   obtain⟨i,_,rfl⟩:=bE.mp hz
   obtain⟨y,hy,rfl⟩:=bE.mp hb
   obtain⟨h1,_⟩:=wO.mp hy
   exact Wx _ _ _ _ (by rw[hl s (fZ ..),hl _ (dY _ h1)]) (ho.1 _ (bE.mpr ⟨_,h1,rfl⟩))
theorem Lv.meets(L:Lv m C w k l){S:List Nat}(hS:fI w S)(hk:S.length=k+1):∃z∈dR l,j8 w z=S:=by
 have e:S=S.take k++[S.getD k 0]:=by
  have h1:S.drop k=[S.getD k 0]:=by
   rw[List.drop_eq_getElem_cons (by omega),List.drop_of_length_le (by omega),aK,aJ (by omega)];rfl
  conv=>lhs;rw[<-Sd k S,h1]
 obtain⟨s,hs,es⟩:=L.all _ (hS.take k) (by rw[ig];omega)
 obtain⟨G,_⟩:=L.gs s hs
 have hj:∀p∈s.1,p<S.getD k 0:=λp hp=>by
  rw[es]at hp
  have:=hS.1
  rw[e,BV]at this
  exact this.2.2 p hp _ (dW.mpr rfl)
 have h1:=G.nx _ hj
 have h2:=hS.2 (S.getD k 0) (dJ (by omega) 0)
 have h3:=G.le
 refine⟨(s,S.getD k 0-(w-s.2.length)),wO.mpr ⟨hs,?_⟩,?_⟩
 ·show S.getD k 0-(w-s.2.length)<s.2.length
  omega
 ·show s.1++[w-s.2.length+(S.getD k 0-(w-s.2.length))]=S
  rw[show w-s.2.length+(S.getD k 0-(w-s.2.length))=S.getD k 0 by omega,es]
  exact e.symm
theorem Lv.next(hm:m∈aD)(hC:∀j k,C j k<aa m)(L:Lv m C w k l)(hn:∀z∈dR l,pI z=false):Lv m C w (k+1) ((dR l).map (jf m w)) where
 gs:=λs hs=>by
  obtain⟨z,hz,rfl⟩:=bE.mp hs
  obtain⟨h1,h2⟩:=wO.mp hz
  obtain⟨G,hl⟩:=L.gs _ h1
  refine⟨G.next hm h2 (hn z hz) hC,?_⟩
  show(z.1.1++[_]).length=_
  rw[dS,hl];rfl
 all:=λS hS hk=>by
  obtain⟨z,hz,e⟩:=L.meets hS hk
  exact⟨jf m w z,bE.mpr ⟨z,hz,rfl⟩,e⟩
 ord:=by
  rw[bZ]
  exact Jf (λs hs=>(L.gs s hs).2) L.ord
theorem Jg(hm:m∈aD)(hC:∀j k,C j k<aa m):∀(f k:Nat) (l:List Cs),Lv m C w k l->w+1<=f+k ->
  match u9 m w f l with
  | none=>∀S,fI w S->k<=S.length->kJ m C S
  | some F=>fI w F/\k<F.length/\(∃c:Nat->Nat,(∀t,c t<aa m)/\c (F.length-1)=1/\∀j,gM m C F c j=0)/\∀S,fI w S->k<=S.length->S.length<F.length\/(S.length=F.length/\jH S F)->kJ m C S
 | 0,k,l,L,hf=>λS hS hk=>absurd hS.len (by omega)
 | f+1,k,l,L,hf=>by
  have here:∀S,fI w S->S.length=k->kJ m C S:=λS hS hk=>by
   obtain⟨s,hs,rfl⟩:=L.all S hS hk
   exact(L.gs s hs).1.ind
  rw[u9]
  by_cases l0:l=[]
  ·rw[if_pos l0]
   subst l0
   intro S hS hk
   obtain⟨s,hs,_⟩:=L.all (S.take k) (hS.take k) (by rw[ig];omega)
   cases hs
  ·rw[if_neg l0]
   cases e:(dR l).find? pI with
   | some z =>
    obtain⟨hz,as,bs,eL,sA⟩:=de2.mp e
    obtain⟨h1,h2⟩:=wO.mp (RP e)
    obtain⟨G,hl⟩:=L.gs _ h1
    have hle:=G.le
    have fl:(j8 w z).length=k+1:=by show(z.1.1++[_]).length=_;rw[dS,hl];rfl
    refine⟨⟨?_,λx hx=>?_⟩,by show k<(j8 w z).length;omega,?_,λS hS hk hc=>?_⟩
    ·refine BV.mpr ⟨G.inc,Sa _ _,λx hx y hy=>?_⟩
     rw[dW.mp hy]
     have:=G.off x hx
     omega
    ·rcases bY.mp hx with q | q
     ·have:=G.off x q;omega
     ·rw[dW.mp q];omega
    ·obtain⟨c,c1,c2,c3⟩:=(G.bound hm h2 hC).mp hz
     refine⟨c,c1,?_,c3⟩
     show c ((j8 w z).length-1)=1
     rw[fl,Nat.add_sub_cancel,<- hl]
     exact c2
    ·by_cases ck:S.length=k
     ·exact here S hS ck
     have cl:S.length=k+1/\jH S (j8 w z):=by
      rcases hc with q | ⟨q1,q2⟩
      ·exact absurd (show S.length<(j8 w z).length from q) (by omega)
      ·exact⟨(show S.length=(j8 w z).length from q1).trans fl,q2⟩
     obtain⟨y,hy,ey⟩:=L.meets hS cl.1
     obtain⟨y1,y2⟩:=wO.mp hy
     obtain⟨Gy,_⟩:=L.gs _ y1
     cases ny:pI y with
     | false =>
      have:=(Gy.next hm y2 ny hC).ind
      rwa [show(jf m w (y.1,y.2)).1=S from ey]at this
     | true =>
      exfalso
      have od:=Jf (w:=w) (λs hs=>(L.gs s hs).2) L.ord
      rw[eL]at hy od
      rw[gh,dE,BV]at od
      have Jh:=(BU.mp od.2.1).1
      rcases bY.mp hy with q | q
      ·have:=sA y q
       rw[ny]at this;simp at this
      ·rcases cA.mp q with q | q
       ·rw[q]at ey
        rw[<-ey]at cl
        exact Wv _ cl.2
       ·have:=Jh _ (bE.mpr ⟨y,q,rfl⟩)
        rw[ey]at this
        exact Ww _ _ this cl.2
   | none =>
    have hn:∀z∈dR l,pI z=false:=λz hz=>by
     have:=R6.mp e z hz
     simpa using this
    have ih:=Jg hm hC f (k+1) _ (L.next hm hC hn) (by omega)
    dsimp only
    split
    ·rename_i e2
     rw[e2]at ih
     intro S hS hk
     by_cases ck:S.length=k
     ·exact here S hS ck
     ·exact ih S hS (by omega)
    ·rename_i F e2
     rw[e2]at ih
     obtain⟨i1,i2,i3,i4⟩:=ih
     refine⟨i1,by omega,i3,λS hS hk hc=>?_⟩
     by_cases ck:S.length=k
     ·exact here S hS ck
     ·exact i4 S hS (by omega) hc
end
end L3
namespace L3
open PySem L2 Mf
def fX(T:List (List Nat))(j k:Nat):Nat:=cf (T.getD k []) j
theorem Ji{m:Bool × Nat}(hm:m∈aD){w:Nat}{T:List (List Nat)}(hT:RT (aa m) w T)(j k:Nat):fX T j k<aa m:=by
 unfold fX
 by_cases hk:k<T.length
 ·exact cF hm (hT _ (dJ hk [])).2 j
 ·have e:T.getD k []=[]:=by rw[aK,gU (by omega)];rfl
  rw[e]
  have:=lo1 hm
  show 0<_
  omega
theorem Lv.start{m:Bool × Nat}(hm:m∈aD){T:List (List Nat)}(hw:0<ag T)(hT:RT (aa m) (ag T) T):Lv m (fX T) (ag T) 0 [([],cJ T)]:=by
 have r:=rg hm
 obtain⟨t1,t2,t3⟩:=wK (FF Se (lo1 hm)) hw hT
 refine⟨λs hs=>?_,λS _ h=>⟨_,dW.mpr rfl,(de3.mp h).symm⟩,Sa _ _⟩
 rw[dW.mp hs]
 refine⟨⟨BG t1,RF,λp hp=>absurd hp (ij),λj _=>by show ag T-(cJ T).length<=j;omega,⟨_,t3⟩,λa ha=>?_,λc _ _ t ht=>absurd ht (by show ¬ t<0;omega)⟩,rfl⟩
 have e:∀k,sm (gp m) (cJ T).length (λi=>gm m (a i) (cf ((cJ T).getD i []) k))=sm (gp m) (cJ T).length λi=>gm m (a i) (fX T (ag T-(cJ T).length+i) k):=λk=>cm λi hi=>by
  rw[Dz (by omega),Wh,show ag T-(cJ T).length+i=i by omega];rfl
 have z:∀c k,gM m (fX T) [] c k=0:=λ_ _=>rfl
 constructor
 ·intro h
  refine⟨λ_=>0,λ_=>by have:=lo1 hm;show 0<_;omega,λk=>?_⟩
  rw[z,r9 (j6 r λ_ _=>cg hm _ _),<- e k]
  exact h k
 ·rintro⟨c,_,h⟩ k
  have:=h k
  rw[z,r9 (j6 r λ_ _=>cg hm _ _),<- e k]at this
  exact this
def pK(m:Bool × Nat)(T:List (List Nat)):Option (List Nat):=u9 m (ag T) (ag T+1) [([],cJ T)]
section
variable{m:Bool × Nat}{C:Nat->Nat->Nat}
end
def jg(T:List (List Nat))(F:List Nat):List (List Nat):=T.map λr=>F.map λj=>r.getD j 0
theorem WA{N w:Nat}{T:List (List Nat)}{F:List Nat}(h0:0<N)(hT:RT N w T):RT N F.length (jg T F)/\(jg T F).length=T.length:=by
 refine⟨λx hx=>?_,by unfold jg;rw[br]⟩
 obtain⟨r,hr,rfl⟩:=bE.mp hx
 refine⟨by rw[br],λy hy=>?_⟩
 obtain⟨j,_,rfl⟩:=bE.mp hy
 exact(hT r hr).2.getD h0 j
theorem WB{T:List (List Nat)}{F:List Nat}{k t:Nat}(hk:k<T.length)(ht:t<F.length):cf ((jg T F).getD k []) t=fX T (F.getD t 0) k:=by
 unfold jg fX cf
 rw[wG _ hk [] [],wG _ ht 0 0]
theorem ch5{o:Bool}{G:List (List Nat)}{i:Nat}{d:D}(hd:(aE o G)[i]?=some d):∃hi:i<G.length,d=.lst o (aq G[i]):=by
 unfold aE at hd
 rw[bP]at hd
 by_cases hi:i<G.length
 ·rw[aJ hi]at hd
  exact⟨hi,(cT hd).symm⟩
 ·rw[gU (by omega)]at hd;cases hd
end L3
namespace L3
open PySem L2 PySem.Spec PyProof.Rows
section
variable{B:Bs}{F H:Hp}{σ:L2.St}{δ:Dl}{ts:List (D × V)}
end
section
variable{X:Cx}{a:Expr}{ta:aY}{pos p2:Pos}{tk:Nat}
end
end L3
namespace L3
open PySem L2 PySem.Spec PyProof.Rows
section
variable{X:Cx}{a b:Expr}{ta tb:aY}{elts:List Expr}{x1:Nat}{tT p pos:Pos}
end
end L3
namespace L3
open PySem L2 Mf
section
variable{m:Bool × Nat}
theorem cB7(hm:m∈aD){T:List (List Nat)}(hw:0<ag T)(hT:RT (aa m) (ag T) T)(h:pK m T=none):∀S,fI (ag T) S->kJ m (fX T) S:=by
 have:=Jg hm (Ji hm hT) (ag T+1) 0 _ (Lv.start hm hw hT) (by omega)
 unfold pK at h
 rw[h]at this
 exact λS hS=>this S hS (jL _)
theorem cE8(hm:m∈aD){T:List (List Nat)}(hw:0<ag T)(hT:RT (aa m) (ag T) T){F:List Nat}(h:pK m T=some F):fI (ag T) F/\0<F.length/\(∃c:Nat->Nat,(∀t,c t<aa m)/\c (F.length-1)=1/\∀j,gM m (fX T) F c j=0)/\∀S,fI (ag T) S->S.length<F.length\/(S.length=F.length/\jH S F)->kJ m (fX T) S:=by
 have:=Jg hm (Ji hm hT) (ag T+1) 0 _ (Lv.start hm hw hT) (by omega)
 unfold pK at h
 rw[h]at this
 obtain⟨a,b,c,d⟩:=this
 exact⟨a,b,c,λS hS=>d S hS (jL _)⟩
structure wQ(m:Bool × Nat)(R W:Nat)(x y:Nat->Nat)(T:List (List Nat)):Prop where
 rt:RT (aa m) W T
 l:T.length=R
 xl:∀j,x j<aa m
 xd:∀i j,i<W->j<W->x i=x j->i=j
 yl:∀j,y j<aa m
 y0:∀j,j<W->y j≠0
 at_:∀i,i<R->∃k,k<R/\∀j,j<W->fX T j k=gm m (y j) (px m (x j) i)
theorem wQ.ind(hm:m∈aD){R W:Nat}{x y:Nat->Nat}{T:List (List Nat)}(h:wQ m R W x y T){S:List Nat}(hS:fI W S)(hR:S.length<=R):kJ m (fX T) S:=by
 intro c hc hz t ht
 have gS:∀t,t<S.length->S.getD t 0<W:=λt ht=>hS.2 _ (dJ ht 0)
 have:=Wn hm (λt=>x (S.getD t 0)) (λ_=>h.xl _) S.length (λt=>gm m (c t) (y (S.getD t 0))) (λ_=>cg hm _ _) (λi j hi hj e=>by
  have e':=h.xd _ _ (gS i hi) (gS j hj) e
  rcases Nat.lt_trichotomy i j with q | q | q
  ·have:=Gb.mp hS.1 i j hi hj q
   rw[aK,aK,aJ hi,aJ hj]at e'
   have e2:S[i]=S[j]:=e'
   omega
  ·exact q
  ·have:=Gb.mp hS.1 j i hj hi q
   rw[aK,aK,aJ hi,aJ hj]at e'
   have e2:S[i]=S[j]:=e'
   omega) (λi hi=>by
  obtain⟨k,_,hk⟩:=h.at_ i (by omega)
  refine qk (cm λt ht=>?_) (hz k)
  show gm m (gm m (c t) (y (S.getD t 0))) (px m (x (S.getD t 0)) i)=gm m (c t) (fX T (S.getD t 0) k)
  rw[hk _ (gS t ht),hE (bW m hm)]) t ht
 rcases(DA hm (hc t) (h.yl _)).mp this with z | z
 ·exact z
 ·exact absurd z (h.y0 _ (gS t ht))
end
end L3
namespace L2
open PySem PySem.Spec PyProof.Rows
section
variable{X:Cx}
end
end L2
namespace L3
open PySem L2 PySem.Spec PyProof.Rows
section
variable{X:Cx}{o e:Expr}{t tb:aY}{apos cj:Pos}
end
section
variable{X:Cx}{i:Nat}{x:Str}{p pos apos cj dJ9 AF:Pos}{a b:List Stmt}{t u:cW}{k:Int}{j}
end
end L3
namespace L3
open PySem L2 Mf
section
variable{N:Nat}{p q:Nat->Nat->Nat}
variable{ng:Nat->Nat}{c:Nat}
end
section
variable{m:Bool × Nat}
end
end L3
namespace L2
open PySem PySem.Spec PyProof.Rows
section
variable{prog:Program}{w:World}{A:Around}{E:Value->Shared->Prop}{s:Shared}
end
section
variable{X:Cx}{e:Expr}{ta:TA}{p p2 pos AF:Pos}
end
end L2
namespace L3
open PySem L2 PySem.Spec PyProof.Rows
section
variable{X:Cx}{e:Expr}{tr:df}{p p2 pos AF:Pos}
end
end L3
namespace L3
open PySem L2 Mf
section
variable{m:Bool × Nat}
theorem Jj{N:Nat}{p q:Nat->Nat->Nat}(r:Rg N p q){f:Nat->Nat}(hf:∀j,f j<N){n a:Nat}(ha:a<n):sm p n f=p (f a) (sm p n λj=>if j=a then 0 else f j):=by
 rw[cm (g:=λj=>p (if j=a then f a else 0) (if j=a then 0 else f j)) λj _=>?_,nj r,AD r (f:=λj=>if j=a then f a else 0) (j0:=a) (by simp[hf]) ha λj _ hj=>if_neg hj]
 ·simp
 ·by_cases c:j=a
  ·subst c;simp[r.z' (hf j)]
  ·simp[c,r.z (hf j)]
theorem DE{N:Nat}{p q:Nat->Nat->Nat}(r:Rg N p q){n:Nat}:∀{ps:List Nat} {f:Nat->Nat},(∀j,f j<N)->ps.Nodup->(∀a∈ps,a<n)->(∀j,j<n->j ∉ ps->f j=0)->sm p n f=sm p ps.length λk=>f (ps.getD k 0)
 | [],f,_,_,_,hz=>gK r λj hj=>hz j hj ij
 | a::ps,f,hf,nd,hp,hz=>by
  obtain⟨n1,n2⟩:=jj.mp nd
  have IS:∀j,(if j=a then 0 else f j)<N:=λj=>by
   by_cases c:j=a
   ·rw[if_pos c];exact r.pos
   ·rw[if_neg c];exact hf j
  rw[Jj r hf (hp a fZ),DE r (ps:=ps) IS n2 (λb hb=>hp b (dY _ hb)) λj hj hn=>?_,gR,co1 r _ λj _=>hf _]
  ·show _=p (f a) (sm p ps.length λk=>f (ps.getD k 0))
   congr 1
   refine cm λj hj=>?_
   have:=dJ hj 0
   exact if_neg λ(z:ps.getD j 0=a)=>n1 (z ▸ this)
  ·by_cases c:j=a
   ·exact if_pos c
   ·rw[if_neg c]
    exact hz j hj λh=>by
     rcases cA.mp h with h | h
     ·exact c h
     ·exact hn h
def eU(m:Bool × Nat):List Nat->List Nat->List Nat->List Nat
 | l,p::ps,x::xs=>eU m (l.set p (bC m (cf l p) x)) ps xs
 | l,[],_=>l
 | l,_::_,[]=>l
theorem WC(hm:m∈aD):∀{ps xs l:List Nat},AllLt (aa m) l->AllLt (aa m) xs->ps.Nodup->(∀p∈ps,p<l.length)->xs.length=ps.length->AllLt (aa m) (eU m l ps xs)/\(eU m l ps xs).length=l.length/\(∀j,j ∉ ps->cf (eU m l ps xs) j=cf l j)/\∀k,k<ps.length->cf (eU m l ps xs) (ps.getD k 0)=bC m (cf l (ps.getD k 0)) (cf xs k)
 | [],xs,l,hl,_,_,_,_=>⟨by unfold eU;exact hl,by unfold eU;rfl,λ_ _=>by unfold eU;rfl,λk hk=>absurd hk (Gd k)⟩
 | p::ps,[],l,_,_,_,_,h=>by cases h
 | p::ps,x::xs,l,hl,hx,nd,hp,h=>by
  obtain⟨n1,n2⟩:=jj.mp nd
  have bR:=hp p fZ
  have g:=(fG hm (cF hm hl p) (hx x fZ)).2.1
  have qo:AllLt (aa m) (l.set p (bC m (cf l p) x)):=λa ha=>by
   rcases yV ha with h1 | rfl
   ·exact hl a h1
   ·exact g
  obtain⟨t1,t2,t3,t4⟩:=WC hm (ps:=ps) (xs:=xs) qo (λa ha=>hx a (dY _ ha)) n2 (λq hq=>by rw[nG];exact hp q (dY _ hq)) (by simpa using h)
  rw[show eU m l (p::ps) (x::xs)=eU m (l.set p (bC m (cf l p) x)) ps xs from by rw[eU]]
  refine⟨t1,by rw[t2,nG],λj hj=>?_,λk hk=>?_⟩
  ·have WD:¬ (j=p\/j∈ps):=λz=>hj (cA.mpr z)
   rw[t3 j λz=>WD (.inr z),Ja bR,if_neg λz=>WD (.inl z)]
  ·cases k with
   | zero =>
    show cf _ p=bC m (cf l p) x
    rw[t3 p n1,Ja bR,if_pos rfl]
   | succ k =>
    have Az:k<ps.length:=by simpa using hk
    show cf _ (ps.getD k 0)=bC m (cf l (ps.getD k 0)) (cf xs k)
    rw[t4 k Az,Ja bR,if_neg λz:ps.getD k 0=p=>n1 (z ▸ dJ Az 0)]
def cR(y:List (Option Nat)):List Nat:=y.map λs=>s.getD 0
def bB(y:List (Option Nat)):List Nat:=(aZ y.length).filter λj=>decide (y[j]?=some none)
def iJ(y:List (Option Nat))(c:List Nat):List Nat:=(aZ y.length).filter λj=>decide (j ∉ bB y/\cf (cR y) j≠cf c j)
theorem Jk(y:List (Option Nat)):(bB y).Nodup/\∀p∈bB y,p<y.length:=⟨Ge.filter _,λp hp=>cS.mp (nE.mp hp).1⟩
theorem DF{y:List (Option Nat)}{c:List Nat}{j:Nat}:j∈iJ y c↔j<y.length/\j ∉ bB y/\cf (cR y) j≠cf c j:=by
 unfold iJ
 rw[nE,cS,decide_eq_true_iff]
theorem DG(hm:m∈aD){y:List (Option Nat)}(hy:∀a,some a∈y->a<aa m):AllLt (aa m) (cR y):=λa ha=>by
 obtain⟨s,h1,rfl⟩:=bE.mp ha
 cases s with
 | none=>exact FF Se (lo1 hm)
 | some a=>exact hy a h1
theorem cJ9(hm:m∈aD){a b:Nat}(ha:a<aa m)(hb:b<aa m)(h:a≠b):bC m a b≠0:=λz=>by
 have g:=(fG hm ha hb).2.2
 rw[z,r6 hb]at g
 exact h g.symm
theorem cy8(hm:m∈aD){a x:Nat}(ha:a<aa m)(hx:x<aa m):bC m a (bC m a x)=x:=by
 have g:=fG hm ha hx
 have k:=fG hm ha g.2.1
 refine(rg hm).Dr k.2.1 hx g.2.1 (k.2.2.trans ?_)
 rw[j5]
 exact g.2.2.symm
theorem Jl(y:List (Option Nat)):(cR y).length=y.length:=by unfold cR;rw[br]
section
variable{b e L o:Nat}{y:List (Option Nat)}{w c:List Nat}{bb:Nat->Nat}
end
end
def fo:Option Nat->D
 | none=>.ay
 | some a=>.int (a:Int)
def dk(y:List (Option Nat)):List D:=y.map fo
theorem WE(a:Option Nat):(fo a).sh=fo a:=by cases a<;>rfl
theorem Jm:∀a b:Option Nat,fo a=fo b->a=b
 | none,none,_=>rfl
 | some a,some b,h=>by
  have:(D.int (a:Int))=D.int (b:Int):=h
  injection this with h
  rw[show a=b by omega]
 | none,some _,h=>by cases h
 | some _,none,h=>by cases h
theorem pL(y:List (Option Nat)):(dk y).map D.sh=dk y:=by
 unfold dk;rw[bZ];exact nN λa _=>WE a
theorem cA7(y:List (Option Nat)):(dk y).all D.pl=true:=by
 unfold dk;rw[mv];exact dv.mpr λa _=>by cases a<;>rfl
theorem WG(y:List (Option Nat)):(dk y).length=y.length:=br ..
theorem DH{y:List (Option Nat)}{i:Nat}(hi:i<y.length):y[i]?=some (y.getD i none):=by
 rw[aK,aJ hi];rfl
theorem cj8(y:List (Option Nat)):(fk (dk y)).map D.sh=(aZ y.length).map λ(i:Nat)=>D.tup [.int (i:Int),fo (y.getD i none)]:=by
 apply FT
 intro i
 unfold fk dk
 rw[bP,yT,bP,bP]
 by_cases hi:i<y.length
 ·rw[kh hi,DH hi]
  show some (D.tup [D.int (i:Int),fo (y.getD i none)]).sh=some (D.tup [D.int (i:Int),fo (y.getD i none)])
  rw[jT]
  simp only[dE,jM,jD,WE]
 ·rw[gU (show y.length<=i by omega),gU (show(aZ y.length).length<=i by simpa using hi)];rfl
end L3
namespace L3
open PySem L2 Mf
section
variable{m:Bool × Nat}
theorem Jn:∀{l l':List Nat},l.Nodup->(∀a∈l,a∈l')->l.length<=l'.length
 | [],_,_,_=>jL _
 | a::l,l',nd,h=>by
  obtain⟨n1,n2⟩:=jj.mp nd
  have ha:=h a fZ
  have:=Jn (l:=l) (l':=l'.erase a) n2 λb hb=>(de4 (λz:b=a=>n1 (z ▸ hb))).mpr (h b (dY _ hb))
  rw[de5 ha]at this
  have:=List.length_pos_of_mem ha
  rw[gR]
  omega
theorem cF9{y:List (Option Nat)}{j:Nat}(hj:j<y.length):j∈bB y↔y.getD j none=none:=by
 unfold bB
 rw[nE,cS,decide_eq_true_iff,DH hj]
 exact⟨λh=>cT h.2,λh=>⟨hj,congrArg some h⟩⟩
theorem cK3{y:List (Option Nat)}{j:Nat}:cf (cR y) j=(y.getD j none).getD 0:=by
 unfold cR cf
 rw[aK,bP,aK]
 cases y[j]?<;>rfl
end
end L3
namespace L3
open PySem L2 Mf
section
variable{m:Bool × Nat}
theorem cE1{y:List (Option Nat)}{w:List Nat}(h:w.length=y.length):mw y w=(aZ y.length).map λj=>(y.getD j none,cf w j):=by
 refine BQ (by rw[qj,br,dB,h,tD]) λi h1 h2=>?_
 rw[br,dB]at h2
 rw[R8,vx,R9]
 unfold cf
 rw[aK,aK,aJ h2,aJ (by omega)]
 rfl
end
end L3
namespace L3
open PySem L2 Mf
section
variable{m:Bool × Nat}
def p1(m:Bool × Nat)(c o:List Nat):List Nat:=(cy m c [o]).headD []
theorem Jo(m:Bool × Nat)(c:List Nat)(os:List (List Nat)):cy m c os=os.map (p1 m c):=rfl
theorem wR(hm:m∈aD){c d:List Nat}{h:Nat}(hc:c.length=h)(hd:d.length=h)(ad:AllLt (aa m) d)(nc:nul c=false):(p1 m c d).length=h-1/\AllLt (aa m) (p1 m c d) :=
 wN hm hc (os:=[d]) (λx hx=>by rw[dW.mp hx];exact⟨hd,ad⟩) nc _ (by rw[Jo];exact dW.mpr rfl)
def Rel(m:Bool × Nat)(cs:List (List Nat))(a:Nat->Nat):Prop:=∀k,sm (gp m) cs.length (λj=>gm m (a j) (cf (cs.getD j []) k))=0
def ib(m:Bool × Nat)(cs:List (List Nat))(d:List Nat)(a:Nat->Nat):Prop:=∀k,gp m (sm (gp m) cs.length λj=>gm m (a j) (cf (cs.getD j []) k)) (cf d k)=0
theorem cf1(F:List (List Nat))(x:List Nat){j:Nat}(h:j<F.length):(F++[x]).getD j []=F.getD j []:=by
 rw[aK,sW h,aK]
theorem WH(F:List (List Nat))(x:List Nat):(F++[x]).getD F.length []=x:=by
 rw[aK,sV (bM _),Ga];rfl
theorem DI(hm:m∈aD){F:List (List Nat)}{x:List Nat}(hx:AllLt (aa m) x){a:Nat->Nat}(h1:a F.length=1)(k:Nat):sm (gp m) (F++[x]).length (λj=>gm m (a j) (cf ((F++[x]).getD j []) k))=gp m (sm (gp m) F.length λj=>gm m (a j) (cf (F.getD j []) k)) (cf x k):=by
 rw[dS,FC,sm,WH,h1,lV (cF hm hx k)]
 congr 1
 exact cm λj hj=>by rw[cf1 F x hj]
theorem cz6(hm:m∈aD){F:List (List Nat)}{x:List Nat}(hx:AllLt (aa m) x){a:Nat->Nat}(h1:a F.length=1):Rel m (F++[x]) a↔ib m F x a:=by
 unfold Rel ib
 exact⟨λh k=>by rw[<-DI hm hx h1];exact h k,λh k=>by rw[DI hm hx h1];exact h k⟩
theorem WI(hm:m∈aD){c d:List Nat}{cs:List (List Nat)}{h:Nat}(hc:c.length=h)(ac:AllLt (aa m) c)(e8:RT (aa m) h cs)(hd:d.length=h)(ad:AllLt (aa m) d)(nc:nul c=false){a:Nat->Nat}(ha:∀i,a i<aa m) :
  ib m (cy m c cs) (p1 m c d) a↔∃e,e<aa m/\∀k,gp m (gp m (sm (gp m) cs.length λj=>gm m (a j) (cf (cs.getD j []) k)) (cf d k)) (gm m e (cf c k))=0:=by
 have dq:=lo1 hm
 have r:=DC hm hc ac (os:=cs++[d]) (e8.app λx hx=>by rw[dW.mp hx];exact⟨hd,ad⟩) nc (a:=λj=>if j=cs.length then 1 else a j) λi=>by
  show(if i=cs.length then 1 else a i)<_
  split
  ·omega
  ·exact ha i
 have e1:cy m c (cs++[d])=cy m c cs++[p1 m c d]:=by rw[Jo,gh];rfl
 have pl:=sr m c cs
 have pa:=(wR hm hc hd ad nc).2
 have ce:∀(F:List (List Nat)),F.length=cs.length->∀k,(sm (gp m) F.length λj=>gm m (if j=cs.length then 1 else a j) (cf (F.getD j []) k))=sm (gp m) F.length λj=>gm m (a j) (cf (F.getD j []) k):=λF hF k=>cm λj hj=>by rw[if_neg (by omega)]
 have s1:∀k,sm (gp m) (cs++[d]).length (λj=>gm m (if j=cs.length then 1 else a j) (cf ((cy m c (cs++[d])).getD j []) k))=gp m (sm (gp m) (cy m c cs).length λj=>gm m (a j) (cf ((cy m c cs).getD j []) k)) (cf (p1 m c d) k):=λk=>by
  have:=DI hm (F:=cy m c cs) pa (a:=λj=>if j=cs.length then 1 else a j) (by rw[pl];exact if_pos rfl) k
  rw[ce _ pl,<- e1]at this
  rw[<-this,sr]
 have s2:∀k,sm (gp m) (cs++[d]).length (λj=>gm m (if j=cs.length then 1 else a j) (cf ((cs++[d]).getD j []) k))=gp m (sm (gp m) cs.length λj=>gm m (a j) (cf (cs.getD j []) k)) (cf d k):=λk=>by
  have:=DI hm (F:=cs) ad (a:=λj=>if j=cs.length then 1 else a j) (if_pos rfl) k
  rw[ce _ rfl]at this
  exact this
 simp only[s1,s2]at r
 exact r
theorem Jp(hm:m∈aD){cs:List (List Nat)}{d:List Nat}(ad:AllLt (aa m) d){a:Nat->Nat}(h:∀j,j<cs.length->∀k,gm m (a j) (cf (cs.getD j []) k)=0):ib m cs d a↔nul d=true:=by
 unfold ib
 rw[wM]
 have e:∀k,gp m (sm (gp m) cs.length λj=>gm m (a j) (cf (cs.getD j []) k)) (cf d k)=cf d k:=λk=>by
  rw[gK (rg hm) λj hj=>h j hj k,r6 (cF hm ad k)]
 exact⟨λz k=>by rw[<-e k];exact z k,λz k=>by rw[e k];exact z k⟩
def fJ(m:Bool × Nat):Nat->List (List Nat)->List Nat->Option (List Nat)
 | 0,_,d=>if nul d=true then some []else none
 | n+1,cs,d=>if nul d=true then some []else(aZ cs.length).findSome? λi=>if nul (cs.getD i [])=true then none else(fJ m n (cy m (cs.getD i []) (cs.drop (i+1))) (p1 m (cs.getD i []) d)).map λS=>i::S.map (i+1 + ·)
theorem b93(cs:List (List Nat))(i j:Nat):(cs.drop i).getD j []=cs.getD (i+j) []:=by
 rw[aK,FU,aK]
theorem RT.at{N h:Nat}{cs:List (List Nat)}(r:RT N h cs){i:Nat}(hi:i<cs.length):(cs.getD i []).length=h/\AllLt N (cs.getD i []):=by
 rw[aK,aJ hi]
 exact r _ (cB hi)
theorem RT.drop{N h:Nat}{cs:List (List Nat)}(r:RT N h cs)(i:Nat):RT N h (cs.drop i):=λx hx=>r x (qf hx)
theorem WJ(hm:m∈aD){cs:List (List Nat)}{i:Nat}(hi:i<cs.length)(a':Nat->Nat)(e k:Nat):sm (gp m) cs.length (λj=>gm m (if j<i then 0 else if j=i then e else a' (j-i-1)) (cf (cs.getD j []) k))=gp m (sm (gp m) (cs.drop (i+1)).length λj=>gm m (a' j) (cf ((cs.drop (i+1)).getD j []) k)) (gm m e (cf (cs.getD i []) k)):=by
 rw[pJ hm hi a' λj=>cf (cs.getD j []) k,jk,Nat.sub_sub]
 congr 1
 exact cm λj _=>by rw[b93]
theorem Jq(hm:m∈aD){x y z:Nat}:gp m (gp m x y) z=gp m (gp m x z) y:=by
 haveI:Std.Commutative (gp m):=⟨j5 m⟩
 haveI:Std.Associative (gp m):=⟨(rg hm).pa⟩
 ac_rfl
theorem Jr(hm:m∈aD):∀{n h:Nat} {cs:List (List Nat)} {d S:List Nat},RT (aa m) h cs->d.length=h->AllLt (aa m) d->fJ m n cs d=some S ->
  S.length<=n/\S.Pairwise (· < ·)/\(∀j∈S,j<cs.length)/\∃a:Nat->Nat,(∀j,a j<aa m)/\(∀j,a j≠0->j∈S)/\ib m cs d a:=by
 have h0:=bW m hm
 have dq:=lo1 hm
 intro n
 have base:∀{cs:List (List Nat)} {d:List Nat},AllLt (aa m) d->nul d=true->([]:List Nat).Pairwise (· < ·)/\(∀j∈([]:List Nat),j<cs.length)/\∃a:Nat->Nat,(∀j,a j<aa m)/\(∀j,a j≠0->j∈([]:List Nat))/\ib m cs d a:=λ{cs d} ad nd =>
  ⟨.nil,λj hj=>(by cases hj),λ_=>0,λ_=>FF Se dq,λj hj=>absurd rfl hj,(Jp hm ad λj _ k=>eT m _ h0).mpr nd⟩
 induction n with
 | zero =>
  intro h cs d S e8 hd ad e
  unfold fJ at e
  split at e
  ·cases e;exact⟨bM _,base ad (by assumption)⟩
  ·cases e
 | succ n ih =>
  intro h cs d S e8 hd ad e
  unfold fJ at e
  split at e
  ·cases e;exact⟨jL _,base ad (by assumption)⟩
  ·obtain⟨i,hi,e⟩:=List.exists_of_findSome?_eq_some e
   have hi:=cS.mp hi
   split at e
   ·cases e
   ·rename_i nc
    have nc:nul (cs.getD i [])=false:=by simpa using nc
    obtain⟨S',e',rfl⟩:=vt.mp e
    obtain⟨c1,c2⟩:=e8.at hi
    have su:=e8.drop (i+1)
    obtain⟨s1,s2,s3,a',a1,a2,a3⟩:=ih (wN hm c1 su nc) (wR hm c1 hd ad nc).1 (wR hm c1 hd ad nc).2 e'
    rw[sr,jk]at s3
    obtain⟨x,hx,ex⟩:=(WI hm c1 c2 su hd ad nc a1).mp a3
    refine⟨by rw[gR,br];omega,?_,?_,λj=>if j<i then 0 else if j=i then x else a' (j-i-1),?_,?_,?_⟩
    ·refine BU.mpr ⟨λb hb=>?_,Sb.mpr (s2.imp λh=>by omega)⟩
     obtain⟨y,_,rfl⟩:=bE.mp hb
     omega
    ·intro j hj
     rcases cA.mp hj with rfl | hj
     ·exact hi
     ·obtain⟨y,hy,rfl⟩:=bE.mp hj
      have:=s3 y hy
      omega
    ·intro j
     show(if j<i then 0 else if j=i then x else a' (j-i-1))<_
     split
     ·omega
     ·split
      ·exact hx
      ·exact a1 _
    ·intro j hj
     change (if j<i then 0 else if j=i then x else a' (j-i-1))≠0 at hj
     by_cases c:j<i
     ·rw[if_pos c]at hj;exact absurd rfl hj
     ·rw[if_neg c]at hj
      by_cases c':j=i
      ·exact c' ▸ fZ
      ·rw[if_neg c']at hj
       exact dY _ (bE.mpr ⟨j-i-1,a2 _ hj,by omega⟩)
    ·intro k
     rw[WJ hm hi a' x k,Jq hm]
     exact ex k
theorem cJ7{P:Nat->Prop}:∀j,P j->∃i,P i/\∀j,j<i->¬ P j:=by
 intro j
 induction j using BN with
 | ind j ih =>
  intro h
  by_cases c:∃i,i<j/\P i
  ·obtain⟨i,h1,h2⟩:=c
   exact ih i h1 h2
  ·exact⟨j,h,λi hi z=>c ⟨i,hi,z⟩⟩
theorem cl5(hm:m∈aD):∀{n h:Nat} {cs:List (List Nat)} {d:List Nat},RT (aa m) h cs->d.length=h->AllLt (aa m) d->fJ m n cs d=none ->
  ∀(S:List Nat) (a:Nat->Nat),S.length<=n->(∀j,a j<aa m)->(∀j,j<cs.length->a j≠0->j∈S)->¬ ib m cs d a:=by
 have h0:=bW m hm
 intro n
 induction n with
 | zero =>
  intro h cs d e8 hd ad e S a hS ha hs R
  unfold fJ at e
  split at e
  ·cases e
  ·rename_i nd
   refine nd ((Jp hm ad λj hj k=>?_).mp R)
   have aj:a j=0:=y8 λz=>by
    have:=hs j hj z
    rw[de3.mp (Nat.le_zero.mp hS)]at this
    cases this
   rw[aj,eT m _ h0]
 | succ n ih =>
  intro h cs d e8 hd ad e S a hS ha hs R
  unfold fJ at e
  split at e
  ·cases e
  ·rename_i nd
   by_cases c:∃j,j<cs.length/\a j≠0/\nul (cs.getD j [])=false
   ·obtain⟨j,hj⟩:=c
    obtain⟨i,⟨hi,ai,nc⟩,dZ3⟩:=cJ7 (P:=λj=>j<cs.length/\a j≠0/\nul (cs.getD j [])=false) j hj
    have f:=de6.mp e i (cS.mpr hi)
    rw[if_neg (by rw[nc];exact gg),de7]at f
    obtain⟨c1,c2⟩:=e8.at hi
    have su:=e8.drop (i+1)
    have mi:=hs i hi ai
    refine ih (wN hm c1 su nc) (wR hm c1 hd ad nc).1 (wR hm c1 hd ad nc).2 f ((S.erase i).map (· - i-1)) (λj=>a (i+1+j)) ?_ (λj=>ha _) ?_ ?_
    ·rw[br,de5 mi];omega
    ·intro j hj aj
     rw[sr,jk]at hj
     have:=hs (i+1+j) (by omega) aj
     exact bE.mpr ⟨i+1+j,(de4 (by omega)).mpr this,by omega⟩
    ·refine(WI hm c1 c2 su hd ad nc λj=>ha _).mpr ⟨a i,ha i,λk=>?_⟩
     rw[Jq hm,<- WJ hm hi (λj=>a (i+1+j)) (a i) k]
     refine qk ?_ (R k)
     congr 1
     refine cm λj hj=>?_
     by_cases c:j<i
     ·rw[if_pos c,eT m _ h0]
      have hn:=dZ3 j c
      by_cases z:a j=0
      ·rw[z,eT m _ h0]
      ·have nz:nul (cs.getD j [])=true:=by
        cases e:nul (cs.getD j [])with
        | true=>rfl
        | false=>exact absurd ⟨hj,z,e⟩ hn
       rw[wM.mp nz k,gE m _ h0]
     ·rw[if_neg c]
      by_cases c':j=i
      ·rw[if_pos c',c']
      ·rw[if_neg c',show i+1+(j-i-1)=j by omega]
   ·refine nd ((Jp hm ad λj hj k=>?_).mp R)
    by_cases z:a j=0
    ·rw[z,eT m _ h0]
    ·have nz:nul (cs.getD j [])=true:=by
      cases e:nul (cs.getD j [])with
      | true=>rfl
      | false=>exact absurd ⟨j,hj,z,e⟩ c
     rw[wM.mp nz k,gE m _ h0]
def jh(m:Bool × Nat):List (List Nat)->List Nat->List (List Nat)
 | cs,[]=>cs
 | cs,p::ps=>jh m (if nul (cs.getD p [])=true then cs else cy m (cs.getD p []) cs) ps
theorem WK(hm:m∈aD){n p:Nat}(hp:p<n)(b X:Nat->Nat)(e:Nat):sm (gp m) n (λj=>gm m (if j=p then gp m (b p) e else b j) (X j))=gp m (sm (gp m) n λj=>gm m (b j) (X j)) (gm m e (X p)):=by
 have r:=rg hm
 have h0:=bW m hm
 rw[Jj r (f:=λj=>gm m (if j=p then gp m (b p) e else b j) (X j)) (λ_=>cg hm _ _) hp,Jj r (f:=λj=>gm m (b j) (X j)) (λ_=>cg hm _ _) hp,if_pos rfl,Dk h0]
 rw[show(λj=>if j=p then 0 else gm m (if j=p then gp m (b p) e else b j) (X j))=λj=>if j=p then 0 else gm m (b j) (X j) from funext λj=>by
  by_cases c:j=p
  ·rw[if_pos c,if_pos c]
  ·rw[if_neg c,if_neg c,if_neg c]]
 exact Jq hm
theorem WL(hm:m∈aD):∀{ps:List Nat} {cs:List (List Nat)} {h:Nat},RT (aa m) h cs->(∀p∈ps,p<cs.length)->(jh m cs ps).length=cs.length/\(∃h',h'<=h/\RT (aa m) h' (jh m cs ps)) /\
  ∀a:Nat->Nat,(∀j,a j<aa m)->(Rel m (jh m cs ps) a↔∃b:Nat->Nat,(∀j,b j<aa m)/\(∀j,j ∉ ps->b j=a j)/\Rel m cs b):=by
 have h0:=bW m hm
 intro ps
 induction ps with
 | nil =>
  intro cs h e8 _
  refine⟨rfl,⟨h,bM _,e8⟩,λa ha=>⟨λz=>⟨a,ha,λ_ _=>rfl,z⟩,λ⟨b,_,b2,b3⟩=>?_⟩⟩
  rw[show b=a from funext λj=>b2 j (by simp)]at b3
  exact b3
 | cons p ps ih =>
  intro cs h e8 hp
  have lD:=hp p fZ
  have WM:=λq hq=>hp q (dY p hq)
  unfold jh
  by_cases c:nul (cs.getD p [])=true
  ·rw[if_pos c]
   obtain⟨i1,i2,i3⟩:=ih e8 WM
   refine⟨i1,i2,λa ha=>(i3 a ha).trans ⟨λ⟨b,b1,b2,b3⟩=>⟨b,b1,λj hj=>b2 j λz=>hj (dY _ z),b3⟩,λ⟨b,b1,b2,b3⟩=>⟨λj=>if j=p then a p else b j,λj=>?_,λj hj=>?_,λk=>?_⟩⟩⟩
   ·show(if j=p then a p else b j)<_
    split
    ·exact ha p
    ·exact b1 j
   ·show(if j=p then a p else b j)=a j
    by_cases z:j=p
    ·rw[if_pos z,z]
    ·rw[if_neg z];exact b2 j λq=>(cA.mp q).elim z hj
   ·refine qk ?_ (b3 k)
    refine cm λj _=>?_
    dsimp only
    by_cases z:j=p
    ·rw[z,wM.mp c k,gE m _ h0,gE m _ h0]
    ·rw[if_neg z]
  ·rw[if_neg c]
   have nc:nul (cs.getD p [])=false:=by simpa using c
   obtain⟨c1,c2⟩:=e8.at lD
   have pl:=sr m (cs.getD p []) cs
   obtain⟨i1,⟨h',i2,i2'⟩,i3⟩:=ih (wN hm c1 e8 nc) (λq hq=>by rw[pl];exact WM q hq)
   refine⟨i1.trans pl,⟨h',by omega,i2'⟩,λa ha=>(i3 a ha).trans ⟨λ⟨b,b1,b2,b3⟩=>?_,λ⟨b,b1,b2,b3⟩=>?_⟩⟩
   ·unfold Rel at b3
    rw[pl]at b3
    obtain⟨e,he,ez⟩:=(DC hm c1 c2 e8 nc b1).mp b3
    refine⟨λj=>if j=p then gp m (b p) e else b j,λj=>?_,λj hj=>?_,λk=>?_⟩
    ·show(if j=p then gp m (b p) e else b j)<_
     split
     ·exact Ao hm (b1 p) he
     ·exact b1 j
    ·show(if j=p then gp m (b p) e else b j)=a j
     rw[if_neg λ(z:j=p)=>hj (z ▸ fZ)]
     exact b2 j λz=>hj (dY _ z)
    ·rw[WK hm lD b (λj=>cf (cs.getD j []) k) e]
     exact ez k
   ·refine⟨λj=>if j=p then a p else b j,λj=>?_,λj hj=>?_,?_⟩
    ·show(if j=p then a p else b j)<_
     split
     ·exact ha p
     ·exact b1 j
    ·show(if j=p then a p else b j)=a j
     by_cases z:j=p
     ·rw[if_pos z,z]
     ·rw[if_neg z];exact b2 j λq=>(cA.mp q).elim z hj
    ·unfold Rel
     rw[pl]
     have g:=fG hm (b1 p) (ha p)
     refine(DC hm c1 c2 e8 nc (a:=λj=>if j=p then a p else b j) λj=>?_).mpr ⟨bC m (b p) (a p),g.2.1,λk=>?_⟩
     ·show(if j=p then a p else b j)<_
      split
      ·exact ha p
      ·exact b1 j
     ·rw[<-WK hm lD (λj=>if j=p then a p else b j) (λj=>cf (cs.getD j []) k)]
      refine qk ?_ (b3 k)
      refine cm λj _=>?_
      by_cases z:j=p
      ·rw[if_pos z,if_pos rfl,j5,g.2.2,z]
      ·rw[if_neg z,if_neg z]
end
end L3
namespace L3
open PySem L2 Mf
section
variable{m:Bool × Nat}
def cM(n:Nat)(aM:List Nat):List Nat:=(aZ n).filter λp=>decide (p ∉ aM)
theorem wU{n:Nat}{aM:List Nat}{j:Nat}:j∈cM n aM↔j<n/\j ∉ aM:=by
 unfold cM
 rw[nE,cS,decide_eq_true_iff]
theorem Js(n:Nat)(aM:List Nat):(cM n aM).Nodup:=Ge.filter _
theorem wV:∀{l:List Nat} {i:Nat},l.Nodup->i<l.length->l.idxOf (l.getD i 0)=i
 | a::l,0,_,_=>List.idxOf_cons_self
 | a::l,i+1,nd,h=>by
  obtain⟨n1,n2⟩:=jj.mp nd
  have hi:i<l.length:=Nat.lt_of_succ_lt_succ h
  have:=wV n2 hi
  rw[show(a::l).getD (i+1) 0=l.getD i 0 from rfl,List.idxOf_cons,beq_false_of_ne (λz:a=l.getD i 0=>n1 (by rw[z];exact dJ hi 0)),cond_false,this]
theorem Jt{n:Nat}{aM:List Nat}{i:Nat}(h:i<(cM n aM).length):(cM n aM).getD i 0<n/\(cM n aM).getD i 0 ∉ aM:=wU.mp (dJ h 0)
theorem b92{l:List Nat}{f:Nat->List Nat}{i:Nat}(h:i<l.length):(l.map f).getD i []=f (l.getD i 0):=wG f h 0 []
theorem WN(hm:m∈aD){C:List (List Nat)}{n:Nat}(hC:C.length=n+1)(aC:AllLt (aa m) (C.getD n [])){aM:List Nat}{a:Nat->Nat}(h1:a n=1)(hl:∀j∈aM,a j=0) :
  Rel m C a↔ib m ((cM n aM).map λp=>C.getD p []) (C.getD n []) λi=>a ((cM n aM).getD i 0):=by
 have r:=rg hm
 have h0:=bW m hm
 have key:∀k,sm (gp m) C.length (λj=>gm m (a j) (cf (C.getD j []) k))=gp m (sm (gp m) ((cM n aM).map λp=>C.getD p []).length λi=>gm m (a ((cM n aM).getD i 0)) (cf (((cM n aM).map λp=>C.getD p []).getD i []) k)) (cf (C.getD n []) k):=λk=>by
  rw[hC,sm,h1,lV (cF hm aC k),DE r (ps:=cM n aM) (f:=λj=>gm m (a j) (cf (C.getD j []) k)) (λ_=>cg hm _ _) (Js n aM) (λj hj=>(wU.mp hj).1) λj hj hn=>by
   rw[hl j (y8 λz=>hn (wU.mpr ⟨hj,z⟩)),eT m _ h0],br]
  congr 1
  exact cm λi hi=>by rw[b92 hi]
 unfold Rel ib
 exact⟨λh k=>by rw[<-key k];exact h k,λh k=>by rw[key k];exact h k⟩
def wC(m:Bool × Nat)(T:List (List Nat))(aM sums:List Nat):List (List Nat):=jh m (cJ T++[sums]) aM
def va(m:Bool × Nat)(T:List (List Nat))(aM sums:List Nat)(most:Nat):Option (List Nat):=(fJ m most ((cM (ag T) aM).map λp=>(wC m T aM sums).getD p []) ((wC m T aM sums).getD (ag T) [])).map λns=>ns.map λi=>(cM (ag T) aM).getD i 0
theorem Ju(hm:m∈aD){T:List (List Nat)}{aM sums:List Nat}(hw:0<ag T)(hT:RT (aa m) (ag T) T)(hl:∀p∈aM,p<ag T)(ls:sums.length=T.length)(as:AllLt (aa m) sums) :
  (wC m T aM sums).length=ag T+1/\∃h,h<=T.length/\RT (aa m) h (wC m T aM sums)/\RT (aa m) h ((cM (ag T) aM).map λp=>(wC m T aM sums).getD p [])/\((wC m T aM sums).getD (ag T) []).length=h/\AllLt (aa m) ((wC m T aM sums).getD (ag T) []) /\
  ∀a:Nat->Nat,(∀j,a j<aa m)->a (ag T)=1->((Rel m (wC m T aM sums) a)↔∃b:Nat->Nat,(∀j,b j<aa m)/\(∀j,j ∉ aM->b j=a j)/\ib m (cJ T) sums b):=by
 obtain⟨t1,t2,t3⟩:=wK (N:=aa m) (by have:=lo1 hm;omega) hw hT
 have cl:(cJ T++[sums]).length=ag T+1:=by rw[dS,t1];rfl
 obtain⟨i1,⟨h,i2,i3⟩,i4⟩:=WL hm (ps:=aM) (cs:=cJ T++[sums]) (h:=T.length) (t3.app λx hx=>by rw[dW.mp hx];exact⟨ls,as⟩) λp hp=>by rw[cl];have:=hl p hp;omega
 rw[cl]at i1
 have cn:=i3.at (i:=ag T) (by rw[i1];omega)
 refine⟨i1,h,i2,i3,λx hx=>?_,cn.1,cn.2,λa ha a1=>(i4 a ha).trans ?_⟩
 ·obtain⟨p,hp,rfl⟩:=bE.mp hx
  exact i3.at (by rw[i1];have:=(wU.mp hp).1;omega)
 ·have e:∀b:Nat->Nat,(∀j,j ∉ aM->b j=a j)->(Rel m (cJ T++[sums]) b↔ib m (cJ T) sums b):=λb hb=>cz6 hm as (by rw[t1,hb _ λz=>by have:=hl _ z;omega];exact a1)
  exact⟨λ⟨b,b1,b2,b3⟩=>⟨b,b1,b2,(e b b2).mp b3⟩,λ⟨b,b1,b2,b3⟩=>⟨b,b1,b2,(e b b2).mpr b3⟩⟩
theorem cn7(hm:m∈aD){T:List (List Nat)}{aM sums W:List Nat}{most:Nat}(hw:0<ag T)(hT:RT (aa m) (ag T) T)(hl:∀p∈aM,p<ag T)(ls:sums.length=T.length)(as:AllLt (aa m) sums)(h:va m T aM sums most=some W) :
  W.length<=most/\W.Nodup/\(∀p∈W,p<ag T/\p ∉ aM)/\∃b:Nat->Nat,(∀j,b j<aa m)/\(∀j,j<ag T->b j≠0->j∈aM\/j∈W)/\ib m (cJ T) sums b:=by
 have dq:=lo1 hm
 obtain⟨i1,h',i2,i3,i4,i5,i6,i7⟩:=Ju hm hw hT hl ls as
 obtain⟨ns,e,rfl⟩:=vt.mp h
 obtain⟨s1,s2,s3,a,a1,a2,a3⟩:=Jr hm i4 i5 i6 e
 rw[br]at s3
 have nd:=Js (ag T) aM
 have hA:∀j,(if j=ag T then 1 else if j∈aM then 0 else a ((cM (ag T) aM).idxOf j))<aa m:=λj=>by
  split
  ·omega
  ·split
   ·omega
   ·exact a1 _
 have RC:Rel m (wC m T aM sums) λj=>if j=ag T then 1 else if j∈aM then 0 else a ((cM (ag T) aM).idxOf j):=by
  refine(WN hm i1 i6 (aM:=aM) (a:=λj=>if j=ag T then 1 else if j∈aM then 0 else a ((cM (ag T) aM).idxOf j)) (if_pos rfl) λj hj=>?_).mpr λk=>?_
  ·show(if j=ag T then 1 else if j∈aM then 0 else _)=0
   rw[if_neg λz=>by have:=hl j hj;omega,if_pos hj]
  ·refine qk ?_ (a3 k)
   congr 1
   refine cm λi hi=>?_
   rw[br]at hi
   obtain⟨o1,o2⟩:=Jt hi
   dsimp only
   rw[if_neg (by omega),if_neg o2,wV nd hi]
 obtain⟨b,b1,b2,b3⟩:=(i7 _ hA (if_pos rfl)).mp RC
 refine⟨by rw[br];exact s1,Sb.mpr (List.Pairwise.imp_of_mem (λ{x y} hx hy lt z=>?_) s2),λp hp=>?_,b,b1,λj hj bj=>?_,b3⟩
 ·have e1:=wV nd (s3 x hx)
  have e2:=wV nd (s3 y hy)
  rw[z]at e1
  omega
 ·obtain⟨i,hi,rfl⟩:=bE.mp hp
  exact Jt (s3 i hi)
 ·by_cases c:j∈aM
  ·exact .inl c
  ·rw[b2 j c]at bj
   rw[if_neg (by omega),if_neg c]at bj
   have mj:=wU.mpr ⟨hj,c⟩
   obtain⟨i,hi,e1⟩:=gx mj
   have e2:(cM (ag T) aM).getD i 0=j:=by rw[aK,aJ hi];exact e1
   rw[<-e2,wV nd hi]at bj
   exact .inr (bE.mpr ⟨i,a2 i bj,e2⟩)
theorem cn3(hm:m∈aD){T:List (List Nat)}{aM sums:List Nat}{most:Nat}(hw:0<ag T)(hT:RT (aa m) (ag T) T)(hl:∀p∈aM,p<ag T)(ls:sums.length=T.length)(as:AllLt (aa m) sums)(h:va m T aM sums most=none)
  (S:List Nat) (b:Nat->Nat) (hS:S.length<=most) (hb:∀j,b j<aa m) (hs:∀j,j<ag T->b j≠0->j∈aM\/j∈S):¬ ib m (cJ T) sums b:=λR=>by
 have dq:=lo1 hm
 obtain⟨i1,h',i2,i3,i4,i5,i6,i7⟩:=Ju hm hw hT hl ls as
 have nd:=Js (ag T) aM
 have e:=de7.mp h
 have tl:=(wK (N:=aa m) (by omega) hw hT).1
 have hA:∀j,(if j=ag T then 1 else if j∈aM then 0 else b j)<aa m:=λj=>by
  split
  ·omega
  ·split
   ·omega
   ·exact hb _
 have hB:∀j,(if j=ag T then 1 else b j)<aa m:=λj=>by
  split
  ·omega
  ·exact hb _
 have RC:Rel m (wC m T aM sums) λj=>if j=ag T then 1 else if j∈aM then 0 else b j:=by
  refine(i7 _ hA (if_pos rfl)).mpr ⟨λj=>if j=ag T then 1 else b j,hB,λj hj=>?_,λk=>?_⟩
  ·dsimp only
   rw[if_neg hj]
  ·refine qk ?_ (R k)
   congr 1
   exact cm λj hj=>by
    dsimp only
    rw[if_neg (by omega)]
 have RO:=(WN hm i1 i6 (aM:=aM) (a:=λj=>if j=ag T then 1 else if j∈aM then 0 else b j) (if_pos rfl) λj hj=>by
  show(if j=ag T then 1 else if j∈aM then 0 else _)=0
  rw[if_neg λz=>by have:=hl j hj;omega,if_pos hj]).mp RC
 refine cl5 hm i4 i5 i6 e (S.map λp=>(cM (ag T) aM).idxOf p) _ (by rw[br];exact hS) (λj=>hA _) (λi hi bi=>?_) RO
 rw[br]at hi
 obtain⟨o1,o2⟩:=Jt hi
 rw[if_neg (by omega),if_neg o2]at bi
 rcases hs _ o1 bi with c | c
 ·exact absurd c o2
 ·exact bE.mpr ⟨_,c,wV nd hi⟩
structure Nk(m:Bool × Nat)(T:List (List Nat))(room:Nat)(y:List (Option Nat))(w:List Nat):Prop where
 ln:w.length=y.length
 lt:AllLt (aa m) w
 z:∀r∈T,gd m r w=0
 AG:(bB y).length+2*(iJ y w).length<room
theorem WO(hm:m∈aD){r u v ps:List Nat}{n:Nat}(hu:AllLt (aa m) u)(hv:AllLt (aa m) v)(lr:r.length=n)(lu:u.length=n)(lv:v.length=n)(nd:ps.Nodup)(hp:∀p∈ps,p<n)(hs:∀j,j<n->j ∉ ps->cf u j=cf v j) :
  gd m r u=gp m (sm (gp m) ps.length λt=>gm m (cf r (ps.getD t 0)) (bC m (cf u (ps.getD t 0)) (cf v (ps.getD t 0)))) (gd m r v):=by
 have g:=rg hm
 have h0:=bW m hm
 have dn:∀j,gp m (bC m (cf u j) (cf v j)) (cf v j)=cf u j:=λj=>(fG hm (cF hm hu j) (cF hm hv j)).2.2
 rw[u7 m (lr.trans lu.symm),u7 m (lr.trans lv.symm),lr,
  cm (g:=λk=>gp m (gm m (cf r k) (bC m (cf u k) (cf v k))) (gm m (cf r k) (cf v k))) λk _=>by rw[<-u0 h0,dn k],nj g,
  DE g (ps:=ps) (f:=λk=>gm m (cf r k) (bC m (cf u k) (cf v k))) (λ_=>cg hm _ _) nd hp λj hj hn=>by rw[hs j hj hn,As,gE m _ h0]]
def gO(m:Bool × Nat)(T:List (List Nat))(l:List Nat):List Nat:=T.map λr=>gd m r l
theorem DJ{T:List (List Nat)}{l:List Nat}{k:Nat}(h:k<T.length):cf (gO m T l) k=gd m (T.getD k []) l:=by
 unfold gO cf
 rw[aK,bP,aK,aJ h];rfl
theorem DK(hm:m∈aD)(T:List (List Nat))(l:List Nat):(gO m T l).length=T.length/\AllLt (aa m) (gO m T l):=by
 refine⟨br ..,λa ha=>?_⟩
 obtain⟨r,_,rfl⟩:=bE.mp ha
 exact Ar hm _ _
theorem WQ{T:List (List Nat)}{j k:Nat}(hj:j<ag T)(hk:k<T.length):cf ((cJ T).getD j []) k=cf (T.getD k []) j:=by
 rw[Dz hj]
 unfold cf
 rw[aK,bP,aJ hk,aK (l:=T),aJ hk];rfl
theorem cE5{T:List (List Nat)}{j k:Nat}(hj:j<ag T)(hk:T.length<=k):cf ((cJ T).getD j []) k=0:=by
 rw[Dz hj]
 exact si (by rw[br];exact hk)
theorem WR(hm:m∈aD){T:List (List Nat)}{l:List Nat}{b:Nat->Nat}(hw:0<ag T)(hT:RT (aa m) (ag T) T):ib m (cJ T) (gO m T l) b↔∀r∈T,gp m (sm (gp m) (ag T) λj=>gm m (b j) (cf r j)) (gd m r l)=0:=by
 have h0:=bW m hm
 have tl:=(wK (N:=aa m) (by have:=lo1 hm;omega) hw hT).1
 have sl:=(DK hm T l).1
 unfold ib
 rw[tl]
 refine⟨λh r hr=>?_,λh k=>?_⟩
 ·obtain⟨k,hk,e⟩:=gx hr
  have e2:T.getD k []=r:=by rw[aK,aJ hk];exact e
  have:=h k
  rw[DJ hk,e2]at this
  refine qk ?_ this
  congr 1
  exact cm λj hj=>by rw[WQ hj hk,e2]
 ·by_cases hk:k<T.length
  ·have:=h (T.getD k []) (dJ hk [])
   rw[DJ hk]
   refine qk ?_ this
   congr 1
   exact cm λj hj=>by rw[WQ hj hk]
  ·rw[si (l:=gO m T l) (by omega),gK (rg hm) λj hj=>by rw[cE5 hj (by omega),gE m _ h0],r6 (by have:=lo1 hm;omega)]
def pM(m:Bool × Nat)(T:List (List Nat))(room:Nat)(y:List (Option Nat)):Option (List Nat):=if room<=(bB y).length then none else
 match va m T (bB y) (gO m T (cR y)) ((room-1-(bB y).length)/2)with
 | none=>none
 | some W=>if bB y++W=[]then some (cR y)else(wJ m (jg T (bB y++W)) (gO m T (cR y))).map (eU m (cR y) (bB y++W))
theorem WS{T:List (List Nat)}{F:List Nat}(h:0<T.length):ag (jg T F)=F.length:=by
 unfold ag jg
 cases T with
 | nil=>cases h
 | cons r T=>rw[dE,List.headD_cons,br]
theorem Jv(hm:m∈aD){T:List (List Nat)}{y:List (Option Nat)}{W:List Nat}{most:Nat}(hw:0<ag T)(hT:RT (aa m) (ag T) T)(hy:∀a,some a∈y->a<aa m)(ly:y.length=ag T)(h:va m T (bB y) (gO m T (cR y)) most=some W) :
  W.length<=most/\(bB y++W).Nodup/\(∀p∈bB y++W,p<ag T)/\((bB y++W=[])->∀r∈T,gd m r (cR y)=0)/\((bB y++W≠[])->∃X,wJ m (jg T (bB y++W)) (gO m T (cR y))=some X/\X.length=(bB y++W).length/\AllLt (aa m) X/\∀r∈T,sm (gp m) (bB y++W).length (λt=>gm m (cf r ((bB y++W).getD t 0)) (cf X t))=gd m r (cR y)):=by
 have g:=rg hm
 have h0:=bW m hm
 have dq:=lo1 hm
 obtain⟨l1,l2⟩:=Jk y
 rw[ly]at l2
 obtain⟨q1,q2⟩:=DK hm T (cR y)
 obtain⟨w1,w2,w3,b,b1,b2,b3⟩:=cn7 hm hw hT l2 q1 q2 h
 rw[WR hm hw hT]at b3
 have T0:0<T.length:=by
  unfold ag at hw
  cases T with
  | nil=>cases hw
  | cons _ _=>exact Sf _
 have nd:(bB y++W).Nodup:=List.nodup_append.mpr ⟨l1,w2,λa ha c hc z=>(w3 c hc).2 (z ▸ ha)⟩
 have pl:∀p∈bB y++W,p<ag T:=λp hp=>(bY.mp hp).elim (l2 p) λz=>(w3 p z).1
 have bz:∀j,j<ag T->j ∉ bB y++W->b j=0:=λj hj hn=>y8 λz=>hn (bY.mpr (b2 j hj z))
 refine⟨w1,nd,pl,λe r hr=>?_,λ_=>?_⟩
 ·have:=b3 r hr
  rw[gK g λj hj=>by rw[bz j hj (by rw[e];exact ij),eT m _ h0],r6 (Ar hm _ _)]at this
  exact this
 ·have sx:∀r∈T,sm (gp m) (bB y++W).length (λt=>gm m (cf r ((bB y++W).getD t 0)) (bC m 0 (b ((bB y++W).getD t 0))))=gd m r (cR y):=λr hr=>by
   have b3:=b3 r hr
   rw[DE g (ps:=bB y++W) (f:=λj=>gm m (b j) (cf r j)) (λ_=>cg hm _ _) nd pl λj hj hn=>by rw[bz j hj hn,eT m _ h0]]at b3
   have ab:gp m (sm (gp m) (bB y++W).length λt=>gm m (cf r ((bB y++W).getD t 0)) (bC m 0 (b ((bB y++W).getD t 0)))) (sm (gp m) (bB y++W).length λt=>gm m (b ((bB y++W).getD t 0)) (cf r ((bB y++W).getD t 0)))=0:=by
    rw[<-nj g]
    exact gK g λt _=>by rw[g9 m (b _),<- u0 h0,(fG hm (show 0<aa m by omega) (b1 _)).2.2,gE m _ h0]
   rw[j5]at b3
   exact g.Dr (j6 g λ_ _=>cg hm _ _) (Ar hm _ _) (j6 g λ_ _=>cg hm _ _) (ab.trans b3.symm)
  obtain⟨p1,p2⟩:=WA (F:=bB y++W) (show 0<aa m by omega) hT
  have wp:=WS (F:=bB y++W) T0
  obtain⟨X,x1,x2,x3,x4⟩:=cM6 hm (G:=jg T (bB y++W)) (u:=gO m T (cR y)) (by omega) (by omega) (by rw[wp];exact p1) q2 (x:=λt=>bC m 0 (b ((bB y++W).getD t 0))) (λt=>(fG hm (by omega) (b1 _)).2.1) λa ha=>by
   rw[p2]at ha
   rw[DJ ha,<- sx _ (dJ ha []),wp]
   exact cm λt ht=>by rw[WB ha ht];rfl
  refine⟨X,x1,x2.trans wp,x3,λr hr=>?_⟩
  obtain⟨k,hk,e⟩:=gx hr
  have e2:T.getD k []=r:=by rw[aK,aJ hk];exact e
  have:=x4 k (by omega)
  rw[DJ hk,e2,wp]at this
  rw[<-this]
  exact cm λt ht=>by rw[WB hk ht,show fX T ((bB y++W).getD t 0) k=cf (T.getD k []) ((bB y++W).getD t 0) from rfl,e2]
theorem cK8(hm:m∈aD){T:List (List Nat)}{room:Nat}{y:List (Option Nat)}{w:List Nat}(hw:0<ag T)(hT:RT (aa m) (ag T) T)(hy:∀a,some a∈y->a<aa m)(ly:y.length=ag T)(h:Nk m T room y w):ib m (cJ T) (gO m T (cR y)) λj=>bC m (cf w j) (cf (cR y) j):=by
 have g:=rg hm
 have h0:=bW m hm
 have kl:=DG hm hy
 refine(WR hm hw hT).mpr λr hr=>?_
 have lr:=(hT r hr).1
 have e:=h.z r hr
 rw[u7 m (lr.trans (ly.symm.trans h.ln.symm)),lr]at e
 rw[u7 m (lr.trans (ly.symm.trans (Jl y).symm)),lr,<- nj g,<- e]
 exact cm λj _=>by rw[g9 m (bC _ _ _),<- u0 h0,(fG hm (cF hm h.lt j) (cF hm kl j)).2.2]
theorem cm4(hm:m∈aD){T:List (List Nat)}{room:Nat}{y:List (Option Nat)}(hw:0<ag T)(hT:RT (aa m) (ag T) T)(hy:∀a,some a∈y->a<aa m)(ly:y.length=ag T)(e:pM m T room y=none)(w:List Nat):¬ Nk m T room y w:=λh=>by
 have AG:=h.AG
 unfold pM at e
 split at e
 ·omega
 ·split at e
  ·rename_i e2
   obtain⟨q1,q2⟩:=DK hm T (cR y)
   refine cn3 hm hw hT (λp hp=>by rw[<-ly];exact(Jk y).2 p hp) q1 q2 e2 (iJ y w) _ (by omega) (λj=>(fG hm (cF hm h.lt j) (cF hm (DG hm hy) j)).2.1) (λj hj z=>?_) (cK8 hm hw hT hy ly h)
   by_cases c:j∈bB y
   ·exact .inl c
   ·refine .inr (DF.mpr ⟨by omega,c,λz'=>z ?_⟩)
    rw[z',As]
  ·rename_i W e2
   split at e
   ·cases e
   ·rename_i ne
    obtain⟨_,_,_,_,w5⟩:=Jv hm hw hT hy ly e2
    obtain⟨X,x1,_⟩:=w5 ne
    rw[x1]at e
    cases e
theorem WT(hm:m∈aD){T:List (List Nat)}{room:Nat}{y:List (Option Nat)}{w:List Nat}(hw:0<ag T)(hT:RT (aa m) (ag T) T)(hy:∀a,some a∈y->a<aa m)(ly:y.length=ag T)(e:pM m T room y=some w):Nk m T room y w:=by
 have g:=rg hm
 have kl:=DG hm hy
 have kn:=Jl y
 unfold pM at e
 split at e
 ·cases e
 ·split at e
  ·cases e
  ·rename_i W e2
   obtain⟨w1,w2,w3,w4,w5⟩:=Jv hm hw hT hy ly e2
   have fw:∀v:List Nat,(∀j,j ∉ bB y++W->cf v j=cf (cR y) j)->(bB y).length+2*(iJ y v).length<room:=λv hv=>by
    have:=Jn (l:=iJ y v) (l':=W) (Ge.filter _) λj hj=>by
     obtain⟨_,j2,j3⟩:=DF.mp hj
     refine y8 λz=>j3 (hv j λq=>?_).symm
     exact(bY.mp q).elim j2 z
    omega
   split at e
   ·rename_i e3
    cases e
    exact⟨kn,kl,w4 e3,fw _ λ_ _=>rfl⟩
   ·rename_i ne
    obtain⟨X,x1,x2,x3,x4⟩:=w5 ne
    rw[x1]at e
    cases e
    obtain⟨t1,t2,t3,t4⟩:=WC hm kl x3 w2 (λp hp=>by rw[kn,ly];exact w3 p hp) x2
    refine⟨t2.trans kn,t1,λr hr=>?_,fw _ t3⟩
    have s:=WO hm kl t1 (hT r hr).1 (kn.trans ly) (t2.trans (kn.trans ly)) w2 w3 λj _ hn=>(t3 j hn).symm
    rw[cm (g:=λt=>gm m (cf r ((bB y++W).getD t 0)) (cf X t)) λt ht=>by rw[t4 t ht,cy8 hm (cF hm kl _) (cF hm x3 _)],x4 r hr,j5]at s
    exact g.cn (Ar hm _ _) (Ar hm _ _) s.symm
theorem Nk.unq(hm:m∈aD){T:List (List Nat)}{room:Nat}{y:List (Option Nat)}{u v:List Nat}(hT:RT (aa m) (ag T) T)(ly:y.length=ag T)(hD:∀S,fI (ag T) S->S.length<room->kJ m (fX T) S)(hu:Nk m T room y u)(hv:Nk m T room y v):u=v:=by
 have g:=rg hm
 have h0:=bW m hm
 have fu:=hu.AG
 have fv:=hv.AG
 have mem:∀j,j∈((aZ (ag T)).filter λj=>decide (cf u j≠cf v j))↔j<ag T/\cf u j≠cf v j:=λj=>by rw[nE,cS,decide_eq_true_iff]
 have nd:((aZ (ag T)).filter λj=>decide (cf u j≠cf v j)).Nodup:=Ge.filter _
 have ic:fI (ag T) ((aZ (ag T)).filter λj=>decide (cf u j≠cf v j)):=⟨de1.filter _,λx hx=>((mem x).mp hx).1⟩
 have len:=Jn (l:=(aZ (ag T)).filter λj=>decide (cf u j≠cf v j)) (l':=bB y++(iJ y u++iJ y v)) nd λj hj=>by
  obtain⟨j1,j2⟩:=(mem j).mp hj
  by_cases c:j∈bB y
  ·exact bY.mpr (.inl c)
  ·refine bY.mpr (.inr (bY.mpr ?_))
   by_cases c1:cf (cR y) j=cf u j
   ·exact .inr (DF.mpr ⟨by omega,c,λz=>j2 (c1.symm.trans z)⟩)
   ·exact .inl (DF.mpr ⟨by omega,c,c1⟩)
 rw[dS,dS]at len
 generalize ((aZ (ag T)).filter λj=>decide (cf u j≠cf v j))=ps at mem nd ic len
 have I:=hD ps ic (by omega) (λt=>bC m (cf u (ps.getD t 0)) (cf v (ps.getD t 0))) (λt=>(fG hm (cF hm hu.lt _) (cF hm hv.lt _)).2.1) λk=>by
  by_cases hk:k<T.length
  ·have hr:=dJ hk []
   have s:=WO hm hu.lt hv.lt (hT _ hr).1 (hu.ln.trans ly) (hv.ln.trans ly) nd (λp hp=>((mem p).mp hp).1) λj hj hn=>y8 λz=>hn ((mem j).mpr ⟨hj,z⟩)
   rw[hu.z _ hr,hv.z _ hr,r9 (j6 g λ_ _=>cg hm _ _)]at s
   exact qk (cm λt _=>g9 m _ _) s.symm
  ·refine gK g λt _=>?_
   show gm m _ (cf (T.getD k []) _)=0
   rw[aK,gU (by omega)]
   exact gE m _ h0
 refine cD0 (hu.ln.trans ly) (hv.ln.trans ly) λj hj=>y8 λz=>?_
 obtain⟨t,ht,e⟩:=gx ((mem j).mpr ⟨hj,z⟩)
 have e2:ps.getD t 0=j:=by rw[aK,aJ ht];exact e
 have:=I t ht
 rw[e2]at this
 exact cJ9 hm (cF hm hu.lt _) (cF hm hv.lt _) z this
theorem WU(hm:m∈aD){T:List (List Nat)}{room:Nat}{y:List (Option Nat)}{w:List Nat}(hw:0<ag T)(hT:RT (aa m) (ag T) T)(hy:∀a,some a∈y->a<aa m)(ly:y.length=ag T)(hD:∀S,fI (ag T) S->S.length<room->kJ m (fX T) S):pM m T room y=some w↔Nk m T room y w:=by
 refine⟨WT hm hw hT hy ly,λh=>?_⟩
 cases e:pM m T room y with
 | none=>exact absurd h (cm4 hm hw hT hy ly e w)
 | some v=>rw[(WT hm hw hT hy ly e).unq hm hT ly hD h]
end
end L3
namespace L3
open PySem L2 PySem.Spec PyProof.Rows
section
variable{X:Cx}{e:Expr}{t:aY}
def sC(t:aY):aY:=λδ Q=>t δ λd ak=>Q d.sh ak
theorem cO8(h:PE X e (lE t)):PE X e (lB (sC t)):=dN h λσ H Q ⟨B,F,δ,ts,Qd,c,q,k⟩=>⟨B,F,δ,ts,_,c,q,λd ak v F' H' hd sf sh c'=>by
 obtain⟨F2,f2,c2⟩:=c'.Hs
 exact k d.sh ak v F2 H' hd (sf.trans f2) sh c2.pop c2.top⟩
end
def j9:Option (List Nat)->D
 | none=>.ay
 | some l=>.lst true (aq l)
theorem AH:∀o:Option (List Nat),(j9 o).fr=true
 | none=>rfl
 | some l=>gJ l
theorem cp3{α:Type}(F:List α)(x:α):fj (F++[x]) none (some (-1))=F:=by
 unfold fj HT.dm
 dsimp only
 rw[if_pos (by decide),List.drop_zero,Nat.sub_zero,dS,FC,show((-1:Int)+((F.length+1:Nat):Int)).toNat=F.length by omega]
 exact List.take_left ..
theorem WV(o:Bool){C:List (List Nat)}{n:Nat}(h:C.length=n+1):eK (aE o C) (-1)=some (.lst o (aq (C.getD n []))):=by
 have e:iP (aE o C).length (-1)=some n:=by
  rw[i9,h];unfold iP
  rw[if_neg (by decide),if_pos (by omega)]
  congr 1;omega
 unfold eK
 rw[e]
 show(aE o C)[n]?=_
 unfold aE
 rw[bP,aJ (by omega),aK,aJ (by omega)];rfl
theorem b05(o:Bool)(F:List (List Nat))(x:List Nat):eK (aE o (F++[x])) (-1)=some (.lst o (aq x)):=by
 rw[WV o (n:=F.length) (by rw[dS];rfl),WH]
theorem WW{α:Type}{f:Nat->Option α}{n:Nat}(h:∀i,i<n->f i=none):(aZ n).findSome? f=none:=de6.mpr λi hi=>h i (cS.mp hi)
theorem WX{α:Type}{f:Nat->Option α}{b:α}{j:Nat}(h:∀i,i<j->f i=none)(e:f j=some b):∀{n:Nat},j<n->(aZ n).findSome? f=some b
 | n+1,hj=>by
  rw[FY,List.findSome?_append]
  by_cases c:j<n
  ·rw[WX h e c];rfl
  ·obtain rfl:j=n:=by omega
   rw[WW h,Option.none_or,List.findSome?_singleton,e]
end L3
namespace L3
open PySem L2 Mf
section
variable{m:Bool × Nat}
theorem cU4(hm:m∈aD){T:List (List Nat)}(hT:RT (aa m) (ag T) T):RT (aa m) (ag T) (jG m (cG m T) (ag T))/\(jG m (cG m T) (ag T)).length<=ag T:=by
 obtain⟨⟨Hd,I⟩,iR,_,_⟩:=wH hm hT
 refine⟨λr hr=>?_,?_⟩
 ·obtain⟨f,hf,rfl⟩:=bE.mp hr
  obtain⟨k1,k2,_⟩:=Wj hm iR I hf
  exact⟨k1,k2⟩
 ·unfold jG lX
  rw[br]
  exact eG (BW ..) (by rw[dB];exact bM _)
theorem cL3(hm:m∈aD){T:List (List Nat)}(hT:RT (aa m) (ag T) T):∀r∈cG m T,∃x∈r,x≠0:=λr bg=>by
 obtain⟨⟨Hd,I⟩,iR,_,_⟩:=wH hm hT
 obtain⟨j,hj,rfl⟩:=gx bg
 have:=(I.wI hm iR hj).2
 rw[cM9 hj]at this
 exact this
theorem cD7(hm:m∈aD){T:List (List Nat)}{xs:List Nat}(hT:RT (aa m) (ag T) T)(hx:xs.length=(jG m (cG m T) (ag T)).length):∀r∈T,gd m r (pG m xs (jG m (cG m T) (ag T)) (ag T))=0:=λr hr=>by
 have h0:=bW m hm
 obtain⟨⟨Hd,I⟩,iR,_,_⟩:=wH hm hT
 have s:dz m (cG m T) (cf r):=dz.red hm hT (dz.of hr)
 rw[u7 m ((hT r hr).1.trans (IV ..).symm),(hT r hr).1]
 rw[cm (g:=λj=>gm m (cf r j) (sm (gp m) (jG m (cG m T) (ag T)).length λi=>gm m (cf xs i) (cf ((jG m (cG m T) (ag T)).getD i []) j))) λj hj=>by rw[cM0 m hx hj]]
 have e:=Wk hm (ag T) (cf r) (cf xs) (λi=>cf ((jG m (cG m T) (ag T)).getD i [])) (jG m (cG m T) (ag T)).length
 unfold dt at e
 rw[e]
 refine gK (rg hm) λi hi=>?_
 have z:=dJ hi []
 generalize (jG m (cG m T) (ag T)).getD i []=K at z
 obtain⟨f,hf,rfl⟩:=bE.mp z
 have:=dz.dt hm (R:=cG m T) (n:=ag T) (y:=cf (je m (cG m T) (ag T) f)) (λi hi=>cN2 hm iR I hf hi) s
 unfold dt at this
 rw[this,gE m _ h0]
theorem cW8(y:List (Option Nat)):y=(aZ y.length).map λj=>y.getD j none:=by
 refine BQ (by rw[br,dB]) λi h1 h2=>?_
 rw[vx,R9,aK,aJ h1];rfl
theorem cn6(y:List (Option Nat)):(y.filter Gf).length=(bB y).length:=by
 conv=>lhs;rw[cW8 y,R4,br]
 unfold bB
 congr 1
 refine R5 λj hj=>?_
 rw[DH (cS.mp hj)]
 show(y.getD j none).isNone=_
 cases y.getD j none with
 | none=>exact(decide_eq_true rfl).symm
 | some a=>exact(decide_eq_false λz=>by cases z).symm
def Jw(p:Option Nat × Nat):Bool:=match p.1 with
 | none=>false
 | some a=>decide (a≠p.2)
theorem b99{y:List (Option Nat)}{w:List Nat}(h:w.length=y.length):((mw y w).filter Jw).length=(iJ y w).length:=by
 rw[cE1 h,R4,br]
 unfold iJ
 congr 1
 refine R5 λj hj=>?_
 have hj:=cS.mp hj
 have k:=cK3 (y:=y) (j:=j)
 have l:=cF9 hj
 rw[k]
 show Jw (y.getD j none,cf w j)=_
 cases e:y.getD j none with
 | none =>
  rw[e]at l
  exact(decide_eq_false λz=>z.1 (l.mpr rfl)).symm
 | some a =>
  rw[e]at l
  show decide (a≠cf w j)=_
  by_cases c:a=cf w j
  ·rw[decide_eq_false λz=>z c]
   exact(decide_eq_false λz=>z.2 c).symm
  ·rw[decide_eq_true c]
   exact(decide_eq_true ⟨λz=>(by cases l.mp z),c⟩).symm
theorem ck2(w:List Nat):bB (w.map some)=[]:=by
 refine de8.mpr λj _ z=>?_
 have z:=of_decide_eq_true z
 rw[bP]at z
 cases e:w[j]? with
 | none=>rw[e]at z;cases z
 | some a=>rw[e]at z;cases z
theorem cm0(w:List Nat):cR (w.map some)=w:=by
 unfold cR
 rw[bZ]
 exact List.map_id'' (λ_=>rfl) w
theorem cN7(hm:m∈aD){T:List (List Nat)}{room:Nat}{w:List Nat}(hw:AllLt (aa m) w)(z:∀r∈T,gd m r w=0)(h:0<room):Nk m T room (w.map some) w:=by
 refine⟨(br ..).symm,hw,z,?_⟩
 rw[ck2]
 have:iJ (w.map some) w=[]:=de8.mpr λj _ q=>(of_decide_eq_true q).2 (by rw[cm0])
 rw[this]
 exact h
end
end L3
namespace HK30
open PySem renaming lookup_relabel_local→lr1
open PySem.W (Frag codeHdIn nsIn fnOf codeIn keepIn findIn isFn specialIn takesIn mroIn mg_of mg_none_of CodeHd)
open PySem L2 L3 Mf
seal L2.PSs L2.PS L2.PE L2.PT L2.PA L2.PI L2.PG L2.PO L2.PW
local macro_rules | `(tactic| nofun) => do
  let l ← (("qJ mV qK oq dT kZ kD mQ dC oh mU mT mS oj qI m3 rm oJ rn rp qC qD qE qF qG qH oi rk oG oH ii oy qS oB qT qU qV qW qX qY iI gH qZ q0 q5 q8 oE oF lj rh rj gN rq rl qL qN ou qO qP qQ rz rA mW kG fU iX iA qa p8 tH vy om jU iW oI lR rF rH rJ uP kH rO oS rL iC uS uQ uR dE jM nO nH gR vz bF nQ nR gi gj tI exists_eq_left' exists_eq_left D.bl.injEq D.int.injEq D.lst.injEq D.fz.injEq D.str.injEq D.tup.injEq tJ and_true true_and dU qh ki kg uj uk um uo uq ur fi jS jD uz uA uB uC uD de jT rB uu uv uw eR og vA vB sT gy vC vD sX uH uI uJ uK uL uM uN lM lN oN jE oO uF rE uE oQ uG rC lQ rD if_true vE if_false reduceIte uO decide_eq_true_eq eo kI m8 uV oU uU qM rQ ph rM oX oY rV sg sq pH dj nq i9 u4 pj sC sL cU6 cR4 cF1 cC0 Ap u3".splitOn " ").toArray.map fun (s : String) => Lean.mkIdent s.toName).mapM fun i => `(Lean.Parser.Tactic.simpLemma| $i:term)
  `(tactic| (try dsimp only [$l,*]) <;> (try simp only [$l,*]))
def top (i:Nat):Stmt:=PySem.Challenge.pw_mendfield_k30_near_row.main.body.getD i (.Pass ⟨0,0,0,0⟩)
abbrev wW:Stmt:=top 50
theorem Jx:bt ["_law_cell_here","_law_some","_law_primes"] ["_law_cell_here"] (az wW):=⟨rfl,rfl,rfl,by decide +kernel,rfl,by decide +kernel,by decide +kernel⟩
abbrev wX:Stmt:=top 38
theorem DL:bt ["a","product","found","power"] ["a","product"] (az wX):=⟨rfl,rfl,rfl,by decide +kernel,rfl,by decide +kernel,by decide +kernel⟩
abbrev wY:Stmt:=top 39
theorem AI:bt ["many","product","step","found"] ["many","product"] (az wY):=⟨rfl,rfl,rfl,by decide +kernel,rfl,by decide +kernel,by decide +kernel⟩
abbrev wZ:Stmt:=top 40
theorem Jy:bt ["powers","logs","n","a"] ["powers"] (az wZ):=⟨rfl,rfl,rfl,by decide +kernel,rfl,by decide +kernel,by decide +kernel⟩
abbrev w6:Stmt:=iS (top 44) 8
theorem aF5:bt ["self","n"] ["self","n"] (az w6):=⟨rfl,rfl,rfl,by decide +kernel,rfl,by decide +kernel,by decide +kernel⟩
abbrev w9:Stmt:=iS (top 44) 0
theorem aQ5:bt ["self","many","product"] ["self","many","product"] (az w9):=⟨rfl,rfl,rfl,by decide +kernel,rfl,by decide +kernel,by decide +kernel⟩
abbrev xa:Stmt:=top 43
theorem aD5:bt ["prime"] ["prime"] (az xa):=⟨rfl,rfl,rfl,by decide +kernel,rfl,by decide +kernel,by decide +kernel⟩
abbrev pO:Stmt:=iS (top 46) 0
theorem aG7:bt ["self","prime"] ["self","prime"] (az pO):=⟨rfl,rfl,rfl,by decide +kernel,rfl,by decide +kernel,by decide +kernel⟩
abbrev xb:Stmt:=top 41
theorem DM:bt ["powers","logs","many","rows","a"] ["powers","logs"] (az xb):=⟨rfl,rfl,rfl,by decide +kernel,rfl,by decide +kernel,by decide +kernel⟩
abbrev xf:Stmt:=top 35
theorem xg:bt ["a","b","quotient","rest","shift"] ["a","b"] (az xf):=⟨rfl,rfl,rfl,by decide +kernel,rfl,by decide +kernel,by decide +kernel⟩
abbrev xh:Stmt:=top 36
theorem Jz:bt ["a","half","b"] ["a"] (az xh):=⟨rfl,rfl,rfl,by decide +kernel,rfl,by decide +kernel,by decide +kernel⟩
abbrev xi:Stmt:=top 42
theorem aG8:bt ["bits"] ["bits"] (az xi):=⟨rfl,rfl,rfl,by decide +kernel,rfl,by decide +kernel,by decide +kernel⟩
abbrev xj:Stmt:=top 34
theorem DN:bt ["a","b","product","k"] ["a","b"] (az xj):=⟨rfl,rfl,rfl,by decide +kernel,rfl,by decide +kernel,by decide +kernel⟩
abbrev pP:Stmt:=iS (top 45) 0
theorem WY:bt ["self","bits","many"] ["self","bits"] (az pP):=⟨rfl,rfl,rfl,by decide +kernel,rfl,by decide +kernel,by decide +kernel⟩
abbrev xk:Stmt:=top 54
theorem aQ6:bt ["_law_told_here"] ["_law_told_here"] (az xk):=⟨rfl,rfl,rfl,by decide +kernel,rfl,by decide +kernel,by decide +kernel⟩
abbrev xm:Stmt:=top 9
theorem ch4:bt ["rows"] ["rows"] (az xm):=⟨rfl,rfl,rfl,by decide +kernel,rfl,by decide +kernel,by decide +kernel⟩
abbrev xn:Stmt:=top 10
theorem WZ:bt ["rows","width","taken"] ["rows","width"] (az xn):=⟨rfl,rfl,rfl,by decide +kernel,rfl,by decide +kernel,by decide +kernel⟩
abbrev xo:Stmt:=iS (top 45) 2
theorem aJ6:bt ["self","a","b"] ["self","a","b"] (az xo):=⟨rfl,rfl,rfl,by decide +kernel,rfl,by decide +kernel,by decide +kernel⟩
abbrev xp:Stmt:=iS (top 46) 2
theorem aF6:bt ["self","a","b"] ["self","a","b"] (az xp):=⟨rfl,rfl,rfl,by decide +kernel,rfl,by decide +kernel,by decide +kernel⟩
abbrev xq:Stmt:=top 11
theorem xt:bt ["field","rows","width","taken","found","free","x","lead","row"] ["field","rows","width"] (az xq):=⟨rfl,rfl,rfl,by decide +kernel,rfl,by decide +kernel,by decide +kernel⟩
abbrev xu:Stmt:=top 2
theorem aV9:bt ["table"] ["table"] (az xu):=⟨rfl,rfl,rfl,by decide +kernel,rfl,by decide +kernel,by decide +kernel⟩
abbrev xv:Stmt:=top 6
theorem W0:bt ["rows","place","number","row"] ["rows","place"] (az xv):=⟨rfl,rfl,rfl,by decide +kernel,rfl,by decide +kernel,by decide +kernel⟩
abbrev xw:Stmt:=iS (top 45) 6
theorem W2:bt ["self","a","row","by_a"] ["self","a","row"] (az xw):=⟨rfl,rfl,rfl,by decide +kernel,rfl,by decide +kernel,by decide +kernel⟩
abbrev xx:Stmt:=iS (top 46) 6
theorem W3:bt ["self","a","row","prime"] ["self","a","row"] (az xx):=⟨rfl,rfl,rfl,by decide +kernel,rfl,by decide +kernel,by decide +kernel⟩
abbrev xy:Stmt:=iS (top 45) 7
theorem W4:bt ["self","row","a","other","by_a"] ["self","row","a","other"] (az xy):=⟨rfl,rfl,rfl,by decide +kernel,rfl,by decide +kernel,by decide +kernel⟩
abbrev xA:Stmt:=iS (top 46) 7
theorem W5:bt ["self","row","a","other","prime"] ["self","row","a","other"] (az xA):=⟨rfl,rfl,rfl,by decide +kernel,rfl,by decide +kernel,by decide +kernel⟩
abbrev xB:Stmt:=top 7
theorem aX4:bt ["field","rows","lead_row","place"] ["field","rows","lead_row","place"] (az xB):=⟨rfl,rfl,rfl,by decide +kernel,rfl,by decide +kernel,by decide +kernel⟩
abbrev xC:Stmt:=iS (top 44) 5
theorem aQ7:bt ["self","a","b"] ["self","a","b"] (az xC):=⟨rfl,rfl,rfl,by decide +kernel,rfl,by decide +kernel,by decide +kernel⟩
abbrev xD:Stmt:=top 8
theorem sD:bt ["field","table","done","left","place","number","lead_row"] ["field","table"] (az xD):=⟨rfl,rfl,rfl,by decide +kernel,rfl,by decide +kernel,by decide +kernel⟩
abbrev xE:Stmt:=top 12
theorem aY1:bt ["field","table"] ["field","table"] (az xE):=⟨rfl,rfl,rfl,by decide +kernel,rfl,by decide +kernel,by decide +kernel⟩
abbrev xF:Stmt:=top 52
theorem aS5:bt ["_law_told_here","_law_a","_law_b"] ["_law_told_here","_law_a","_law_b"] (az xF):=⟨rfl,rfl,rfl,by decide +kernel,rfl,by decide +kernel,by decide +kernel⟩
abbrev xG:Stmt:=top 53
theorem xH:bt ["_law_told_here","_law_a","_law_b","_law_total"] ["_law_told_here","_law_a","_law_b"] (az xG):=⟨rfl,rfl,rfl,by decide +kernel,rfl,by decide +kernel,by decide +kernel⟩
abbrev xI:Stmt:=top 55
theorem at2:bt ["_law_told_here","_law_xs","_law_ys","_law_total","_law_x","_law_y"] ["_law_told_here","_law_xs","_law_ys"] (az xI):=⟨rfl,rfl,rfl,by decide +kernel,rfl,by decide +kernel,by decide +kernel⟩
abbrev xJ:Stmt:=top 56
theorem aO6:bt ["_law_told_here","_law_xs","_law_table_here","_law_wide"] ["_law_told_here","_law_xs","_law_table_here","_law_wide"] (az xJ):=⟨rfl,rfl,rfl,by decide +kernel,rfl,by decide +kernel,by decide +kernel⟩
abbrev xK:Stmt:=top 60
theorem aS6:bt ["_law_table_here"] ["_law_table_here"] (az xK):=⟨rfl,rfl,rfl,by decide +kernel,rfl,by decide +kernel,by decide +kernel⟩
abbrev xM:Stmt:=top 49
theorem aQ8:bt ["_law_x"] ["_law_x"] (az xM):=⟨rfl,rfl,rfl,by decide +kernel,rfl,by decide +kernel,by decide +kernel⟩
abbrev xN:Stmt:=top 58
theorem aL7:bt ["_law_row","_law_wide","_law_many_here"] ["_law_row","_law_wide","_law_many_here"] (az xN):=⟨rfl,rfl,rfl,by decide +kernel,rfl,by decide +kernel,by decide +kernel⟩
abbrev xO:Stmt:=top 59
theorem aG9:bt ["_law_table_here","_law_rows","_law_wide","_law_many_here"] ["_law_table_here","_law_rows","_law_wide","_law_many_here"] (az xO):=⟨rfl,rfl,rfl,by decide +kernel,rfl,by decide +kernel,by decide +kernel⟩
abbrev xP:Stmt:=top 48
theorem aS7:bt ["_law_script","_law_k"] ["_law_script","_law_k"] (az xP):=⟨rfl,rfl,rfl,by decide +kernel,rfl,by decide +kernel,by decide +kernel⟩
abbrev xQ:Stmt:=top 51
theorem aS8:bt ["_law_told_here"] ["_law_told_here"] (az xQ):=⟨rfl,rfl,rfl,by decide +kernel,rfl,by decide +kernel,by decide +kernel⟩
abbrev xR:Stmt:=top 62
theorem AJ:bt ["_law_told_here","_law_script","_law_field_here","_law_table_here","_law_wide","_law_lines","_law_signs","_law_sent_here"] ["_law_told_here","_law_script","_law_field_here","_law_table_here"] (az xR):=⟨rfl,rfl,rfl,by decide +kernel,rfl,by decide +kernel,by decide +kernel⟩
abbrev xS:Stmt:=top 63
theorem AK:bt ["_law_told_here","_law_script","_law_sent_here","_law_many_here","_law_word","_law_k","_law_sign","_law_cell_here"] ["_law_told_here","_law_script","_law_sent_here"] (az xS):=⟨rfl,rfl,rfl,by decide +kernel,rfl,by decide +kernel,by decide +kernel⟩
abbrev xT:Stmt:=top 18
theorem aO7:bt ["signs"] ["signs"] (az xT):=⟨rfl,rfl,rfl,by decide +kernel,rfl,by decide +kernel,by decide +kernel⟩
abbrev xU:Stmt:=top 19
theorem aF7:bt ["signs"] ["signs"] (az xU):=⟨rfl,rfl,rfl,by decide +kernel,rfl,by decide +kernel,by decide +kernel⟩
abbrev xV:Stmt:=iS (top 45) 5
theorem AL:bt ["self","xs","ys","products","total","x","y"] ["self","xs","ys"] (az xV):=⟨rfl,rfl,rfl,by decide +kernel,rfl,by decide +kernel,by decide +kernel⟩
abbrev xW:Stmt:=iS (top 46) 5
theorem aJ7:bt ["self","xs","ys"] ["self","xs","ys"] (az xW):=⟨rfl,rfl,rfl,by decide +kernel,rfl,by decide +kernel,by decide +kernel⟩
abbrev xX:Stmt:=top 5
theorem aS9:bt ["field","table","column"] ["field","table","column"] (az xX):=⟨rfl,rfl,rfl,by decide +kernel,rfl,by decide +kernel,by decide +kernel⟩
abbrev xY:Stmt:=top 14
theorem aT0:bt ["column"] ["column"] (az xY):=⟨rfl,rfl,rfl,by decide +kernel,rfl,by decide +kernel,by decide +kernel⟩
abbrev xZ:Stmt:=iS (top 45) 3
theorem aJ8:bt ["self","a","b"] ["self","a","b"] (az xZ):=⟨rfl,rfl,rfl,by decide +kernel,rfl,by decide +kernel,by decide +kernel⟩
abbrev x6:Stmt:=iS (top 46) 3
theorem aF8:bt ["self","a","b"] ["self","a","b"] (az x6):=⟨rfl,rfl,rfl,by decide +kernel,rfl,by decide +kernel,by decide +kernel⟩
abbrev x8:Stmt:=top 15
theorem x9:bt ["field","column","others","place","inverse","found","other","left"] ["field","column","others"] (az x8):=⟨rfl,rfl,rfl,by decide +kernel,rfl,by decide +kernel,by decide +kernel⟩
abbrev ya:Stmt:=top 26
theorem JA:bt ["field","columns","lost","place"] ["field","columns","lost"] (az ya):=⟨rfl,rfl,rfl,by decide +kernel,rfl,by decide +kernel,by decide +kernel⟩
abbrev yb:Stmt:=top 25
theorem AM:bt ["field","columns","due","most","number","column","behind","further","found"] ["field","columns","due","most"] (az yb):=⟨rfl,rfl,rfl,by decide +kernel,rfl,by decide +kernel,by decide +kernel⟩
abbrev yc:Stmt:=top 3
theorem aY2:bt ["table"] ["table"] (az yc):=⟨rfl,rfl,rfl,by decide +kernel,rfl,by decide +kernel,by decide +kernel⟩
abbrev yd:Stmt:=top 27
theorem DO:bt ["field","table","lost","sums","most","columns","others","numbers"] ["field","table","lost","sums","most"] (az yd):=⟨rfl,rfl,rfl,by decide +kernel,rfl,by decide +kernel,by decide +kernel⟩
abbrev ye:Stmt:=top 20
theorem JB:bt ["field","word","places","signs","left","place","sign"] ["field","word","places","signs"] (az ye):=⟨rfl,rfl,rfl,by decide +kernel,rfl,by decide +kernel,by decide +kernel⟩
abbrev yf:Stmt:=top 22
theorem aW0:bt ["table","due"] ["table","due"] (az yf):=⟨rfl,rfl,rfl,by decide +kernel,rfl,by decide +kernel,by decide +kernel⟩
abbrev yg:Stmt:=top 23
theorem yh:bt ["field","table","due","width","rows","taken","x","lead","row"] ["field","table","due"] (az yg):=⟨rfl,rfl,rfl,by decide +kernel,rfl,by decide +kernel,by decide +kernel⟩
abbrev yi:Stmt:=top 4
theorem aY3:bt ["table","places"] ["table","places"] (az yi):=⟨rfl,rfl,rfl,by decide +kernel,rfl,by decide +kernel,by decide +kernel⟩
abbrev yj:Stmt:=top 28
theorem yk:bt ["field","table","room","word","lost","known","sums","wrong","places"] ["field","table","room","word"] (az yj):=⟨rfl,rfl,rfl,by decide +kernel,rfl,by decide +kernel,by decide +kernel⟩
abbrev ym:Stmt:=top 64
theorem JC:bt ["_law_word","_law_sent_here","_law_room","_law_lost","_law_wrong"] ["_law_word","_law_sent_here","_law_room"] (az ym):=⟨rfl,rfl,rfl,by decide +kernel,rfl,by decide +kernel,by decide +kernel⟩
abbrev yn:Stmt:=top 61
theorem sE:bt ["_law_told_here","_law_script","_law_rows","_law_wide","_law_cell_here","_law_many_here","_law_by","_law_points","_law_row","_law_table_here","_law_i"] ["_law_told_here","_law_script","_law_rows","_law_wide","_law_cell_here"] (az yn):=⟨rfl,rfl,rfl,by decide +kernel,rfl,by decide +kernel,by decide +kernel⟩
abbrev yo:Stmt:=top 57
theorem yp:bt ["_law_told_here","_law_script","_law_begin","_law_rows","_law_wide","_law_way","_law_table_here","_law_i","_law_row"] ["_law_told_here","_law_script","_law_begin","_law_rows","_law_wide","_law_way"] (az yo):=⟨rfl,rfl,rfl,by decide +kernel,rfl,by decide +kernel,by decide +kernel⟩
abbrev yq:Stmt:=top 16
theorem sF:bt ["field","table","width","sets","larger","places","behind","number","column","bigger"] ["field","table"] (az yq):=⟨rfl,rfl,rfl,by decide +kernel,rfl,by decide +kernel,by decide +kernel⟩
abbrev yr:Stmt:=top 65
theorem W6:bt ["_law_field_here","_law_table_here","_law_powers_here","_law_found"] ["_law_field_here","_law_table_here","_law_powers_here"] (az yr):=⟨rfl,rfl,rfl,by decide +kernel,rfl,by decide +kernel,by decide +kernel⟩
abbrev yt:Stmt:=top 66
theorem JE:bt ["_law_field_here","_law_table_here","_law_room","_law_sent_here","_law_handed","_law_found"] ["_law_field_here","_law_table_here","_law_room","_law_sent_here"] (az yt):=⟨rfl,rfl,rfl,by decide +kernel,rfl,by decide +kernel,by decide +kernel⟩
abbrev pQ:Stmt:=top 67
theorem jI:bt ["_law_script","_law_told_here","_law_field_here","_law_rows","_law_wide","_law_powers_here","_law_table_here","_law_room","_law_sent_here","_law_word","_law_handed","_law_found"] ["_law_script"] (az pQ):=⟨rfl,rfl,rfl,by decide +kernel,rfl,by decide +kernel,by decide +kernel⟩
set_option genInjectivity false in
set_option genSizeOf false in
structure gB where
 JF:Addr
 JG:FuncData
 JH:Addr
 JI:FuncData
 JJ:Addr
 JK:FuncData
 JL:Addr
 JM:FuncData
 AN:Addr
 JN:FuncData
 JO:Addr
 JP:FuncData
 JQ:Addr
 JR:FuncData
 JS:Addr
 DP:FuncData
 JT:Addr
 JU:FuncData
 JV:Addr
 JW:FuncData
 JX:Addr
 JY:FuncData
 JZ:Addr
 J0:FuncData
 J1:Addr
 J2:FuncData
 J3:Addr
 DQ:FuncData
 J4:Addr
 J5:FuncData
 J6:Addr
 J7:FuncData
 J8:Addr
 J9:FuncData
 Ka:Addr
 Kb:FuncData
 Kd:Addr
 Ke:FuncData
 Kf:Addr
 Kg:FuncData
 Kh:Addr
 Ki:FuncData
 Kj:Addr
 Kk:FuncData
 Kl:Addr
 Km:FuncData
 Kn:Addr
 Ko:FuncData
 Kp:Addr
 Kq:FuncData
 Kr:Addr
 Ks:FuncData
 Kt:Addr
 Ku:FuncData
 DR:Addr
 Kv:FuncData
 Kw:Addr
 Kx:FuncData
 Ky:Addr
 Kz:FuncData
 KA:Addr
 KC:FuncData
 KD:Addr
 KG:FuncData
 KH:Addr
 KI:FuncData
 KJ:Addr
 KL:FuncData
 KN:Addr
 KO:FuncData
 KP:Addr
 KQ:FuncData
 KR:Addr
 KS:FuncData
 KU:Addr
 KW:FuncData
 KY:Addr
 KZ:FuncData
 K0:Addr
 K1:FuncData
 K2:Addr
 K3:FuncData
 K4:Addr
 K5:FuncData
 K6:Addr
 K7:FuncData
 K8:Addr
 K9:FuncData
 La:Addr
 Lb:FuncData
 Lc:Addr
 Ld:FuncData
 Le:Addr
 Lf:FuncData
 Lg:Addr
 Lh:FuncData
 Li:Addr
 Lj:FuncData
 Lk:Addr
 Ll:FuncData
 Lm:Addr
 Ln:FuncData
 Lo:Addr
 Lp:FuncData
 yu:Addr
 yv:FuncData
 Lq:Addr
 Lr:FuncData
 Lu:Addr
 Lw:FuncData
 Lx:Addr
 Ly:FuncData
 Lz:Addr
 LA:FuncData
 LB:Addr
 LC:FuncData
 LD:Addr
 LF:FuncData
 LG:Addr
 LH:FuncData
 LJ:Addr
 LK:FuncData
 LL:Addr
 LM:FuncData
 LN:Addr
 LO:FuncData
 LP:Addr
 LQ:FuncData
 LR:Addr
 LS:FuncData
 LU:Addr
 LV:FuncData
 LW:Addr
 LX:FuncData
 W7:Addr
 me:Addr
 W8:Addr
 mf:Addr
 aS:Addr
 iK:Addr
 mh:Addr
 aW:Addr
structure Txt(K:Frag)(mg:Str->Option Value)(t:gB):Prop where
 W9:bq K "_law_told" "_law_told" wW t.JF t.JG
 aW1:mg "_law_told"=some (.ref t.JF)
 aW2:Binds K t.JG ["_law_cell_here"] []
 LY:bq K "powers_of" "powers_of" wX t.JH t.JI
 Xa:mg "powers_of"=some (.ref t.JH)
 Xb:Binds K t.JI ["a","product"] []
 Xc:bq K "step_powers" "step_powers" wY t.JJ t.JK
 d48:mg "step_powers"=some (.ref t.JJ)
 d49:Binds K t.JK ["many","product"] []
 Xd:bq K "logs_of" "logs_of" wZ t.JL t.JM
 d50:mg "logs_of"=some (.ref t.JL)
 d51:Binds K t.JM ["powers"] []
 aH1:bq K "step_power" "Field.step_power" w6 t.AN t.JN
 LZ:Binds K t.JN ["self","n"] []
 aT1:bq K "__init__" "Field.__init__" w9 t.JO t.JP
 Xe:Binds K t.JP ["self","many","product"] []
 Xf:bq K "makes_prime_field" "makes_prime_field" xa t.JQ t.JR
 d54:mg "makes_prime_field"=some (.ref t.JQ)
 d55:Binds K t.JR ["prime"] []
 aJ9:bq K "__init__" "PrimeField.__init__" pO t.JS t.DP
 aK0:Binds K t.DP ["self","prime"] []
 Xg:bq K "product_rows" "product_rows" xb t.JT t.JU
 d58:mg "product_rows"=some (.ref t.JT)
 d59:Binds K t.JU ["powers","logs"] []
 L0:bq K "bits_divided" "bits_divided" xf t.JV t.JW
 Xh:mg "bits_divided"=some (.ref t.JV)
 Xi:Binds K t.JW ["a","b"] []
 Xj:bq K "stands_alone" "stands_alone" xh t.JX t.JY
 d60:mg "stands_alone"=some (.ref t.JX)
 d61:Binds K t.JY ["a"] []
 Xk:bq K "makes_bit_field" "makes_bit_field" xi t.JZ t.J0
 d62:mg "makes_bit_field"=some (.ref t.JZ)
 d63:Binds K t.J0 ["bits"] []
 Xl:bq K "bits_times" "bits_times" xj t.J1 t.J2
 d64:mg "bits_times"=some (.ref t.J1)
 d65:Binds K t.J2 ["a","b"] []
 aN2:bq K "__init__" "BitField.__init__" pP t.J3 t.DQ
 aN3:Binds K t.DQ ["self","bits"] []
 Xm:bq K "_law_field" "_law_field" xk t.J4 t.J5
 aT2:mg "_law_field"=some (.ref t.J4)
 aT3:Binds K t.J5 ["_law_told_here"] []
 DS:bq K "leads" "leads" xm t.J6 t.J7
 L1:mg "leads"=some (.ref t.J6)
 L4:Binds K t.J7 ["rows"] []
 Xn:bq K "free_places" "free_places" xn t.J8 t.J9
 d70:mg "free_places"=some (.ref t.J8)
 d71:Binds K t.J9 ["rows","width"] []
 aL8:bq K "minus" "BitField.minus" xo t.Ka t.Kb
 aL9:Binds K t.Kb ["self","a","b"] []
 aH4:bq K "minus" "PrimeField.minus" xp t.Kd t.Ke
 aH5:Binds K t.Ke ["self","a","b"] []
 Xo:bq K "kernel_of_reduced" "kernel_of_reduced" xq t.Kf t.Kg
 d76:mg "kernel_of_reduced"=some (.ref t.Kf)
 d77:Binds K t.Kg ["field","rows","width"] []
 yw:bq K "width_of" "width_of" xu t.Kh t.Ki
 AO:mg "width_of"=some (.ref t.Kh)
 AQ:Binds K t.Ki ["table"] []
 Xp:bq K "first_with" "first_with" xv t.Kj t.Kk
 d78:mg "first_with"=some (.ref t.Kj)
 d79:Binds K t.Kk ["rows","place"] []
 aK1:bq K "scaled" "BitField.scaled" xw t.Kl t.Km
 aK2:Binds K t.Km ["self","a","row"] []
 aF9:bq K "scaled" "PrimeField.scaled" xx t.Kn t.Ko
 aG0:Binds K t.Ko ["self","a","row"] []
 aG1:bq K "lessened" "BitField.lessened" xy t.Kp t.Kq
 aG2:Binds K t.Kq ["self","row","a","other"] []
 aD1:bq K "lessened" "PrimeField.lessened" xA t.Kr t.Ks
 aD2:Binds K t.Ks ["self","row","a","other"] []
 L5:bq K "cleared" "cleared" xB t.Kt t.Ku
 Xq:mg "cleared"=some (.ref t.Kt)
 Xr:Binds K t.Ku ["field","rows","lead_row","place"] []
 aT4:bq K "over" "Field.over" xC t.DR t.Kv
 Xs:Binds K t.Kv ["self","a","b"] []
 L6:bq K "reduced" "reduced" xD t.Kw t.Kx
 Xt:mg "reduced"=some (.ref t.Kw)
 Xu:Binds K t.Kx ["field","table"] []
 Xv:bq K "kernel" "kernel" xE t.Ky t.Kz
 d89:mg "kernel"=some (.ref t.Ky)
 d90:Binds K t.Kz ["field","table"] []
 L7:bq K "_law_plus" "_law_plus" xF t.KA t.KC
 Xw:mg "_law_plus"=some (.ref t.KA)
 Xx:Binds K t.KC ["_law_told_here","_law_a","_law_b"] []
 DT:bq K "_law_times" "_law_times" xG t.KD t.KG
 L8:mg "_law_times"=some (.ref t.KD)
 L9:Binds K t.KG ["_law_told_here","_law_a","_law_b"] []
 DU:bq K "_law_dot" "_law_dot" xI t.KH t.KI
 Ma:mg "_law_dot"=some (.ref t.KH)
 Mb:Binds K t.KI ["_law_told_here","_law_xs","_law_ys"] []
 Mc:bq K "_law_by_row" "_law_by_row" xJ t.KJ t.KL
 Xy:mg "_law_by_row"=some (.ref t.KJ)
 Xz:Binds K t.KL ["_law_told_here","_law_xs","_law_table_here","_law_wide"] []
 AR:bq K "_law_copy" "_law_copy" xK t.KN t.KO
 DV:mg "_law_copy"=some (.ref t.KN)
 DW:Binds K t.KO ["_law_table_here"] []
 XA:bq K "_law_whole" "_law_whole" xM t.KP t.KQ
 aT5:mg "_law_whole"=some (.ref t.KP)
 aT6:Binds K t.KQ ["_law_x"] []
 DX:bq K "_law_row_kind" "_law_row_kind" xN t.KR t.KS
 Md:mg "_law_row_kind"=some (.ref t.KR)
 Me:Binds K t.KS ["_law_row","_law_wide","_law_many_here"] []
 XB:bq K "_law_table_kind" "_law_table_kind" xO t.KU t.KW
 aK3:mg "_law_table_kind"=some (.ref t.KU)
 aK4:Binds K t.KW ["_law_table_here","_law_rows","_law_wide","_law_many_here"] []
 jJ:bq K "_law_cell" "_law_cell" xP t.KY t.KZ
 ka:mg "_law_cell"=some (.ref t.KY)
 kb:Binds K t.KZ ["_law_script","_law_k"] []
 pS:bq K "_law_many" "_law_many" xQ t.K0 t.K1
 sG:mg "_law_many"=some (.ref t.K0)
 sH:Binds K t.K1 ["_law_told_here"] []
 XC:bq K "_law_sent" "_law_sent" xR t.K2 t.K3
 aW3:mg "_law_sent"=some (.ref t.K2)
 aW4:Binds K t.K3 ["_law_told_here","_law_script","_law_field_here","_law_table_here"] []
 XD:bq K "_law_spoilt" "_law_spoilt" xS t.K4 t.K5
 aQ9:mg "_law_spoilt"=some (.ref t.K4)
 aR0:Binds K t.K5 ["_law_told_here","_law_script","_law_sent_here"] []
 XE:bq K "lost_places" "lost_places" xT t.K6 t.K7
 d99:mg "lost_places"=some (.ref t.K6)
 ea0:Binds K t.K7 ["signs"] []
 XF:bq K "noughts_for_lost" "noughts_for_lost" xU t.K8 t.K9
 ea1:mg "noughts_for_lost"=some (.ref t.K8)
 ea2:Binds K t.K9 ["signs"] []
 aO8:bq K "dot" "BitField.dot" xV t.La t.Lb
 aO9:Binds K t.Lb ["self","xs","ys"] []
 aM0:bq K "dot" "PrimeField.dot" xW t.Lc t.Ld
 aM1:Binds K t.Ld ["self","xs","ys"] []
 XG:bq K "by_column" "by_column" xX t.Le t.Lf
 ea7:mg "by_column"=some (.ref t.Le)
 ea8:Binds K t.Lf ["field","table","column"] []
 AS:bq K "is_nought" "is_nought" xY t.Lg t.Lh
 DY:mg "is_nought"=some (.ref t.Lg)
 DZ:Binds K t.Lh ["column"] []
 aM2:bq K "times" "BitField.times" xZ t.Li t.Lj
 aM3:Binds K t.Lj ["self","a","b"] []
 aH8:bq K "times" "PrimeField.times" x6 t.Lk t.Ll
 aH9:Binds K t.Ll ["self","a","b"] []
 D0:bq K "past" "past" x8 t.Lm t.Ln
 Mg:mg "past"=some (.ref t.Lm)
 Mh:Binds K t.Ln ["field","column","others"] []
 XH:bq K "past_lost" "past_lost" ya t.Lo t.Lp
 eb3:mg "past_lost"=some (.ref t.Lo)
 eb4:Binds K t.Lp ["field","columns","lost"] []
 Mi:bq K "numbers_within" "numbers_within" yb t.yu t.yv
 XI:mg "numbers_within"=some (.ref t.yu)
 XJ:Binds K t.yv ["field","columns","due","most"] []
 Mj:bq K "turned" "turned" yc t.Lq t.Lr
 XM:mg "turned"=some (.ref t.Lq)
 XN:Binds K t.Lr ["table"] []
 XO:bq K "wrong_places" "wrong_places" yd t.Lu t.Lw
 eb5:mg "wrong_places"=some (.ref t.Lu)
 eb6:Binds K t.Lw ["field","table","lost","sums","most"] []
 XQ:bq K "taken_off" "taken_off" ye t.Lx t.Ly
 eb7:mg "taken_off"=some (.ref t.Lx)
 eb8:Binds K t.Ly ["field","word","places","signs"] []
 XR:bq K "with_due" "with_due" yf t.Lz t.LA
 eb9:mg "with_due"=some (.ref t.Lz)
 ec0:Binds K t.LA ["table","due"] []
 XS:bq K "solved" "solved" yg t.LB t.LC
 ec1:mg "solved"=some (.ref t.LB)
 ec2:Binds K t.LC ["field","table","due"] []
 XT:bq K "picked" "picked" yi t.LD t.LF
 ec3:mg "picked"=some (.ref t.LD)
 ec4:Binds K t.LF ["table","places"] []
 D1:bq K "near_row" "near_row" yj t.LG t.LH
 Ml:mg "near_row"=some (.ref t.LG)
 Mm:Binds K t.LH ["field","table","room","word"] []
 Mn:bq K "_law_near" "_law_near" ym t.LJ t.LK
 XU:mg "_law_near"=some (.ref t.LJ)
 XW:Binds K t.LK ["_law_word","_law_sent_here","_law_room"] []
 XX:bq K "_law_powers" "_law_powers" yn t.LL t.LM
 aR1:mg "_law_powers"=some (.ref t.LL)
 aR2:Binds K t.LM ["_law_told_here","_law_script","_law_rows","_law_wide","_law_cell_here"] []
 XY:bq K "_law_table" "_law_table" yo t.LN t.LO
 aT7:mg "_law_table"=some (.ref t.LN)
 aT8:Binds K t.LO ["_law_told_here","_law_script","_law_begin","_law_rows","_law_wide","_law_way"] []
 XZ:bq K "first_bound" "first_bound" yq t.LP t.LQ
 ec9:mg "first_bound"=some (.ref t.LP)
 ed0:Binds K t.LQ ["field","table"] []
 X0:bq K "_law_most" "_law_most" yr t.LR t.LS
 aW5:mg "_law_most"=some (.ref t.LR)
 aW6:Binds K t.LS ["_law_field_here","_law_table_here","_law_powers_here"] []
 X5:bq K "_law_own" "_law_own" yt t.LU t.LV
 aX5:mg "_law_own"=some (.ref t.LU)
 aX6:Binds K t.LV ["_law_field_here","_law_table_here","_law_room","_law_sent_here"] []
 ed5:bq K "law" "law" pQ t.LW t.LX
 fu3:mg "law"=some (.ref t.LW)
 fu4:Binds K t.LX ["_law_script"] []
 aI1:t.DP.code=.ref t.W7
 aI2:codeHdIn K t.W7 t.me=true
 aM4:t.DQ.code=.ref t.W8
 aM5:codeHdIn K t.W8 t.mf=true
 gF:eJ K t.aS
 AU:Mk K t.aS t.J3
 aZ2:VN K t.aS
 AV:cI K t.aS "bits"
 sI:cI K t.aS "logs"
 yx:cI K t.aS "many"
 vb:cI K t.aS "powers"
 D2:cI K t.aS "prime"
 pU:cI K t.aS "products"
 AW:cI K t.aS "step"
 AX:cI K t.aS "wide"
 AY:Meth K t.aS "dot" t.La
 AZ:Meth K t.aS "lessened" t.Kp
 A6:Meth K t.aS "minus" t.Ka
 A7:Meth K t.aS "over" t.DR
 A8:Meth K t.aS "scaled" t.Kl
 yy:Meth K t.aS "step_power" t.AN
 A9:Meth K t.aS "times" t.Li
 ie:eJ K t.aW
 Ba:Mk K t.aW t.JS
 aZ1:VN K t.aW
 D3:cI K t.aW "bits"
 vd:cI K t.aW "logs"
 yz:cI K t.aW "many"
 yA:cI K t.aW "powers"
 nu:cI K t.aW "prime"
 D4:cI K t.aW "products"
 Bb:cI K t.aW "step"
 Bc:cI K t.aW "wide"
 Bd:Meth K t.aW "dot" t.Lc
 Be:Meth K t.aW "lessened" t.Kr
 Bf:Meth K t.aW "minus" t.Kd
 Bg:Meth K t.aW "over" t.DR
 Bh:Meth K t.aW "scaled" t.Kn
 yB:Meth K t.aW "step_power" t.AN
 Bi:Meth K t.aW "times" t.Lk
 X6:C4 K t.mh "__init__" t.JO
 D6:mg "all"=none
 X7:mg "any"=none
 ee0:mg "bool"=none
 sJ:mg "enumerate"=none
 ee1:mg "int"=none
 yC:mg "isinstance"=none
 fY:mg "len"=none
 sM:mg "list"=none
 ee2:mg "min"=none
 iL:mg "range"=none
 ee3:mg "sum"=none
 mm:mg "zip"=none
 Bj:mg "BitField"=some (.ref t.aS)
 Bk:mg "ByNought"=some (.ref t.iK)
 yD:mg "Field"=some (.ref t.mh)
 Bl:mg "PrimeField"=some (.ref t.aW)
 X8:HS K mg "ByNought" t.iK
 aZ3:dB9 K t.iK
section
variable{P:Program}{w:World}{K:Frag}{mg:Str->Option Value}{base:Heap}{t:gB}
abbrev aT9:bA:=λds Q=>∃c:Int,ds=[.int c]/\Q (dy (rZ c))
theorem aU0(T:Txt K mg t):aQ P w K mg base bf 1 t.JF t.JG ["_law_cell_here"] (bw (aT9 )):=by
 refine bH T.W9 Jx ?_ ?_
 ·intro ds Q h
  obtain⟨c,rfl,q⟩:=h<;>rfl
 ·intro aI A outer s H E hr
  refine⟨_,(aB (aV (i:=1) Jx.nd rfl (ao rfl) (UO (ns:=[7,11,13,19,25,31,37,41,47,55,59,61,67,73,87,91,97,103,109,115,117]) (by decide +kernel)))
   (aB (aV (i:=2) Jx.nd rfl (ao rfl) (UO (ns:=[2,3,5,7,11,13,17,19,23,29,31,37,41,43,47,53,59,61]) (by decide +kernel)))
   (aB (bV (bO (fV (dr hr)) (ae (aG dh (bv 0) (ae aw))) (ae aw) (bL _)) (aF (aU (zT (e5 kE (e5 (cN (bG (bv 1) (ae (aG dh (ae (aG jC (bv 0) (ae aw))) (ae aw))) (λ_ _=>rfl))) dH))))) cu)
   (aF (aU (zT (e5 kE (e5 (cN (bG (bv 2) (ae (aG dh (ae (aG jC (bv 0) (ae aw))) (ae aw))) (λ_ _=>rfl))) dH)))))))),λds Q h=>?_⟩
  obtain⟨c,rfl,q⟩:=h
  refine aA λU hU=>?_
  nofun
  refine⟨by decide,hU _ ?_⟩
  clear hU U
  refine aA λU hU=>?_
  nofun
  refine⟨by decide,hU _ ?_⟩
  clear hU U
  refine aA λU hU=>?_
  nofun
  refine⟨by decide,?_⟩
  have n1:=jl (c/2) (show(21:Int)≠0 by decide)
  have n2:=jm (c/2) (show(0:Int)<21 by decide)
  have n3:=jl (c/2) (show(18:Int)≠0 by decide)
  have n4:=jm (c/2) (show(0:Int)<18 by decide)
  split
  ·rename_i hc
   refine⟨jB (by decide) (by decide),by decide,_,m5 n1 (by simpa using n2),rfl,by decide,?_⟩
   have e:dy (rZ c)=.tup [.bl true,.int (([7,11,13,19,25,31,37,41,47,55,59,61,67,73,87,91,97,103,109,115,117]:List Int).getD (c/2%21).toNat 0)]:=by
    unfold rZ dy
    rw[if_pos hc]
    have:∀k:Nat,((gI.getD k 0:Nat):Int)=([7,11,13,19,25,31,37,41,47,55,59,61,67,73,87,91,97,103,109,115,117]:List Int).getD k 0:=λk=>by
     show _=(gI.map (λ(n:Nat)=>(n:Int))).getD k ((0:Nat):Int)
     rw[aK,aK,bP]
     cases gI[k]?<;>rfl
    rw[<-this]
   rw[<-e];exact q
  ·rename_i hc
   refine hU _ ?_
   nofun
   refine⟨jB (by decide) (by decide),by decide,_,m5 n3 (by simpa using n4),rfl,by decide,?_⟩
   have e:dy (rZ c)=.tup [.bl false,.int (([2,3,5,7,11,13,17,19,23,29,31,37,41,43,47,53,59,61]:List Int).getD (c/2%18).toNat 0)]:=by
    unfold rZ dy
    rw[if_neg hc]
    have:∀k:Nat,((oZ.getD k 0:Nat):Int)=([2,3,5,7,11,13,17,19,23,29,31,37,41,43,47,53,59,61]:List Int).getD k 0:=λk=>by
     show _=(oZ.map (λ(n:Nat)=>(n:Int))).getD k ((0:Nat):Int)
     rw[aK,aK,bP]
     cases oZ[k]?<;>rfl
    rw[<-this]
   rw[<-e];exact q
abbrev aU1(L:Obj->Obj->Addr->Addr->wm->Prop):bA:=λds Q=>∃(a:Nat) (of oc:Obj) (c k:Addr) (g:Nat->Nat->Nat) (l:List Int),ds=[.int a,.bN (.lam of oc c k)]/\L of oc c k (bB g)/\a<64/\Io g a=some l/\Q (.lst true (aL l))
theorem X9(T:Txt K mg t):aQ P w K mg base bf 5 t.JH t.JI ["a","product"] (bw (aU1 (Ab P w K mg base 4))):=by
 refine bH T.LY DL ?_ ?_
 ·intro ds Q h
  obtain⟨a,of,oc,c,k,g,l,rfl,hL,ha,hp,q⟩:=h<;>rfl
 ·intro aI A outer s H E hr
  refine⟨_,(aB (aV (i:=2) DL.nd rfl (ao rfl) (eM (e5 aw dH)))
   (aB (aV (i:=3) DL.nd rfl (ao rfl) (Vc (n:=4) (i:=1) rfl (by first | exact ao rfl | exact aX (ao rfl)) (hr.mono (by decide)) (af (ae aw) (af (bv 0) au))))
   (aB (zV eX (bO (jX (dr hr)) (bv 3) (ae aw) (bL _))
    (aB (lK (i:=2) rfl (by first | exact ao rfl | exact aX (ao rfl)) (cN (bv 3)))
    (aF (aV (i:=3) DL.nd rfl (ao rfl) (Vc (n:=4) (i:=1) rfl (by first | exact ao rfl | exact aX (ao rfl)) (hr.mono (by decide)) (af (bv 3) (af (bv 0) au)))))))
   (aF (aU (em 2)))))),λds Q h=>?_⟩
  obtain⟨a,of,oc,c,k,g,l,rfl,hL,ha,hp,q⟩:=h
  refine aA λU hU=>?_
  nofun
  refine⟨by decide,hU _ ?_⟩
  clear hU U
  refine aA λU hU=>?_
  nofun
  refine⟨of,oc,c,k,bB g,rfl,hL,1,a,⟨rfl,rfl⟩,1,a,rfl,rfl,by decide,ha,hU _ ?_⟩
  clear hU U
  refine aA λU hU=>?_
  nofun
  refine⟨λm δ=>∃(p:Nat) (acc:List Int),δ=[some (.int a),some (.bN (.lam of oc c k)),some (.lst true (aL acc)),some (.int p)]/\acc.length+m<=70/\C6 g a m p acc=some l,⟨64,_,[1],rfl,by decide,hp⟩,?_⟩
  rintro m δ ⟨p,acc,rfl,hn,hg⟩
  nofun
  cases m with
  | zero=>cases hg
  | succ m =>
   unfold C6 at hg
   split at hg
   ·rename_i h1
    subst h1
    cases hg
    rw[if_neg (by simp)]
    refine hU _ ?_
    nofun
    exact q
   ·rename_i h1
    rw[if_pos (by simp;omega)]
    split at hg
    ·rename_i h2
     clear hU
     refine aA λU hU=>?_
     nofun
     refine⟨⟨_,rfl⟩,by omega,hU _ ?_⟩
     clear hU
     nofun
     exact⟨of,oc,c,k,bB g,rfl,hL,p,a,⟨rfl,rfl⟩,p,a,rfl,rfl,h2,ha,m,by omega,g p a,acc++[(p:Int)],⟨by rw[<-oO];rfl,rfl⟩,by simp;omega,hg⟩
    ·cases hg
abbrev aP0(L:Obj->Obj->Addr->Addr->wm->Prop):bA:=λds Q=>∃(n:Nat) (of oc:Obj) (c k:Addr) (g:Nat->Nat->Nat) (l:List Int),ds=[.int n,.bN (.lam of oc c k)]/\L of oc c k (bB g)/\Ah g n=some l/\Q (.lst true (aL l))
theorem aP1(T:Txt K mg t):aQ P w K mg base bf 6 t.JJ t.JK ["many","product"] (bw (aP0 (Ab P w K mg base 4))):=by
 refine bH T.Xc AI ?_ ?_
 ·intro ds Q h
  obtain⟨n,of,oc,c,k,g,l,rfl,hL,hp,q⟩:=h<;>rfl
 ·intro aI A outer s H E hr
  refine⟨_,(aB (aV (i:=2) AI.nd rfl (ao rfl) aw)
   (aB (aV (i:=3) AI.nd rfl (ao rfl) (aT ((X9 T).mono (by decide)) hr rfl T.Xa T.LY.kp T.Xb aP (af (bv 2) (af (bv 1) au))))
   (aB (zV eX (bO v3 (ae (dQ (fW) (by rfl) T.fY fQ (af (bv 3) au))) (ae (aG gD (bv 0) (ae aw))) (bL _))
    (aB (zU (i:=2) AI.nd rfl (ao rfl) (ae aw) cN3)
    (aF (aV (i:=3) AI.nd rfl (ao rfl) (aT ((X9 T).mono (by decide)) hr rfl T.Xa T.LY.kp T.Xb aP (af (bv 2) (af (bv 1) au)))))))
   (aF (aU (em 3)))))),λds Q h=>?_⟩
  obtain⟨n,of,oc,c,k,g,l,rfl,hL,hp,q⟩:=h
  unfold Ah at hp
  split at hp
  ·rename_i l0 h0
   refine aA λU hU=>?_
   nofun
   refine hU _ ?_
   clear hU U
   refine aA λU hU=>?_
   nofun
   refine⟨1,of,oc,c,k,g,l0,rfl,hL,by decide,h0,hU _ ?_⟩
   clear hU U
   refine aA λU hU=>?_
   nofun
   refine⟨λm δ=>∃(st:Nat) (l1:List Int),δ=[some (.int n),some (.bN (.lam of oc c k)),some (.int st),some (.lst true (aL l1))]/\st+m<=63/\C7 g n m st l1=some l,⟨62,1,l0,rfl,by decide,hp⟩,?_⟩
   rintro m δ ⟨st,l1,rfl,hn,hg⟩
   nofun
   cases m with
   | zero=>cases hg
   | succ m =>
    unfold C7 at hg
    split at hg
    ·rename_i h1
     rw[if_pos (by omega)]
     split at hg
     ·rename_i l2 h2
      clear hU
      refine aA λU hU=>?_
      nofun
      refine hU _ ?_
      clear hU
      nofun
      exact⟨st+1,of,oc,c,k,g,l2,rfl,hL,by omega,h2,m,by omega,st+1,l2,⟨rfl,rfl⟩,by omega,hg⟩
     ·cases hg
    ·rename_i h1
     rw[if_neg (by omega)]
     cases hg
     refine hU _ ?_
     nofun
     exact q
  ·cases hp
abbrev aX7:bA:=λds Q=>∃(l:List Int),ds=[.lst false (aL l)]/\l.length<=64/\(∀x∈l,0<=x/\x.toNat<=l.length)/\Q (.lst true (aL (eN l)))
theorem aX8(T:Txt K mg t):aQ P w K mg base bf 1 t.JL t.JM ["powers"] (bw (aX7 )):=by
 refine bH T.Xd Jy ?_ ?_
 ·intro ds Q h
  obtain⟨l,rfl,hl,hx,q⟩:=h<;>rfl
 ·intro aI A outer s H E hr
  refine⟨_,(aB (aV (i:=1) Jy.nd rfl (ao rfl) (aG iB (ae (eM (e5 aw dH))) (ae (aG cQ (ae (dQ (fW) (by rfl) T.fY fQ (af (bv 0) au))) (ae aw)))))
   (aB (gu eX rfl (rN rfl T.sJ (af (bv 0) au)) (gv (i1:=2) (i2:=3) rfl Jy.nd rfl (ao rfl) rfl (ao rfl))
    (aF (wg (i:=1) rfl (by first | exact ao rfl | exact aX (ao rfl)) (cN (bv 2)) (bv 3))))
   (aF (aU (em 1))))),λds Q h=>?_⟩
  obtain⟨l,rfl,hl,hx,q⟩:=h
  refine aA λU hU=>?_
  nofun
  refine⟨by decide,⟨by omega,by omega,by omega⟩,hU _ ?_⟩
  clear hU U
  refine aA λU hU=>?_
  nofun
  refine fE.mk (λi δ=>∃o1 o2,δ=[some (.lst false (aL l)),some (.lst true (aL (pd l i))),o1,o2]) ⟨none,none,?_⟩ ?_ ?_
  ·rw[show((l.length:Int)+1).toNat=l.length+1 by omega];rfl
  ·rintro i d δ hd ⟨o1,o2,rfl⟩
   obtain⟨hi,rfl⟩:∃h:i<l.length,d=.tup [.int i,.int l[i]]:=by
    unfold fk aL at hd
    rw[yT,bP]at hd
    by_cases hi:i<l.length
    ·rw[aJ hi]at hd
     simp at hd
     exact⟨hi,hd.symm⟩
    ·rw[gU (by omega)]at hd;simp at hd
   have e7:=hx l[i] (cB _)
   nofun
   refine⟨_,(l[i]).toNat,rfl,?_,_,_,?_,rfl,rfl⟩
   ·unfold iP
    rw[lM,Ai,if_pos e7.1,if_pos (by omega)]
   ·unfold aL
    rw[<-List.map_set]
    congr 1
    show _=(pd l i).set (l.getD i 0).toNat (i:Int)
    rw[aK,aJ hi];rfl
  ·rintro δ ⟨o1,o2,rfl⟩
   refine hU _ ?_
   simp only[qJ,mV,qK,oq,dT,kZ,kD,mQ,dC,oh,mU,mT,mS,oj,qI,m3,rm,oJ,rn,rp,qC,qD,qE,qF,qG,qH,oi,rk,oG,oH,ii,oy,qS,oB,qT,qU,qV,qW,qX,qY,iI,gH,qZ,q0,q5,q8,oE,oF,lj,rh,rj,gN,rq,rl,qL,qN,ou,qO,qP,qQ,rz,rA,mW,kG,fU,iX,iA,qa,p8,tH,vy,om,jU,iW,oI,lR,rF,rH,rJ,uP,kH,rO,oS,rL,iC,uS,uQ,uR,dE,jM,nO,nH,gR,vz,bF,nQ,nR,gi,gj,tI,exists_eq_left',exists_eq_left,D.bl.injEq,D.int.injEq,D.lst.injEq,D.fz.injEq,D.str.injEq,D.tup.injEq,tJ,and_true,true_and,dU,qh,ki,kg,uj,uk,um,uo,uq,ur,fi,jS,jD,uz,uA,uB,uC,uD,de,jT,rB,uu,uv,uw,eR,og,vA,vB,sT,gy,vC,vD,sX,uH,uI,uJ,uK,uL,uM,uN,lM,lN,oN,jE,oO,uF,rE,uE,oQ,uG,rC,lQ,rD,if_true,vE,if_false,reduceIte,uO,decide_eq_true_eq,eo,kI,m8,uV,oU,uU,qM,rQ,ph,rM,oX,oY,rV,sg,sq,pH,dj,nq,i9,u4,pj,sC,oR]
   exact q
abbrev Mo(K:Frag):bA:=λds Q=>∃(C:Addr) (ns:List Str) (xs:List D) (n:Int) (many:Nat) (l:List Int) (r:Int),ds=[.obj C ns xs,.int n]/\eJ K C/\cI K C "powers"/\cI K C "many"/\(ns.zip xs).lookup ("powers":Str)=some (.lst false (aL l))/\(ns.zip xs).lookup ("many":Str)=some (.int many)/\2<=many/\l[(n%((many:Int)-1)).toNat]?=some r/\Q (.int r)
theorem Mp(T:Txt K mg t):aQ P w K mg base bf 1 t.AN t.JN ["self","n"] (bw (Mo K)):=by
 refine bH T.aH1 aF5 ?_ ?_
 ·intro ds Q h
  obtain⟨C,ns,xs,n,many,l,r,rfl,hC,h1,h2,h3,h4,h5,h6,q⟩:=h<;>rfl
 ·intro aI A outer s H E hr
  refine⟨_,(aF (aU (cN (bG (j4 (K:=K) (bv 0)) (ae (aG dh (bv 1) (ae (aG gD (j4 (K:=K) (bv 0)) (ae aw))))) (λ_ _=>rfl))))),λds Q h=>?_⟩
  obtain⟨C,ns,xs,n,many,l,r,rfl,hC,h1,h2,h3,h4,h5,h6,q⟩:=h
  nofun
  refine⟨C,ns,xs,_,rfl,hC,h1,h3,C,ns,xs,_,rfl,hC,h2,h4,?_⟩
  refine⟨by omega,_,qt (d:=.int r) (jl _ (by omega)) ?_,rfl,q⟩
  unfold aL
  rw[bP,h6];rfl
abbrev aR3(P:Program)(w:World)(K:Frag)(mg:Str->Option Value)(base:Heap)(fs:Addr):Sp:=λvs H Q _=>∃(x dx f C:Addr) (b:Str) (n0:Int) (many:Nat) (of oc:Obj) (c k:Addr) (g:Nat->Nat->Nat) (l:List Int) (st:Int),
 vs=[.ref x,.int many,.ref f]/\H x=some (.ins C dx [(b,.int n0)])/\(∀n∈(["many","wide","powers","logs","step","step_power"]:List Str),b≠n)/\dO5 K C fs/\kC H f of oc c k/\Ab P w K mg base 4 of oc c k (bB g)/\Vw g many l st /\
 ∀H' p1 p2,eA x H H'->H' x=some (.ins C dx ((iF b).zip (C8 n0 many p1 p2 st)))->LI H' p1 l->LI H' p2 (eN l)->p1≠p2->H p1=none->H p2=none->Q .ay H'
theorem Ya(T:Txt K mg t):aQ P w K mg base bf 7 t.JO t.JP ["self","many","product"] (aR3 P w K mg base t.AN):=by
 refine T.aT1.ok aQ5 (λvs H Q E h=>?_) λaI A outer s H vs Q E hr h=>?_
 ·obtain⟨x,dx,f,C,b,n0,many,of,oc,c,k,g,l,st,rfl,_⟩:=h;rfl
 obtain⟨x,dx,f,C,b,n0,many,of,oc,c,k,g,l,st,rfl,hx,hb,hC,ef2,hL,hF,q⟩:=h
 refine⟨_,kR (qq (pv 0) (pv 1) rfl) (kR (qq (pv 0) (zu GK (G7 (pv 1)) zh) rfl)
  (kR (qq (pv 0) (tU ((aP1 T).mono (by decide)) hr rfl T.d48 T.Xc.kp T.d49 .nil aP (gz (pv 1) (gz (pv 2) ky))) rfl)
  (kR (qq (pv 0) (tU ((aX8 T).mono (by decide)) hr rfl T.d50 T.Xd.kp T.d51 .nil aP (gz (Ci (pv 0) rfl) ky)) rfl)
  (vJ (qq (pv 0) (cH0 (pv 0) hC.cls hC.sp ((Mp T).mono (by decide)) hr T.LZ .nil aP (gz zh ky)) rfl))))),?_⟩
 have nb:∀n∈(["many","wide","powers","logs","step","step_power"]:List Str),b≠n:=hb
 refine⟨.int many,rfl,.ref x,rfl,x,C,dx,_,rfl,hx,hC.cls,hC.many,nL (bM 1) (by decide),?_⟩
 rw[wz (by simpa using nb "many" (by simp))]
 generalize e1:upd H x (HO.ins C dx ([(b,V.int n0)]++[(("many":Str),V.int many)]))=H1
 have e7:H1 x=some (.ins C dx [(b,V.int n0),(("many":Str),V.int many)]):=by rw[<-e1,cH];rfl
 have s1:eA x H H1:=by rw[<-e1];exact eA.upd (C:=C) (dx:=dx) hx rfl
 have l1:kC H1 f of oc c k:=by rw[<-e1];exact ef2.Aj hx
 have n1:∀p,H1 p=none->H p=none:=λp h=>Ak hx (by rw[e1];exact h)
 refine⟨_,rfl,rfl,_,rfl,rfl,_,_,rfl,rfl,.ref x,rfl,x,C,dx,_,rfl,e7,hC.cls,hC.wide,nL (bM 2) (by decide),?_⟩
 rw[wz (by simp;exact⟨nb "wide" (by simp),by decide⟩),jn]
 generalize e2:upd H1 x (HO.ins C dx ([(b,V.int n0),(("many":Str),V.int many)]++[(("wide":Str),V.int ((bl many:Nat)-1))]))=H2
 have iZ:H2 x=some (.ins C dx [(b,V.int n0),(("many":Str),V.int many),(("wide":Str),V.int ((bl many:Nat)-1))]):=by rw[<-e2,cH];rfl
 have s2:eA x H H2:=by rw[<-e2];exact s1.trans (eA.upd (C:=C) (dx:=dx) e7 rfl)
 have l2:kC H2 f of oc c k:=by rw[<-e2];exact l1.Aj e7
 have n2:∀p,H2 p=none->H p=none:=λp h=>n1 p (Ak e7 (by rw[e2];exact h))
 refine⟨_,rfl,_,rfl,H2,[.int many,.bN (.lam of oc c k)],λd=>d=.lst true (aL l),ah.refl _,.int (.bN l2 .nil),⟨many,of,oc,c,k,g,l,rfl,hL,hF.step,rfl⟩,λd v F' H3 A' hd hs hf he h3 r nd fr=>?_⟩
 subst hd
 obtain⟨p1,rfl,Mq,Bo⟩:=Vv r fr
 have nB:=hs.get _ _ iZ
 have s3:=s2.trans (hs.x (x:=x))
 refine⟨.ref x,rfl,x,C,dx,_,rfl,nB,hC.cls,hC.Ip,nL (bM 3) (by decide),?_⟩
 rw[wz (by simp;exact⟨nb "powers" (by simp),by decide,by decide⟩)]
 generalize e4:upd H3 x (HO.ins C dx ([(b,V.int n0),(("many":Str),V.int many),(("wide":Str),V.int ((bl many:Nat)-1))]++[(("powers":Str),V.ref p1)]))=H4
 have sN:H4 x=some (.ins C dx [(b,V.int n0),(("many":Str),V.int many),(("wide":Str),V.int ((bl many:Nat)-1)),(("powers":Str),V.ref p1)]):=by rw[<-e4,cH];rfl
 have s4:eA x H H4:=by rw[<-e4];exact s3.trans (eA.upd (C:=C) (dx:=dx) nB rfl)
 have p4:LI H4 p1 l:=by rw[<-e4];exact Mq.upd nB (λws z=>by cases z)
 have n4:∀p,H4 p=none->H p=none:=λp h=>n2 p (hs.free (Ak nB (by rw[e4];exact h)))
 refine⟨.ref x,rfl,x,C,dx,_,.ref p1,rfl,sN,hC.cls,hC.Ip,by rw[C9 (nb "powers" (by simp))];rfl,H4,[.lst false (aL l)],λd=>d=.lst true (aL (eN l)),ah.refl _,.shr p4 (lL l) .nil,⟨l,rfl,by have:=hF.len;have:=hF.hi;omega,hF.ins,rfl⟩,λd v F' H5 A' hd sO hf he h3 r nd fr=>?_⟩
 subst hd
 obtain⟨p2,rfl,Yb,ve⟩:=Vv r fr
 have nC:=sO.get _ _ sN
 have s5:=s4.trans (sO.x (x:=x))
 have ef3:p1≠p2:=λz=>by rw[<-z]at ve;unfold LI at p4;rw[ve]at p4;cases p4
 refine⟨.ref x,rfl,x,C,dx,_,rfl,nC,hC.cls,hC.dO6,nL (bM 4) (by decide),?_⟩
 rw[wz (by simp;exact⟨nb "logs" (by simp),by decide,by decide,by decide⟩)]
 generalize e6:upd H5 x (HO.ins C dx ([(b,V.int n0),(("many":Str),V.int many),(("wide":Str),V.int ((bl many:Nat)-1)),(("powers":Str),V.ref p1)]++[(("logs":Str),V.ref p2)]))=H6
 have Mr:H6 x=some (.ins C dx (([b,"many","wide","powers","logs"]:List Str).zip [V.int n0,V.int many,V.int ((bl many:Nat)-1),V.ref p1,V.ref p2])):=by rw[<-e6,cH];rfl
 have s6:eA x H H6:=by rw[<-e6];exact s5.trans (eA.upd (C:=C) (dx:=dx) nC rfl)
 have p6:LI H6 p1 l:=by rw[<-e6];exact(p4.same sO).upd nC (λws z=>by cases z)
 have q6:LI H6 p2 (eN l):=by rw[<-e6];exact Yb.upd nC (λws z=>by cases z)
 refine⟨.ref x,rfl,x,dx,_,rfl,Mr,by show nF ("step_power":Str) ((b,V.int n0)::_)=none;rw[C9 (nb "step_power" (by simp))];rfl,H6,[.obj C [b,"many","wide","powers","logs"] [.int n0,.int many,.int ((bl many:Nat)-1),.lst false (aL l),.lst false (aL (eN l))],.int 1],λd=>d=.int st,ah.refl _,
  .obj Mr rfl (.int (.int (.int (.shr p6 (lL l) (.shr q6 (lL _) .nil))))) (.int .nil),⟨C,_,_,1,many,l,st,rfl,hC.cls,hC.Ip,hC.many,by show nF ("powers":Str) ((b,D.int n0)::_)=_;rw[C9 (nb "powers" (by simp))];rfl,by show nF ("many":Str) ((b,D.int n0)::_)=_;rw[C9 (nb "many" (by simp))];rfl,hF.lo,hF.st,rfl⟩,λd v F' H7 A' hd D7 hf he h3 r nd fr=>?_⟩
 subst hd
 cases r
 have D8:=D7.get _ _ Mr
 refine⟨.ref x,rfl,x,C,dx,_,rfl,D8,hC.cls,hC.step,nL (bM 5) (by decide),?_⟩
 rw[wz (by simp;exact⟨nb "step" (by simp),by decide,by decide,by decide,by decide⟩)]
 refine q _ p1 p2 ((s6.trans (D7.x (x:=x))).trans (eA.upd (C:=C) (dx:=dx) D8 rfl)) (by rw[cH];rfl) ((p6.same D7).upd D8 (λws z=>by cases z)) ((q6.same D7).upd D8 (λws z=>by cases z)) ef3 (n2 p1 Bo) (n4 p2 ve)
abbrev aE0:bA:=λds Q=>∃a:Int,ds=[.int a]/\Q (.bl (decide (2<=a)&&decide (a<=61)&&(aZ (a.toNat-2)).all λi=>a%(2+(i:Int)) != 0))
theorem aE1(T:Txt K mg t):aQ P w K mg base bf 1 t.JQ t.JR ["prime"] (bw (aE0 )):=by
 refine bH T.Xf aD5 ?_ ?_
 ·intro ds Q h
  obtain⟨a,rfl,q⟩:=h<;>rfl
 ·intro aI A outer s H E hr
  refine⟨_,(aF (aU (zS (ae (HH z5 z5 (ae aw) (bv 0) (ae aw))) (zi (dQ (CJ rfl) (by rfl) T.D6 Cn (af (ae (du [("prime",0)] ["d"] rfl (CB rfl T.iL (af (ae aw) (af (bv 0) au))) (λ_ _ _ _=>(cC (i:=1) (show(["prime","d"]:List Str).Nodup by decide +kernel) rfl (ao (lr1 rfl)) (by decide) (aX (lr1 rfl)))) (λ_ _ _ _=>dw) (λ_ _ _ _=>(vW (jX (dr hr)) (ae (aG dh (bv 0) (bv 1))) (ae aw) (bL _))) rfl ⟨rfl,trivial⟩ (λ_=>by repeat' (first | exact trivial | refine⟨.inl rfl,?_⟩ | refine⟨.inr (.inl rfl),?_⟩ | refine⟨.inr (.inr ⟨_,rfl⟩),?_⟩)) (λ_=>⟨⟨rfl,.inl rfl,.inl rfl,_,rfl,rfl⟩,trivial⟩) rfl (by decide +kernel))) au)))))),λds Q h=>?_⟩
  obtain⟨a,rfl,q⟩:=h
  nofun
  split
  ·rename_i h1
   split
   ·rename_i h2
    refine⟨2,a,⟨rfl,rfl⟩,⟨by decide,by decide,by omega,by omega⟩,?_⟩
    have e0:(a-2).toNat=a.toNat-2:=by omega
    rw[e0]
    refine dX (aZ (a.toNat-2)) (λ(k:Nat)=>D.int (2+(k:Int))) (λ(k:Nat)=>D.bl (a%(2+(k:Int)) != 0)) (by rw[zW]) (λx y h=>by injection h with h;omega) (λk hk=>?_) (.inr λ_ _=>rfl) (by rw[dB,sL];omega) ?_
    ·nofun
     refine⟨by omega,?_⟩
     by_cases z:a%(2+(k:Int))=0<;>simp[z]
    ·refine⟨(aZ (a.toNat-2)).map λ(k:Nat)=>a%(2+(k:Int)) != 0,?_,?_⟩
     ·unfold wb;rw[bZ];rfl
     ·have e:(decide (2<=a)&&decide (a<=61)&&(aZ (a.toNat-2)).all λi=>a%(2+(i:Int)) != 0)=((aZ (a.toNat-2)).map λ(k:Nat)=>a%(2+(k:Int)) != 0).all id:=by
       simp[h1,h2,mv]
      rw[<-e];exact q
   ·rename_i h2
    have e:(decide (2<=a)&&decide (a<=61)&&(aZ (a.toNat-2)).all λi=>a%(2+(i:Int)) != 0)=false:=by simp[h2]
    rw[e]at q;exact q
  ·rename_i h1
   have e:(decide (2<=a)&&decide (a<=61)&&(aZ (a.toNat-2)).all λi=>a%(2+(i:Int)) != 0)=false:=by simp[h1]
   rw[e]at q;exact q
abbrev aP2:List D->List Str->List D->Prop:=λds ns xs=>∃p:Nat,ds=[.int p]/\p∈oZ/\ns=iF "prime"/\xs=[.int p,.int p,.int ((bl p:Nat)-1),.lst true (aL (fl (false,p))),.lst true (aL (eN (fl (false,p)))),.int (fst (false,p))]
theorem aI4(T:Txt K mg t)(hB:Bm mg base):aQ P w K mg base bf 8 t.JS t.DP ["self","prime"] (Im [t.me,t.mf] t.aW aP2):=by
 refine Vr T.aJ9 T.aI1 aG7 (λvs H Q E h=>?_) λA outer s H vs Q E hr h=>?_
 ·obtain⟨x,dx,cO,ds,ns,xs,rfl,_,_,r,⟨p,rfl,_⟩,_⟩:=h
  have:=r.length
  simp at this
  simp[this]
 obtain⟨x,dx,cO,ds,ns,xs,rfl,tb,hx,r,⟨p,rfl,hp,rfl,rfl⟩,q⟩:=h
 obtain rfl:cO=[.int p]:=by
  cases r with
  | int r=>cases r;rfl
 have hm:(false,p)∈aD:=fc _ (FW hp)
 have hF:=cE hm
 refine⟨_,kR (Gw (Gu (Gr (tU ((aE1 T).mono (by decide)) hr rfl T.d54 T.Xf.kp T.d55 .nil aP (gz (pv 1) ky)))) (vJ Ss) Gv)
  (kR (qq (pv 0) (pv 1) rfl)
  (vJ (B8 (Vk (E:=E0) (i:=1) T.X6 ((Ya T).mono (by decide)) hr T.Xe rfl T.yD rfl rfl rfl rfl (gz (pv 0) (gz (pv 1) (gz (Vd rfl rfl T.aI2 hB) ky))))))),?_⟩
 refine⟨_,rfl,H,[.int p],λd=>d=.bl true,ah.refl _,.int .nil,⟨p,rfl,by rw[ci4 p hp]⟩,λd v F' H1 A1 hd vf hf he h3 r nd fr=>?_⟩
 subst hd
 cases r
 refine⟨true,rfl,?_⟩
 refine mK ?_
 have e7:=vf.get _ _ hx
 refine⟨.int p,rfl,.ref x,rfl,x,t.aW,dx,_,rfl,e7,T.ie,T.nu,by decide,?_⟩
 generalize e2:upd H1 x (HO.ins t.aW dx (gn "prime" (.int p) []))=H2
 have iZ:H2 x=some (.ins t.aW dx [(("prime":Str),.int p)]):=by rw[<-e2,cH];rfl
 have s2:eA x H H2:=by rw[<-e2];exact(vf.x (x:=x)).trans (eA.upd (C:=x) (dx:=dx) e7 rfl)
 have n2:∀p,H2 p=none->H p=none:=λp h=>vf.free (Ak e7 (by rw[e2];exact h))
 obtain⟨ps,hP⟩:=tb t.me (by simp)
 obtain⟨more,Ms⟩:=s2.tb _ ps hP
 refine⟨.ref x,rfl,.int p,rfl,⟨_,Ms⟩,λf k qn pm jF H3 nf Mt hk kf pV hl3=>?_⟩
 refine⟨f,_,_,.int p,Mt,rfl,rfl,λoc u jo hu nc rS=>?_⟩
 obtain⟨tm,rfl⟩:∃tm,u=pY p tm:=hu
 have nB:=pV.get _ _ iZ
 refine⟨x,dx,f,t.aW,"prime",p,p,_,oc,_,k,gm (false,p),fl (false,p),fst (false,p),rfl,Al nB (λz=>by rw[z,nf]at iZ;cases iZ) nc,by decide,⟨T.ie,T.yz,T.Bc,T.yA,T.vd,T.Bb,T.yB⟩,Vy rS nc hk kf,?_,hF,λH' p1 p2 sx dZ Bp vN ne Bo ve=>?_⟩
 ·refine Vp (n:=3) ⟨rfl,rfl,rfl,by decide,rfl,rfl,by decide,by decide,rfl⟩ jo (λu1 u2=>rfl) λq f A outer s H E hr=>?_
  refine⟨_,aG dh (ae (aG iB (bv 0) (bv 1))) (bv 2),λi j Qd h=>?_⟩
  obtain⟨a,b,rfl,rfl,ha,hb,hq⟩:=h
  nofun
  have hp0:2<=p:=hF.lo
  refine⟨js.ok (.inr ⟨by omega,by omega⟩),by omega,?_⟩
  have e:((gm (false,p) a b:Nat):Int)=(a:Int)*b%p:=by
   show((a*b%p:Nat):Int)=_
   rw[qi,vw]
  rw[<-e];exact hq
 ·have gf:H' f=some (.ext (jR _ oc _ f)):=sx.get f _ (λz=>by rw[z]at nf;rw[nf]at iZ;cases iZ) (by rw[bx rS.symm,cH]) rfl
  have gc:=sx.get _ _ (fB nB nc).symm cH rfl
  refine⟨gf,gc,?_⟩
  refine q _ (C8 p p p1 p2 (fst (false,p))) [p1,p2] (s2.trans (Vx pV nf nc sx)) ?_ rfl ?_ (by simp[ne]) (λa ha=>?_)
  ·rw[iE (λz=>by rw[z,gf]at dZ;cases dZ) (λz=>by rw[z,gc]at dZ;cases dZ)];exact dZ
  ·exact .int (.int (.int (.own (Bp.rem gf gc) rfl (lL _) (.own (vN.rem gf gc) rfl (lL _) (.int .nil)))))
  ·simp at ha
   rcases ha with rfl | rfl
   ·exact n2 _ (Dc pV Bo)
   ·exact n2 _ (Dc pV ve)
abbrev aN6:bA:=λds Q=>∃(l g:List Int),ds=[.lst false (aL l),.lst false (aL g)]/\1<=l.length/\l.length<=63/\g.length=l.length+1/\(∀x∈g,0<=x)/\Q (.lst true (rX l g))
theorem aN7(T:Txt K mg t):aQ P w K mg base bf 1 t.JT t.JU ["powers","logs"] (bw (aN6 )):=by
 refine bH T.Xg DM ?_ ?_
 ·intro ds Q h
  obtain⟨l,g,rfl,h1,h2,h3,h4,q⟩:=h<;>rfl
 ·intro aI A outer s H E hr
  refine⟨_,(aB (aV (i:=2) DM.nd rfl (aX rfl) (aG cQ (ae (dQ (fW) (by rfl) T.fY fQ (af (bv 0) au))) (ae aw)))
   (aB (aV (i:=3) DM.nd rfl (ao rfl) (eM (e5 (aG iB (ae (eM (e5 aw dH))) (bv 2)) dH)))
   (aB (gu eX rfl (CB rfl T.iL (af (ae aw) (af (bv 2) au))) (cC (i:=4) DM.nd rfl (aX rfl))
    (aF (lK (i:=3) rfl (by first | exact ao rfl | exact aX (ao rfl)) (aG cQ (ae (eM (e5 aw dH))) (ae (du [("powers",0),("many",2),("logs",1),("a",4)] ["b"] rfl (CB rfl T.iL (af (ae aw) (af (bv 2) au))) (λ_ _ _ _=>(cC (i:=4) (show(["powers","many","logs","a","b"]:List Str).Nodup by decide +kernel) rfl (ao (lr1 rfl)) (by decide) (aX (lr1 rfl)))) (λ_ _ _ _=>dw) (λ_ _ _ _=>(cN (bG (bv 0) (ae (aG dh (ae (aG cQ (bG (bv 2) (bv 3) (λ_ _=>rfl)) (bG (bv 2) (bv 4) (λ_ _=>rfl)))) (ae (aG gD (bv 1) (ae aw))))) (λ_ _=>rfl)))) rfl ⟨rfl,⟨rfl,⟨rfl,⟨rfl,trivial⟩⟩⟩⟩ (λ_=>by repeat' (first | exact trivial | refine⟨.inl rfl,?_⟩ | refine⟨.inr (.inl rfl),?_⟩ | refine⟨.inr (.inr ⟨_,rfl⟩),?_⟩)) (λ_=>⟨⟨rfl,.inl rfl,.inl rfl,_,rfl,rfl⟩,⟨⟨rfl,.inl rfl,.inl rfl,_,rfl,rfl⟩,⟨⟨rfl,.inl rfl,.inl rfl,_,rfl,rfl⟩,⟨⟨rfl,.inl rfl,.inl rfl,_,rfl,rfl⟩,trivial⟩⟩⟩⟩) rfl (by decide +kernel)))))))
   (aF (aU (em 3)))))),λds Q h=>?_⟩
  obtain⟨l,g,rfl,h1,h2,h3,h4,q⟩:=h
  refine aA λU hU=>?_
  nofun
  refine hU _ ?_
  clear hU U
  refine aA λU hU=>?_
  nofun
  refine⟨by decide,⟨by omega,by omega,by omega⟩,by decide,hU _ ?_⟩
  clear hU U
  refine aA λU hU=>?_
  nofun
  refine⟨1,(l.length:Int)+1,⟨rfl,rfl⟩,⟨by decide,by decide,by omega,by omega⟩,?_⟩
  have en:((l.length:Int)+1-1).toNat=l.length:=by omega
  rw[en]
  refine fE.mk (λi δ=>∃o,δ=[some (.lst false (aL l)),some (.lst false (aL g)),some (.int ((l.length:Int)+1)),some (.lst true (wu l g (i+1))),o]) ⟨none,?_⟩ ?_ ?_
  ·rw[show((l.length:Int)+1).toNat=l.length+1 by omega];rfl
  ·rintro i d δ hd ⟨o,rfl⟩
   obtain⟨hi,rfl⟩:i<l.length/\d=.int (1+(i:Int)):=by
    rw[bP]at hd
    by_cases hi:i<l.length
    ·rw[kh hi]at hd
     exact⟨hi,(cT hd).symm⟩
    ·rw[gU (by simpa using hi)]at hd;cases hd
   nofun
   refine⟨⟨_,rfl⟩,by decide,1,(l.length:Int)+1,⟨rfl,rfl⟩,⟨by decide,by decide,by omega,by omega⟩,?_⟩
   rw[en]
   refine dX (aZ l.length) (λ(k:Nat)=>D.int (1+(k:Int))) (λ(k:Nat)=>D.int (l.getD ((g.getD (i+1) 0+g.getD (k+1) 0)%(l.length:Int)).toNat 0)) (by rw[zW]) (λx y h=>by injection h with h;omega) (λk hk=>?_) (.inr λ_ _=>rfl) (by rw[dB,sL];omega) ?_
   ·have Az:=cS.mp hk
    nofun
    have e1:(1+(i:Int)).toNat=i+1:=by omega
    have e2:(1+(k:Int)).toNat=k+1:=by omega
    have e3:(l.length:Int)+1-1=l.length:=by omega
    have n0:=jl (g.getD (i+1) 0+g.getD (k+1) 0) (show(l.length:Int)≠0 by omega)
    have n1:=jm (g.getD (i+1) 0+g.getD (k+1) 0) (show(0:Int)<l.length by omega)
    refine⟨_,m5 (by omega) (by omega),_,m5 (by omega) (by omega),?_⟩
    rw[e1,e2,e3]
    exact⟨by omega,_,m5 n0 n1,rfl,rfl⟩
   ·nofun
    refine⟨⟨by simp;omega,by rw[mv,dv];intro x _;rfl⟩,by simp[wu];omega,_,?_,rfl⟩
    unfold wu
    rw[FY (n:=i+1),gh]
    congr 1
    show _=[D.lst true (aL (rW l g (i+1)))]
    unfold rW
    rw[if_neg (by omega)]
    unfold aL
    rw[dE,bZ];rfl
  ·rintro δ ⟨o,rfl⟩
   refine hU _ ?_
   simp only[qJ,mV,qK,oq,dT,kZ,kD,mQ,dC,oh,mU,mT,mS,oj,qI,m3,rm,oJ,rn,rp,qC,qD,qE,qF,qG,qH,oi,rk,oG,oH,ii,oy,qS,oB,qT,qU,qV,qW,qX,qY,iI,gH,qZ,q0,q5,q8,oE,oF,lj,rh,rj,gN,rq,rl,qL,qN,ou,qO,qP,qQ,rz,rA,mW,kG,fU,iX,iA,qa,p8,tH,vy,om,jU,iW,oI,lR,rF,rH,rJ,uP,kH,rO,oS,rL,iC,uS,uQ,uR,dE,jM,nO,nH,gR,vz,bF,nQ,nR,gi,gj,tI,exists_eq_left',exists_eq_left,D.bl.injEq,D.int.injEq,D.lst.injEq,D.fz.injEq,D.str.injEq,D.tup.injEq,tJ,and_true,true_and,dU,qh,ki,kg,uj,uk,um,uo,uq,ur,fi,jS,jD,uz,uA,uB,uC,uD,de,jT,rB,uu,uv,uw,eR,og,vA,vB,sT,gy,vC,vD,sX,uH,uI,uJ,uK,uL,uM,uN,lM,lN,oN,jE,oO,uF,rE,uE,oQ,uG,rC,lQ,rD,if_true,vE,if_false,reduceIte,uO,decide_eq_true_eq,eo,kI,m8,uV,oU,uU,qM,rQ,ph,rM,oX,oY,rV,sg,sq,pH,dj,nq,i9,u4,pj,sC,br,dB]
   exact q
abbrev aN8(t:gB):rG:=λds Q Ex=>∃a b:Nat,ds=[.int a,.int b]/\bl a<=1000000/\bl b<=1000000/\(b=0->Ex t.iK)/\(b≠0->∀q r:Nat,a=cl q b ^^^ r->bl r<bl b->Q (.tup [.int q,.int r]))
theorem Yc(T:Txt K mg t):aQ P w K mg base (n9 P w) 1 t.JV t.JW ["a","b"] (z8 (aN8 t )):=by
 refine UP T.L0 xg ?_ ?_
 ·intro ds Q Ex h
  obtain⟨a,b,rfl,ha,hb,qx,q⟩:=h<;>rfl
 ·intro aI A outer s H E hr
  refine⟨_,(aB (bV (bO (fV (dr hr)) (bv 1) (ae aw) (bL _)) (aF (UT T.X8 rfl (by rfl) (af (ae Uc) au))) cu)
   (aB (aV (i:=2) xg.nd rfl (ao rfl) aw)
   (aB (aV (i:=3) xg.nd rfl (ao rfl) (em 0))
   (aB (cU7 (zV eX (bO Ut (ae (oM (bv 3))) (ae (oM (bv 1))) (bL _))
    (aB (aV (i:=4) xg.nd rfl (ao rfl) (aG gD (ae (oM (bv 3))) (ae (oM (bv 1)))))
    (aB (zU (i:=2) xg.nd rfl (ao rfl) (ae (aG vZ (ae aw) (bv 4))) CF)
    (aF (zU (i:=3) xg.nd rfl (ao rfl) (ae (aG vZ (bv 1) (bv 4))) CF))))))
   (aF (aU (zT (e5 (em 2) (e5 (em 3) dH))))))))),λds Q Ex h=>?_⟩
  obtain⟨a,b,rfl,ha,hb,qx,q⟩:=h
  refine aA λU hU=>?_
  nofun
  split
  ·rename_i h0
   exact⟨by decide,qx (by omega)⟩
  ·rename_i h0
   have b0:b≠0:=by omega
   refine hU _ ?_
   clear hU U
   refine aA λU hU=>?_
   nofun
   refine hU _ ?_
   clear hU U
   refine aA λU hU=>?_
   nofun
   refine hU _ ?_
   clear hU U
   refine aA λU hU=>?_
   nofun
   refine⟨λm δ=>∃(x r:Nat) (o sh:Option D),δ=[o,some (.int b),some (.int (x:Nat)),some (.int (r:Nat)),sh]/\a=cl x b ^^^ r/\bl r<=bl a/\m=bl r,
    ⟨bl a,0,a,_,none,rfl,by rw[qw,p9],bM _,rfl⟩,?_⟩
   rintro m δ ⟨x,r,o,sh,rfl,inv,hra,rfl⟩
   simp only[qJ,mV,qK,oq,dT,kZ,kD,mQ,dC,oh,mU,mT,mS,oj,qI,m3,rm,oJ,rn,rp,qC,qD,qE,qF,qG,qH,oi,rk,oG,oH,ii,oy,qS,oB,qT,qU,qV,qW,qX,qY,iI,gH,qZ,q0,q5,q8,oE,oF,lj,rh,rj,gN,rq,rl,qL,qN,ou,qO,qP,qQ,rz,rA,mW,kG,fU,iX,iA,qa,p8,tH,vy,om,jU,iW,oI,lR,rF,rH,rJ,uP,kH,rO,oS,rL,iC,uS,uQ,uR,dE,jM,nO,nH,gR,vz,bF,nQ,nR,gi,gj,tI,exists_eq_left',exists_eq_left,D.bl.injEq,D.int.injEq,D.lst.injEq,D.fz.injEq,D.str.injEq,D.tup.injEq,tJ,and_true,true_and,dU,qh,ki,kg,uj,uk,um,uo,uq,ur,fi,jS,jD,uz,uA,uB,uC,uD,de,jT,rB,uu,uv,uw,eR,og,vA,vB,sT,gy,vC,vD,sX,uH,uI,uJ,uK,uL,uM,uN,lM,lN,oN,jE,oO,uF,rE,uE,oQ,uG,rC,lQ,rD,if_true,vE,if_false,reduceIte,uO,decide_eq_true_eq,eo,kI,m8,uV,oU,uU,qM,rQ,ph,rM,oX,oY,rV,sg,sq,pH,dj,nq,i9,u4,pj,sC,jn]
   split
   ·rename_i hc
    have hle:bl b<=bl r:=by omega
    have less:=TB b0 hle
    have es:(((bl r:Nat):Int)-((bl b:Nat):Int))=((bl r-bl b:Nat):Int):=by omega
    clear hU
    refine aA λU hU=>?_
    nofun
    simp only[jn,es]
    refine hU _ ?_
    clear hU
    refine aA λU hU=>?_
    nofun
    have o1:bl (1:Int).natAbs=1:=by decide
    refine⟨⟨by omega,by omega⟩,hU _ ?_⟩
    clear hU
    simp only[qJ,mV,qK,oq,dT,kZ,kD,mQ,dC,oh,mU,mT,mS,oj,qI,m3,rm,oJ,rn,rp,qC,qD,qE,qF,qG,qH,oi,rk,oG,oH,ii,oy,qS,oB,qT,qU,qV,qW,qX,qY,iI,gH,qZ,q0,q5,q8,oE,oF,lj,rh,rj,gN,rq,rl,qL,qN,ou,qO,qP,qQ,rz,rA,mW,kG,fU,iX,iA,qa,p8,tH,vy,om,jU,iW,oI,lR,rF,rH,rJ,uP,kH,rO,oS,rL,iC,uS,uQ,uR,dE,jM,nO,nH,gR,vz,bF,nQ,nR,gi,gj,tI,exists_eq_left',exists_eq_left,D.bl.injEq,D.int.injEq,D.lst.injEq,D.fz.injEq,D.str.injEq,D.tup.injEq,tJ,and_true,true_and,dU,qh,ki,kg,uj,uk,um,uo,uq,ur,fi,jS,jD,uz,uA,uB,uC,uD,de,jT,rB,uu,uv,uw,eR,og,vA,vB,sT,gy,vC,vD,sX,uH,uI,uJ,uK,uL,uM,uN,lM,lN,oN,jE,oO,uF,rE,uE,oQ,uG,rC,lQ,rD,if_true,vE,if_false,reduceIte,uO,decide_eq_true_eq,eo,kI,m8,uV,oU,uU,qM,rQ,ph,rM,oX,oY,rV,sg,sq,pH,dj,nq,i9,u4,pj,sC,jn]
    refine⟨⟨by omega,by rw[jn];omega⟩,_,less,x ^^^ 2 ^ (bl r-bl b),r ^^^ b <<< (bl r-bl b),o,_,⟨rfl,?_,?_,rfl⟩,ch7 inv,by omega,rfl⟩
    ·rw[show(1:Int)=((1:Nat):Int) from rfl,vR,nY,Gg]
    ·rw[vR,nY]
   ·rename_i hc
    refine hU _ ?_
    nofun
    refine⟨by decide,q b0 x r inv (by omega)⟩
abbrev aN9:bA:=λds Q=>∃a:Nat,ds=[.int a]/\bl a<=60/\Q (.bl (al a))
theorem aO0(T:Txt K mg t):aQ P w K mg base bf 2 t.JX t.JY ["a"] (bw (aN9 )):=by
 refine bH T.Xj Jz ?_ ?_
 ·intro ds Q h
  obtain⟨a,rfl,ha,q⟩:=h<;>rfl
 ·intro aI A outer s H E hr
  refine⟨_,(aB (bV (bO v3 (bv 0) (ae aw) (bL _)) (aF (aU kE)) cu)
   (aB (aV (i:=1) Jz.nd rfl (ao rfl) (aG jC (ae (aG gD (ae (oM (bv 0))) (ae aw))) (ae aw)))
   (aB (gu eX rfl (CB rfl T.iL (af (ae aw) (af (ae (aG vZ (ae aw) (ae (aG cQ (bv 1) (ae aw))))) au))) (cC (i:=2) Jz.nd rfl (ao rfl))
    (aF (bV (bO (fV (dr hr)) (bG (ae (aT (HV ((Yc T).mono (by decide))) hr rfl T.Xh T.L0.kp T.Xi HU (af (bv 0) (af (bv 2) au)))) (ae aw) (λ_ _=>rfl)) (ae aw) (bL _)) (aF (aU kE)) cu)))
   (aF (aU kE))))),λds Q h=>?_⟩
  obtain⟨a,rfl,ha,q⟩:=h
  refine aA λU hU=>?_
  nofun
  split
  ·rename_i h2
   rw[ck6 (by omega)]at q;exact q
  ·rename_i h2
   have h2:2<=a:=by omega
   have hp:=ir (show a≠0 by omega)
   refine hU _ ?_
   clear hU U
   refine aA λU hU=>?_
   nofun
   simp only[jn]
   refine⟨jB (by omega) (by omega),hU _ ?_⟩
   clear hU U
   have eh:((((bl a:Nat):Int)-1)/2+1)=(((bl a-1)/2+1:Nat):Int):=by omega
   have e1:(1:Int)*2 ^ ((((bl a:Nat):Int)-1)/2+1).toNat=((2 ^ ((bl a-1)/2+1):Nat):Int):=by
    rw[eh,show(1:Int)=((1:Nat):Int) from rfl,vR,Gg]
   have big:2 ^ ((bl a-1)/2+1)<=2 ^ 40:=yS (by decide) (by omega)
   have o1:bl (1:Int).natAbs=1:=by decide
   refine aA λU hU=>?_
   nofun
   rw[e1]
   have fv0:((2 ^ ((bl a-1)/2+1):Nat):Int)<=2 ^ 40:=by exact_mod_cast big
   have nn:(0:Int)<=((2 ^ ((bl a-1)/2+1):Nat):Int):=RB _
   refine⟨⟨by omega,by omega⟩,_,_,⟨rfl,rfl⟩,⟨by decide,by decide,by omega,by omega⟩,?_⟩
   have en:(((2 ^ ((bl a-1)/2+1):Nat):Int)-2).toNat=2 ^ ((bl a-1)/2+1)-2:=by omega
   rw[en]
   refine fE.mk (λi δ=>(∃o1 o2,δ=[some (.int a),o1,o2])/\∀j,j<i->md a (2+j)≠0) ⟨⟨_,_,rfl⟩,λj hj=>absurd hj (by omega)⟩ ?_ ?_
   ·rintro i d δ hd ⟨⟨o1,o2,rfl⟩,inv⟩
    obtain⟨hi,rfl⟩:i<2 ^ ((bl a-1)/2+1)-2/\d=.int (2+(i:Int)):=by
     rw[bP]at hd
     by_cases hi:i<2 ^ ((bl a-1)/2+1)-2
     ·rw[kh hi]at hd
      exact⟨hi,(cT hd).symm⟩
     ·rw[gU (by simpa using hi)]at hd;cases hd
    have bi:bl (2+i)<=60:=by
     have:=(cp2 h2 (show 2+i<2 ^ ((bl a-1)/2+1) by omega)).2
     omega
    nofun
    refine⟨a,2+i,by rw[show((2+i:Nat):Int)=2+(i:Int) by omega],by omega,by omega,by omega,λ_ x r e l=>?_⟩
    have em:md a (2+i)=r:=zJ e l
    refine⟨.int r,rfl,rfl,?_⟩
    rw[lQ]
    split
    ·rename_i hz
     have r0:r=0:=by have:=of_decide_eq_true hz;omega
     rw[cm5 hi (em.trans r0)]at q
     exact q
    ·rename_i hz
     refine⟨⟨_,_,rfl,rfl⟩,λj hj=>?_⟩
     by_cases ej:j=i
     ·rw[ej,em]
      intro r0
      exact hz (decide_eq_true (by omega))
     ·exact inv j (by omega)
   ·rintro δ ⟨⟨o1,o2,rfl⟩,inv⟩
    rw[br,dB]at inv
    rw[cC4 h2 inv]at q
    refine hU _ ?_
    nofun
    exact q
abbrev aI5:bA:=λds Q=>∃a:Int,ds=[.int a]/\Q (.bl (decide (4<=a)&&decide (a<=127)&&al a.toNat))
theorem aI6(T:Txt K mg t):aQ P w K mg base bf 3 t.JZ t.J0 ["bits"] (bw (aI5 )):=by
 refine bH T.Xk aG8 ?_ ?_
 ·intro ds Q h
  obtain⟨a,rfl,q⟩:=h<;>rfl
 ·intro aI A outer s H E hr
  refine⟨_,(aF (aU (zS (ae (HH z5 z5 (ae aw) (bv 0) (ae aw))) (zi (aT ((aO0 T).mono (by decide)) hr rfl T.d60 T.Xj.kp T.d61 aP (af (bv 0) au)))))),λds Q h=>?_⟩
  obtain⟨a,rfl,q⟩:=h
  nofun
  split
  ·rename_i h1
   split
   ·rename_i h2
    refine⟨a.toNat,by rw[tG (by omega)],?_,?_⟩
    ·have:bl a.toNat<=bl 127:=G6 (by omega)
     exact eG this (by decide)
    ·have e:(decide (4<=a)&&decide (a<=127)&&al a.toNat)=al a.toNat:=by simp[h1,h2]
     rw[e]at q;exact q
   ·rename_i h2
    have e:(decide (4<=a)&&decide (a<=127)&&al a.toNat)=false:=by simp[h2]
    rw[e]at q;exact q
  ·rename_i h1
   have e:(decide (4<=a)&&decide (a<=127)&&al a.toNat)=false:=by simp[h1]
   rw[e]at q;exact q
abbrev aR4:bA:=λds Q=>∃a b:Nat,ds=[.int a,.int b]/\bl a<=1000/\bl b<=1000/\Q (.int (cl a b:Nat))
theorem aR5(T:Txt K mg t):aQ P w K mg base bf 1 t.J1 t.J2 ["a","b"] (bw (aR4 )):=by
 refine bH T.Xl DN ?_ ?_
 ·intro ds Q h
  obtain⟨a,b,rfl,ha,hb,q⟩:=h<;>rfl
 ·intro aI A outer s H E hr
  refine⟨_,(aB (aV (i:=2) DN.nd rfl (ao rfl) aw)
   (aB (gu eX rfl (kF rfl T.iL (af (ae (oM (bv 1))) au)) (cC (i:=3) DN.nd rfl (ao rfl))
    (aF (bV (bO (fV (dr hr)) (ae (aG Us (ae (aG Ur (bv 1) (bv 3))) (ae aw))) (ae aw) (bL _)) (aF (zU (i:=2) DN.nd rfl (ao rfl) (ae (aG vZ (bv 0) (bv 3))) CF)) cu)))
   (aF (aU (em 2))))),λds Q h=>?_⟩
  obtain⟨a,b,rfl,ha,hb,q⟩:=h
  refine aA λU hU=>?_
  nofun
  refine hU _ ?_
  clear hU U
  refine aA λU hU=>?_
  nofun
  simp only[jn]
  refine⟨⟨by omega,by omega⟩,HR (λi δ=>∃o,δ=[some (.int a),some (.int b),some (.int (Mf.P a b i:Nat)),o]) ⟨none,rfl⟩ ?_ ?_⟩
  ·rintro i δ hi ⟨o,rfl⟩
   nofun
   refine⟨by omega,?_⟩
   have D9:(pZ ((b:Int)/2 ^ ((i:Int)).toNat) 1=1)↔b.testBit i=true:=by
    have h:=cA4 b i
    rw[RX]at h
    rw[<-h,dI]
   split
   ·rename_i hc
    have h:=ci2 (a:=a) (D9.mp hc)
    rw[RX]at h
    exact⟨⟨by omega,by rw[jn];omega⟩,_,h,rfl⟩
   ·rename_i hc
    exact⟨_,by rw[bW4 (λz=>hc (D9.mpr z))],rfl⟩
  ·rintro δ ⟨o,rfl⟩
   refine hU _ ?_
   nofun
   exact q
abbrev aU2:List D->List Str->List D->Prop:=λds ns xs=>∃p:Nat,ds=[.int p]/\p∈gI/\ns=iF "bits"++[("products":Str)]/\xs=[.int p,.int (aa (true,p)),.int ((bl (aa (true,p)):Nat)-1),.lst true (aL (fl (true,p))),.lst true (aL (eN (fl (true,p)))),.int (fst (true,p)),.lst true (rX (fl (true,p)) (eN (fl (true,p))))]
theorem aM6(T:Txt K mg t)(hB:Bm mg base):aQ P w K mg base bf 8 t.J3 t.DQ ["self","bits"] (Im [t.me,t.mf] t.aS aU2):=by
 refine Vr T.aN2 T.aM4 WY (λvs H Q E h=>?_) λA outer s H vs Q E hr h=>?_
 ·obtain⟨x,dx,cO,ds,ns,xs,rfl,_,_,r,⟨p,rfl,_⟩,_⟩:=h
  have:=r.length
  simp at this
  simp[this]
 obtain⟨x,dx,cO,ds,ns,xs,rfl,tb,hx,r,⟨p,rfl,hp,rfl,rfl⟩,q⟩:=h
 obtain rfl:cO=[.int p]:=by
  cases r with
  | int r=>cases r;rfl
 have hm:(true,p)∈aD:=gP _ (FW hp)
 have hF:=cE hm
 refine⟨_,kR (Gw (Gu (Gr (tU ((aI6 T).mono (by decide)) hr rfl T.d62 T.Xk.kp T.d63 .nil aP (gz (pv 1) ky)))) (vJ Ss) Gv)
  (kR (qq (pv 0) (pv 1) rfl)
  (kR (Sw (i:=2) WY.nd rfl (ao rfl) (zu TQ zh (zu GK (G7 (pv 1)) zh)))
  (kR (B8 (Vk (E:=E0) (i:=1) T.X6 ((Ya T).mono (by decide)) hr T.Xe rfl T.yD rfl rfl rfl rfl (gz (pv 0) (gz (pv 2) (gz (Vd rfl rfl T.aM5 hB) ky)))))
  (vJ (qq (pv 0) (tU ((aN7 T).mono (by decide)) hr rfl T.d58 T.Xg.kp T.d59 .nil aP (gz (Ci (pv 0) rfl) (gz (Ci (pv 0) rfl) ky))) rfl))))),?_⟩
 refine⟨_,rfl,H,[.int p],λd=>d=.bl true,ah.refl _,.int .nil,⟨p,rfl,by rw[cA1 p hp]⟩,λd v F' H1 A1 hd vf hf he h3 r nd fr=>?_⟩
 subst hd
 cases r
 refine⟨true,rfl,?_⟩
 refine mK ?_
 have e7:=vf.get _ _ hx
 refine⟨.int p,rfl,.ref x,rfl,x,t.aS,dx,_,rfl,e7,T.gF,T.AV,by decide,?_⟩
 generalize e2:upd H1 x (HO.ins t.aS dx (gn "bits" (.int p) []))=H2
 have iZ:H2 x=some (.ins t.aS dx [(("bits":Str),.int p)]):=by rw[<-e2,cH];rfl
 have s2:eA x H H2:=by rw[<-e2];exact(vf.x (x:=x)).trans (eA.upd (C:=x) (dx:=dx) e7 rfl)
 have n2:∀p,H2 p=none->H p=none:=λp h=>vf.free (Ak e7 (by rw[e2];exact h))
 obtain⟨ps,hP⟩:=tb t.mf (by simp)
 obtain⟨more,Ms⟩:=s2.tb _ ps hP
 have bp:bl p<=7:=VC p hp
 have Ea:1<=bl p:=VD p hp
 refine⟨.int p,rfl,rfl,p,rfl,rfl,_,_,rfl,rfl,_,_,rfl,rfl,?_,?_⟩
 ·have o1:bl (1:Int).natAbs=1:=by decide
  rw[jn]
  exact⟨by omega,by omega⟩
 have em:(1:Int)*2 ^ (((bl ((p:Int)).natAbs:Nat):Int)-1).toNat=((aa (true,p):Nat):Int):=by
  rw[jn,show(((bl p:Nat):Int)-1)=((bl p-1:Nat):Int) by omega,show(1:Int)=((1:Nat):Int) from rfl,vR,Gg];rfl
 show Ca 2 (.int ((1:Int)*2 ^ (((bl ((p:Int)).natAbs:Nat):Int)-1).toNat)) _ _ _
 rw[em]
 refine⟨.ref x,rfl,.int (aa (true,p)),rfl,⟨_,Ms⟩,λf k qn pm jF H3 nf Mt hk kf pV hl3=>?_⟩
 refine⟨f,_,_,.int p,Mt,rfl,rfl,λoc u jo hu nc rS=>?_⟩
 obtain⟨tm,rfl⟩:∃tm,u=pY p tm:=hu
 have nB:=pV.get _ _ iZ
 refine⟨x,dx,f,t.aS,"bits",p,aa (true,p),_,oc,_,k,gm (true,p),fl (true,p),fst (true,p),rfl,Al nB (λz=>by rw[z,nf]at iZ;cases iZ) nc,by decide,⟨T.gF,T.yx,T.AX,T.vb,T.sI,T.AW,T.yy⟩,Vy rS nc hk kf,?_,hF,λH' p1 p2 sx dZ Bp vN ne Bo ve=>?_⟩
 ·refine Vp (n:=3) ⟨rfl,rfl,rfl,by decide,rfl,rfl,by decide,by decide,rfl⟩ jo (λu1 u2=>rfl) λq f A outer s H E hr=>?_
  refine⟨_,cN (bG (ae (aT (HV ((Yc T).mono (by decide))) hr rfl T.Xh T.L0.kp T.Xi HU (af (ae (aT ((aR5 T).mono (by decide)) hr rfl T.d64 T.Xl.kp T.d65 aP (af (bv 0) (af (bv 1) au)))) (af (bv 2) au)))) (ae aw) (λ_ _=>rfl)),λi j Qd h=>?_⟩
  obtain⟨a,b,rfl,rfl,ha,hb,hq⟩:=h
  nofun
  have b1:bl a<=6:=by
   have:bl a<=bl 63:=G6 (by omega)
   exact eG this (by decide)
  have b2:bl b<=6:=by
   have:bl b<=bl 63:=G6 (by omega)
   exact eG this (by decide)
  have p0:p≠0:=by
   intro z
   rw[z]at Ea
   exact absurd Ea (by decide)
  refine⟨a,b,rfl,by omega,by omega,cl a b,p,rfl,eG (cl0 a b) (by omega),by omega,λz=>p0 z,λ_ x r e l=>⟨by simp[D.pl],.int r,rfl,rfl,r,rfl,?_⟩⟩
  have er:gm (true,p) a b=r:=zJ e l
  rw[<-er];exact hq
 ·have gf:H' f=some (.ext (jR _ oc _ f)):=sx.get f _ (λz=>by rw[z]at nf;rw[nf]at iZ;cases iZ) (by rw[bx rS.symm,cH]) rfl
  have gc:=sx.get _ _ (fB nB nc).symm cH rfl
  refine⟨gf,gc,?_⟩
  have s4:=s2.trans (Vx pV nf nc sx)
  have f1:=n2 _ (Dc pV Bo)
  have f2:=n2 _ (Dc pV ve)
  have l1:=Bp.rem gf gc
  have l2:=vN.rem gf gc
  have sN:rem H' f (s.heap.objs.size+1) x=some (.ins t.aS dx ((iF "bits").zip (C8 p (aa (true,p)) p1 p2 (fst (true,p))))):=by
   rw[iE (λz=>by rw[z,gf]at dZ;cases dZ) (λz=>by rw[z,gc]at dZ;cases dZ)];exact dZ
  generalize rem H' f (s.heap.objs.size+1)=H4 at s4 l1 l2 sN
  refine⟨.ref x,rfl,x,t.aS,dx,_,.ref p1,rfl,sN,T.gF,T.vb,rfl,.ref x,rfl,x,t.aS,dx,_,.ref p2,rfl,sN,T.gF,T.sI,rfl,H4,[.lst false (aL (fl (true,p))),.lst false (aL (eN (fl (true,p))))],λd=>d=.lst true (rX (fl (true,p)) (eN (fl (true,p)))),ah.refl _,.shr l1 (lL _) (.shr l2 (lL _) .nil),
   ⟨_,_,rfl,by have:=hF.len;have:=hF.lo;omega,by have:=hF.len;have:=hF.hi;omega,Ai _ _,VB _ _,rfl⟩,λd v F' H5 A' hd sO hf he h3 r nd fr=>?_⟩
  subst hd
  obtain⟨p3,rfl⟩:∃p3,v=.ref p3:=by cases r;exact⟨_,rfl⟩
  have nC:=sO.get _ _ sN
  have nA:∀{a ws},H4 a=some (.lst ws)->a ∉ A':=λ{a ws} e z=>by rw[fr a z]at e;cases e
  refine⟨.ref x,rfl,x,t.aS,dx,_,rfl,nC,T.gF,T.pU,nL (bM 6) (by decide),?_⟩
  refine q _ (C8 p (aa (true,p)) p1 p2 (fst (true,p))++[.ref p3]) (p1::p2::A') ((s4.trans (sO.x (x:=x))).trans (eA.upd (C:=x) (dx:=dx) nC rfl)) (by rw[cH];rfl) rfl ?_ ?_ ?_
  ·exact .int (.int (.int (.own ((l1.same sO).upd nC (λws z=>by cases z)) rfl (lL _) (.own ((l2.same sO).upd nC (λws z=>by cases z)) rfl (lL _) (.int ((r.Hq (by simp[eR,VA]) (ah.of λb o e=>by cases e)).Aj nC (by simp[eR,VA])))))))
  ·exact jj.mpr ⟨by simp[ne];exact nA l1,jj.mpr ⟨nA l2,nd⟩⟩
  ·intro a ha
   rcases cA.mp ha with rfl | ha
   ·exact f1
   ·rcases cA.mp ha with rfl | ha
    ·exact f2
    ·exact s4.free (by rw[sN];simp) (fr a ha)
abbrev aR6(cb cp:Addr):bA:=λds Q=>∃m:Bool × Nat,ds=[dy m]/\m∈aD/\Q (fD cb cp m)
theorem aR7(T:Txt K mg t)(hB:Bm mg base):aQ P w K mg base bf 10 t.J4 t.J5 ["_law_told_here"] (Aa [t.me,t.mf] (bw (aR6 t.aS t.aW))):=by
 refine Vq T.Xm aQ6 ?_ ?_
 ·intro ds Q h
  obtain⟨m,rfl,hm,q⟩:=h<;>rfl
 ·intro aI A outer s H E hT hr
  refine⟨_,(aB (bV (gr (bG (bv 0) (ae aw) (λ_ _=>rfl))) (aF (aU (Vt hT T.AU ((aM6 T hB).mono (by decide)) hr rfl T.Bj T.aN3 aP (af (bG (bv 0) (ae aw) (λ_ _=>rfl)) au)))) cu)
   (aF (aU (Vt hT T.Ba ((aI4 T hB).mono (by decide)) hr rfl T.Bl T.aK0 aP (af (bG (bv 0) (ae aw) (λ_ _=>rfl)) au))))),λds Q h=>?_⟩
  obtain⟨m,rfl,hm,q⟩:=h
  unfold dy at *
  refine aA λU hU=>?_
  nofun
  obtain⟨b,n⟩:=m
  cases b with
  | true =>
   refine⟨_,rfl,true,rfl,?_⟩
   rw[if_pos rfl]
   refine⟨_,rfl,_,_,⟨n,rfl,wA hm,rfl,rfl⟩,?_⟩
   rw[cJ3];exact q
  | false =>
   refine⟨_,rfl,false,rfl,?_⟩
   rw[if_neg (by decide)]
   refine hU _ ?_
   nofun
   refine⟨_,rfl,_,_,⟨n,rfl,bP8 hm,rfl,rfl⟩,?_⟩
   rw[ci0];exact q
abbrev cm3:bA:=λds Q=>∃T:List (List Nat),ds=[.lst false (aE false T)]/\T.length<=1000/\(∀r∈T,r.length<=1000/\∃x∈r,x≠0)/\Q (.lst true (aq (T.map aR)))
theorem Mu(T:Txt K mg t):aQ P w K mg base bf 1 t.J6 t.J7 ["rows"] (bw (cm3 )):=by
 refine bH T.DS ch4 ?_ ?_
 ·intro ds Q h
  obtain⟨G,rfl,hG,hr,q⟩:=h<;>rfl
 ·intro aI A outer s H E hr
  refine⟨_,(aF (aU (du [] ["row"] rfl (fS (bv 0)) (λ_ _ _ _=>(cC (i:=0) (show(["row"]:List Str).Nodup by decide +kernel) rfl (ao (lr1 rfl)) (by decide) (aX (lr1 rfl)))) (λ_ _ _ _=>dw) (λ_ _ _ _=>(cN (bG (ae (du [] ["place","x"] rfl (rN rfl T.sJ (af (bv 0) au)) (λ_ _ _ _=>(gv (i1:=0) (i2:=1) rfl (show(["place","x"]:List Str).Nodup by decide +kernel) rfl (ao (lr1 rfl)) rfl (ao (lr1 rfl)) (by decide) (by decide) (aX (lr1 rfl)) (aX (lr1 rfl)))) (λ_ _ _ _=>(ud (bO (jX (dr hr)) (bv 1) (ae aw) (bL _)))) (λ_ _ _ _=>(cN (bv 0))) rfl trivial (λ_=>by repeat' (first | exact trivial | refine⟨.inl rfl,?_⟩ | refine⟨.inr (.inl rfl),?_⟩ | refine⟨.inr (.inr ⟨_,rfl⟩),?_⟩)) (λ_=>trivial) rfl (by decide +kernel))) (ae aw) (λ_ _=>rfl)))) rfl trivial (λ_=>by repeat' (first | exact trivial | refine⟨.inl rfl,?_⟩ | refine⟨.inr (.inl rfl),?_⟩ | refine⟨.inr (.inr ⟨_,rfl⟩),?_⟩)) (λ_=>trivial) rfl (by decide +kernel)))),λds Q h=>?_⟩
  obtain⟨G,rfl,hG,hr,q⟩:=h
  nofun
  refine dX G (λr=>D.lst false (aq r)) (λr=>D.int (aR r:Nat)) (by rw[dj];rfl) (λa b h=>nh a b h) (λr bg=>?_) (.inr λr _=>rfl) (by rw[sL];omega) ?_
  ·obtain⟨h1,x,hx,h3⟩:=hr r bg
   nofun
   refine u5 (aZ r.length) (λ(i:Nat)=>D.tup [.int (i:Int),.int ((r.getD i 0:Nat):Int)]) (λ(i:Nat)=>D.int (i:Int)) (λi=>r.getD i 0 != 0) (V0 r) (λa b h=>by injection h with h;simp at h;omega) (λi hi=>?_) (.inr λ_ _ _=>rfl) (by rw[dB,sL];omega) ?_
   ·nofun
    refine⟨?_,λ_=>trivial⟩
    by_cases h0:r.getD i 0=0
    ·rw[h0];rfl
    ·rw[decide_eq_false (by omega),bne_iff_ne.mpr h0];rfl
   ·refine⟨.int (aR r:Nat),L3.HZ (k:=0) ?_,rfl,rfl⟩
    rw[bP,V1 ⟨x,hx,h3⟩];rfl
  ·rw[cw,bZ]at q
   exact q
abbrev aP3:bA:=λds Q=>∃(T:List (List Nat)) (w:Nat),ds=[.lst false (aE false T),.int w]/\T.length<=1000/\w<=1000/\(∀r∈T,r.length<=1000/\∃x∈r,x≠0)/\Q (.lst true (aq (lX T w)))
theorem aP4(T:Txt K mg t):aQ P w K mg base bf 2 t.J8 t.J9 ["rows","width"] (bw (aP3 )):=by
 refine bH T.Xn WZ ?_ ?_
 ·intro ds Q h
  obtain⟨G,w,rfl,hG,hw,hr,q⟩:=h<;>rfl
 ·intro aI A outer s H E hr
  refine⟨_,(aB (aV (i:=2) WZ.nd rfl (aX rfl) (aT ((Mu T).mono (by decide)) hr rfl T.L1 T.DS.kp T.L4 aP (af (bv 0) au)))
   (aF (aU (du [("taken",2)] ["place"] rfl (kF rfl T.iL (af (bv 1) au)) (λ_ _ _ _=>(cC (i:=1) (show(["taken","place"]:List Str).Nodup by decide +kernel) rfl (ao (lr1 rfl)) (by decide) (aX (lr1 rfl)))) (λ_ _ _ _=>(ud (bO VX (bv 1) (bv 0) (by with_unfolding_all rfl)))) (λ_ _ _ _=>(cN (bv 1))) rfl ⟨rfl,trivial⟩ (λ_=>by repeat' (first | exact trivial | refine⟨.inl rfl,?_⟩ | refine⟨.inr (.inl rfl),?_⟩ | refine⟨.inr (.inr ⟨_,rfl⟩),?_⟩)) (λ_=>⟨⟨rfl,.inl rfl,.inl rfl,_,rfl,rfl⟩,trivial⟩) rfl (by decide +kernel))))),λds Q h=>?_⟩
  obtain⟨G,w,rfl,hG,hw,hr,q⟩:=h
  refine aA λU hU=>?_
  nofun
  refine⟨G,rfl,hG,hr,?_⟩
  refine hU _ ?_
  clear hU U
  nofun
  refine⟨⟨by omega,by omega⟩,u5 (aZ w) (λ(i:Nat)=>D.int (i:Int)) (λ(i:Nat)=>D.int (i:Int)) (λj=>!(G.map aR).contains j) (se _ rfl) g8 (λj hj=>?_) (.inr λ_ _ _=>rfl) (by rw[dB,sL];omega) ?_⟩
  ·nofun
   exact⟨_,rfl,by rw[IF],λ_=>trivial⟩
  ·rw[cw]at q
   exact q
abbrev Yd:bA:=λds Q=>∃(d:D) (a b:Nat),ds=[d,.int a,.int b]/\Q (.int (a ^^^ b:Nat))
theorem aK5(T:Txt K mg t):aQ P w K mg base bf 1 t.Ka t.Kb ["self","a","b"] (bw (Yd )):=by
 refine bH T.aL8 aJ6 ?_ ?_
 ·intro ds Q h
  obtain⟨d,a,b,rfl,q⟩:=h<;>rfl
 ·intro aI A outer s H E hr
  refine⟨_,(aF (aU (aG z4 (bv 1) (bv 2)))),λds Q h=>?_⟩
  obtain⟨d,a,b,rfl,q⟩:=h
  nofun
  rw[nY];exact q
abbrev Ye(K:Frag):bA:=λds Q=>∃(C:Addr) (p:Nat) (a b:Int),ds=[uY C p,.int a,.int b]/\eJ K C/\cI K C "prime"/\0<p/\Q (.int ((a-b)%p))
theorem aG3(T:Txt K mg t):aQ P w K mg base bf 1 t.Kd t.Ke ["self","a","b"] (bw (Ye K)):=by
 refine bH T.aH4 aF6 ?_ ?_
 ·intro ds Q h
  obtain⟨C,p,a,b,rfl,hC,hn,hp,q⟩:=h<;>rfl
 ·intro aI A outer s H E hr
  refine⟨_,(aF (aU (aG dh (ae (aG gD (bv 1) (bv 2))) (j4 (K:=K) (bv 0))))),λds Q h=>?_⟩
  obtain⟨C,p,a,b,rfl,hC,hn,hp,q⟩:=h
  nofun
  refine⟨C,_,_,.int p,rfl,hC,hn,rfl,?_⟩
  exact⟨by omega,q⟩
theorem Yf(T:Txt K mg t){m:Bool × Nat}(h0:0<m.2):∃C ns xs sp,fD t.aS t.aW m=.obj C ns xs/\rT P w K mg base 1 "minus" C sp/\("minus":Str) ∉ ns/\∀(a b:Nat) (Q:D->Prop),Q (.int (gl m a b))->sp [.obj C ns xs,.int a,.int b] Q:=by
 obtain⟨k,n⟩:=m
 cases k with
 | true=>exact⟨_,_,_,Yd,rfl,⟨T.gF,_,_,_,T.A6,aK5 T,T.aL9⟩,by decide,λa b Q q=>⟨_,a,b,rfl,q⟩⟩
 | false=>exact⟨_,_,_,Ye K,rfl,⟨T.ie,_,_,_,T.Bf,aG3 T,T.aH5⟩,by decide,λa b Q q=>⟨_,n,a,b,rfl,T.ie,T.nu,h0,q⟩⟩
abbrev aE2(cb cp:Addr):bA:=λds Q=>∃(m:Bool × Nat) (T:List (List Nat)) (w:Nat),ds=[fD cb cp m,.lst false (aE false T),.int w]/\m∈aD/\T.length<=1000/\w<=1000/\RT (aa m) w T/\(∀r∈T,∃x∈r,x≠0)/\Q (.lst true (aE true (jG m T w)))
theorem aE3(T:Txt K mg t):aQ P w K mg base bf 3 t.Kf t.Kg ["field","rows","width"] (bw (aE2 t.aS t.aW)):=by
 refine bH T.Xo xt ?_ ?_
 ·intro ds Q h
  obtain⟨m,G,wi,rfl,hm,hG,hw,hR,hr,q⟩:=h<;>rfl
 ·intro aI A outer s H E hr
  refine⟨_,(aB (aV (i:=3) xt.nd rfl (ao rfl) (aT ((Mu T).mono (by decide)) hr rfl T.L1 T.DS.kp T.L4 aP (af (bv 1) au)))
   (aB (aV (i:=4) xt.nd rfl (ao rfl) (eM dH))
   (oo 3 (aB (gu eX rfl (CA (aT ((aP4 T).mono (by decide)) hr rfl T.d70 T.Xn.kp T.d71 aP (af (bv 1) (af (bv 2) au)))) (cC (i:=5) xt.nd rfl (ao rfl))
    (aB (aV (i:=6) xt.nd rfl (ao rfl) (aG iB (ae (eM (e5 aw dH))) (bv 2)))
    (aB (wg (i:=6) rfl (by first | exact ao rfl | exact aX (ao rfl)) aw (bv 5))
    (aB (gu eX rfl (lU rfl T.mm (af (bv 3) (af (bv 1) au))) (gv (i1:=7) (i2:=8) rfl xt.nd rfl (ao rfl) rfl (ao rfl))
     (aF (wg (i:=6) rfl (by first | exact ao rfl | exact aX (ao rfl)) (rY (P:=P) (w:=w) (K:=K) (mg:=mg) (base:=base) (n:=1) (bv 0) (hr.mono (by decide)) (af (ae aw) (af (bG (bv 8) (bv 5) (λ_ _=>rfl)) au))) (bv 7))))
    (aF (lK (i:=4) rfl (by first | exact ao rfl | exact aX (ao rfl)) (em 6)))))))
   (aF (aU (em 4))))))),λds Q h=>?_⟩
  obtain⟨m,G,wi,rfl,hm,hG,hw,hR,hr,q⟩:=h
  have m0:=bW m hm
  have dq:=(cE hm).lo
  refine aA λU hU=>?_
  nofun
  refine⟨G,rfl,hG,λr bg=>⟨by rw[(hR r bg).1];exact hw,hr r bg⟩,hU _ ?_⟩
  clear hU U
  refine aA λU hU=>?_
  nofun
  refine⟨by decide,hU _ ?_⟩
  clear hU U
  refine⟨_,rfl,?_⟩
  rw[iG]
  simp only[gj,gi]
  refine aA λU hU=>?_
  nofun
  refine⟨G,wi,rfl,hG,hw,λr bg=>⟨by rw[(hR r bg).1];exact hw,hr r bg⟩,?_⟩
  refine⟨_,rfl,?_⟩
  have hfp:∀j∈lX G wi,j<wi:=λj hj=>cS.mp (nE.mp hj).1
  have lfp:(lX G wi).length<=wi:=by
   have:=BW (λj=>!(G.map aR).contains j) (aZ wi)
   rw[dB]at this
   exact this
  rw[m8]
  refine fE.mk (λi δ=>∃o1 o2 o3 o4,δ=[some (fD t.aS t.aW m),some (D.lst false (aE false G)),some (D.int wi),some (D.lst false (aq (G.map aR))),some (D.lst true (aE true (((lX G wi).take i).map (je m G wi)))),o1,o2,o3,o4]) ⟨_,_,_,_,rfl⟩ ?_ ?_
  ·rintro i d δ hd ⟨o1,o2,o3,o4,rfl⟩
   rw[cw,bP]at hd
   obtain⟨f,hf,rfl⟩:=vt.mp hd
   have hfw:=hfp f (vo hf)
   clear hd
   refine aA λU hU=>?_
   nofun
   have er:aL (bF wi 0)=aq (bF wi 0):=by
    rw[cw,Gh];unfold aL;rw[Gh];rfl
   rw[fO,er]
   refine⟨by decide,⟨by omega,by omega,by omega⟩,hU _ ?_⟩
   clear hU
   refine aA λU hU=>?_
   nofun
   refine⟨_,f,rfl,?_,?_⟩
   ·rw[Aq (by omega) (by rw[eo,p7];omega)];rfl
   rw[show(aq (bF wi 0)).set f (D.int 1)=aq ((bF wi 0).set f 1) from Dn _ _ 1]
   refine hU _ ?_
   clear hU
   refine aA λU hU=>?_
   nofun
   refine⟨_,_,rfl,rfl,?_⟩
   refine fE.mk (λk δ=>∃o3 o4,δ=[some (fD t.aS t.aW m),some (D.lst false (aE false G)),some (D.int wi),some (D.lst false (aq (G.map aR))),some (D.lst true (aE true (((lX G wi).take i).map (je m G wi)))),some (D.int f),some (D.lst true (aq ((((G.map aR).zip G).take k).foldl (λx z=>x.set z.1 (bC m 0 (z.2.getD f 0))) ((bF wi 0).set f 1)))),o3,o4]) ⟨_,_,rfl⟩ ?_ ?_
   ·rintro k d δ hd ⟨o3,o4,rfl⟩
    obtain⟨hk,rfl⟩:=V3 hd
    clear hd
    obtain⟨lw,la⟩:=hR _ (cB hk)
    have xl:=IG (λz:Nat × List Nat=>z.1) (λz=>bC m 0 (z.2.getD f 0)) (((G.map aR).zip G).take k) ((bF wi 0).set f 1)
    rw[nG,p7]at xl
    obtain⟨C,ns,xs,sp,e1,e2,e3,e4⟩:=Yf (P:=P) (w:=w) (base:=base) T m0
    have hld:aR G[k]<wi:=by
     rw[<-lw]
     obtain⟨x,hx,h0⟩:=hr _ (cB hk)
     exact FX ⟨x,hx,by simpa using h0⟩
    have ga:=fG hm (a:=0) (b:=G[k].getD f 0) (by omega) (la.getD (by omega) f)
    nofun
    refine⟨C,ns,xs,sp,e1,e2,e3,.int (G[k].getD f 0:Nat),by rw[i8 (by omega) (by omega),fO],e4 0 (G[k].getD f 0) _ ⟨rfl,_,aR G[k],rfl,?_,_,_,?_,rfl,rfl⟩⟩
    ·rw[Aq (by omega) (by rw[eo,xl];omega)];rfl
    ·rw[ga.1,Dn,mr,y6]
     have ez:((G.map aR).zip G)[k]?=some (aR G[k],G[k]):=by
      rw[mw,mx,bP,aJ hk];rfl
     rw[ez];rfl
   ·rintro δ ⟨o3,o4,rfl⟩
    refine hU _ ?_
    nofun
    refine⟨⟨_,rfl⟩,by rw[br,ig];omega,_,_,_,_,?_,rfl,rfl,rfl,rfl⟩
    rw[show((G.map aR).zip G).take (di (aq (G.map aR)) (aE false G)).length=(G.map aR).zip G from tw (by unfold di;rw[qj,ik,eo,i9];exact bM _),mr,hf,gh]
    exact sj true _ [je m G wi f]
  ·rintro δ ⟨o1,o2,o3,o4,rfl⟩
   refine hU _ ?_
   nofun
   rw[tu]
   exact q
abbrev aW7:bA:=λds Q=>∃T:List (List Nat),ds=[.lst false (aE false T)]/\T.length<=1000/\(∀r∈T,r.length<=1000)/\Q (.int (ag T:Nat))
theorem Bq(T:Txt K mg t):aQ P w K mg base bf 1 t.Kh t.Ki ["table"] (bw (aW7 )):=by
 refine bH T.yw aV9 ?_ ?_
 ·intro ds Q h
  obtain⟨G,rfl,hG,hr,q⟩:=h<;>rfl
 ·intro aI A outer s H E hr
  refine⟨_,(aF (aU (Cw (bO (jX (dr hr)) (bv 0) (ae (eM dH)) (bL _)) (dQ (fW) (by rfl) T.fY fQ (af (bG (bv 0) (ae aw) (λ_ _=>rfl)) au)) aw))),λds Q h=>?_⟩
  obtain⟨G,rfl,hG,hr,q⟩:=h
  nofun
  refine⟨by decide,⟨IC 4 _ _ _,rfl⟩,?_⟩
  rw[show(D.lst true ([]:List D))=D.lst true (aE true []) from rfl,VZ]
  cases G with
  | nil=>rw[if_neg (by simp)];exact q
  | cons r G =>
   rw[if_pos (by simp)]
   refine⟨.lst false (aq r),sk false (T:=r::G) (i:=0) (Sf _),?_⟩
   show Q (D.int ((aq r).length:Nat))
   rw[eo];exact q
abbrev aR8:bA:=λds Q=>∃(T:List (List Nat)) (j:Nat),ds=[.lst false (aE false T),.int j]/\T.length<=1000/\(∀r∈T,j<r.length)/\Q (match j7 T j with | some i=>.int (i:Nat) | none=>.ay)
theorem aR9(T:Txt K mg t):aQ P w K mg base bf 1 t.Kj t.Kk ["rows","place"] (bw (aR8 )):=by
 refine bH T.Xp W0 ?_ ?_
 ·intro ds Q h
  obtain⟨G,j,rfl,hG,hr,q⟩:=h<;>rfl
 ·intro aI A outer s H E hr
  refine⟨_,(aB (gu eX rfl (rN rfl T.sJ (af (bv 0) au)) (gv (i1:=2) (i2:=3) rfl W0.nd rfl (ao rfl) rfl (ao rfl))
    (aF (bV (bO (jX (dr hr)) (bG (bv 3) (bv 1) (λ_ _=>rfl)) (ae aw) (bL _)) (aF (aU (em 2))) cu)))
   (aF (aU fC))),λds Q h=>?_⟩
  obtain⟨G,j,rfl,hG,hr,q⟩:=h
  refine aA λU hU=>?_
  nofun
  refine fE.mk (λi δ=>∃o1 o2,δ=[some (D.lst false (aE false G)),some (D.int j),o1,o2]/\∀k,k<i->(G.getD k []).getD j 0=0) ⟨_,_,rfl,λk hk=>absurd hk (Gd k)⟩ ?_ ?_
  ·rintro i d δ hd ⟨o1,o2,rfl,hz⟩
   obtain⟨hi,rfl⟩:=ID hd
   have hj:=hr _ (cB hi)
   have eg:G.getD i []=G[i]:=by rw[aK,aJ hi];rfl
   nofun
   refine⟨.int (G[i].getD j 0:Nat),by rw[i8 (by omega) (by omega),fO],rfl,?_⟩
   rw[lQ]
   by_cases h0:G[i].getD j 0=0
   ·rw[if_neg (by rw[h0];decide)]
    refine⟨_,_,⟨rfl,rfl⟩,λk hk=>?_⟩
    by_cases e:k=i
    ·rw[e,eg];exact h0
    ·exact hz k (by omega)
   ·rw[if_pos (by rw[decide_eq_false (by omega)];rfl)]
    have ef:j7 G j=some i:=by
     unfold j7
     rw[dd9]
     refine⟨hi,by simpa using h0,λk hk=>?_⟩
     have:=hz k hk
     rw[aK (l:=G),aJ (by omega)]at this
     simpa using this
    rw[ef]at q
    exact q
  ·rintro δ ⟨o1,o2,rfl,hz⟩
   refine hU _ ?_
   nofun
   have ef:j7 G j=none:=by
    unfold j7
    rw[de0]
    intro r bg
    obtain⟨i,hi,rfl⟩:=gx bg
    have:=hz i (by rw[oR,i9];exact hi)
    rw[aK (l:=G),aJ hi]at this
    simpa using this
   rw[ef]at q
   exact q
abbrev Yg(K:Frag):bA:=λds Q=>∃(C:Addr) (p a:Nat) (xs:List Nat),ds=[uZ C p,.int a,.lst false (aq xs)]/\eJ K C/\cI K C "products"/\p∈gI/\a<aa (true,p)/\(∀y∈xs,y<aa (true,p))/\xs.length<=1000/\Q (.lst true (aq (xs.map (gm (true,p) a))))
theorem aI7(T:Txt K mg t):aQ P w K mg base bf 1 t.Kl t.Km ["self","a","row"] (bw (Yg K)):=by
 refine bH T.aK1 W2 ?_ ?_
 ·intro ds Q h
  obtain⟨C,p,a,xs,rfl,hC,hn,hp,ha,hy,hl,q⟩:=h<;>rfl
 ·intro aI A outer s H E hr
  refine⟨_,(aB (aV (i:=3) W2.nd rfl (aX rfl) (cN (bG (j4 (K:=K) (bv 0)) (bv 1) (λ_ _=>rfl))))
   (aF (aU (du [("by_a",3)] ["x"] rfl (fS (bv 2)) (λ_ _ _ _=>(cC (i:=1) (show(["by_a","x"]:List Str).Nodup by decide +kernel) rfl (ao (lr1 rfl)) (by decide) (aX (lr1 rfl)))) (λ_ _ _ _=>dw) (λ_ _ _ _=>(cN (bG (bv 0) (bv 1) (λ_ _=>rfl)))) rfl ⟨rfl,trivial⟩ (λ_=>by repeat' (first | exact trivial | refine⟨.inl rfl,?_⟩ | refine⟨.inr (.inl rfl),?_⟩ | refine⟨.inr (.inr ⟨_,rfl⟩),?_⟩)) (λ_=>⟨⟨rfl,.inl rfl,.inl rfl,_,rfl,rfl⟩,trivial⟩) rfl (by decide +kernel))))),λds Q h=>?_⟩
  obtain⟨C,p,a,xs,rfl,hC,hn,hp,ha,hy,hl,q⟩:=h
  refine aA λU hU=>?_
  nofun
  refine⟨C,_,_,_,rfl,hC,hn,rfl,_,Di hp ha,?_⟩
  refine⟨by rw[fi,lN];rfl,hU _ ?_⟩
  clear hU U
  nofun
  refine dX xs (λ(i:Nat)=>D.int (i:Int)) (λx=>D.int ((gm (true,p) a x:Nat):Int)) (m6 xs) g8 (λx hx=>?_) (.inr λ_ _=>rfl) (by rw[sL];omega) ?_
  ·nofun
   exact⟨_,Dh hp ha (hy x hx),rfl,rfl⟩
  ·rw[cw,bZ]at q
   exact q
abbrev Yh(K:Frag):bA:=λds Q=>∃(C:Addr) (p a:Nat) (xs:List Nat),ds=[uY C p,.int a,.lst false (aq xs)]/\eJ K C/\cI K C "prime"/\0<p/\a<64/\(∀y∈xs,y<64)/\xs.length<=1000/\Q (.lst true (aq (xs.map (gm (false,p) a))))
theorem aE4(T:Txt K mg t):aQ P w K mg base bf 1 t.Kn t.Ko ["self","a","row"] (bw (Yh K)):=by
 refine bH T.aF9 W3 ?_ ?_
 ·intro ds Q h
  obtain⟨C,p,a,xs,rfl,hC,hn,hp,ha,hy,hl,q⟩:=h<;>rfl
 ·intro aI A outer s H E hr
  refine⟨_,(aB (aV (i:=3) W3.nd rfl (aX rfl) (cN (j4 (K:=K) (bv 0))))
   (aF (aU (du [("prime",3),("a",1)] ["x"] rfl (fS (bv 2)) (λ_ _ _ _=>(cC (i:=2) (show(["prime","a","x"]:List Str).Nodup by decide +kernel) rfl (ao (lr1 rfl)) (by decide) (aX (lr1 rfl)))) (λ_ _ _ _=>dw) (λ_ _ _ _=>(aG dh (ae (aG iB (bv 1) (bv 2))) (bv 0))) rfl ⟨rfl,⟨rfl,trivial⟩⟩ (λ_=>by repeat' (first | exact trivial | refine⟨.inl rfl,?_⟩ | refine⟨.inr (.inl rfl),?_⟩ | refine⟨.inr (.inr ⟨_,rfl⟩),?_⟩)) (λ_=>⟨⟨rfl,.inl rfl,.inl rfl,_,rfl,rfl⟩,⟨⟨rfl,.inl rfl,.inl rfl,_,rfl,rfl⟩,trivial⟩⟩) rfl (by decide +kernel))))),λds Q h=>?_⟩
  obtain⟨C,p,a,xs,rfl,hC,hn,hp,ha,hy,hl,q⟩:=h
  refine aA λU hU=>?_
  nofun
  refine⟨C,_,_,.int p,rfl,hC,hn,rfl,rfl,hU _ ?_⟩
  clear hU U
  nofun
  refine dX xs (λ(i:Nat)=>D.int (i:Int)) (λx=>D.int ((gm (false,p) a x:Nat):Int)) (m6 xs) g8 (λx hx=>?_) (.inr λ_ _=>rfl) (by rw[sL];omega) ?_
  ·have h2:=hy x hx
   nofun
   refine⟨js.ok (.inr ⟨by omega,by omega⟩),by omega,?_⟩
   show _=((a*x%p:Nat):Int)
   rw[qi,vw]
  ·rw[cw,bZ]at q
   exact q
theorem co5(T:Txt K mg t){m:Bool × Nat}(hm:m∈aD):∃C ns zs sp,fD t.aS t.aW m=.obj C ns zs/\rT P w K mg base 1 "scaled" C sp/\("scaled":Str) ∉ ns/\∀(xs:List Nat) (a:Nat) (Q:D->Prop),a<aa m->(∀y∈xs,y<aa m)->xs.length<=1000->Q (.lst true (aq (xs.map (gm m a))))->sp [.obj C ns zs,.int a,.lst false (aq xs)] Q:=by
 have hF:=cE hm
 obtain⟨k,n⟩:=m
 cases k with
 | true=>exact⟨_,_,_,Yg K,rfl,⟨T.gF,_,_,_,T.A8,aI7 T,T.aK2⟩,by decide,λxs a Q ha hy hl q=>⟨_,n,a,xs,rfl,T.gF,T.pU,wA hm,ha,hy,hl,q⟩⟩
 | false =>
  have kK:n<=64:=hF.hi
  have l2:2<=n:=hF.lo
  exact⟨_,_,_,Yh K,rfl,⟨T.ie,_,_,_,T.Bh,aE4 T,T.aG0⟩,by decide,λxs a Q ha hy hl q=>⟨_,n,a,xs,rfl,T.ie,T.nu,by omega,dA (show a<n from ha) kK,λy h=>dA (show y<n from hy y h) kK,hl,q⟩⟩
abbrev Yi(K:Frag):bA:=λds Q=>∃(C:Addr) (p a:Nat) (xs ys:List Nat),ds=[uZ C p,.lst false (aq xs),.int a,.lst false (aq ys)]/\eJ K C/\cI K C "products"/\p∈gI/\a<aa (true,p)/\(∀y∈ys,y<aa (true,p))/\xs.length<=1000/\Q (.lst true (aq (cZ (λx y=>bC (true,p) x (gm (true,p) a y)) xs ys)))
theorem aE5(T:Txt K mg t):aQ P w K mg base bf 1 t.Kp t.Kq ["self","row","a","other"] (bw (Yi K)):=by
 refine bH T.aG1 W4 ?_ ?_
 ·intro ds Q h
  obtain⟨C,p,a,xs,ys,rfl,hC,hn,hp,ha,hy,hl,q⟩:=h<;>rfl
 ·intro aI A outer s H E hr
  refine⟨_,(aB (aV (i:=4) W4.nd rfl (aX rfl) (cN (bG (j4 (K:=K) (bv 0)) (bv 2) (λ_ _=>rfl))))
   (aF (aU (du [("by_a",4)] ["x","y"] rfl (lU rfl T.mm (af (bv 1) (af (bv 3) au))) (λ_ _ _ _=>(gv (i1:=1) (i2:=2) rfl (show(["by_a","x","y"]:List Str).Nodup by decide +kernel) rfl (ao (lr1 rfl)) rfl (ao (lr1 rfl)) (by decide) (by decide) (aX (lr1 rfl)) (aX (lr1 rfl)))) (λ_ _ _ _=>dw) (λ_ _ _ _=>(aG z4 (bv 1) (bG (bv 0) (bv 2) (λ_ _=>rfl)))) rfl ⟨rfl,trivial⟩ (λ_=>by repeat' (first | exact trivial | refine⟨.inl rfl,?_⟩ | refine⟨.inr (.inl rfl),?_⟩ | refine⟨.inr (.inr ⟨_,rfl⟩),?_⟩)) (λ_=>⟨⟨rfl,.inl rfl,.inl rfl,_,rfl,rfl⟩,trivial⟩) rfl (by decide +kernel))))),λds Q h=>?_⟩
  obtain⟨C,p,a,xs,ys,rfl,hC,hn,hp,ha,hy,hl,q⟩:=h
  refine aA λU hU=>?_
  nofun
  refine⟨C,_,_,_,rfl,hC,hn,rfl,_,Di hp ha,?_⟩
  refine⟨by rw[fi,lN];rfl,hU _ ?_⟩
  clear hU U
  nofun
  refine⟨_,_,rfl,rfl,Iz (λx y=>bC (true,p) x (gm (true,p) a y)) (λx hx y yE=>?_) (by omega) q⟩
  nofun
  refine⟨_,Dh hp ha (hy y yE),?_⟩
  show p5 (x:Int) ((gm (true,p) a y:Nat):Int)=_
  rw[nY];rfl
abbrev Yj(K:Frag):bA:=λds Q=>∃(C:Addr) (p a:Nat) (xs ys:List Nat),ds=[uY C p,.lst false (aq xs),.int a,.lst false (aq ys)]/\eJ K C/\cI K C "prime"/\0<p/\a<64/\(∀y∈ys,y<64)/\xs.length<=1000/\Q (.lst true (aq (cZ (λx y=>bC (false,p) x (gm (false,p) a y)) xs ys)))
theorem aB8(T:Txt K mg t):aQ P w K mg base bf 1 t.Kr t.Ks ["self","row","a","other"] (bw (Yj K)):=by
 refine bH T.aD1 W5 ?_ ?_
 ·intro ds Q h
  obtain⟨C,p,a,xs,ys,rfl,hC,hn,hp,ha,hy,hl,q⟩:=h<;>rfl
 ·intro aI A outer s H E hr
  refine⟨_,(aB (aV (i:=4) W5.nd rfl (aX rfl) (cN (j4 (K:=K) (bv 0))))
   (aF (aU (du [("prime",4),("a",2)] ["x","y"] rfl (lU rfl T.mm (af (bv 1) (af (bv 3) au))) (λ_ _ _ _=>(gv (i1:=2) (i2:=3) rfl (show(["prime","a","x","y"]:List Str).Nodup by decide +kernel) rfl (ao (lr1 rfl)) rfl (ao (lr1 rfl)) (by decide) (by decide) (aX (lr1 rfl)) (aX (lr1 rfl)))) (λ_ _ _ _=>dw) (λ_ _ _ _=>(aG dh (ae (aG gD (bv 2) (ae (aG iB (bv 1) (bv 3))))) (bv 0))) rfl ⟨rfl,⟨rfl,trivial⟩⟩ (λ_=>by repeat' (first | exact trivial | refine⟨.inl rfl,?_⟩ | refine⟨.inr (.inl rfl),?_⟩ | refine⟨.inr (.inr ⟨_,rfl⟩),?_⟩)) (λ_=>⟨⟨rfl,.inl rfl,.inl rfl,_,rfl,rfl⟩,⟨⟨rfl,.inl rfl,.inl rfl,_,rfl,rfl⟩,trivial⟩⟩) rfl (by decide +kernel))))),λds Q h=>?_⟩
  obtain⟨C,p,a,xs,ys,rfl,hC,hn,hp,ha,hy,hl,q⟩:=h
  refine aA λU hU=>?_
  nofun
  refine⟨C,_,_,.int p,rfl,hC,hn,rfl,rfl,hU _ ?_⟩
  clear hU U
  nofun
  refine⟨_,_,rfl,rfl,Iz (λx y=>bC (false,p) x (gm (false,p) a y)) (λx hx y yE=>?_) (by omega) q⟩
  have h2:=hy y yE
  nofun
  refine⟨js.ok (.inr ⟨by omega,by omega⟩),by omega,?_⟩
  have e:((x:Int)-((a*y%p:Nat):Int))%(p:Int)=((x:Int)-(a:Int)*y)%p:=by
   rw[qi,vw,Int.sub_emod,Int.emod_emod,<- Int.sub_emod]
  show _=(((((x:Int)-((a*y%p:Nat):Int))%(p:Int)).toNat:Nat):Int)
  rw[e,tG (jl _ (by omega))]
theorem Yk(T:Txt K mg t){m:Bool × Nat}(hm:m∈aD):∃C ns zs sp,fD t.aS t.aW m=.obj C ns zs/\rT P w K mg base 1 "lessened" C sp/\("lessened":Str) ∉ ns/\∀(xs ys:List Nat) (a:Nat) (Q:D->Prop),a<aa m->(∀y∈ys,y<aa m)->xs.length<=1000->Q (.lst true (aq (cZ (λx y=>bC m x (gm m a y)) xs ys)))->sp [.obj C ns zs,.lst false (aq xs),.int a,.lst false (aq ys)] Q:=by
 have hF:=cE hm
 obtain⟨k,n⟩:=m
 cases k with
 | true=>exact⟨_,_,_,Yi K,rfl,⟨T.gF,_,_,_,T.AZ,aE5 T,T.aG2⟩,by decide,λxs ys a Q ha hy hl q=>⟨_,n,a,xs,ys,rfl,T.gF,T.pU,wA hm,ha,hy,hl,q⟩⟩
 | false =>
  have kK:n<=64:=hF.hi
  have l2:2<=n:=hF.lo
  exact⟨_,_,_,Yj K,rfl,⟨T.ie,_,_,_,T.Be,aB8 T,T.aD2⟩,by decide,λxs ys a Q ha hy hl q=>⟨_,n,a,xs,ys,rfl,T.ie,T.nu,by omega,dA (show a<n from ha) kK,λy h=>dA (show y<n from hy y h) kK,hl,q⟩⟩
abbrev aX9(cb cp:Addr):bA:=λds Q=>∃(m:Bool × Nat) (T:List (List Nat)) (l:List Nat) (j:Nat),ds=[fD cb cp m,.lst false (aE false T),.lst false (aq l),.int j]/\m∈aD/\T.length<=1000/\AllLt (aa m) l/\(∀r∈T,j<r.length/\r.length<=1000/\AllLt (aa m) r)/\Q (.lst true (aE true (T.map λr=>cZ (λx y=>bC m x (gm m (r.getD j 0) y)) r l)))
theorem Yl(T:Txt K mg t):aQ P w K mg base bf 2 t.Kt t.Ku ["field","rows","lead_row","place"] (bw (aX9 t.aS t.aW)):=by
 refine bH T.L5 aX4 ?_ ?_
 ·intro ds Q h
  obtain⟨m,G,l,j,rfl,hm,hG,hl,hr,q⟩:=h<;>rfl
 ·intro aI A outer s H E hr
  refine⟨_,(aF (aU (du [("lead_row",2),("field",0),("place",3)] ["row"] rfl (fS (bv 1)) (λ_ _ _ _=>(cC (i:=3) (show(["lead_row","field","place","row"]:List Str).Nodup by decide +kernel) rfl (ao (lr1 rfl)) (by decide) (aX (lr1 rfl)))) (λ_ _ _ _=>dw) (λ_ _ _ _=>(rY (P:=P) (w:=w) (K:=K) (mg:=mg) (base:=base) (n:=1) (bv 1) (hr.mono (by decide)) (af (bv 3) (af (bG (bv 3) (bv 2) (λ_ _=>rfl)) (af (bv 0) au))))) rfl ⟨rfl,⟨rfl,⟨rfl,trivial⟩⟩⟩ (λ_=>by repeat' (first | exact trivial | refine⟨.inl rfl,?_⟩ | refine⟨.inr (.inl rfl),?_⟩ | refine⟨.inr (.inr ⟨_,rfl⟩),?_⟩)) (λ_=>⟨⟨rfl,.inl rfl,.inl rfl,_,rfl,rfl⟩,⟨⟨rfl,.inl rfl,.inl rfl,_,rfl,rfl⟩,⟨⟨rfl,.inl rfl,.inl rfl,_,rfl,rfl⟩,trivial⟩⟩⟩) rfl (by decide +kernel)))),λds Q h=>?_⟩
  obtain⟨m,G,l,j,rfl,hm,hG,hl,hr,q⟩:=h
  nofun
  refine dX G (λr=>D.lst false (aq r)) (λr=>D.lst true (aq (cZ (λx y=>bC m x (gm m (r.getD j 0) y)) r l))) (by rw[dj];rfl) (λa b h=>nh a b h) (λr bg=>?_) (.inr λr _=>gJ _) (by rw[sL];omega) ?_
  ·obtain⟨h1,h2,h3⟩:=hr r bg
   obtain⟨C,ns,zs,sp,e1,e2,e3,e4⟩:=Yk (P:=P) (w:=w) (base:=base) T hm
   nofun
   refine⟨C,ns,zs,sp,e1,e2,e3,.int (r.getD j 0:Nat),by rw[i8 (by omega) (by omega),fO],e4 _ _ _ _ (h3.getD (by have:=(cE hm).lo;omega) j) hl h2 ⟨rfl,rfl⟩⟩
  ·rw[aE,bZ]at q
   exact q
abbrev Ym(t:gB)(P:Program)(w:World)(K:Frag)(mg:Str->Option Value)(base:Heap):rG:=λds Q Ex=>∃(m:Bool × Nat) (a b:Nat),ds=[fD t.aS t.aW m,.int a,.int b]/\m∈aD/\a<aa m/\b<aa m/\(b=0->Ex t.iK)/\(b≠0->∀r:Nat,r<aa m->gm m r b=a->Q (.int (r:Nat)))
theorem Yn(T:Txt K mg t):aQ P w K mg base (n9 P w) 2 t.DR t.Kv ["self","a","b"] (z8 (Ym t P w K mg base)):=by
 refine UP T.aT4 aQ7 ?_ ?_
 ·intro ds Q Ex h
  obtain⟨m,a,b,rfl,hm,ha,hb,qx,q⟩:=h<;>rfl
 ·intro aI A outer s H E hr
  refine⟨_,(aB (bV (bO (fV (dr hr)) (bv 2) (ae aw) (bL _)) (aF (UT T.X8 rfl (by rfl) (af (ae Uc) au))) cu)
   (aB (bV (bO (fV (dr hr)) (bv 1) (ae aw) (bL _)) (aF (aU aw)) cu)
   (aF (aU (rY (P:=P) (w:=w) (K:=K) (mg:=mg) (base:=base) (n:=1) (bv 0) (hr.mono (by decide)) (af (ae (aG gD (bG (j4 (K:=K) (bv 0)) (bv 1) (λ_ _=>rfl)) (bG (j4 (K:=K) (bv 0)) (bv 2) (λ_ _=>rfl)))) au)))))),λds Q Ex h=>?_⟩
  obtain⟨m,a,b,rfl,hm,ha,hb,qx,q⟩:=h
  refine aA λU hU=>?_
  nofun
  split
  ·rename_i h0
   exact⟨by decide,qx (by omega)⟩
  ·rename_i h0
   have b0:b≠0:=by omega
   refine hU _ ?_
   clear hU U
   refine aA λU hU=>?_
   nofun
   split
   ·rename_i h1
    have a0:a=0:=by omega
    subst a0
    exact q b0 0 ha (eT m b (bW m hm))
   ·rename_i h1
    have a0:a≠0:=by omega
    refine hU _ ?_
    clear hU U
    have hF:=cE hm
    obtain⟨r,e,u6,hr2⟩:=VO hm (show 1<=a by omega) ha (show 1<=b by omega) hb
    have qr:=q b0 r u6 hr2
    obtain⟨k,n⟩:=m
    cases k with
    | true =>
     nofun
     have ll:(eN (fl (true,n))).length=aa (true,n):=(Ai _ _).trans hF.len
     have n0:=jl (lg (true,n) a-lg (true,n) b) (show(aa (true,n):Int)-1≠0 by have:=hF.lo;omega)
     have n1:=jm (lg (true,n) a-lg (true,n) b) (show(0:Int)<(aa (true,n):Int)-1 by have:=hF.lo;omega)
     refine⟨_,_,_,Mo K,rfl,⟨T.gF,_,_,_,T.yy,Mp T,T.LZ⟩,by decide,_,_,_,_,rfl,T.gF,T.sI,rfl,_,m5 (by omega) (by rw[ll];omega),_,_,_,_,rfl,T.gF,T.sI,rfl,_,m5 (by omega) (by rw[ll];omega),?_⟩
     refine⟨_,_,_,_,aa (true,n),fl (true,n),r,rfl,T.gF,T.vb,T.yx,rfl,rfl,hF.lo,?_,qr⟩
     have hk:((lg (true,n) a-lg (true,n) b)%((aa (true,n):Int)-1)).toNat<(fl (true,n)).length:=by have:=hF.len;omega
     show(fl (true,n))[((lg (true,n) a-lg (true,n) b)%((aa (true,n):Int)-1)).toNat]?=some (r:Int)
     rw[<-e]
     unfold pw
     rw[aK,aJ hk];rfl
    | false =>
     nofun
     have ll:(eN (fl (false,n))).length=aa (false,n):=(Ai _ _).trans hF.len
     have n0:=jl (lg (false,n) a-lg (false,n) b) (show(aa (false,n):Int)-1≠0 by have:=hF.lo;omega)
     have n1:=jm (lg (false,n) a-lg (false,n) b) (show(0:Int)<(aa (false,n):Int)-1 by have:=hF.lo;omega)
     refine⟨_,_,_,Mo K,rfl,⟨T.ie,_,_,_,T.yB,Mp T,T.LZ⟩,by decide,_,_,_,_,rfl,T.ie,T.vd,rfl,_,m5 (by omega) (by rw[ll];omega),_,_,_,_,rfl,T.ie,T.vd,rfl,_,m5 (by omega) (by rw[ll];omega),?_⟩
     refine⟨_,_,_,_,aa (false,n),fl (false,n),r,rfl,T.ie,T.yA,T.yz,rfl,rfl,hF.lo,?_,qr⟩
     have hk:((lg (false,n) a-lg (false,n) b)%((aa (false,n):Int)-1)).toNat<(fl (false,n)).length:=by have:=hF.len;omega
     show(fl (false,n))[((lg (false,n) a-lg (false,n) b)%((aa (false,n):Int)-1)).toNat]?=some (r:Int)
     rw[<-e]
     unfold pw
     rw[aK,aJ hk];rfl
theorem Yo(T:Txt K mg t)(m:Bool × Nat):Dj P w K mg base 2 "over" (if m.1 then t.aS else t.aW) (Ym t P w K mg base):=by
 obtain⟨k,n⟩:=m
 cases k with
 | true=>exact⟨T.gF,_,_,_,T.A7,Yn T,T.Xs⟩
 | false=>exact⟨T.ie,_,_,_,T.Bg,Yn T,T.Xs⟩
abbrev aY0(t:gB)(P:Program)(w:World)(K:Frag)(mg:Str->Option Value)(base:Heap):bA:=λds Q=>∃(m:Bool × Nat) (G:List (List Nat)),ds=[fD t.aS t.aW m,.lst false (aE false G)]/\m∈aD/\G.length<=900/\RT (aa m) (ag G) G/\ag G<=900/\Q (.lst true (aE true (cG m G)))
theorem Yp(T:Txt K mg t):aQ P w K mg base bf 3 t.Kw t.Kx ["field","table"] (bw (aY0 t P w K mg base)):=by
 refine bH T.L6 sD ?_ ?_
 ·intro ds Q h
  obtain⟨m,G,rfl,hm,hG,hR,hw,q⟩:=h<;>rfl
 ·intro aI A outer s H E hr
  refine⟨_,(aB (aV (i:=2) sD.nd rfl (ao rfl) (eM dH))
   (aB (aV (i:=3) sD.nd rfl (ao rfl) (cN (bv 1)))
   (aB (gu eX rfl (kF rfl T.iL (af (ae (aT ((Bq T).mono (by decide)) hr rfl T.AO T.yw.kp T.AQ aP (af (bv 1) au))) au)) (cC (i:=4) sD.nd rfl (ao rfl))
    (oo 3 (aB (aV (i:=5) sD.nd rfl (ao rfl) (aT ((aR9 T).mono (by decide)) hr rfl T.d78 T.Xp.kp T.d79 aP (af (bv 3) (af (bv 4) au))))
    (aF (bV (bO HD (bv 5) (ae fC) (bL _)) (aB (aV (i:=6) sD.nd rfl (ao rfl) (rY (P:=P) (w:=w) (K:=K) (mg:=mg) (base:=base) (n:=1) (bv 0) (hr.mono (by decide)) (af (ae (VP (P:=P) (w:=w) (K:=K) (mg:=mg) (base:=base) (n:=2) (bv 0) (hr.mono (by decide)) (af (ae aw) (af (bG (bG (bv 3) (bv 5) (λ_ _=>rfl)) (bv 4) (λ_ _=>rfl)) au)))) (af (bG (bv 3) (bv 5) (λ_ _=>rfl)) au))))
     (aB (aV (i:=3) sD.nd rfl (ao rfl) (aT ((Yl T).mono (by decide)) hr rfl T.Xq T.L5.kp T.Xr aP (af (bv 0) (af (ae (aG cQ (ae (uT (bv 3) ug (uh (bv 5)))) (ae (uT (bv 3) (uh (ae (aG cQ (bv 5) (ae aw)))) ug)))) (af (bv 6) (af (bv 4) au))))))
     (aF (aV (i:=2) sD.nd rfl (ao rfl) (VV (aT ((Yl T).mono (by decide)) hr rfl T.Xq T.L5.kp T.Xr aP (af (bv 0) (af (bv 2) (af (bv 6) (af (bv 4) au))))) (eM (e5 (em 6) dH))))))) cu)))))
   (aF (aU (em 2)))))),λds Q h=>?_⟩
  obtain⟨m,G,rfl,hm,hG,hR,hw,q⟩:=h
  have dq:=(cE hm).lo
  refine aA λU hU=>?_
  nofun
  refine⟨by decide,hU _ ?_⟩
  clear hU U
  refine aA λU hU=>?_
  nofun
  refine hU _ ?_
  clear hU U
  refine aA λU hU=>?_
  nofun
  refine⟨G,rfl,by omega,λr bg=>?_,?_⟩
  ·rw[(hR r bg).1];omega
  refine⟨_,rfl,⟨by omega,by omega⟩,?_⟩
  refine HR (λk δ=>∃(o:Bool) (o1 o2 o3:Option D),δ=[some (fD t.aS t.aW m),some (D.lst false (aE false G)),some (D.lst true (aE true (jc m G k).1)),some (D.lst o (aE o (jc m G k).2)),o1,o2,o3]) ⟨false,none,none,none,rfl⟩ ?_ ?_
  ·rintro k δ hk ⟨o,o1,o2,o3,rfl⟩
   have I:=wD hm hR k
   rw[IE]
   generalize jc m G k=s at I ⊢
   simp only[gN,om,gj,gi,nR,nQ,tI,exists_eq_left',de,dj]
   clear hU
   have il:=I.l
   refine aA λU hU=>?_
   nofun
   refine⟨s.2,k,rfl,by omega,λr bg=>by rw[(I.b r bg).1];omega,?_⟩
   cases e:j7 s.2 k with
   | none =>
    rw[show iH m s k=s by unfold iH;rw[e]]at hU
    refine hU _ ?_
    nofun
    exact⟨false,_,_,_,⟨rfl,rfl⟩,rfl,rfl,rfl⟩
   | some i =>
    obtain⟨hi,h1,h2⟩:=Dt e
    have er:iH m s k=(gL m s.1 (eD m s.2 i k) k++[eD m s.2 i k],gL m (s.2.take i++s.2.drop (i+1)) (eD m s.2 i k) k):=by unfold iH;rw[e]
    rw[er]at hU
    refine hU _ ?_
    clear hU
    nofun
    obtain⟨C,ns,xs,sp,e1,e2,e3,e4⟩:=co5 (P:=P) (w:=w) (base:=base) T hm
    refine aA λU hU=>?_
    nofun
    obtain⟨lw,lr⟩:=I.b _ (cB hi)
    have bk:=lr.getD (show 0<aa m by omega) k
    refine⟨C,ns,xs,sp,e1,e2,e3,_,_,_,_,wB _ _ m,Yo T m,VQ m _ (by decide),.lst false (aq s.2[i]),sk false hi,?_⟩
    dsimp only
    refine⟨.int (s.2[i].getD k 0:Nat),by rw[i8 (by omega) (by omega),fO],m,1,s.2[i].getD k 0,by rw[wB];rfl,hm,dq,bk,λz=>absurd z h1,λ_ f hf hfo=>⟨rfl,.lst false (aq s.2[i]),sk false hi,?_⟩⟩
    have ef:nt m (s.2[i].getD k 0)=f:=Ds hm hf hfo
    rw[iG]
    refine e4 _ _ _ hf lr (by omega) ⟨by rw[gJ,gy],hU _ ?_⟩
    have el:s.2[i].map (gm m f)=eD m s.2 i k:=by unfold eD;rw[h2,ef]
    rw[el]
    have ll:(eD m s.2 i k).length=ag G:=by rw[<-el,br];exact lw
    have la:AllLt (aa m) (eD m s.2 i k):=λx hx=>by
     rw[<-el]at hx
     obtain⟨y,_,rfl⟩:=bE.mp hx
     exact cg hm _ _
    generalize eD m s.2 i k=ld at ll la ⊢
    clear hU
    refine aA λU hU=>?_
    nofun
    have Mv:∀r∈s.2.take i++s.2.drop (i+1),r.length=ag G/\AllLt (aa m) r:=λr bg=>by
     rcases bY.mp bg with h | h
     ·exact I.b r (qg h)
     ·exact I.b r (qf h)
    have vg:∀X:List (List Nat),(D.lst true (aE true X)).fr=true:=λX=>by rw[eR,pk];rfl
    rw[UZ,show((i:Int)+1)=((i+1:Nat):Int) by omega,CP,sj,dj]
    refine⟨by rw[ig,jk];omega,m,_,ld,k,rfl,hm,by rw[dS,ig,jk];omega,la,λr bg=>⟨by rw[(Mv r bg).1];exact hk,by rw[(Mv r bg).1];omega,(Mv r bg).2⟩,vg _,hU _ ?_⟩
    clear hU
    nofun
    refine⟨m,s.1,ld,k,rfl,hm,by omega,la,λr bg=>⟨by rw[(I.a r bg).1];exact hk,by rw[(I.a r bg).1];omega,(I.a r bg).2⟩,vg _,by decide,_,_,rfl,rfl,?_,true,_,_,_,sj true _ [ld],⟨rfl,rfl⟩,rfl,rfl,rfl⟩
    rw[i9,br]
    show s.1.length+1<=_
    omega
  ·rintro δ ⟨o,o1,o2,o3,rfl⟩
   refine hU _ ?_
   nofun
   exact q
abbrev aY4(t:gB)(P:Program)(w:World)(K:Frag)(mg:Str->Option Value)(base:Heap):bA:=λds Q=>∃(m:Bool × Nat) (G:List (List Nat)),ds=[fD t.aS t.aW m,.lst false (aE false G)]/\m∈aD/\G.length<=900/\RT (aa m) (ag G) G/\ag G<=900/\(∀r∈cG m G,∃x∈r,x≠0)/\Q (.lst true (aE true (jG m (cG m G) (ag G))))
theorem aY5(T:Txt K mg t):aQ P w K mg base bf 4 t.Ky t.Kz ["field","table"] (bw (aY4 t P w K mg base)):=by
 refine bH T.Xv aY1 ?_ ?_
 ·intro ds Q h
  obtain⟨m,G,rfl,hm,hG,hR,hw,hn,q⟩:=h<;>rfl
 ·intro aI A outer s H E hr
  refine⟨_,(aF (aU (aT ((aE3 T).mono (by decide)) hr rfl T.d76 T.Xo.kp T.d77 aP (af (bv 0) (af (ae (aT ((Yp T).mono (by decide)) hr rfl T.Xt T.L6.kp T.Xu aP (af (bv 0) (af (bv 1) au)))) (af (ae (aT ((Bq T).mono (by decide)) hr rfl T.AO T.yw.kp T.AQ aP (af (bv 1) au))) au)))))),λds Q h=>?_⟩
  obtain⟨m,G,rfl,hm,hG,hR,hw,hn,q⟩:=h
  nofun
  refine⟨m,G,rfl,hm,hG,hR,hw,?_⟩
  have I:=wD hm hR (ag G)
  refine⟨G,rfl,by omega,λr bg=>by rw[(hR r bg).1];omega,m,cG m G,ag G,by rw[de,dj,jD],hm,?_,by omega,I.a,hn,?_,q⟩
  ·show(jc m G (ag G)).1.length<=1000
   have:=I.l
   omega
  ·rw[show ∀X:List (List Nat),(D.lst true (aE true X)).fr=true from λX=>by rw[eR,pk];rfl,gy]
abbrev aU3:bA:=λds Q=>∃(m:Bool × Nat) (a b:Nat),ds=[dy m,.int a,.int b]/\0<m.2/\Q (.int (gp m a b:Nat))
theorem Yq(T:Txt K mg t):aQ P w K mg base bf 1 t.KA t.KC ["_law_told_here","_law_a","_law_b"] (bw (aU3 )):=by
 refine bH T.L7 aS5 ?_ ?_
 ·intro ds Q h
  obtain⟨m,a,b,rfl,h0,q⟩:=h<;>rfl
 ·intro aI A outer s H E hr
  refine⟨_,(aB (bV (gr (bG (bv 0) (ae aw) (λ_ _=>rfl))) (aF (aU (aG z4 (bv 1) (bv 2)))) cu)
   (aF (aU (aG dh (ae (aG cQ (bv 1) (bv 2))) (bG (bv 0) (ae aw) (λ_ _=>rfl)))))),λds Q h=>?_⟩
  obtain⟨m,a,b,rfl,h0,q⟩:=h
  unfold dy at *
  obtain⟨k,n⟩:=m
  refine aA λU hU=>?_
  nofun
  cases k with
  | true =>
   refine⟨_,rfl,true,rfl,?_⟩
   rw[if_pos rfl,nY]
   exact q
  | false =>
   refine⟨_,rfl,false,rfl,?_⟩
   rw[if_neg (by decide)]
   refine hU _ ?_
   nofun
   refine⟨_,rfl,?_⟩
   refine⟨by omega,?_⟩
   have e:((gp (false,n) a b:Nat):Int)=((a:Int)+b)%n:=by
    show(((a+b)%n:Nat):Int)=_
    rw[qi,FV]
   rw[<-e];exact q
abbrev aS0:bA:=λds Q=>∃(m:Bool × Nat) (a b:Nat),ds=[dy m,.int a,.int b]/\m∈aD/\a<aa m/\b<aa m/\Q (.int (gm m a b:Nat))
theorem Mw(T:Txt K mg t):aQ P w K mg base bf 1 t.KD t.KG ["_law_told_here","_law_a","_law_b"] (bw (aS0 )):=by
 refine bH T.DT xH ?_ ?_
 ·intro ds Q h
  obtain⟨m,a,b,rfl,hm,ha,hb,q⟩:=h<;>rfl
 ·intro aI A outer s H E hr
  refine⟨_,(aB (bV (mR (gr (bG (bv 0) (ae aw) (λ_ _=>rfl)))) (aF (aU (aG dh (ae (aG iB (bv 1) (bv 2))) (bG (bv 0) (ae aw) (λ_ _=>rfl))))) cu)
   (aB (aV (i:=3) xH.nd rfl (ao rfl) aw)
   (aB (zV eX (bO HC (bv 2) (ae aw) (bL _))
    (aB (bV (bO (fV (dr hr)) (ae (aG Us (bv 2) (ae aw))) (ae aw) (bL _)) (aF (aV (i:=3) xH.nd rfl (ao rfl) (aG z4 (bv 3) (bv 1)))) cu)
    (aB (aV (i:=1) xH.nd rfl (ao rfl) (aG vZ (bv 1) (ae aw)))
    (aB (bV (bO (fV (dr hr)) (ae (oM (bv 1))) (ae (oM (bG (bv 0) (ae aw) (λ_ _=>rfl)))) (bL _)) (aF (aV (i:=1) xH.nd rfl (ao rfl) (aG z4 (bv 1) (bG (bv 0) (ae aw) (λ_ _=>rfl))))) cu)
    (aF (aV (i:=2) xH.nd rfl (ao rfl) (aG Ur (bv 2) (ae aw))))))))
   (aF (aU (em 3)))))),λds Q h=>?_⟩
  obtain⟨m,a,b,rfl,hm,ha,hb,q⟩:=h
  unfold dy at *
  obtain⟨k,n⟩:=m
  refine aA λU hU=>?_
  nofun
  have hF:=cE hm
  cases k with
  | false =>
   refine⟨_,rfl,false,rfl,?_⟩
   have kK:n<=64:=hF.hi
   have l2:2<=n:=hF.lo
   have CM:a<n:=ha
   have Af:b<n:=hb
   rw[if_pos (by decide)]
   refine⟨js.ok (.inr ⟨by omega,by omega⟩),_,rfl,by omega,?_⟩
   have e:((gm (false,n) a b:Nat):Int)=(a:Int)*b%n:=by
    show((a*b%n:Nat):Int)=_
    rw[qi,vw]
   rw[<-e];exact q
  | true =>
   refine⟨_,rfl,true,rfl,?_⟩
   rw[if_neg (by decide)]
   have hp:=wA hm
   have bp:=VC n hp
   have Ea:=VD n hp
   have p0:n≠0:=λz=>by rw[z,nX]at Ea;omega
   have HA:bl a<bl n:=by
    have:=eY.mpr (show a<2 ^ (bl n-1) from ha)
    omega
   have hy0:bl b<bl n:=by
    have:=eY.mpr (show b<2 ^ (bl n-1) from hb)
    omega
   refine hU _ ?_
   clear hU U
   refine aA λU hU=>?_
   nofun
   refine hU _ ?_
   clear hU U
   refine aA λU hU=>?_
   nofun
   refine⟨λm δ=>∃(x y z:Nat),δ=[some (.tup [.bl true,.int n]),some (.int (x:Nat)),some (.int (y:Nat)),some (.int (z:Nat))]/\z ^^^ md (cl x y) n=gm (true,n) a b/\bl x<bl n/\bl y<bl n/\m=bl y,
    ⟨bl b,a,b,0,rfl,by rw[p9];rfl,HA,hy0,rfl⟩,?_⟩
   rintro m δ ⟨x,y,z,rfl,inv,hx,hy,rfl⟩
   nofun
   split
   ·rename_i Br
    have Yb:=ir (show y≠0 by omega)
    have yE:bl (y/2)=bl y-1:=cE7 y
    have e1:((x:Int)*2 ^ (1:Int).toNat)=((2*x:Nat):Int):=by
     show(x:Int)*(2:Int) ^ 1=_
     omega
    have e2:((y:Int)/2 ^ (1:Int).toNat)=((y/2:Nat):Int):=by
     show(y:Int)/(2:Int) ^ 1=_
     omega
    have a1:pZ (y:Int) 1=((y%2:Nat):Int):=by
     rw[show(1:Int)=((1:Nat):Int) from rfl,TF,Nat.and_one_is_mod]
    have tm:=cz1 (y:=y) p0 hx
    have tb:=cF7 p0 hx
    clear hU
    refine aA λU hU=>?_
    nofun
    have fin:∀z':Nat,z'=z ^^^ (if y%2=1 then x else 0)->U [some (.tup [.bl true,.int n]),some (.int x),some (.int y),some (.int z')]:=by
     intro z' hz
     have ej8:z' ^^^ md (cl (if bl (2*x)=bl n then 2*x ^^^ n else 2*x) (y/2)) n=gm (true,n) a b:=by
      rw[hz,s9,<- tm];exact inv
     refine hU _ ?_
     clear hU
     refine aA λU hU=>?_
     nofun
     refine⟨⟨by decide,by simp only[jn];omega⟩,hU _ ?_⟩
     clear hU
     rw[e1]
     refine aA λU hU=>?_
     nofun
     have last:∀x':Nat,x'=(if bl (2*x)=bl n then 2*x ^^^ n else 2*x)->U [some (.tup [.bl true,.int n]),some (.int (x':Nat)),some (.int y),some (.int z')]:=by
      intro x' dZ
      refine hU _ ?_
      nofun
      exact⟨by decide,bl (y/2),by omega,x',y/2,z',⟨rfl,e2,rfl⟩,by rw[dZ];exact ej8,by rw[dZ];exact tb,by omega,rfl⟩
     refine⟨_,rfl,?_⟩
     show(if(((bl (((2*x:Nat):Int)).natAbs:Nat):Int)=((bl ((n:Int)).natAbs:Nat):Int))then _ else _)
     rw[jn,jn]
     split
     ·rename_i hc
      refine⟨_,rfl,?_⟩
      have g:=last (2*x ^^^ n) (by rw[if_pos (by omega)])
      rw[<-nY]at g
      exact g
     ·rename_i hc
      exact last (2*x) (by rw[if_neg (by omega)])
    rw[a1]
    split
    ·rename_i D9
     have odd:y%2=1:=by omega
     have g:=fin (z ^^^ x) (by rw[if_pos odd])
     rw[<-nY]at g
     exact g
    ·rename_i D9
     exact fin z (by rw[if_neg (by omega),mq])
   ·rename_i Br
    have hy:y=0:=by omega
    subst hy
    rw[cF2,Am (by rw[nX];exact ir p0),mq]at inv
    subst inv
    refine hU _ ?_
    nofun
    exact q
abbrev aW8:bA:=λds Q=>∃(m:Bool × Nat) (xs ys:List Nat),ds=[dy m,.lst false (aq xs),.lst false (aq ys)]/\m∈aD/\xs.length=ys.length/\xs.length<=64/\(∀x∈xs,x<aa m)/\(∀y∈ys,y<aa m)/\Q (.int (gd m xs ys:Nat))
theorem Mx(T:Txt K mg t):aQ P w K mg base bf 2 t.KH t.KI ["_law_told_here","_law_xs","_law_ys"] (bw (aW8 )):=by
 refine bH T.DU at2 ?_ ?_
 ·intro ds Q h
  obtain⟨m,xs,ys,rfl,hm,hl,kL,hx,hy,q⟩:=h<;>rfl
 ·intro aI A outer s H E hr
  refine⟨_,(aB (aV (i:=3) at2.nd rfl (ao rfl) aw)
   (aB (gu eX rfl (lU rfl T.mm (af (bv 1) (af (bv 2) au))) (gv (i1:=4) (i2:=5) rfl at2.nd rfl (ao rfl) rfl (ao rfl))
    (aF (aV (i:=3) at2.nd rfl (ao rfl) (aT ((Yq T).mono (by decide)) hr rfl T.Xw T.L7.kp T.Xx aP (af (bv 0) (af (bv 3) (af (ae (aT ((Mw T).mono (by decide)) hr rfl T.L8 T.DT.kp T.L9 aP (af (bv 0) (af (bv 4) (af (bv 5) au))))) au)))))))
   (aF (aU (em 3))))),λds Q h=>?_⟩
  obtain⟨m,xs,ys,rfl,hm,hl,kL,hx,hy,q⟩:=h
  refine aA λU hU=>?_
  nofun
  refine hU _ ?_
  clear hU U
  refine aA λU hU=>?_
  nofun
  refine⟨_,_,rfl,rfl,?_⟩
  refine fE.mk (λi δ=>∃o1 o2,δ=[some (dy m),some (.lst false (aq xs)),some (.lst false (aq ys)),some (.int (((cZ (gm m) xs ys).take i).foldl (gp m) 0:Nat)),o1,o2]) ⟨none,none,rfl⟩ ?_ ?_
  ·rintro i d δ hd ⟨o1,o2,rfl⟩
   obtain⟨hi,hj,rfl⟩:∃(hi:i<xs.length) (hj:i<ys.length),d=.tup [.int (xs[i]:Nat),.int (ys[i]:Nat)]:=by
    unfold di at hd
    rw[cw,cw,tF]at hd
    by_cases hi:i<xs.length
    ·have hj:i<ys.length:=by omega
     rw[mx,aJ hi,aJ hj]at hd
     exact⟨hi,hj,(cT hd).symm⟩
    ·rw[gU (by simp;omega)]at hd;cases hd
   have e7:=hx xs[i] (cB _)
   have Br:=hy ys[i] (cB _)
   nofun
   have hF:=cE hm
   have t1:(dy m).sh=dy m:=rfl
   have t2:(dy m).pl=true:=rfl
   have m0:0<m.2:=bW m hm
   refine⟨m,xs[i],ys[i],rfl,hm,e7,Br,m,_,gm m xs[i] ys[i],rfl,m0,by simp[D.pl],_,_,?_,rfl,rfl⟩
   rw[List.take_succ,y6,mx,aJ hi,aJ hj];rfl
  ·rintro δ ⟨o1,o2,rfl⟩
   refine hU _ ?_
   nofun
   have e:(di (aq xs) (aq ys)).length=xs.length:=by unfold di;rw[ik,eo,eo];omega
   rw[e,tw (by rw[ik];omega)]
   exact q
abbrev aP5:bA:=λds Q=>∃(m:Bool × Nat) (xs:List Nat) (T:List (List Nat)) (w:Nat),ds=[dy m,.lst false (aq xs),.lst false (aE false T),.int w]/\m∈aD/\AllLt (aa m) xs/\xs.length<=64/\T.length=xs.length/\w<=1000/\RT (aa m) w T/\Q (.lst true (aq (pG m xs T w)))
theorem Yr(T:Txt K mg t):aQ P w K mg base bf 3 t.KJ t.KL ["_law_told_here","_law_xs","_law_table_here","_law_wide"] (bw (aP5 )):=by
 refine bH T.Mc aO6 ?_ ?_
 ·intro ds Q h
  obtain⟨m,xs,G,wi,rfl,hm,hx,ue,hG,hw,hR,q⟩:=h<;>rfl
 ·intro aI A outer s H E hr
  refine⟨_,(aF (aU (du [("_law_told_here",0),("_law_xs",1),("_law_table_here",2)] ["_law_k"] rfl (kF rfl T.iL (af (bv 3) au)) (λ_ _ _ _=>(cC (i:=3) (show(["_law_told_here","_law_xs","_law_table_here","_law_k"]:List Str).Nodup by decide +kernel) rfl (aX rfl) (by decide) (ao rfl))) (λ_ _ _ _=>dw) (by exact λ_ _ _ _=>(aT ((Mx T).mono (by decide)) hr rfl T.Ma T.DU.kp T.Mb aP (af (bv 0) (af (bv 1) (af (ae (du [("_law_k",3)] ["_law_row"] rfl (fS (bv 2)) (λ_ _ _ _=>(cC (i:=1) (show(["_law_k","_law_row"]:List Str).Nodup by decide +kernel) rfl (ao (lr1 rfl)) (by decide) (aX (lr1 rfl)))) (λ_ _ _ _=>dw) (λ_ _ _ _=>(cN (bG (bv 1) (bv 0) (λ_ _=>rfl)))) rfl ⟨rfl,trivial⟩ (λ_=>by repeat' (first | exact trivial | refine⟨.inl rfl,?_⟩ | refine⟨.inr (.inl rfl),?_⟩ | refine⟨.inr (.inr ⟨_,rfl⟩),?_⟩)) (λ_=>⟨⟨rfl,.inl rfl,.inl rfl,_,rfl,rfl⟩,trivial⟩) rfl (by decide +kernel))) au))))) rfl ⟨rfl,⟨rfl,⟨rfl,trivial⟩⟩⟩ (λ_=>by repeat' (first | exact trivial | refine⟨.inl rfl,?_⟩ | refine⟨.inr (.inl rfl),?_⟩ | refine⟨.inr (.inr ⟨_,rfl⟩),?_⟩)) (λ_=>⟨⟨rfl,.inl rfl,.inl rfl,_,rfl,rfl⟩,⟨⟨rfl,.inl rfl,.inl rfl,_,rfl,rfl⟩,⟨⟨rfl,.inl rfl,.inl rfl,_,rfl,rfl⟩,trivial⟩⟩⟩) rfl (by decide +kernel)))),λds Q h=>?_⟩
  obtain⟨m,xs,G,wi,rfl,hm,hx,ue,hG,hw,hR,q⟩:=h
  nofun
  refine⟨⟨by omega,by omega⟩,dX (aZ wi) (λ(i:Nat)=>D.int (i:Int)) (λk=>D.int ((gd m xs (G.map λr=>r.getD k 0):Nat):Int)) (se _ rfl) g8 (λk hk=>?_) (.inr λ_ _=>rfl) (by rw[dB,sL];omega) ?_⟩
  ·have hk:=cS.mp hk
   nofun
   refine dX G (λr=>D.lst false (aq r)) (λr=>D.int ((r.getD k 0:Nat):Int)) (by rw[dj];rfl) (λa b h=>nh a b h) (λr bg=>?_) (.inr λr _=>rfl) (by rw[sL];omega) ?_
   ·nofun
    have hl:=(hR r bg).1
    exact⟨.int (r.getD k 0:Nat),by rw[i8 (by omega) (by omega),fO],rfl,rfl⟩
   ·refine⟨m,xs,G.map λr=>r.getD k 0,?_,hm,by rw[br,hG],ue,hx,λy hy=>?_,?_⟩
    ·rw[cw (G.map _),bZ,de,bZ];rfl
    ·obtain⟨r,bg,rfl⟩:=bE.mp hy
     exact(hR r bg).2.getD (by have:=(cE hm).lo;omega) k
    ·exact⟨by rw[rB,gy],rfl⟩
  ·unfold pG at q
   rw[cw,bZ]at q
   exact q
abbrev aU4:bA:=λds Q=>∃T:List (List Nat),ds=[.lst false (aE false T)]/\T.length<=1000/\Q (.lst true (aE true T))
theorem Eb(T:Txt K mg t):aQ P w K mg base bf 1 t.KN t.KO ["_law_table_here"] (bw (aU4 )):=by
 refine bH T.AR aS6 ?_ ?_
 ·intro ds Q h
  obtain⟨G,rfl,hG,q⟩:=h<;>rfl
 ·intro aI A outer s H E hr
  refine⟨_,(aF (aU (du [] ["_law_row"] rfl (fS (bv 0)) (λ_ _ _ _=>(cC (i:=0) (show(["_law_row"]:List Str).Nodup by decide +kernel) rfl (ao (lr1 rfl)) (by decide) (aX (lr1 rfl)))) (λ_ _ _ _=>dw) (λ_ _ _ _=>(CH (CI) (by rfl) T.sM qy (af (bv 0) au))) rfl trivial (λ_=>by repeat' (first | exact trivial | refine⟨.inl rfl,?_⟩ | refine⟨.inr (.inl rfl),?_⟩ | refine⟨.inr (.inr ⟨_,rfl⟩),?_⟩)) (λ_=>trivial) rfl (by decide +kernel)))),λds Q h=>?_⟩
  obtain⟨G,rfl,hG,q⟩:=h
  nofun
  refine dX G (λr=>D.lst false (aq r)) (λr=>D.lst true (aq r)) (by rw[dj];rfl) (λa b h=>nh a b h) (λr bg=>?_) (.inr λr _=>gJ r) (by rw[sL];omega) q
  nofun
abbrev aS1:bA:=λds Q=>∃i:Int,ds=[.int i]/\Q (.bl true)
theorem aS2(T:Txt K mg t):aQ P w K mg base bf 1 t.KP t.KQ ["_law_x"] (bw (aS1 )):=by
 refine bH T.XA aQ8 ?_ ?_
 ·intro ds Q h
  obtain⟨i,rfl,q⟩:=h<;>rfl
 ·intro aI A outer s H E hr
  refine⟨_,(aF (aU (zS (ae (wc (by rfl) T.yC (by rfl) T.ee1 cK0 (bv 0))) (zi (cT1 (ae (wc (by rfl) T.yC (by rfl) T.ee0 cB6 (bv 0)))))))),λds Q h=>?_⟩
  obtain⟨i,rfl,q⟩:=h
  nofun
  exact q
abbrev aM7:bA:=λds Q=>∃(l:List Nat) (w n:Nat),ds=[.lst false (aq l),.int w,.int n]/\l.length=w/\w<=1000/\AllLt n l/\Q (.bl true)
theorem Mz(T:Txt K mg t):aQ P w K mg base bf 2 t.KR t.KS ["_law_row","_law_wide","_law_many_here"] (bw (aM7 )):=by
 refine bH T.DX aL7 ?_ ?_
 ·intro ds Q h
  obtain⟨l,w,n,rfl,hl,hw,ha,q⟩:=h<;>rfl
 ·intro aI A outer s H E hr
  refine⟨_,(aB (bV (PW.pt (ua (mR (gr (ae (wc (by rfl) T.yC (by rfl) T.sM qy (bv 0))))) (tO (bO (jX (dr hr)) (ae (dQ (fW) (by rfl) T.fY fQ (af (bv 0) au))) (bv 1) (bL _))))) (aF (aU kE)) cu)
   (aF (aU (dQ (CJ rfl) (by rfl) T.D6 Cn (af (ae (du [("_law_many_here",2)] ["_law_x"] rfl (fS (bv 0)) (λ_ _ _ _=>(cC (i:=1) (show(["_law_many_here","_law_x"]:List Str).Nodup by decide +kernel) rfl (ao (lr1 rfl)) (by decide) (aX (lr1 rfl)))) (λ_ _ _ _=>dw) (λ_ _ _ _=>(zS (ae (aT ((aS2 T).mono (by decide)) hr rfl T.aT5 T.XA.kp T.aT6 aP (af (bv 1) au))) (zi (HH z5 v3 (ae aw) (bv 1) (bv 0))))) rfl ⟨rfl,trivial⟩ (λ_=>by repeat' (first | exact trivial | refine⟨.inl rfl,?_⟩ | refine⟨.inr (.inl rfl),?_⟩ | refine⟨.inr (.inr ⟨_,rfl⟩),?_⟩)) (λ_=>⟨⟨rfl,.inl rfl,.inl rfl,_,rfl,rfl⟩,trivial⟩) rfl (by decide +kernel))) au))))),λds Q h=>?_⟩
  obtain⟨l,w,n,rfl,hl,hw,ha,q⟩:=h
  refine aA λU hU=>?_
  nofun
  rw[if_neg (by rw[hl];simp)]
  refine hU _ ?_
  clear hU U
  nofun
  refine dX l (λ(i:Nat)=>D.int (i:Int)) (λ_=>D.bl true) (m6 l) g8 (λi hi=>?_) (.inr λ_ _=>rfl) (by rw[sL];omega) ?_
  ·nofun
   have:=ha i hi
   refine⟨i,rfl,true,rfl,?_⟩
   rw[if_pos rfl,if_pos (by omega)]
   omega
  ·refine⟨l.map λ_=>true,by unfold wb;rw[bZ];rfl,?_⟩
   have e:(l.map λ_=>true).all id=true:=by simp
   rw[e];exact q
abbrev aI9:bA:=λds Q=>∃(T:List (List Nat)) (r w n:Nat),ds=[.lst false (aE false T),.int r,.int w,.int n]/\T.length=r/\r<=1000/\w<=1000/\RT n w T/\Q (.bl true)
theorem aJ0(T:Txt K mg t):aQ P w K mg base bf 3 t.KU t.KW ["_law_table_here","_law_rows","_law_wide","_law_many_here"] (bw (aI9 )):=by
 refine bH T.XB aG9 ?_ ?_
 ·intro ds Q h
  obtain⟨G,r,w,n,rfl,hG,hr,hw,hR,q⟩:=h<;>rfl
 ·intro aI A outer s H E hr
  refine⟨_,(aB (bV (PW.pt (ua (mR (gr (ae (wc (by rfl) T.yC (by rfl) T.sM qy (bv 0))))) (tO (bO (jX (dr hr)) (ae (dQ (fW) (by rfl) T.fY fQ (af (bv 0) au))) (bv 1) (bL _))))) (aF (aU kE)) cu)
   (aF (aU (dQ (CJ rfl) (by rfl) T.D6 Cn (af (ae (du [("_law_wide",2),("_law_many_here",3)] ["_law_row"] rfl (fS (bv 0)) (λ_ _ _ _=>(cC (i:=2) (show(["_law_wide","_law_many_here","_law_row"]:List Str).Nodup by decide +kernel) rfl (ao (lr1 rfl)) (by decide) (aX (lr1 rfl)))) (λ_ _ _ _=>dw) (λ_ _ _ _=>(aT ((Mz T).mono (by decide)) hr rfl T.Md T.DX.kp T.Me aP (af (bv 2) (af (bv 0) (af (bv 1) au))))) rfl ⟨rfl,⟨rfl,trivial⟩⟩ (λ_=>by repeat' (first | exact trivial | refine⟨.inl rfl,?_⟩ | refine⟨.inr (.inl rfl),?_⟩ | refine⟨.inr (.inr ⟨_,rfl⟩),?_⟩)) (λ_=>⟨⟨rfl,.inl rfl,.inl rfl,_,rfl,rfl⟩,⟨⟨rfl,.inl rfl,.inl rfl,_,rfl,rfl⟩,trivial⟩⟩) rfl (by decide +kernel))) au))))),λds Q h=>?_⟩
  obtain⟨G,r,w,n,rfl,hG,hr,hw,hR,q⟩:=h
  refine aA λU hU=>?_
  nofun
  rw[if_neg (by rw[hG];simp)]
  refine hU _ ?_
  clear hU U
  nofun
  refine dX G (λr=>D.lst false (aq r)) (λ_=>D.bl true) (by rw[dj];rfl) (λa b h=>nh a b h) (λl qo=>?_) (.inr λ_ _=>rfl) (by rw[sL];omega) ?_
  ·nofun
   exact⟨l,w,n,rfl,(hR l qo).1,hw,(hR l qo).2,rfl⟩
  ·refine⟨G.map λ_=>true,by unfold wb;rw[bZ];rfl,?_⟩
   have e:(G.map λ_=>true).all id=true:=by simp
   rw[e];exact q
def eP(ns:List Int)(k:Int):Int:=if k<ns.length then ns.getD k.toNat 0 else(k*k*48271+ns.length*7919)%65537
abbrev aU5:bA:=λds Q=>∃(ns:List Int) (k:Int),ds=[.fz (aL ns),.int k]/\0<=k/\k<=1000000/\Q (.int (eP ns k))
theorem ke(T:Txt K mg t):aQ P w K mg base bf 1 t.KY t.KZ ["_law_script","_law_k"] (bw (aU5 )):=by
 refine bH T.jJ aS7 ?_ ?_
 ·intro ds Q h
  obtain⟨ns,k,rfl,hk,hk2,q⟩:=h<;>rfl
 ·intro aI A outer s H E hr
  refine⟨_,(aB (bV (bO v3 (bv 1) (ae (dQ (fW) (by rfl) T.fY fQ (af (bv 0) au))) (bL _)) (aF (aU (cN (bG (bv 0) (bv 1) (λ_ _=>rfl))))) cu)
   (aF (aU (aG dh (ae (aG cQ (ae (aG iB (ae (aG iB (bv 1) (bv 1))) (ae aw))) (ae (aG iB (ae (dQ (fW) (by rfl) T.fY fQ (af (bv 0) au))) (ae aw))))) (ae aw))))),λds Q h=>?_⟩
  obtain⟨ns,k,rfl,hk,hk2,q⟩:=h
  unfold eP at q
  refine aA λU hU=>?_
  nofun
  split
  ·rename_i h
   rw[if_pos h]at q
   exact⟨_,m5 hk h,rfl,q⟩
  ·rename_i h
   rw[if_neg h]at q
   refine hU _ ?_
   nofun
   exact⟨js.ok (.inl ⟨by omega,by omega⟩),js.ok (.inr ⟨by decide,by decide⟩),js.ok (.inr ⟨by decide,by decide⟩),by decide,q⟩
abbrev aU6:bA:=λds Q=>∃m:Bool × Nat,ds=[dy m]/\bl m.2<=1000/\1<=bl m.2/\Q (.int (aa m:Nat))
theorem sP(T:Txt K mg t):aQ P w K mg base bf 1 t.K0 t.K1 ["_law_told_here"] (bw (aU6 )):=by
 refine bH T.pS aS8 ?_ ?_
 ·intro ds Q h
  obtain⟨m,rfl,h1,h2,q⟩:=h<;>rfl
 ·intro aI A outer s H E hr
  refine⟨_,(aB (bV (gr (bG (bv 0) (ae aw) (λ_ _=>rfl))) (aF (aU (aG vZ (ae aw) (ae (aG gD (ae (oM (bG (bv 0) (ae aw) (λ_ _=>rfl)))) (ae aw)))))) cu)
   (aF (aU (cN (bG (bv 0) (ae aw) (λ_ _=>rfl)))))),λds Q h=>?_⟩
  obtain⟨m,rfl,h1,h2,q⟩:=h
  unfold dy at *
  refine aA λU hU=>?_
  nofun
  obtain⟨b,n⟩:=m
  cases b with
  | true =>
   refine⟨_,rfl,true,rfl,?_⟩
   rw[if_pos rfl]
   refine⟨_,rfl,?_⟩
   have o1:bl (1:Int).natAbs=1:=by decide
   have e:(1:Int)*2 ^ (((bl ((n:Int)).natAbs:Nat):Int)-1).toNat=((aa (true,n):Nat):Int):=by
    have jQ:1<=bl n:=h2
    rw[jn,show(((bl n:Nat):Int)-1)=((bl n-1:Nat):Int) by omega,show(1:Int)=((1:Nat):Int) from rfl,vR,Gg];rfl
   refine⟨?_,by rw[e];exact q⟩
   rw[jn]
   have kB:bl n<=1000:=h1
   have jQ:1<=bl n:=h2
   exact⟨by omega,by omega⟩
  | false =>
   refine⟨_,rfl,false,rfl,?_⟩
   rw[if_neg (by decide)]
   refine hU _ ?_
   nofun
   exact⟨_,rfl,rfl,q⟩
abbrev aU7(t:gB)(P:Program)(w:World)(K:Frag)(mg:Str->Option Value)(base:Heap):bA:=λds Q=>∃(m:Bool × Nat) (ns:List Int) (T:List (List Nat)),ds=[dy m,.fz (aL ns),fD t.aS t.aW m,.lst false (aE false T)]/\m∈aD/\0<T.length/\T.length<=64/\0<ag T/\ag T<=64/\RT (aa m) (ag T) T/\∀s:List Nat,s.length=ag T->AllLt (aa m) s->(∀r∈T,gd m r s=0)->Q (.lst true (aq s))
theorem aU8(T:Txt K mg t):aQ P w K mg base bf 5 t.K2 t.K3 ["_law_told_here","_law_script","_law_field_here","_law_table_here"] (bw (aU7 t P w K mg base)):=by
 refine bH T.XC AJ ?_ ?_
 ·intro ds Q h
  obtain⟨m,ns,T,rfl,hm,vh,kM,jK,hw,hT,q⟩:=h<;>rfl
 ·intro aI A outer s H E hr
  refine⟨_,(aB (aV (i:=4) AJ.nd rfl (ao rfl) (dQ (fW) (by rfl) T.fY fQ (af (bG (bv 3) (ae aw) (λ_ _=>rfl)) au)))
   (aB (aV (i:=5) AJ.nd rfl (ao rfl) (aT ((aY5 T).mono (by decide)) hr rfl T.d89 T.Xv.kp T.d90 aP (af (bv 2) (af (ae (aT ((Eb T).mono (by decide)) hr rfl T.DV T.AR.kp T.DW aP (af (bv 3) au))) au))))
   (aB (bV (PW.pt (ua (mR (gr (ae (wc (by rfl) T.yC (by rfl) T.sM qy (bv 5))))) (tO (mR (gr (ae (aT ((aJ0 T).mono (by decide)) hr rfl T.aK3 T.XB.kp T.aK4 aP (af (bv 5) (af (ae (dQ (fW) (by rfl) T.fY fQ (af (bv 5) au))) (af (bv 4) (af (ae (aT ((sP T).mono (by decide)) hr rfl T.sG T.pS.kp T.sH aP (af (bv 0) au))) au))))))))))) (aF (aU fC)) cu)
   (aB (wF (i:=6) AJ.nd rfl (ao rfl) [("_law_script",1),("_law_told_here",0)] ["_law_k"] rfl (kF rfl T.iL (af (ae (dQ (fW) (by rfl) T.fY fQ (af (bv 5) au))) au)) (λ_ _ _ _=>(cC (i:=2) (show(["_law_script","_law_told_here","_law_k"]:List Str).Nodup by decide +kernel) rfl (ao (lr1 rfl)) (by decide) (aX (lr1 rfl)))) (λ_ _ _ _=>dw) (λ_ _ _ _=>(aG dh (ae (aT ((ke T).mono (by decide)) hr rfl T.ka T.jJ.kp T.kb aP (af (bv 0) (af (ae (aG cQ (ae aw) (bv 2))) au)))) (ae (aT ((sP T).mono (by decide)) hr rfl T.sG T.pS.kp T.sH aP (af (bv 1) au))))) rfl ⟨rfl,⟨rfl,trivial⟩⟩ (λ_=>by repeat' (first | exact trivial | refine⟨.inl rfl,?_⟩ | refine⟨.inr (.inl rfl),?_⟩ | refine⟨.inr (.inr ⟨_,rfl⟩),?_⟩)) (λ_=>⟨⟨rfl,.inl rfl,.inl rfl,_,rfl,rfl⟩,⟨⟨rfl,.inl rfl,.inl rfl,_,rfl,rfl⟩,trivial⟩⟩) rfl (by decide +kernel))
   (aB (aV (i:=7) AJ.nd rfl (aX rfl) (aT ((Yr T).mono (by decide)) hr rfl T.Xy T.Mc.kp T.Xz aP (af (bv 0) (af (bv 6) (af (bv 5) (af (bv 4) au))))))
   (aB (bV (gr (ae (dQ (Wm rfl) (by rfl) T.X7 TK (af (ae (du [("_law_told_here",0),("_law_sent_here",7)] ["_law_row"] rfl (fS (bv 3)) (λ_ _ _ _=>(cC (i:=2) (show(["_law_told_here","_law_sent_here","_law_row"]:List Str).Nodup by decide +kernel) rfl (ao (lr1 rfl)) (by decide) (aX (lr1 rfl)))) (λ_ _ _ _=>dw) (λ_ _ _ _=>(aT ((Mx T).mono (by decide)) hr rfl T.Ma T.DU.kp T.Mb aP (af (bv 0) (af (bv 2) (af (bv 1) au))))) rfl ⟨rfl,⟨rfl,trivial⟩⟩ (λ_=>by repeat' (first | exact trivial | refine⟨.inl rfl,?_⟩ | refine⟨.inr (.inl rfl),?_⟩ | refine⟨.inr (.inr ⟨_,rfl⟩),?_⟩)) (λ_=>⟨⟨rfl,.inl rfl,.inl rfl,_,rfl,rfl⟩,⟨⟨rfl,.inl rfl,.inl rfl,_,rfl,rfl⟩,trivial⟩⟩) rfl (by decide +kernel))) au)))) (aF (aU fC)) cu)
   (aF (aU (em 7))))))))),λds Q h=>?_⟩
  obtain⟨m,ns,T,rfl,hm,vh,kM,jK,hw,hT,q⟩:=h
  have dq:=(cE hm).lo
  have MA:=(cE hm).hi
  have Ec:=An m hm
  have w0:(T[0]).length=ag T:=(hT _ (cB vh)).1
  refine aA λU hU=>?_
  nofun
  refine⟨_,sk false vh,?_⟩
  dsimp only
  rw[eo,w0]
  refine hU _ ?_
  clear hU U
  refine aA λU hU=>?_
  nofun
  refine⟨T,rfl,by omega,?_⟩
  obtain⟨k1,k2⟩:=cU4 hm hT
  have kw:∀xs:List Nat,xs.length=(jG m (cG m T) (ag T)).length->_:=λxs hx=>cD7 hm hT hx
  refine⟨m,T,by rw[de,dj],hm,by omega,hT,by omega,cL3 hm hT,by rw[eR,pk,kg,gy],hU _ ?_⟩
  clear hU U
  generalize jG m (cG m T) (ag T)=G at k1 k2 kw ⊢
  refine aA λU hU=>?_
  nofun
  refine⟨m,rfl,by omega,by omega,G,G.length,ag T,aa m,by rw[jD],rfl,by omega,by omega,k1,rfl,true,rfl,?_⟩
  rw[if_neg (by decide)]
  refine hU _ ?_
  clear hU U
  have MB:∀z:Int,z%(aa m:Int)=(((z%(aa m:Int)).toNat:Nat):Int):=λz=>by
   have n0:=jl z (show(aa m:Int)≠0 by omega)
   omega
  have MC:∀z:Int,(z%(aa m:Int)).toNat<aa m:=λz=>by
   have n1:=jm z (show(0:Int)<(aa m:Int) by omega)
   omega
  refine aA λU hU=>?_
  nofun
  refine⟨⟨by omega,by omega⟩,dX (aZ G.length) (λ(i:Nat)=>D.int (i:Int)) (λkk=>D.int (((eP ns ((3:Int)+(kk:Int))%(aa m:Int)).toNat:Nat):Int)) (se _ rfl) g8 (λkk hk=>?_) (.inr λ_ _=>rfl) (by rw[dB,sL];omega) ?_⟩
  ·have:=cS.mp hk
   nofun
   refine⟨ns,_,rfl,by omega,by omega,m,rfl,by omega,by omega,?_⟩
   exact⟨by omega,MB _⟩
  obtain⟨xs,exs,iD,MD⟩:∃xs:List Nat,((aZ G.length).map λ(kk:Nat)=>D.int (((eP ns ((3:Int)+(kk:Int))%(aa m:Int)).toNat:Nat):Int))=aq xs/\AllLt (aa m) xs/\xs.length=G.length:=by
   refine⟨(aZ G.length).map λ(kk:Nat)=>(eP ns ((3:Int)+(kk:Int))%(aa m:Int)).toNat,by rw[cw,bZ];rfl,λa ha=>?_,by simp⟩
   obtain⟨k,_,rfl⟩:=bE.mp ha
   exact MC _
  rw[exs]
  dsimp only[gj,gi]
  refine hU _ ?_
  clear hU U
  have kz:=kw xs MD
  have kl:=Wi hm (T:=G) (ag T) MD
  have kn:=IV m xs G (ag T)
  refine aA λU hU=>?_
  nofun
  refine⟨m,xs,G,ag T,rfl,hm,iD,by omega,MD.symm,by omega,k1,gJ _,hU _ ?_⟩
  clear hU U
  generalize pG m xs G (ag T)=c at kz kl kn ⊢
  refine aA λU hU=>?_
  nofun
  refine dX T (λr=>D.lst false (aq r)) (λr=>D.int ((gd m r c:Nat):Int)) (by rw[dj];rfl) (λa b h=>nh a b h) (λr bg=>?_) (.inr λr _=>rfl) (by rw[sL];omega) ?_
  ·have vN:=(hT r bg).1
   nofun
   exact⟨m,r,c,rfl,hm,by omega,by omega,(hT r bg).2,kl,rfl⟩
  refine⟨T.map λr=>((gd m r c:Nat):Int),by unfold aL;rw[bZ];rfl,?_⟩
  rw[show(T.map λr=>((gd m r c:Nat):Int)).any (λx=>x != 0)=false by
   rw[RD]
   intro x hx
   obtain⟨r,bg,rfl⟩:=bE.mp hx
   rw[kz r bg];decide,if_neg (by decide)]
  refine hU _ ?_
  nofun
  exact q c kn kl kz
abbrev aP6:bA:=λds Q=>∃(ns:List Int) (m:Bool × Nat) (c:List Nat),ds=[dy m,.fz (aL ns),.lst false (aq c)]/\m∈aD/\c.length<=64/\AllLt (aa m) c/\∀y:List (Option Nat),y.length=c.length->(∀a,some a∈y->a<aa m)->Q (.lst true (dk y))
theorem aP7(T:Txt K mg t):aQ P w K mg base bf 2 t.K4 t.K5 ["_law_told_here","_law_script","_law_sent_here"] (bw (aP6 )):=by
 refine bH T.XD AK ?_ ?_
 ·intro ds Q h
  obtain⟨ns,m,c,rfl,hm,hc,wo,q⟩:=h<;>rfl
 ·intro aI A outer s H E hr
  refine⟨_,(aB (aV (i:=3) AK.nd rfl (ao rfl) (aT ((sP T).mono (by decide)) hr rfl T.sG T.pS.kp T.sH aP (af (bv 0) au)))
   (aB (aV (i:=4) AK.nd rfl (ao rfl) (eM dH))
   (aB (gu eX rfl (rN rfl T.sJ (af (bv 2) au)) (gv (i1:=5) (i2:=6) rfl AK.nd rfl (ao rfl) rfl (ao rfl))
    (aB (aV (i:=7) AK.nd rfl (ao rfl) (aT ((ke T).mono (by decide)) hr rfl T.ka T.jJ.kp T.kb aP (af (bv 1) (af (ae (aG cQ (ae aw) (bv 5))) au))))
    (aF (bV (bO (fV (dr hr)) (ae (aG dh (bv 7) (ae aw))) (ae aw) (bL _)) (aF (lK (i:=4) rfl (by first | exact ao rfl | exact aX (ao rfl)) fC)) (aF (bV (bO (fV (dr hr)) (ae (aG dh (ae (aG jC (ae (aT ((ke T).mono (by decide)) hr rfl T.ka T.jJ.kp T.kb aP (af (bv 1) (af (ae aw) au)))) (ae aw))) (ae aw))) (ae aw) (bL _)) (aF (lK (i:=4) rfl (by first | exact ao rfl | exact aX (ao rfl)) (aG dh (ae (aG jC (bv 7) (ae aw))) (bv 3)))) (aF (bV (bO (fV (dr hr)) (ae (aG dh (bv 7) (ae aw))) (ae aw) (bL _)) (aF (lK (i:=4) rfl (by first | exact ao rfl | exact aX (ao rfl)) (aT ((Yq T).mono (by decide)) hr rfl T.Xw T.L7.kp T.Xx aP (af (bv 0) (af (bv 6) (af (ae (aG cQ (ae aw) (ae (aG dh (ae (aG jC (bv 7) (ae aw))) (ae (aG gD (bv 3) (ae aw))))))) au)))))) (aF (lK (i:=4) rfl (by first | exact ao rfl | exact aX (ao rfl)) (em 6)))))))))))
   (aF (aU (em 4)))))),λds Q h=>?_⟩
  obtain⟨ns,m,c,rfl,hm,hc,wo,q⟩:=h
  have dq:=(cE hm).lo
  have MA:=(cE hm).hi
  have Ec:=An m hm
  have m0:=bW m hm
  refine aA λU hU=>?_
  nofun
  refine⟨m,rfl,by omega,by omega,hU _ ?_⟩
  clear hU U
  refine aA λU hU=>?_
  nofun
  refine⟨by decide,hU _ ?_⟩
  clear hU U
  refine aA λU hU=>?_
  nofun
  refine fE.mk (λj δ=>∃(y:List (Option Nat)) (o1 o2 o3:Option D),(y.length=j/\∀a,some a∈y->a<aa m)/\δ=[some (dy m),some (D.fz (aL ns)),some (D.lst false (aq c)),some (D.int (aa m)),some (D.lst true (dk y)),o1,o2,o3]) ⟨[],_,_,_,⟨rfl,λa ha=>by cases ha⟩,rfl⟩ ?_ ?_
  ·rintro j d δ hd ⟨y,o1,o2,o3,⟨y1,y2⟩,rfl⟩
   obtain⟨h1,rfl⟩:=ch2 hd
   clear hd hU
   have e1:=wo _ (cB h1)
   have yl:=WG y
   have ap:∀v:Option Nat,(∀a,v=some a->a<aa m)->dk y++[fo v]=dk (y++[v])/\(y++[v]).length=j+1/\∀a,some a∈y++[v]->a<aa m:=λv hv=>by
    refine⟨by unfold dk;rw[gh];rfl,by rw[dS,y1];rfl,λa ha=>?_⟩
    rcases bY.mp ha with h | h
    ·exact y2 a h
    ·exact hv a (dW.mp h).symm
   simp only[iC,gj,gi]
   refine aA λU hU=>?_
   nofun
   refine⟨ns,_,rfl,by omega,by omega,hU _ ?_⟩
   clear hU
   generalize eP ns _=ch
   nofun
   refine⟨by decide,?_⟩
   split
   ·obtain⟨a1,a2,a3⟩:=ap none λa ha=>by cases ha
    exact⟨⟨_,rfl⟩,by omega,_,_,_,_,⟨a2,a3⟩,a1,rfl,rfl,rfl⟩
   ·refine⟨ns,2,rfl,by decide,by decide,jB (by decide) (by decide),by decide,?_⟩
    split
    ·have n0:=jl (ch/8) (show(aa m:Int)≠0 by omega)
     have n1:=jm (ch/8) (show(0:Int)<(aa m:Int) by omega)
     obtain⟨a1,a2,a3⟩:=ap (some (ch/8%(aa m:Int)).toNat) λa ha=>by cases ha;omega
     rw[show fo (some (ch/8%(aa m:Int)).toNat)=D.int (ch/8%(aa m:Int)) by show D.int _=_;rw[tG n0]]at a1
     exact⟨⟨_,rfl⟩,jB (by decide) (by decide),by omega,by omega,_,_,_,_,⟨a2,a3⟩,a1,rfl,rfl,rfl⟩
    ·refine⟨by decide,?_⟩
     split
     ·obtain⟨r,er,hr⟩:∃r:Nat,ch/8%((aa m:Int)-1)=r/\r+1<aa m:=by
       have n0:=jl (ch/8) (show(aa m:Int)-1≠0 by omega)
       have n1:=jm (ch/8) (show(0:Int)<(aa m:Int)-1 by omega)
       exact⟨_,(tG n0).symm,by omega⟩
      rw[er,show(1:Int)+(r:Int)=((1+r:Nat):Int) by omega]
      obtain⟨a1,a2,a3⟩:=ap (some (gp m c[j] (1+r))) λa ha=>by cases ha;exact Ao hm e1 (by omega)
      exact⟨⟨_,rfl⟩,jB (by decide) (by decide),by omega,m,_,_,rfl,m0,by omega,_,_,_,_,⟨a2,a3⟩,a1,rfl,rfl,rfl⟩
     ·obtain⟨a1,a2,a3⟩:=ap (some c[j]) λa ha=>by cases ha;exact e1
      exact⟨⟨_,rfl⟩,by omega,_,_,_,_,⟨a2,a3⟩,a1,rfl,rfl,rfl⟩
  ·rintro δ ⟨y,o1,o2,o3,⟨y1,y2⟩,rfl⟩
   refine hU _ ?_
   nofun
   refine q y ?_ y2
   rw[y1,oR,eo]
abbrev aP8:bA:=λds Q=>∃(y:List (Option Nat)),ds=[.lst false (dk y)]/\y.length<=1000/\Q (.lst true (aq (bB y)))
theorem aP9(T:Txt K mg t):aQ P w K mg base bf 1 t.K6 t.K7 ["signs"] (bw (aP8 )):=by
 refine bH T.XE aO7 ?_ ?_
 ·intro ds Q h
  obtain⟨y,rfl,hy,q⟩:=h<;>rfl
 ·intro aI A outer s H E hr
  refine⟨_,(aF (aU (du [] ["place","sign"] rfl (rN rfl T.sJ (af (bv 0) au)) (λ_ _ _ _=>(gv (i1:=0) (i2:=1) rfl (show(["place","sign"]:List Str).Nodup by decide +kernel) rfl (ao (lr1 rfl)) rfl (ao (lr1 rfl)) (by decide) (by decide) (aX (lr1 rfl)) (aX (lr1 rfl)))) (λ_ _ _ _=>(ud (bO q9 (bv 1) (ae fC) (bL _)))) (λ_ _ _ _=>(cN (bv 0))) rfl trivial (λ_=>by repeat' (first | exact trivial | refine⟨.inl rfl,?_⟩ | refine⟨.inr (.inl rfl),?_⟩ | refine⟨.inr (.inr ⟨_,rfl⟩),?_⟩)) (λ_=>trivial) rfl (by decide +kernel)))),λds Q h=>?_⟩
  obtain⟨y,rfl,hy,q⟩:=h
  nofun
  refine u5 (aZ y.length) (λ(i:Nat)=>D.tup [.int (i:Int),fo (y.getD i none)]) (λ(i:Nat)=>D.int (i:Int)) (λj=>decide (y[j]?=some none)) (cj8 y) (λa b h=>by injection h with h;simp at h;omega) (λi hi=>?_) (.inr λ_ _ _=>rfl) (by rw[dB,sL];omega) ?_
  ·nofun
   rw[DH (cS.mp hi)]
   refine⟨?_,λ_=>trivial⟩
   cases y.getD i none with
   | none=>rfl
   | some a=>exact(decide_eq_false λz=>by cases z).symm
  ·rw[cw]at q
   exact q
abbrev aG4:bA:=λds Q=>∃(y:List (Option Nat)),ds=[.lst false (dk y)]/\y.length<=1000/\Q (.lst true (aq (cR y)))
theorem aG5(T:Txt K mg t):aQ P w K mg base bf 1 t.K8 t.K9 ["signs"] (bw (aG4 )):=by
 refine bH T.XF aF7 ?_ ?_
 ·intro ds Q h
  obtain⟨y,rfl,hy,q⟩:=h<;>rfl
 ·intro aI A outer s H E hr
  refine⟨_,(aF (aU (du [] ["sign"] rfl (fS (bv 0)) (λ_ _ _ _=>(cC (i:=0) (show(["sign"]:List Str).Nodup by decide +kernel) rfl (ao (lr1 rfl)) (by decide) (aX (lr1 rfl)))) (λ_ _ _ _=>dw) (λ_ _ _ _=>(Cw (bO q9 (bv 0) (ae fC) (bL _)) aw (cN (bv 0)))) rfl trivial (λ_=>by repeat' (first | exact trivial | refine⟨.inl rfl,?_⟩ | refine⟨.inr (.inl rfl),?_⟩ | refine⟨.inr (.inr ⟨_,rfl⟩),?_⟩)) (λ_=>trivial) rfl (by decide +kernel)))),λds Q h=>?_⟩
  obtain⟨y,rfl,hy,q⟩:=h
  nofun
  refine dX y fo (λs=>D.int ((s.getD 0:Nat):Int)) (pL y) Jm (λs hs=>?_) (.inr λ_ _=>rfl) (by rw[sL];omega) ?_
  ·nofun
   cases s with
   | none=>exact rfl
   | some a=>exact⟨rfl,rfl⟩
  ·unfold cR at q
   rw[cw,bZ]at q
   exact q
abbrev Ys(K:Frag):bA:=λds Q=>∃(C:Addr) (p:Nat) (xs ys:List Nat),ds=[uZ C p,.lst false (aq xs),.lst false (aq ys)]/\eJ K C/\cI K C "products"/\p∈gI/\xs.length=ys.length/\xs.length<=64/\(∀x∈xs,x<aa (true,p))/\(∀y∈ys,y<aa (true,p))/\Q (.int ((cZ (gm (true,p)) xs ys).foldl (· ^^^ ·) 0:Nat))
theorem aO3(T:Txt K mg t):aQ P w K mg base bf 1 t.La t.Lb ["self","xs","ys"] (bw (Ys K)):=by
 refine bH T.aO8 AL ?_ ?_
 ·intro ds Q h
  obtain⟨C,p,xs,ys,rfl,hC,hn,hp,hl,kL,hx,hy,q⟩:=h<;>rfl
 ·intro aI A outer s H E hr
  refine⟨_,(aB (aV (i:=3) AL.nd rfl (ao rfl) (cN (j4 (K:=K) (bv 0))))
   (aB (aV (i:=4) AL.nd rfl (ao rfl) aw)
   (aB (gu eX rfl (lU rfl T.mm (af (bv 1) (af (bv 2) au))) (gv (i1:=5) (i2:=6) rfl AL.nd rfl (ao rfl) rfl (ao rfl))
    (aF (zU (i:=4) AL.nd rfl (ao rfl) (bG (bG (bv 3) (bv 5) (λ_ _=>rfl)) (bv 6) (λ_ _=>rfl)) CF)))
   (aF (aU (em 4)))))),λds Q h=>?_⟩
  obtain⟨C,p,xs,ys,rfl,hC,hn,hp,hl,kL,hx,hy,q⟩:=h
  refine aA λU hU=>?_
  nofun
  refine⟨C,_,_,_,rfl,hC,hn,rfl,by rw[fi,b91];rfl,hU _ ?_⟩
  clear hU U
  refine aA λU hU=>?_
  nofun
  refine hU _ ?_
  clear hU U
  refine aA λU hU=>?_
  nofun
  refine⟨_,_,rfl,rfl,?_⟩
  refine fE.mk (λi δ=>∃o1 o2,δ=[some (uZ C p),some (.lst false (aq xs)),some (.lst false (aq ys)),some (.lst false (pe (fl (true,p)) (eN (fl (true,p))))),some (.int (((cZ (gm (true,p)) xs ys).take i).foldl (· ^^^ ·) 0:Nat)),o1,o2]) ⟨none,none,rfl⟩ ?_ ?_
  ·rintro i d δ hd ⟨o1,o2,rfl⟩
   obtain⟨hi,hj,rfl⟩:∃(hi:i<xs.length) (hj:i<ys.length),d=.tup [.int (xs[i]:Nat),.int (ys[i]:Nat)]:=by
    unfold di at hd
    rw[cw,cw,tF]at hd
    by_cases hi:i<xs.length
    ·have hj:i<ys.length:=by omega
     rw[mx,aJ hi,aJ hj]at hd
     exact⟨hi,hj,(cT hd).symm⟩
    ·rw[gU (by simp;omega)]at hd;cases hd
   have e7:=hx xs[i] (cB _)
   have Br:=hy ys[i] (cB _)
   nofun
   refine⟨_,Di hp e7,_,Dh hp e7 Br,_,_,?_,rfl,rfl⟩
   rw[nY,List.take_succ,y6,mx,aJ hi,aJ hj];rfl
  ·rintro δ ⟨o1,o2,rfl⟩
   refine hU _ ?_
   nofun
   have e:(di (aq xs) (aq ys)).length=xs.length:=by unfold di;rw[ik,eo,eo];omega
   rw[e,tw (by rw[ik];omega)]
   exact q
abbrev Yt(K:Frag):bA:=λds Q=>∃(C:Addr) (p:Nat) (xs ys:List Int),ds=[uY C p,.lst false (aL xs),.lst false (aL ys)]/\eJ K C/\cI K C "prime"/\0<p/\xs.length=ys.length/\xs.length<=64/\(∀x∈xs,0<=x/\x<64)/\(∀y∈ys,0<=y/\y<64)/\Q (.int ((cZ (· * ·) xs ys).sum%p))
theorem aK6(T:Txt K mg t):aQ P w K mg base bf 1 t.Lc t.Ld ["self","xs","ys"] (bw (Yt K)):=by
 refine bH T.aM0 aJ7 ?_ ?_
 ·intro ds Q h
  obtain⟨C,p,xs,ys,rfl,hC,hn,hp,hl,kL,hx,hy,q⟩:=h<;>rfl
 ·intro aI A outer s H E hr
  refine⟨_,(aF (aU (aG dh (ae (dQ (cS0 rfl) (by rfl) T.ee3 cJ1 (af (ae (du [] ["x","y"] rfl (lU rfl T.mm (af (bv 1) (af (bv 2) au))) (λ_ _ _ _=>(gv (i1:=0) (i2:=1) rfl (show(["x","y"]:List Str).Nodup by decide +kernel) rfl (ao (lr1 rfl)) rfl (ao (lr1 rfl)) (by decide) (by decide) (aX (lr1 rfl)) (aX (lr1 rfl)))) (λ_ _ _ _=>dw) (λ_ _ _ _=>(aG iB (bv 0) (bv 1))) rfl trivial (λ_=>by repeat' (first | exact trivial | refine⟨.inl rfl,?_⟩ | refine⟨.inr (.inl rfl),?_⟩ | refine⟨.inr (.inr ⟨_,rfl⟩),?_⟩)) (λ_=>trivial) rfl (by decide +kernel))) au))) (j4 (K:=K) (bv 0))))),λds Q h=>?_⟩
  obtain⟨C,p,xs,ys,rfl,hC,hn,hp,hl,kL,hx,hy,q⟩:=h
  nofun
  refine⟨_,_,rfl,rfl,?_⟩
  refine Iu (xs.zip ys) (λz=>D.tup [.int z.1,.int z.2]) (λz=>D.int (z.1*z.2)) (VM xs ys) (λa b h=>by injection h with h;simp at h;exact yZ h.1 h.2) (λz hz=>?_) Iw (.inr λ_ _=>rfl) (by rw[qj,sL];omega) ?_
  ·have z1:=hx z.1 (sU hz).1
   have z2:=hy z.2 (sU hz).2
   nofun
   exact js.ok (.inr ⟨by omega,by omega⟩)
  ·refine⟨(xs.zip ys).map λz=>z.1*z.2,?_,?_⟩
   ·unfold aL;rw[bZ];rfl
   ·nofun
    refine⟨C,_,_,.int p,rfl,hC,hn,rfl,?_⟩
    refine⟨by omega,?_⟩
    rw[List.map_zip_eq_zipWith]
    exact q
theorem cU8(T:Txt K mg t){m:Bool × Nat}(hm:m∈aD):∃C ns zs sp,fD t.aS t.aW m=.obj C ns zs/\rT P w K mg base 1 "dot" C sp/\("dot":Str) ∉ ns/\∀(xs ys:List Nat) (Q:D->Prop),xs.length=ys.length->xs.length<=64->(∀x∈xs,x<aa m)->(∀y∈ys,y<aa m)->Q (.int (gd m xs ys:Nat))->sp [.obj C ns zs,.lst false (aq xs),.lst false (aq ys)] Q:=by
 have hF:=cE hm
 obtain⟨k,n⟩:=m
 cases k with
 | true=>exact⟨_,_,_,Ys K,rfl,⟨T.gF,_,_,_,T.AY,aO3 T,T.aO9⟩,by decide,λxs ys Q hl kL hx hy q=>⟨_,n,xs,ys,rfl,T.gF,T.pU,wA hm,hl,kL,hx,hy,q⟩⟩
 | false =>
  have kK:n<=64:=hF.hi
  have l2:2<=n:=hF.lo
  have cx:∀l:List Nat,(∀x∈l,x<aa (false,n))->∀z∈l.map (λ(n:Nat)=>(n:Int)),0<=z/\z<64:=λl h z hz=>by
   obtain⟨x,hx,rfl⟩:=bE.mp hz
   have:x<n:=h x hx
   omega
  refine⟨_,_,_,Yt K,rfl,⟨T.ie,_,_,_,T.Bd,aK6 T,T.aM1⟩,by decide,λxs ys Q hl kL hx hy q=>⟨_,n,xs.map (λ(n:Nat)=>(n:Int)),ys.map (λ(n:Nat)=>(n:Int)),rfl,T.ie,T.nu,by omega,by rw[br,br];exact hl,by rw[br];exact kL,cx xs hx,cx ys hy,?_⟩⟩
  have e:((gd (false,n) xs ys:Nat):Int)=(cZ (· * ·) (xs.map λ(n:Nat)=>(n:Int)) (ys.map λ(n:Nat)=>(n:Int))).sum%n:=by
   unfold gd
   rw[VR (by omega) _ _ (by omega),R3,VS,VT,qi]
  rw[<-e];exact q
abbrev aU9(t:gB):bA:=λds Q=>∃(m:Bool × Nat) (G:List (List Nat)) (c:List Nat),ds=[fD t.aS t.aW m,.lst false (aE false G),.lst false (aq c)]/\m∈aD/\RT (aa m) c.length G/\AllLt (aa m) c/\c.length<=64/\G.length<=64/\Q (.lst true (aq (G.map λr=>gd m r c)))
theorem aV0(T:Txt K mg t):aQ P w K mg base bf 2 t.Le t.Lf ["field","table","column"] (bw (aU9 t)):=by
 refine bH T.XG aS9 ?_ ?_
 ·intro ds Q h
  obtain⟨m,G,c,rfl,hm,hR,hc,gw,hG,q⟩:=h<;>rfl
 ·intro aI A outer s H E hr
  refine⟨_,(aF (aU (du [("column",2),("field",0)] ["row"] rfl (fS (bv 1)) (λ_ _ _ _=>(cC (i:=2) (show(["column","field","row"]:List Str).Nodup by decide +kernel) rfl (ao (lr1 rfl)) (by decide) (aX (lr1 rfl)))) (λ_ _ _ _=>dw) (λ_ _ _ _=>(rY (P:=P) (w:=w) (K:=K) (mg:=mg) (base:=base) (n:=1) (bv 1) (hr.mono (by decide)) (af (bv 2) (af (bv 0) au)))) rfl ⟨rfl,⟨rfl,trivial⟩⟩ (λ_=>by repeat' (first | exact trivial | refine⟨.inl rfl,?_⟩ | refine⟨.inr (.inl rfl),?_⟩ | refine⟨.inr (.inr ⟨_,rfl⟩),?_⟩)) (λ_=>⟨⟨rfl,.inl rfl,.inl rfl,_,rfl,rfl⟩,⟨⟨rfl,.inl rfl,.inl rfl,_,rfl,rfl⟩,trivial⟩⟩) rfl (by decide +kernel)))),λds Q h=>?_⟩
  obtain⟨m,G,c,rfl,hm,hR,hc,gw,hG,q⟩:=h
  have dq:=(cE hm).lo
  obtain⟨C,ns,xs,sp,e1,e2,e3,e4⟩:=cU8 (P:=P) (w:=w) (base:=base) T hm
  nofun
  refine dX G (λr=>D.lst false (aq r)) (λr=>D.int ((gd m r c:Nat):Int)) (by rw[dj];rfl) (λa b h=>nh a b h) (λr bg=>?_) (.inr λr _=>rfl) (by rw[sL];omega) ?_
  ·nofun
   exact⟨C,ns,xs,sp,e1,e2,e3,e4 _ _ _ (hR r bg).1 (by rw[(hR r bg).1];exact gw) (hR r bg).2 hc rfl⟩
  ·rw[cw,bZ]at q
   exact q
abbrev aV1:bA:=λds Q=>∃c:List Nat,ds=[.lst false (aq c)]/\c.length<=1000/\Q (.bl (nul c))
theorem Ee(T:Txt K mg t):aQ P w K mg base bf 1 t.Lg t.Lh ["column"] (bw (aV1 )):=by
 refine bH T.AS aT0 ?_ ?_
 ·intro ds Q h
  obtain⟨c,rfl,hc,q⟩:=h<;>rfl
 ·intro aI A outer s H E hr
  refine⟨_,(aF (aU (dQ (CJ rfl) (by rfl) T.D6 Cn (af (ae (du [] ["x"] rfl (fS (bv 0)) (λ_ _ _ _=>(cC (i:=0) (show(["x"]:List Str).Nodup by decide +kernel) rfl (ao (lr1 rfl)) (by decide) (aX (lr1 rfl)))) (λ_ _ _ _=>dw) (λ_ _ _ _=>(vW (fV (dr hr)) (bv 0) (ae aw) (bL _))) rfl trivial (λ_=>by repeat' (first | exact trivial | refine⟨.inl rfl,?_⟩ | refine⟨.inr (.inl rfl),?_⟩ | refine⟨.inr (.inr ⟨_,rfl⟩),?_⟩)) (λ_=>trivial) rfl (by decide +kernel))) au)))),λds Q h=>?_⟩
  obtain⟨c,rfl,hc,q⟩:=h
  nofun
  refine dX c (λ(i:Nat)=>D.int (i:Int)) (λ(x:Nat)=>D.bl (x==0)) (m6 _) g8 (λx hx=>?_) (.inr λ_ _=>rfl) (by rw[sL];omega) ?_
  ·nofun
   congr 1
   exact propext (by omega)
  dsimp only
  refine⟨c.map (·==0),by unfold wb;rw[bZ];rfl,?_⟩
  rw[mv]
  exact q
abbrev Yu(K:Frag):bA:=λds Q=>∃(C:Addr) (p a b:Nat),ds=[uZ C p,.int a,.int b]/\eJ K C/\cI K C "products"/\p∈gI/\a<aa (true,p)/\b<aa (true,p)/\Q (.int (gm (true,p) a b:Nat))
theorem aK7(T:Txt K mg t):aQ P w K mg base bf 1 t.Li t.Lj ["self","a","b"] (bw (Yu K)):=by
 refine bH T.aM2 aJ8 ?_ ?_
 ·intro ds Q h
  obtain⟨C,p,a,b,rfl,hC,hn,hp,ha,hb,q⟩:=h<;>rfl
 ·intro aI A outer s H E hr
  refine⟨_,(aF (aU (cN (bG (bG (j4 (K:=K) (bv 0)) (bv 1) (λ_ _=>rfl)) (bv 2) (λ_ _=>rfl))))),λds Q h=>?_⟩
  obtain⟨C,p,a,b,rfl,hC,hn,hp,ha,hb,q⟩:=h
  nofun
  refine⟨C,_,_,_,rfl,hC,hn,rfl,?_⟩
  exact⟨_,Di hp ha,_,Dh hp ha hb,rfl,q⟩
abbrev Yv(K:Frag):bA:=λds Q=>∃(C:Addr) (p:Nat) (a b:Int),ds=[uY C p,.int a,.int b]/\eJ K C/\cI K C "prime"/\0<p/\IntMulOk a b/\Q (.int (a*b%p))
theorem aG6(T:Txt K mg t):aQ P w K mg base bf 1 t.Lk t.Ll ["self","a","b"] (bw (Yv K)):=by
 refine bH T.aH8 aF8 ?_ ?_
 ·intro ds Q h
  obtain⟨C,p,a,b,rfl,hC,hn,hp,hm,q⟩:=h<;>rfl
 ·intro aI A outer s H E hr
  refine⟨_,(aF (aU (aG dh (ae (aG iB (bv 1) (bv 2))) (j4 (K:=K) (bv 0))))),λds Q h=>?_⟩
  obtain⟨C,p,a,b,rfl,hC,hn,hp,hm,q⟩:=h
  nofun
  exact⟨hm,C,_,_,.int p,rfl,hC,hn,rfl,by omega,q⟩
theorem cA3(T:Txt K mg t){m:Bool × Nat}(hm:m∈aD):∃C ns xs sp,fD t.aS t.aW m=.obj C ns xs/\rT P w K mg base 1 "times" C sp/\("times":Str) ∉ ns/\∀(a b:Nat) (Q:D->Prop),a<aa m->b<aa m->Q (.int (gm m a b:Nat))->sp [.obj C ns xs,.int a,.int b] Q:=by
 have hF:=cE hm
 obtain⟨k,n⟩:=m
 cases k with
 | true=>exact⟨_,_,_,Yu K,rfl,⟨T.gF,_,_,_,T.A9,aK7 T,T.aM3⟩,by decide,λa b Q ha hb q=>⟨_,n,a,b,rfl,T.gF,T.pU,wA hm,ha,hb,q⟩⟩
 | false =>
  have kK:n<=64:=hF.hi
  refine⟨_,_,_,Yv K,rfl,⟨T.ie,_,_,_,T.Bi,aG6 T,T.aH9⟩,by decide,λa b Q ha hb q=>?_⟩
  have CM:a<n:=ha
  have Af:b<n:=hb
  refine⟨_,n,a,b,rfl,T.ie,T.nu,by omega,js.ok (.inr ⟨by omega,by omega⟩),?_⟩
  have e:((gm (false,n) a b:Nat):Int)=(a:Int)*b%n:=by
   show((a*b%n:Nat):Int)=_
   rw[qi,vw]
  rw[<-e];exact q
abbrev cz3(t:gB)(P:Program)(w:World)(K:Frag)(mg:Str->Option Value)(base:Heap):bA:=λds Q=>∃(m:Bool × Nat) (c:List Nat) (os:List (List Nat)),ds=[fD t.aS t.aW m,.lst false (aq c),.lst false (aE false os)]/\m∈aD/\nul c=false/\c.length<=64/\AllLt (aa m) c/\RT (aa m) c.length os/\os.length<=1000/\Q (.lst true (aE true (cy m c os)))
theorem ME(T:Txt K mg t):aQ P w K mg base bf 3 t.Lm t.Ln ["field","column","others"] (bw (cz3 t P w K mg base)):=by
 refine bH T.D0 x9 ?_ ?_
 ·intro ds Q h
  obtain⟨m,c,os,rfl,hm,hn,hc,MF,lZ,hol,q⟩:=h<;>rfl
 ·intro aI A outer s H E hr
  refine⟨_,(aB (aV (i:=3) x9.nd rfl (ao rfl) (cN (bG (ae (du [] ["k","x"] rfl (rN rfl T.sJ (af (bv 1) au)) (λ_ _ _ _=>(gv (i1:=0) (i2:=1) rfl (show(["k","x"]:List Str).Nodup by decide +kernel) rfl (ao (lr1 rfl)) rfl (ao (lr1 rfl)) (by decide) (by decide) (aX (lr1 rfl)) (aX (lr1 rfl)))) (λ_ _ _ _=>(ud (bO (jX (dr hr)) (bv 1) (ae aw) (bL _)))) (λ_ _ _ _=>(cN (bv 0))) rfl trivial (λ_=>by repeat' (first | exact trivial | refine⟨.inl rfl,?_⟩ | refine⟨.inr (.inl rfl),?_⟩ | refine⟨.inr (.inr ⟨_,rfl⟩),?_⟩)) (λ_=>trivial) rfl (by decide +kernel))) (ae aw) (λ_ _=>rfl))))
   (aB (aV (i:=4) x9.nd rfl (ao rfl) (VP (P:=P) (w:=w) (K:=K) (mg:=mg) (base:=base) (n:=2) (bv 0) (hr.mono (by decide)) (af (ae aw) (af (bG (bv 1) (bv 3) (λ_ _=>rfl)) au))))
   (aB (aV (i:=5) x9.nd rfl (ao rfl) (eM dH))
   (aB (gu eX rfl (CA (cN (bv 2))) (cC (i:=6) x9.nd rfl (ao rfl))
    (aB (aV (i:=7) x9.nd rfl (ao rfl) (rY (P:=P) (w:=w) (K:=K) (mg:=mg) (base:=base) (n:=1) (bv 0) (hr.mono (by decide)) (af (bv 6) (af (ae (rY (P:=P) (w:=w) (K:=K) (mg:=mg) (base:=base) (n:=1) (bv 0) (hr.mono (by decide)) (af (bG (bv 6) (bv 3) (λ_ _=>rfl)) (af (bv 4) au)))) (af (bv 1) au)))))
    (aF (lK (i:=5) rfl (by first | exact ao rfl | exact aX (ao rfl)) (aG cQ (ae (uT (bv 7) ug (uh (bv 3)))) (ae (uT (bv 7) (uh (ae (aG cQ (bv 3) (ae aw)))) ug)))))))
   (aF (aU (em 5))))))),λds Q h=>?_⟩
  obtain⟨m,c,os,rfl,hm,hn,hc,MF,lZ,hol,q⟩:=h
  have dq:=(cE hm).lo
  obtain⟨pl,pn⟩:=Jc hn
  have cp:=MF.getD (show 0<aa m by omega) (aR c)
  have cx:∃x∈c,x≠0:=⟨_,dJ pl 0,pn⟩
  refine aA λU hU=>?_
  nofun
  refine u5 (aZ c.length) (λ(i:Nat)=>D.tup [.int (i:Int),.int ((c.getD i 0:Nat):Int)]) (λ(i:Nat)=>D.int (i:Int)) (λi=>c.getD i 0 != 0) (V0 c) (λa b h=>by injection h with h;simp at h;omega) (λi hi=>?_) (.inr λ_ _ _=>rfl) (by rw[dB,sL];omega) ?_
  ·nofun
   refine⟨?_,λ_=>trivial⟩
   by_cases h0:c.getD i 0=0
   ·rw[h0];rfl
   ·rw[decide_eq_false (by omega),bne_iff_ne.mpr h0];rfl
  dsimp only
  refine⟨.int (aR c:Nat),L3.HZ (k:=0) (by rw[bP,V1 cx];rfl),rfl,hU _ ?_⟩
  clear hU U
  refine aA λU hU=>?_
  nofun
  refine⟨_,_,_,_,wB _ _ m,Yo T m,VQ m _ (by decide),.int (c.getD (aR c) 0:Nat),by rw[i8 (by omega) (by omega),fO],m,1,c.getD (aR c) 0,by rw[wB];rfl,hm,dq,cp,λz=>absurd z pn,λ_ iv Yw Jd=>?_⟩
  have ei:nt m (c.getD (aR c) 0)=iv:=Ds hm Yw Jd
  refine⟨rfl,hU _ ?_⟩
  clear hU U
  refine aA λU hU=>?_
  nofun
  refine⟨by decide,hU _ ?_⟩
  clear hU U
  refine aA λU hU=>?_
  nofun
  refine fE.mk (λi δ=>∃o6 o7,δ=[some (fD t.aS t.aW m),some (D.lst false (aq c)),some (D.lst false (aE false os)),some (D.int (aR c)),some (D.int iv),some (D.lst true (aE true (cy m c (os.take i)))),o6,o7]) ⟨_,_,rfl⟩ ?_ ?_
  ·rintro i d δ hd ⟨o6,o7,rfl⟩
   obtain⟨hi,rfl⟩:=ch5 hd
   clear hd hU
   obtain⟨ol,oa⟩:=lZ _ (cB hi)
   have op:=oa.getD (show 0<aa m by omega) (aR c)
   obtain⟨C,ns,xs,sp,e1,e2,e3,e4⟩:=Yk (P:=P) (w:=w) (base:=base) T hm
   refine aA λU hU=>?_
   nofun
   obtain⟨C1,n1,x1,sp1,g1,g2,g3,g4⟩:=cA3 (P:=P) (w:=w) (base:=base) T hm
   refine⟨C,ns,xs,sp,e1,e2,e3,C1,n1,x1,sp1,g1,g2,g3,.int (os[i].getD (aR c) 0:Nat),by rw[i8 (by omega) (by omega),fO],g4 _ iv _ op Yw ⟨rfl,e4 os[i] c (gm m (os[i].getD (aR c) 0) iv) _ (cg hm _ _) MF (by omega) ⟨rfl,hU _ ?_⟩⟩⟩
   clear hU
   have ep:cy m c (os.take (i+1))=cy m c (os.take i)++[(cZ (λx y=>bC m x (gm m (gm m (os[i].getD (aR c) 0) iv) y)) os[i] c).take (aR c)++(cZ (λx y=>bC m x (gm m (gm m (os[i].getD (aR c) 0) iv) y)) os[i] c).drop (aR c+1)]:=by
    unfold cy
    rw[mr,aJ hi,RN,gh,dE,jM,ei]
   rw[ep]
   have ll:(cZ (λx y=>bC m x (gm m (gm m (os[i].getD (aR c) 0) iv) y)) os[i] c).length<=64:=by rw[ik];omega
   generalize cZ (λx y=>bC m x (gm m (gm m (os[i].getD (aR c) 0) iv) y)) os[i] c=lf at ll ⊢
   have pl2:(cy m c (os.take i)).length<=1000:=by rw[sr,ig];omega
   nofun
   rw[UZ,show((aR c:Int)+1)=((aR c+1:Nat):Int) by omega,CP]
   exact⟨⟨_,rfl⟩,by rw[ig,jk];omega,by omega,_,_,sj true _ [lf.take (aR c)++lf.drop (aR c+1)],rfl,rfl⟩
  ·rintro δ ⟨o6,o7,rfl⟩
   refine hU _ ?_
   nofun
   rw[tu]
   exact q
theorem Yx(m:Bool × Nat)(p:Nat):∀(l:List Nat) (cs:List (List Nat)),jh m cs (l++[p])=if nul ((jh m cs l).getD p [])=true then jh m cs l else cy m ((jh m cs l).getD p []) (jh m cs l)
 | [],_=>rfl
 | q::l,cs=>Yx m p l (if nul (cs.getD q [])=true then cs else cy m (cs.getD q []) cs)
theorem MG(o:Bool){T:List (List Nat)}{i:Nat}(h:i<T.length):eK (aE o T) (i:Int)=some (.lst o (aq (T.getD i []))):=by
 rw[sk o h,aK,aJ h];rfl
abbrev aV2(t:gB)(P:Program)(w:World)(K:Frag)(mg:Str->Option Value)(base:Heap):bA:=λds Q=>∃(m:Bool × Nat) (cs:List (List Nat)) (aM:List Nat) (h:Nat),ds=[fD t.aS t.aW m,.lst false (aE false cs),.lst false (aq aM)]/\m∈aD/\h<=64/\RT (aa m) h cs/\(∀p∈aM,p<cs.length)/\cs.length<=1000/\aM.length<=1000/\∀o,Q (.lst o (aE o (jh m cs aM)))
theorem aV3(T:Txt K mg t):aQ P w K mg base bf 4 t.Lo t.Lp ["field","columns","lost"] (bw (aV2 t P w K mg base)):=by
 refine bH T.XH JA ?_ ?_
 ·intro ds Q h
  obtain⟨m,cs,aM,h,rfl,hm,hh,e8,hl,hc,Bt,q⟩:=h<;>rfl
 ·intro aI A outer s H E hr
  refine⟨_,(aB (gu eX rfl (CA (cN (bv 2))) (cC (i:=3) JA.nd rfl (ao rfl))
    (aF (bV (mR (gr (ae (aT ((Ee T).mono (by decide)) hr rfl T.DY T.AS.kp T.DZ aP (af (bG (bv 1) (bv 3) (λ_ _=>rfl)) au))))) (aF (aV (i:=1) JA.nd rfl (ao rfl) (aT ((ME T).mono (by decide)) hr rfl T.Mg T.D0.kp T.Mh aP (af (bv 0) (af (bG (bv 1) (bv 3) (λ_ _=>rfl)) (af (bv 1) au)))))) cu)))
   (aF (aU (em 1)))),λds Q h=>?_⟩
  obtain⟨m,cs,aM,h,rfl,hm,hh,e8,hl,hc,Bt,q⟩:=h
  refine aA λU hU=>?_
  nofun
  refine fE.mk (λj δ=>∃(o:Bool) (o1:Option D),δ=[some (fD t.aS t.aW m),some (D.lst o (aE o (jh m cs (aM.take j)))),some (D.lst false (aq aM)),o1]) ⟨false,_,rfl⟩ ?_ ?_
  ·rintro j d δ hd ⟨o,o1,rfl⟩
   obtain⟨h1,rfl⟩:=cj2 hd
   clear hd hU
   have hp:=hl _ (cB h1)
   obtain⟨i1,⟨h',i2,i3⟩,_⟩:=WL hm (ps:=aM.take j) e8 λp hp=>hl p (qg hp)
   have sn:=Yx m aM[j] (aM.take j) cs
   rw[List.take_append_getElem h1]at sn
   rw[<-i1]at hp hc
   generalize jh m cs (aM.take j)=C at *
   obtain⟨c1,c2⟩:=i3.at hp
   nofun
   refine⟨_,MG o hp,C.getD aM[j] [],by rw[iG],by omega,by rw[show(D.bl _).fr=true from rfl,gy],_,rfl,?_⟩
   cases nc:nul (C.getD aM[j] [])with
   | true =>
    rw[if_pos nc]at sn
    rw[if_neg (by decide)]
    exact⟨o,_,⟨rfl,by rw[sn]⟩,rfl⟩
   | false =>
    rw[if_neg (by rw[nc];decide)]at sn
    rw[if_pos (by decide)]
    refine⟨_,MG o hp,m,C.getD aM[j] [],C,by rw[iG],hm,nc,by omega,c2,by rw[c1];exact i3,hc,?_,true,_,by rw[sn],rfl⟩
    rw[eR,pk,kg,gy]
  ·rintro δ ⟨o,o1,rfl⟩
   refine hU _ ?_
   nofun
   rw[tu]
   exact q o
abbrev Bu(t:gB)(P:Program)(w:World)(K:Frag)(mg:Str->Option Value)(base:Heap)(n:Nat):bA:=λds Q=>∃(m:Bool × Nat) (cs:List (List Nat)) (d:List Nat) (k h:Nat),ds=[fD t.aS t.aW m,.lst false (aE false cs),.lst false (aq d),.int k]/\m∈aD/\k<n/\k<=64/\h<=64/\RT (aa m) h cs/\cs.length<=900/\d.length=h/\AllLt (aa m) d/\Q (j9 (fJ m k cs d))
theorem Yy{t:gB}{P:Program}{w:World}{K:Frag}{mg:Str->Option Value}{base:Heap}{ds:List D}(Q:D->Prop)(h:Bu t P w K mg base 0 ds Q):False:=by
 obtain⟨_,_,_,_,_,_,_,h,_⟩:=h
 exact absurd h (Gd _)
theorem br0(T:Txt K mg t)(n:Nat)(ih:aQ P w K mg base bf (4+n) t.yu t.yv ["field","columns","due","most"] (bw (Bu t P w K mg base n))):aQ P w K mg base bf (4+(n+1)) t.yu t.yv ["field","columns","due","most"] (bw (Bu t P w K mg base (n+1))):=by
 refine bH (k:=4+n) T.Mi AM ?_ ?_
 ·intro ds Q h
  obtain⟨m,cs,d,k,h,rfl,hm,hk,en4,hh,e8,hc,hd,ad,q⟩:=h<;>rfl
 ·intro aI A outer s H E hr
  refine⟨_,(aB (bV (gr (ae (aT ((Ee T).mono (by omega)) hr rfl T.DY T.AS.kp T.DZ aP (af (bv 2) au)))) (aF (aU (eM dH))) cu)
   (aB (bV (bO (fV (dr hr)) (bv 3) (ae aw) (bL _)) (aF (aU fC)) cu)
   (aB (gu eX rfl (rN rfl T.sJ (af (bv 1) au)) (gv (i1:=4) (i2:=5) rfl AM.nd rfl (aX rfl) rfl (ao rfl))
    (aF (bV (mR (gr (ae (aT ((Ee T).mono (by omega)) hr rfl T.DY T.AS.kp T.DZ aP (af (bv 5) au))))) (aB (aV (i:=6) AM.nd rfl (ao rfl) (Cw (bO HC (bv 3) (ae aw) (bL _)) (uT (bv 1) (uh (ae (aG cQ (bv 4) (ae aw)))) ug) (eM dH)))
     (aB (aV (i:=7) AM.nd rfl (ao rfl) (aT ((ME T).mono (by omega)) hr rfl T.Mg T.D0.kp T.Mh aP (af (bv 0) (af (bv 5) (af (ae (aG cQ (bv 6) (wL (af (bv 2) au)))) au)))))
     (oo 7 (aB (aV (i:=8) AM.nd rfl (ao rfl) (aT ih hr rfl T.XI T.Mi.kp T.XJ aP (af (bv 0) (af (ae (uT (bv 7) ug (uh (ae (HI (ae aw)))))) (af (bG (bv 7) (ae (HI (ae aw))) (λ_ _=>rfl)) (af (ae (aG gD (bv 3) (ae aw))) au))))))
     (aF (bV (bO HD (bv 8) (ae fC) (bL _)) (aF (aU (aG cQ (wL (af (bv 4) au)) (ae (du [("number",4)] ["k"] rfl (fS (bv 8)) (λ_ _ _ _=>(cC (i:=1) (show(["number","k"]:List Str).Nodup by decide +kernel) rfl (ao (lr1 rfl)) (by decide) (aX (lr1 rfl)))) (λ_ _ _ _=>dw) (λ_ _ _ _=>(aG cQ (ae (aG cQ (bv 0) (ae aw))) (bv 1))) rfl ⟨rfl,trivial⟩ (λ_=>by repeat' (first | exact trivial | refine⟨.inl rfl,?_⟩ | refine⟨.inr (.inl rfl),?_⟩ | refine⟨.inr (.inr ⟨_,rfl⟩),?_⟩)) (λ_=>⟨⟨rfl,.inl rfl,.inl rfl,_,rfl,rfl⟩,trivial⟩) rfl (by decide +kernel)))))) cu)))))) cu)))
   (aF (aU fC))))),λds Q h=>?_⟩
  obtain⟨m,cs,d,k,h,rfl,hm,hk,en4,hh,e8,hc,hd,ad,q⟩:=h
  refine aA λU hU=>?_
  nofun
  refine⟨d,rfl,by omega,_,rfl,?_⟩
  cases nd:nul d with
  | true =>
   rw[if_pos rfl]
   have e:fJ m k cs d=some []:=by cases k<;>exact if_pos nd
   rw[e]at q
   exact⟨by decide,q⟩
  | false =>
  rw[if_neg (by decide)]
  have mO:¬ nul d=true:=by rw[nd];decide
  refine hU _ ?_
  clear hU U
  refine aA λU hU=>?_
  nofun
  cases k with
  | zero =>
   rw[if_pos (by rfl)]
   have e:fJ m 0 cs d=none:=if_neg mO
   rw[e]at q
   exact q
  | succ k =>
  rw[if_neg (by omega)]
  refine hU _ ?_
  clear hU U
  have en:fJ m (k+1) cs d=(aZ cs.length).findSome? λi=>if nul (cs.getD i [])=true then none else(fJ m k (cy m (cs.getD i []) (cs.drop (i+1))) (p1 m (cs.getD i []) d)).map λS=>i::S.map (i+1 + ·):=if_neg mO
  rw[en]at q
  clear en
  refine aA λU hU=>?_
  nofun
  refine fE.mk (λj δ=>∃o1 o2 o3 o4 o5:Option D,(∀i,i<j->(if nul (cs.getD i [])=true then none else(fJ m k (cy m (cs.getD i []) (cs.drop (i+1))) (p1 m (cs.getD i []) d)).map λS=>i::S.map (i+1 + ·))=none)/\δ=[some (fD t.aS t.aW m),some (D.lst false (aE false cs)),some (D.lst false (aq d)),some (D.int ((k+1:Nat):Int)),o1,o2,o3,o4,o5]) ⟨_,_,_,_,_,λi hi=>absurd hi (Gd i),rfl⟩ ?_ ?_
  ·rintro j x δ hx ⟨o1,o2,o3,o4,o5,hn,rfl⟩
   obtain⟨h1,rfl⟩:=ID hx
   have eg:cs[j]=cs.getD j []:=by rw[aK,aJ h1];rfl
   rw[eg]
   clear hx hU eg
   obtain⟨c1,c2⟩:=e8.at h1
   nofun
   refine⟨cs.getD j [],rfl,by omega,_,rfl,?_⟩
   have more:∀y,(if nul (cs.getD j [])=true then none else(fJ m k (cy m (cs.getD j []) (cs.drop (j+1))) (p1 m (cs.getD j []) d)).map λS=>j::S.map (j+1 + ·))=y->y=none->∀i,i<j+1->(if nul (cs.getD i [])=true then none else(fJ m k (cy m (cs.getD i []) (cs.drop (i+1))) (p1 m (cs.getD i []) d)).map λS=>i::S.map (i+1 + ·))=none:=λy hy yE i hi=>by
    by_cases c:i<j
    ·exact hn i c
    ·obtain rfl:i=j:=by omega
     exact hy.trans yE
   cases nc:nul (cs.getD j [])with
   | true =>
    rw[if_neg (by decide)]
    exact⟨_,_,_,_,_,more _ (if_pos nc) rfl,rfl,rfl,rfl,rfl,rfl⟩
   | false =>
    rw[if_neg (by rw[nc];decide)]at more
    rw[if_pos (by decide)]
    refine aA λU hU=>?_
    nofun
    have fin:∀B:List (List Nat),fJ m k (cy m (cs.getD j []) B) (p1 m (cs.getD j []) d)=fJ m k (cy m (cs.getD j []) (cs.drop (j+1))) (p1 m (cs.getD j []) d)->RT (aa m) h B->B.length<=900->U [some (fD t.aS t.aW m),some (D.lst false (aE false cs)),some (D.lst false (aq d)),some (D.int ((k+1:Nat):Int)),some (D.int j),some (D.lst false (aq (cs.getD j []))),some (D.lst true (aE false B)),o4,o5]:=by
     intro B eB hB lB
     refine hU _ ?_
     clear hU U
     refine aA λU hU=>?_
     nofun
     refine⟨by decide,by omega,m,cs.getD j [],B++[d],?_,hm,nc,by omega,c2,by rw[c1];exact hB.app λx hx=>by rw[dW.mp hx];exact⟨hd,ad⟩,by rw[dS];exact eG (Nat.add_le_add_right lB 1) (by decide),by rw[eR,pk];rfl,hU _ ?_⟩
     ·rw[show [D.lst false (aq d)]=aE false [d] from rfl,sj,dj]
     clear hU U
     refine⟨_,rfl,?_⟩
     obtain⟨x1,x2⟩:=wR hm c1 hd ad nc
     have hF:=wN hm c1 hB nc
     have lF:=sr m (cs.getD j []) B
     rw[show cy m (cs.getD j []) (B++[d])=cy m (cs.getD j []) B++[p1 m (cs.getD j []) d] by rw[Jo,gh];rfl,de,dj]
     have got:∀S,fJ m k (cy m (cs.getD j []) B) (p1 m (cs.getD j []) d)=some S->Q (j9 (some (j::S.map (j+1 + ·)))):=λS e=>by
      rw[WX (b:=j::S.map (j+1 + ·)) hn (by rw[if_neg (by rw[nc];decide),<- eB,e];rfl) h1]at q
      exact q
     have ay:=λe:fJ m k (cy m (cs.getD j []) B) (p1 m (cs.getD j []) d)=none=>more none (by rw[<-eB,e];rfl) rfl
     clear q more hn eB
     generalize cy m (cs.getD j []) B=F at got ay hF lF ⊢
     generalize p1 m (cs.getD j []) d=x at got ay x1 x2 ⊢
     refine aA λU hU=>?_
     nofun
     refine⟨_,b05 false F x,m,F,x,k,h-1,by rw[cp3,iG,show((k+1:Nat):Int)-1=(k:Int) by omega],hm,by omega,by omega,by omega,hF,by omega,x1,x2,AH _,hU _ ?_⟩
     clear hU U
     nofun
     cases ex:fJ m k F x with
     | none =>
      rw[if_neg (by exact gg)]
      exact⟨_,_,_,_,_,ay ex,rfl,rfl,rfl,rfl,rfl⟩
     | some S =>
      have got:=got S ex
      have lS:=(Jr hm hF x1 x2 ex).1
      rw[if_pos (by exact rfl)]
      refine⟨by decide,aq S,rfl,dX S (λ(i:Nat)=>D.int (i:Int)) (λx=>D.int ((j+1+x:Nat):Int)) (m6 S) g8 (λx hx=>?_) (.inr λ_ _=>rfl) (by rw[sL];omega) ?_⟩
      ·nofun
       omega
      ·dsimp only
       rw[show(S.map λx=>D.int ((j+1+x:Nat):Int))=aq (S.map (j+1 + ·)) by rw[cw,bZ];rfl]
       refine⟨⟨by rw[eo,br];show 1+_<=_;omega,rfl,kI _⟩,?_⟩
       rw[show [D.int (j:Int)]=aq [j] from rfl,oU]
       exact got
    clear hU
    split
    ·rw[show((j:Int)+1)=((j+1:Nat):Int) by omega,CP]
     exact fin _ rfl (e8.drop _) (by rw[jk];omega)
    ·refine⟨by decide,fin [] ?_ (λx hx=>by cases hx) (by decide)⟩
     rw[show k=0 by omega]
     rfl
  ·rintro δ ⟨o1,o2,o3,o4,o5,hn,rfl⟩
   refine hU _ ?_
   nofun
   rw[oR,i9]at hn
   rw[WW hn]at q
   exact q
theorem Yz(T:Txt K mg t):∀n:Nat,aQ P w K mg base bf (4+n) t.yu t.yv ["field","columns","due","most"] (bw (Bu t P w K mg base n))
 | 0=>⟨λ_ _ _ _ ⟨_,_,_,_,_,h,_⟩=>(Yy _ h).elim,λ_ _ _ _ _ _ _ _ _ _ _ _ _ ⟨_,_,_,_,_,h,_⟩=>(Yy _ h).elim⟩
 | n+1=>br0 T n (Yz T n)
theorem aK8(T:Txt K mg t):aQ P w K mg base bf 12 t.yu t.yv ["field","columns","due","most"] (bw (Bu t P w K mg base 8)):=Yz T 8
abbrev aY6:bA:=λds Q=>∃T:List (List Nat),ds=[.lst false (aE false T)]/\T.length<=1000/\(∀r∈T,r.length=ag T)/\ag T<=1000/\Q (.lst true (aE true (cJ T)))
theorem YA(T:Txt K mg t):aQ P w K mg base bf 2 t.Lq t.Lr ["table"] (bw (aY6 )):=by
 refine bH T.Mj aY2 ?_ ?_
 ·intro ds Q h
  obtain⟨G,rfl,hG,hr,hw,q⟩:=h<;>rfl
 ·intro aI A outer s H E hr
  refine⟨_,(aF (aU (du [("table",0)] ["j"] rfl (kF rfl T.iL (af (ae (aT ((Bq T).mono (by decide)) hr rfl T.AO T.yw.kp T.AQ aP (af (bv 0) au))) au)) (λ_ _ _ _=>(cC (i:=1) (show(["table","j"]:List Str).Nodup by decide +kernel) rfl (aX rfl) (by decide) (ao rfl))) (λ_ _ _ _=>dw) (by exact λ_ _ _ _=>(du [("j",1)] ["row"] rfl (fS (bv 0)) (λ_ _ _ _=>(cC (i:=1) (show(["j","row"]:List Str).Nodup by decide +kernel) rfl (ao (lr1 rfl)) (by decide) (aX (lr1 rfl)))) (λ_ _ _ _=>dw) (λ_ _ _ _=>(cN (bG (bv 1) (bv 0) (λ_ _=>rfl)))) rfl ⟨rfl,trivial⟩ (λ_=>by repeat' (first | exact trivial | refine⟨.inl rfl,?_⟩ | refine⟨.inr (.inl rfl),?_⟩ | refine⟨.inr (.inr ⟨_,rfl⟩),?_⟩)) (λ_=>⟨⟨rfl,.inl rfl,.inl rfl,_,rfl,rfl⟩,trivial⟩) rfl (by decide +kernel))) rfl ⟨rfl,trivial⟩ (λ_=>by repeat' (first | exact trivial | refine⟨.inl rfl,?_⟩ | refine⟨.inr (.inl rfl),?_⟩ | refine⟨.inr (.inr ⟨_,rfl⟩),?_⟩)) (λ_=>⟨⟨rfl,.inl rfl,.inl rfl,_,rfl,rfl⟩,trivial⟩) rfl (by decide +kernel)))),λds Q h=>?_⟩
  obtain⟨G,rfl,hG,hr,hw,q⟩:=h
  nofun
  refine⟨G,rfl,hG,λr bg=>by rw[hr r bg];exact hw,?_⟩
  dsimp only
  refine⟨_,rfl,⟨by omega,by omega⟩,?_⟩
  refine dX (aZ (ag G)) (λ(i:Nat)=>D.int (i:Int)) (λj=>D.lst true (aq (G.map λr=>r.getD j 0))) (se _ rfl) g8 (λj hj=>?_) (.inr λj _=>gJ _) (by rw[dB,sL];omega) ?_
  ·have hj:=cS.mp hj
   nofun
   refine dX G (λr=>D.lst false (aq r)) (λr=>D.int ((r.getD j 0:Nat):Int)) (by rw[dj];rfl) (λa b h=>nh a b h) (λr bg=>?_) (.inr λr _=>rfl) (by rw[sL];omega) ?_
   ·nofun
    have hl:=hr r bg
    exact⟨.int (r.getD j 0:Nat),by rw[i8 (by omega) (by omega),fO],rfl,rfl⟩
   ·rw[cw,bZ];rfl
  ·unfold cJ aE at q
   rw[bZ]at q
   exact q
abbrev aO4(t:gB)(P:Program)(w:World)(K:Frag)(mg:Str->Option Value)(base:Heap):bA:=λds Q=>∃(m:Bool × Nat) (T:List (List Nat)) (aM sums:List Nat) (k:Nat),ds=[fD t.aS t.aW m,.lst false (aE false T),.lst false (aq aM),.lst false (aq sums),.int k]/\m∈aD/\0<ag T/\ag T<=64/\RT (aa m) (ag T) T/\T.length<=64/\(∀p∈aM,p<ag T)/\aM.length<=64/\sums.length=T.length/\AllLt (aa m) sums/\k<=7/\Q (j9 (va m T aM sums k))
theorem aO5(T:Txt K mg t):aQ P w K mg base bf 13 t.Lu t.Lw ["field","table","lost","sums","most"] (bw (aO4 t P w K mg base)):=by
 refine bH T.XO DO ?_ ?_
 ·intro ds Q h
  obtain⟨m,T,aM,sums,k,rfl,hm,hw,Ef,hT,kM,hl,Bt,ls,as,hk,q⟩:=h<;>rfl
 ·intro aI A outer s H E hr
  refine⟨_,(aB (aV (i:=5) DO.nd rfl (aX rfl) (aT ((aV3 T).mono (by decide)) hr rfl T.eb3 T.XH.kp T.eb4 aP (af (bv 0) (af (cO8 (VV (aT ((YA T).mono (by decide)) hr rfl T.XM T.Mj.kp T.XN aP (af (bv 1) au)) (eM (e5 (em 3) dH)))) (af (bv 2) au)))))
   (oo 5 (aB (aV (i:=6) DO.nd rfl (aX rfl) (du [("lost",2)] ["place"] rfl (kF rfl T.iL (af (ae (aG gD (ae (dQ (fW) (by rfl) T.fY fQ (af (bv 5) au))) (ae aw))) au)) (λ_ _ _ _=>(cC (i:=1) (show(["lost","place"]:List Str).Nodup by decide +kernel) rfl (ao (lr1 rfl)) (by decide) (aX (lr1 rfl)))) (λ_ _ _ _=>(ud (bO VX (bv 1) (bv 0) (by with_unfolding_all rfl)))) (λ_ _ _ _=>(cN (bv 1))) rfl ⟨rfl,trivial⟩ (λ_=>by repeat' (first | exact trivial | refine⟨.inl rfl,?_⟩ | refine⟨.inr (.inl rfl),?_⟩ | refine⟨.inr (.inr ⟨_,rfl⟩),?_⟩)) (λ_=>⟨⟨rfl,.inl rfl,.inl rfl,_,rfl,rfl⟩,trivial⟩) rfl (by decide +kernel)))
   (oo 6 (aB (aV (i:=7) DO.nd rfl (ao rfl) (aT ((aK8 T).mono (by decide)) hr rfl T.XI T.Mi.kp T.XJ aP (af (bv 0) (af (ae (du [("columns",5)] ["place"] rfl (fS (bv 6)) (λ_ _ _ _=>(cC (i:=1) (show(["columns","place"]:List Str).Nodup by decide +kernel) rfl (ao (lr1 rfl)) (by decide) (aX (lr1 rfl)))) (λ_ _ _ _=>dw) (λ_ _ _ _=>(cN (bG (bv 0) (bv 1) (λ_ _=>rfl)))) rfl ⟨rfl,trivial⟩ (λ_=>by repeat' (first | exact trivial | refine⟨.inl rfl,?_⟩ | refine⟨.inr (.inl rfl),?_⟩ | refine⟨.inr (.inr ⟨_,rfl⟩),?_⟩)) (λ_=>⟨⟨rfl,.inl rfl,.inl rfl,_,rfl,rfl⟩,trivial⟩) rfl (by decide +kernel))) (af (bG (bv 5) (ae (HI (ae aw))) (λ_ _=>rfl)) (af (bv 4) au))))))
   (aF (aU (Cw (bO q9 (bv 7) (ae fC) (bL _)) fC (du [("others",6)] ["number"] rfl (fS (bv 7)) (λ_ _ _ _=>(cC (i:=1) (show(["others","number"]:List Str).Nodup by decide +kernel) rfl (ao (lr1 rfl)) (by decide) (aX (lr1 rfl)))) (λ_ _ _ _=>dw) (λ_ _ _ _=>(cN (bG (bv 0) (bv 1) (λ_ _=>rfl)))) rfl ⟨rfl,trivial⟩ (λ_=>by repeat' (first | exact trivial | refine⟨.inl rfl,?_⟩ | refine⟨.inr (.inl rfl),?_⟩ | refine⟨.inr (.inr ⟨_,rfl⟩),?_⟩)) (λ_=>⟨⟨rfl,.inl rfl,.inl rfl,_,rfl,rfl⟩,trivial⟩) rfl (by decide +kernel)))))))))),λds Q h=>?_⟩
  obtain⟨m,T,aM,sums,k,rfl,hm,hw,Ef,hT,kM,hl,Bt,ls,as,hk,q⟩:=h
  have dq:=(cE hm).lo
  obtain⟨t1,t2,t3⟩:=wK (N:=aa m) (by omega) hw hT
  refine aA λU hU=>?_
  nofun
  refine⟨T,rfl,by omega,λr hr=>(hT r hr).1,by omega,?_⟩
  have MH:(aE true (cJ T)++[D.lst false (aq sums)]).map D.sh=aE false (cJ T++[sums]):=by
   rw[gh,dj,show [D.lst false (aq sums)].map D.sh=aE false [sums] by rw[List.map_singleton,iG];rfl,sj]
  have lc:(cJ T++[sums]).length=ag T+1:=by rw[dS,t1];rfl
  obtain⟨i1,h',i2,i3,i4,i5,i6,_⟩:=Ju hm hw hT hl ls as
  refine⟨by decide,_,_,rfl,rfl,by rw[i9,t1];show ag T+1<=_;omega,m,cJ T++[sums],aM,T.length,by rw[MH,dj],hm,kM,t3.app λx hx=>by rw[dW.mp hx];exact⟨ls,as⟩,λp hp=>by rw[lc];have:=hl p hp;omega,by omega,by omega,λo=>⟨by rw[MH,nq];rfl,hU _ ?_⟩⟩
  clear hU U MH
  refine⟨_,rfl,?_⟩
  rw[de,dj]
  have eC:wC m T aM sums=jh m (cJ T++[sums]) aM:=rfl
  rw[<-eC]
  unfold va at q
  generalize wC m T aM sums=C at i1 i3 i4 i5 i6 q ⊢
  clear eC
  refine aA λU hU=>?_
  nofun
  refine⟨⟨by omega,by omega⟩,u5 (aZ (ag T)) (λ(i:Nat)=>D.int (i:Int)) (λ(i:Nat)=>D.int (i:Int)) (λp=>decide (p ∉ aM)) (se _ (by omega)) g8 (λj hj=>?_) (.inr λ_ _ _=>rfl) (by rw[dB,sL];omega) ?_⟩
  ·nofun
   refine⟨_,rfl,?_,λ_=>trivial⟩
   rw[IF,List.contains_eq_mem,decide_not]
  rw[show((aZ (ag T)).filter λp=>decide (p ∉ aM))=cM (ag T) aM from rfl,<- cw]
  dsimp only[gj,gi]
  have ol:(cM (ag T) aM).length<=ag T:=eG (BW ..) (by rw[dB];exact bM _)
  refine hU _ ?_
  clear hU U
  refine⟨_,rfl,?_⟩
  rw[iG]
  refine aA λU hU=>?_
  dsimp only[mV,mU,mT,kD,mS,nR,nQ,gj,gi]
  unfold mW ou
  dsimp only[kD,nR,nQ,iW]
  refine⟨_,rfl,dX (cM (ag T) aM) (λ(i:Nat)=>D.int (i:Int)) (λp=>D.lst false (aq (C.getD p []))) (m6 _) g8 (λp hp=>?_) (.inl ?_) (by rw[sL];omega) ?_⟩
  ·have:=(wU.mp hp).1
   nofun
   exact⟨_,MG false (by omega),by rw[fi,kI];rfl,rfl⟩
  ·show((D.lst false (aq _)).pl&&((D.lst false (aE false C)).pl&&true))=true
   rw[fi,fi,kI,nq];rfl
  rw[show((cM (ag T) aM).map λp=>D.lst false (aq (C.getD p [])))=aE false ((cM (ag T) aM).map λp=>C.getD p []) by unfold aE;rw[bZ];rfl]
  have la:=WV false i1
  generalize C.getD (ag T) []=x at i5 i6 q la ⊢
  generalize eO:(cM (ag T) aM).map (λp=>C.getD p [])=O at i4 q ⊢
  have lO:O.length=(cM (ag T) aM).length:=by rw[<-eO,br]
  nofun
  refine⟨_,la,m,O,x,k,h',by rw[iG],hm,by omega,by omega,by omega,i4,by omega,i5,i6,AH _,hU _ ?_⟩
  clear hU U
  cases en:fJ m k O x with
  | none =>
   rw[en]at q
   nofun
   rw[if_pos (by exact rfl)]
   exact q
  | some S =>
   rw[en]at q
   obtain⟨s1,s2,s3,_⟩:=Jr hm i4 i5 i6 en
   rw[show j9 (some S)=D.lst true (aq S) from rfl]
   nofun
   refine dX S (λ(i:Nat)=>D.int (i:Int)) (λi=>D.int (((cM (ag T) aM).getD i 0:Nat):Int)) (m6 S) g8 (λi hi=>?_) (.inr λ_ _=>rfl) (by rw[sL];omega) ?_
   ·have:=s3 i hi
    nofun
    exact⟨_,i8 (by omega) (by omega),rfl,by rw[fO]⟩
   ·rw[show(S.map λi=>D.int (((cM (ag T) aM).getD i 0:Nat):Int))=aq (S.map λi=>(cM (ag T) aM).getD i 0) by rw[cw,bZ];rfl]
    exact q
theorem YB(m:Bool × Nat)(p x:Nat):∀{ps xs l:List Nat},xs.length=ps.length->eU m l (ps++[p]) (xs++[x])=(eU m l ps xs).set p (bC m (cf (eU m l ps xs) p) x)
 | [],[],l,_=>by simp only[nH,eU]
 | _::ps,_::xs,l,h=>by
  simp only[nO,eU]
  exact YB m p x (by simpa using h)
theorem YC{m:Bool × Nat}(hm:m∈aD):∀{ps xs l:List Nat},AllLt (aa m) l->AllLt (aa m) xs->AllLt (aa m) (eU m l ps xs)/\(eU m l ps xs).length=l.length
 | [],_,l,h,_=>by unfold eU;exact⟨h,rfl⟩
 | _::_,[],l,h,_=>by unfold eU;exact⟨h,rfl⟩
 | p::ps,x::xs,l,hl,hx=>by
  rw[eU]
  have:=YC hm (ps:=ps) (xs:=xs) (l:=l.set p (bC m (cf l p) x)) (λa ha=>by
   rcases yV ha with h1 | rfl
   ·exact hl a h1
   ·exact(fG hm (cF hm hl p) (hx x fZ)).2.1) λa ha=>hx a (dY _ ha)
  rw[nG]at this
  exact this
abbrev aV4(cb cp:Addr):bA:=λds Q=>∃(m:Bool × Nat) (l ps xs:List Nat),ds=[fD cb cp m,.lst false (aq l),.lst false (aq ps),.lst false (aq xs)]/\m∈aD/\AllLt (aa m) l/\AllLt (aa m) xs/\xs.length=ps.length/\(∀p∈ps,p<l.length)/\l.length<=1000/\ps.length<=1000/\Q (.lst true (aq (eU m l ps xs)))
theorem aV5(T:Txt K mg t):aQ P w K mg base bf 2 t.Lx t.Ly ["field","word","places","signs"] (bw (aV4 t.aS t.aW)):=by
 refine bH T.XQ JB ?_ ?_
 ·intro ds Q h
  obtain⟨m,l,ps,xs,rfl,hm,hl,hx,ue,hp,Bp,Mq,q⟩:=h<;>rfl
 ·intro aI A outer s H E hr
  refine⟨_,(aB (aV (i:=4) JB.nd rfl (ao rfl) (CH (CI) (by rfl) T.sM qy (af (bv 1) au)))
   (aB (gu eX rfl (lU rfl T.mm (af (bv 2) (af (bv 3) au))) (gv (i1:=5) (i2:=6) rfl JB.nd rfl (ao rfl) rfl (ao rfl))
    (aF (wg (i:=4) rfl (by first | exact ao rfl | exact aX (ao rfl)) (rY (P:=P) (w:=w) (K:=K) (mg:=mg) (base:=base) (n:=1) (bv 0) (hr.mono (by decide)) (af (bG (bv 4) (bv 5) (λ_ _=>rfl)) (af (bv 6) au))) (bv 5))))
   (aF (aU (em 4))))),λds Q h=>?_⟩
  obtain⟨m,l,ps,xs,rfl,hm,hl,hx,ue,hp,Bp,Mq,q⟩:=h
  refine aA λU hU=>?_
  nofun
  refine hU _ ?_
  clear hU U
  refine aA λU hU=>?_
  nofun
  refine⟨_,_,rfl,rfl,?_⟩
  refine fE.mk (λj δ=>∃o3 o4,δ=[some (fD t.aS t.aW m),some (D.lst false (aq l)),some (D.lst false (aq ps)),some (D.lst false (aq xs)),some (D.lst true (aq (eU m l (ps.take j) (xs.take j)))),o3,o4]) ⟨_,_,rfl⟩ ?_ ?_
  ·rintro j d δ hd ⟨o3,o4,rfl⟩
   obtain⟨h1,h2,rfl⟩:=cD6 hd
   clear hd
   nofun
   obtain⟨C,ns,zs,sp,e1,e2,e3,e4⟩:=Yf (P:=P) (w:=w) (base:=base) T (bW m hm)
   obtain⟨b1,b2⟩:=YC hm (ps:=ps.take j) (xs:=xs.take j) hl λa ha=>hx a (qg ha)
   have YD:=hp _ (cB h1)
   rw[<-b2]at YD
   refine⟨C,ns,zs,sp,e1,e2,e3,.int ((eU m l (ps.take j) (xs.take j)).getD ps[j] 0:Nat),by rw[i8 (by omega) (by omega),fO],?_⟩
   refine e4 _ _ _ ⟨rfl,_,_,rfl,Aq (by omega) (by rw[eo,fO];exact YD),_,_,?_,rfl,rfl⟩
   rw[(fG hm (b1.getD (by have:=(cE hm).lo;omega) _) (hx _ (cB h2))).1,fO,Dn,mr,mr,aJ h1,aJ h2]
   exact congrArg aq (YB m _ _ (by rw[ig,ig];omega)).symm
  ·rintro δ ⟨o3,o4,rfl⟩
   rw[cl2,tw (by omega),tw (by omega)]
   refine hU _ ?_
   nofun
   exact q
abbrev aW9:bA:=λds Q=>∃(G:List (List Nat)) (u:List Nat),ds=[.lst false (aE false G),.lst false (aq u)]/\G.length<=1000/\(∀r∈G,r.length<=1000)/\Q (.lst true (aE true (cY G u)))
theorem aX0(T:Txt K mg t):aQ P w K mg base bf 1 t.Lz t.LA ["table","due"] (bw (aW9 )):=by
 refine bH T.XR aW0 ?_ ?_
 ·intro ds Q h
  obtain⟨G,u,rfl,hG,hr,q⟩:=h<;>rfl
 ·intro aI A outer s H E hr
  refine⟨_,(aF (aU (du [] ["row","x"] rfl (lU rfl T.mm (af (bv 0) (af (bv 1) au))) (λ_ _ _ _=>(gv (i1:=0) (i2:=1) rfl (show(["row","x"]:List Str).Nodup by decide +kernel) rfl (ao (lr1 rfl)) rfl (ao (lr1 rfl)) (by decide) (by decide) (aX (lr1 rfl)) (aX (lr1 rfl)))) (λ_ _ _ _=>dw) (λ_ _ _ _=>(aG cQ (bv 0) (wL (af (bv 1) au)))) rfl trivial (λ_=>by repeat' (first | exact trivial | refine⟨.inl rfl,?_⟩ | refine⟨.inr (.inl rfl),?_⟩ | refine⟨.inr (.inr ⟨_,rfl⟩),?_⟩)) (λ_=>trivial) rfl (by decide +kernel)))),λds Q h=>?_⟩
  obtain⟨G,u,rfl,hG,hr,q⟩:=h
  nofun
  refine⟨_,_,rfl,rfl,?_⟩
  refine Iu (G.zip u) (λz=>D.tup [.lst false (aq z.1),.int ((z.2:Nat):Int)]) (λz=>D.lst true (aq (z.1++[z.2]))) (cg7 G u) (λa b h=>?_) (λz hz=>?_) Iw (.inr λz _=>gJ _) (by rw[qj,sL];omega) ?_
  ·injection h with h
   simp only[tJ,D.lst.injEq,D.int.injEq,and_true,true_and]at h
   exact yZ (VW h.1) (by omega)
  ·have hl:=hr _ (sU hz).1
   nofun
   exact⟨by decide,by omega,oU z.1 [z.2]⟩
  ·unfold cY aE at q
   rw[tE]at q
   rw[mw,tE]
   exact q
def MI:Option (List Nat)->D
 | some l=>.lst true (aq l)
 | none=>.ay
abbrev aY7(t:gB)(P:Program)(w:World)(K:Frag)(mg:Str->Option Value)(base:Heap):bA:=λds Q=>∃(m:Bool × Nat) (G:List (List Nat)) (u:List Nat),ds=[fD t.aS t.aW m,.lst false (aE false G),.lst false (aq u)]/\m∈aD/\0<G.length/\G.length<=900/\u.length=G.length/\RT (aa m) (ag G) G/\AllLt (aa m) u/\ag G<=800/\(∀r∈cG m (cY G u),∃x∈r,x≠0)/\Q (MI (wJ m G u))
theorem aY8(T:Txt K mg t):aQ P w K mg base bf 4 t.LB t.LC ["field","table","due"] (bw (aY7 t P w K mg base)):=by
 refine bH T.XS yh ?_ ?_
 ·intro ds Q h
  obtain⟨m,G,u,rfl,hm,YE,hG,hu,hR,YF,hw,hn,q⟩:=h<;>rfl
 ·intro aI A outer s H E hr
  refine⟨_,(aB (aV (i:=3) yh.nd rfl (ao rfl) (aT ((Bq T).mono (by decide)) hr rfl T.AO T.yw.kp T.AQ aP (af (bv 1) au)))
   (aB (aV (i:=4) yh.nd rfl (ao rfl) (aT ((Yp T).mono (by decide)) hr rfl T.Xt T.L6.kp T.Xu aP (af (bv 0) (af (ae (aT ((aX0 T).mono (by decide)) hr rfl T.eb9 T.XR.kp T.ec0 aP (af (bv 1) (af (bv 2) au)))) au))))
   (aB (aV (i:=5) yh.nd rfl (ao rfl) (aT ((Mu T).mono (by decide)) hr rfl T.L1 T.DS.kp T.L4 aP (af (bv 4) au)))
   (oo 5 (oo 4 (aB (bV (bO cV1 (bv 3) (bv 5) (by with_unfolding_all rfl)) (aF (aU fC)) cu)
   (aB (aV (i:=6) yh.nd rfl (ao rfl) (aG iB (ae (eM (e5 aw dH))) (bv 3)))
   (aB (gu eX rfl (lU rfl T.mm (af (bv 5) (af (bv 4) au))) (gv (i1:=7) (i2:=8) rfl yh.nd rfl (ao rfl) rfl (ao rfl))
    (aF (wg (i:=6) rfl (by first | exact ao rfl | exact aX (ao rfl)) (cN (bG (bv 8) (bv 3) (λ_ _=>rfl))) (bv 7))))
   (aF (aU (em 6))))))))))),λds Q h=>?_⟩
  obtain⟨m,G,u,rfl,hm,YE,hG,hu,hR,YF,hw,hn,q⟩:=h
  have dq:=(cE hm).lo
  refine aA λU hU=>?_
  nofun
  refine⟨G,rfl,by omega,λr bg=>by rw[(hR r bg).1];omega,hU _ ?_⟩
  clear hU U
  refine aA λU hU=>?_
  nofun
  refine⟨G,u,rfl,by omega,λr bg=>by rw[(hR r bg).1];omega,?_⟩
  obtain⟨w1,w2,w3⟩:=IW YE hu hR YF
  have w4:=w3
  rw[<-w1]at w4
  have I:=wD hm w4 (ag (cY G u))
  have il:(cG m (cY G u)).length<=900:=by
   show(jc m (cY G u) (ag (cY G u))).1.length<=900
   have:=I.l
   omega
  have ia:RT (aa m) (ag G+1) (cG m (cY G u)):=by rw[<-w1];exact I.a
  have vg:∀X:List (List Nat),(D.lst true (aE true X)).fr=true:=λX=>by rw[eR,pk];rfl
  refine⟨m,cY G u,by rw[de,dj],hm,by omega,w4,by omega,by rw[vg,gy],hU _ ?_⟩
  clear hU U
  unfold wJ at q
  generalize cG m (cY G u)=R at il ia hn q ⊢
  refine aA λU hU=>?_
  nofun
  refine⟨R,rfl,by omega,λr bg=>⟨by rw[(ia r bg).1];omega,hn r bg⟩,gJ _,hU _ ?_⟩
  clear hU U
  refine⟨_,rfl,_,rfl,?_⟩
  rw[iG]
  simp only[gj,gi,de,dj]
  refine aA λU hU=>?_
  nofun
  refine⟨_,rfl,?_⟩
  have mc:=IF (ag G) (R.map aR)
  split
  ·rename_i h
   rw[decide_eq_true h]at mc
   rw[if_pos mc.symm]at q
   exact q
  rename_i h
  rw[decide_eq_false h]at mc
  rw[if_neg (by rw[<-mc];decide)]at q
  refine hU _ ?_
  clear hU U
  refine aA λU hU=>?_
  nofun
  have er:aL (bF (ag G) 0)=aq (bF (ag G) 0):=by
   rw[cw,Gh];unfold aL;rw[Gh];rfl
  rw[fO,er]
  refine⟨by decide,⟨by omega,by omega,by omega⟩,hU _ ?_⟩
  clear hU U
  refine aA λU hU=>?_
  nofun
  refine⟨_,_,rfl,rfl,?_⟩
  refine fE.mk (λk δ=>∃o3 o4,δ=[some (fD t.aS t.aW m),some (D.lst false (aE false G)),some (D.lst false (aq u)),some (D.int (ag G)),some (D.lst false (aE false R)),some (D.lst false (aq (R.map aR))),some (D.lst true (aq ((((R.map aR).zip R).take k).foldl (λx z=>x.set z.1 (z.2.getD (ag G) 0)) (bF (ag G) 0)))),o3,o4]) ⟨_,_,rfl⟩ ?_ ?_
  ·rintro k d δ hd ⟨o3,o4,rfl⟩
   obtain⟨hk,rfl⟩:=V3 hd
   clear hd
   obtain⟨lw,la⟩:=ia _ (cB hk)
   have xl:=IG (λz:Nat × List Nat=>z.1) (λz=>z.2.getD (ag G) 0) (((R.map aR).zip R).take k) (bF (ag G) 0)
   rw[p7]at xl
   have hld:aR R[k]<ag G:=by
    obtain⟨x,hx,h0⟩:=hn _ (cB hk)
    have h1:aR R[k]<R[k].length:=FX ⟨x,hx,by simpa using h0⟩
    have h2:aR R[k]≠ag G:=λz=>by
     have:(R.map aR).contains (ag G)=true:=BR.mpr (bE.mpr ⟨R[k],cB hk,z⟩)
     rw[<-mc]at this;cases this
    omega
   nofun
   refine⟨.int (R[k].getD (ag G) 0:Nat),by rw[i8 (by omega) (by omega),fO],?_⟩
   refine⟨rfl,_,aR R[k],rfl,?_,_,_,?_,rfl,rfl⟩
   ·rw[Aq (by omega) (by rw[eo,xl];omega)];rfl
   ·rw[Dn,mr,y6]
    have ez:((R.map aR).zip R)[k]?=some (aR R[k],R[k]):=by
     rw[mw,mx,bP,aJ hk];rfl
    rw[ez];rfl
  ·rintro δ ⟨o3,o4,rfl⟩
   refine hU _ ?_
   nofun
   rw[show((R.map aR).zip R).take (di (aq (R.map aR)) (aE false R)).length=(R.map aR).zip R from tw (by unfold di;rw[qj,ik,eo,i9];exact bM _)]
   exact q
abbrev aY9:bA:=λds Q=>∃(G:List (List Nat)) (F:List Nat) (N w:Nat),ds=[.lst false (aE false G),.lst false (aq F)]/\RT N w G/\(∀j∈F,j<w)/\G.length<=1000/\F.length<=1000/\Q (.lst true (aE true (jg G F)))
theorem aZ0(T:Txt K mg t):aQ P w K mg base bf 1 t.LD t.LF ["table","places"] (bw (aY9 )):=by
 refine bH T.XT aY3 ?_ ?_
 ·intro ds Q h
  obtain⟨G,F,N,wi,rfl,hR,hF,hG,hFl,q⟩:=h<;>rfl
 ·intro aI A outer s H E hr
  refine⟨_,(aF (aU (du [("places",1)] ["row"] rfl (fS (bv 0)) (λ_ _ _ _=>(cC (i:=1) (show(["places","row"]:List Str).Nodup by decide +kernel) rfl (aX rfl) (by decide) (ao rfl))) (λ_ _ _ _=>dw) (by exact λ_ _ _ _=>(du [("row",1)] ["j"] rfl (fS (bv 0)) (λ_ _ _ _=>(cC (i:=1) (show(["row","j"]:List Str).Nodup by decide +kernel) rfl (ao (lr1 rfl)) (by decide) (aX (lr1 rfl)))) (λ_ _ _ _=>dw) (λ_ _ _ _=>(cN (bG (bv 0) (bv 1) (λ_ _=>rfl)))) rfl ⟨rfl,trivial⟩ (λ_=>by repeat' (first | exact trivial | refine⟨.inl rfl,?_⟩ | refine⟨.inr (.inl rfl),?_⟩ | refine⟨.inr (.inr ⟨_,rfl⟩),?_⟩)) (λ_=>⟨⟨rfl,.inl rfl,.inl rfl,_,rfl,rfl⟩,trivial⟩) rfl (by decide +kernel))) rfl ⟨rfl,trivial⟩ (λ_=>by repeat' (first | exact trivial | refine⟨.inl rfl,?_⟩ | refine⟨.inr (.inl rfl),?_⟩ | refine⟨.inr (.inr ⟨_,rfl⟩),?_⟩)) (λ_=>⟨⟨rfl,.inl rfl,.inl rfl,_,rfl,rfl⟩,trivial⟩) rfl (by decide +kernel)))),λds Q h=>?_⟩
  obtain⟨G,F,N,wi,rfl,hR,hF,hG,hFl,q⟩:=h
  nofun
  refine dX G (λr=>D.lst false (aq r)) (λr=>D.lst true (aq (F.map λj=>r.getD j 0))) (by rw[dj];rfl) (λa b h=>nh a b h) (λr bg=>?_) (.inr λr _=>gJ _) (by rw[sL];omega) ?_
  ·have hl:=(hR r bg).1
   nofun
   refine dX F (λ(i:Nat)=>D.int (i:Int)) (λ(j:Nat)=>D.int ((r.getD j 0:Nat):Int)) (m6 _) g8 (λj hj=>?_) (.inr λ_ _=>rfl) (by rw[sL];omega) ?_
   ·have:=hF j hj
    nofun
    exact⟨.int (r.getD j 0:Nat),by rw[i8 (by omega) (by omega),fO],rfl,rfl⟩
   ·rw[cw,bZ];rfl
  ·unfold jg aE at q
   rw[bZ]at q
   exact q
abbrev aX1(t:gB)(P:Program)(w:World)(K:Frag)(mg:Str->Option Value)(base:Heap):bA:=λds Q=>∃(m:Bool × Nat) (T:List (List Nat)) (room:Nat) (y:List (Option Nat)),ds=[fD t.aS t.aW m,.lst false (aE false T),.int room,.lst false (dk y)]/\m∈aD/\0<ag T/\ag T<=64/\RT (aa m) (ag T) T/\T.length<=64/\(∀a,some a∈y->a<aa m)/\y.length=ag T/\room<=15/\Q (j9 (pM m T room y))
theorem MJ(T:Txt K mg t):aQ P w K mg base bf 14 t.LG t.LH ["field","table","room","word"] (bw (aX1 t P w K mg base)):=by
 refine bH T.D1 yk ?_ ?_
 ·intro ds Q h
  obtain⟨m,T,room,y,rfl,hm,hw,Ef,hT,kM,hy,ly,Eg,q⟩:=h<;>rfl
 ·intro aI A outer s H E hr
  refine⟨_,(aB (aV (i:=4) yk.nd rfl (ao rfl) (aT ((aP9 T).mono (by decide)) hr rfl T.d99 T.XE.kp T.ea0 aP (af (bv 3) au)))
   (aB (bV (bO Ut (ae (dQ (fW) (by rfl) T.fY fQ (af (bv 4) au))) (bv 2) (bL _)) (aF (aU fC)) cu)
   (aB (aV (i:=5) yk.nd rfl (ao rfl) (aT ((aG5 T).mono (by decide)) hr rfl T.ea1 T.XF.kp T.ea2 aP (af (bv 3) au)))
   (aB (aV (i:=6) yk.nd rfl (ao rfl) (aT ((aV0 T).mono (by decide)) hr rfl T.ea7 T.XG.kp T.ea8 aP (af (bv 0) (af (bv 1) (af (bv 5) au)))))
   (aB (aV (i:=7) yk.nd rfl (ao rfl) (aT ((aO5 T).mono (by decide)) hr rfl T.eb5 T.XO.kp T.eb6 aP (af (bv 0) (af (bv 1) (af (bv 4) (af (bv 6) (af (ae (aG jC (ae (aG gD (ae (aG gD (bv 2) (ae aw))) (ae (dQ (fW) (by rfl) T.fY fQ (af (bv 4) au))))) (ae aw))) au)))))))
   (aB (bV (bO q9 (bv 7) (ae fC) (bL _)) (aF (aU fC)) cu)
   (aB (aV (i:=8) yk.nd rfl (ao rfl) (aG cQ (bv 4) (bv 7)))
   (aB (bV (bO (fV (dr hr)) (bv 8) (ae (eM dH)) (bL _)) (aF (aU (em 5))) cu)
   (aF (aU (aT ((aV5 T).mono (by decide)) hr rfl T.eb7 T.XQ.kp T.eb8 aP (af (bv 0) (af (bv 5) (af (bv 8) (af (ae (aT ((aY8 T).mono (by decide)) hr rfl T.ec1 T.XS.kp T.ec2 aP (af (bv 0) (af (ae (aT ((aZ0 T).mono (by decide)) hr rfl T.ec3 T.XT.kp T.ec4 aP (af (bv 1) (af (bv 8) au)))) (af (bv 6) au))))) au))))))))))))))),λds Q h=>?_⟩
  obtain⟨m,T,room,y,rfl,hm,hw,Ef,hT,kM,hy,ly,Eg,q⟩:=h
  have dq:=(cE hm).lo
  have kl:=DG hm hy
  have kn:=Jl y
  obtain⟨l1,l2⟩:=Jk y
  have ll:(bB y).length<=y.length:=eG (BW ..) (by rw[dB];exact bM _)
  have YG:∀l:List Nat,((dk y).all D.pl||(D.lst true (aq l)).fr)=true:=λl=>by rw[gJ,gy]
  have T0:0<T.length:=by
   unfold ag at hw
   cases T with
   | nil=>cases hw
   | cons _ _=>exact Sf _
  unfold pM at q
  refine aA λU hU=>?_
  nofun
  refine⟨y,by rw[pL],by omega,YG _,hU _ ?_⟩
  clear hU U
  refine aA λU hU=>?_
  nofun
  by_cases h1:room<=(L3.bB y).length
  ·rw[if_pos (by omega)]
   rw[if_pos h1]at q
   exact q
  rw[if_neg (by omega)]
  rw[if_neg h1]at q
  refine hU _ ?_
  clear hU U
  refine aA λU hU=>?_
  nofun
  refine⟨y,by rw[pL],by omega,YG _,hU _ ?_⟩
  clear hU U
  refine aA λU hU=>?_
  nofun
  have Eh:=DK hm T (cR y)
  refine⟨m,T,cR y,rfl,hm,by rw[kn,ly];exact hT,kl,by omega,by omega,gJ _,hU _ ?_⟩
  clear hU U
  rw[show(T.map λr=>gd m r (cR y))=gO m T (cR y) from rfl]
  refine aA λU hU=>?_
  nofun
  refine⟨jB (by decide) (by decide),m,T,L3.bB y,gO m T (cR y),(room-1-(L3.bB y).length)/2,by rw[show(((room-1-(L3.bB y).length)/2:Nat):Int)=((room:Int)-1-((L3.bB y).length:Int))/2 by omega],hm,hw,Ef,hT,kM,λp hp=>by rw[<-ly];exact l2 p hp,by omega,Eh.1,Eh.2,by omega,AH _,hU _ ?_⟩
  clear hU U
  refine aA λU hU=>?_
  nofun
  cases eW:va m T (L3.bB y) (gO m T (cR y)) ((room-1-(L3.bB y).length)/2)with
  | none =>
   rw[eW]at q
   rw[if_pos (by exact rfl)]
   exact q
  | some W =>
  rw[eW]at q
  obtain⟨w1,w2,w3,w4,w5⟩:=Jv hm hw hT hy ly eW
  rw[if_neg (by exact gg),show j9 (some W)=D.lst true (aq W) from rfl]
  refine hU _ ?_
  clear hU U
  refine aA λU hU=>?_
  nofun
  refine⟨by omega,hU _ ?_⟩
  clear hU U
  have pl:(L3.bB y++W).length<=100:=by rw[dS];omega
  dsimp only at q
  generalize L3.bB y++W=ps at *
  refine aA λU hU=>?_
  nofun
  have ed:bJ (D.lst true (aq ps)) (D.lst true [])=decide (ps=[]):=u3 true true ps []
  rw[ed]
  refine⟨by decide,rfl,?_⟩
  by_cases p0:ps=[]
  ·rw[if_pos p0]at q
   rw[if_pos (decide_eq_true p0)]
   exact q
  rw[if_neg p0]at q
  rw[if_neg (by rw[decide_eq_false p0];decide)]
  refine hU _ ?_
  clear hU U ed
  obtain⟨X,x1,x2,x3,_⟩:=w5 p0
  rw[x1]at q
  have wp:=WS (T:=T) (F:=ps) T0
  obtain⟨g1,g2⟩:=WA (F:=ps) (show 0<aa m by omega) hT
  have rr:∀r∈cG m (cY (jg T ps) (gO m T (cR y))),∃x∈r,x≠0:=by
   obtain⟨w1,w2,w3⟩:=IW (G:=jg T ps) (u:=gO m T (cR y)) (by omega) (by omega) (by rw[wp];exact g1) Eh.2
   rw[<-w1]at w3
   obtain⟨⟨Hd,I⟩,iR,_,_⟩:=wH hm w3
   intro r bg
   obtain⟨i,hi,rfl⟩:=gx bg
   have:=(I.wI hm iR hi).2
   rwa [aK,aJ hi]at this
  nofun
  refine⟨T,ps,aa m,ag T,rfl,hT,w3,by omega,by omega,by rw[eR,pk];rfl,m,jg T ps,gO m T (cR y),by rw[de,dj],hm,by omega,by omega,by omega,by rw[wp];exact g1,Eh.2,by omega,rr,?_,?_⟩
  ·rw[x1,show MI (some X)=D.lst true (aq X) from rfl,gJ,gy]
  ·rw[x1,show MI (some X)=D.lst true (aq X) from rfl,iG]
   exact⟨m,cR y,ps,X,rfl,hm,kl,x3,x2,λp hp=>by rw[kn,ly];exact w3 p hp,by omega,by omega,gJ _,q⟩
theorem cl9{y:List (Option Nat)}{w:List Nat}:(di (dk y) (aq w)).map D.sh=(mw y w).map λp=>D.tup [fo p.1,D.int (p.2:Int)]:=by
 rw[CN,pL,m6]
 unfold di dk
 rw[mw,tF,tE]
theorem ck4(a b:Option Nat × Nat)(h:D.tup [fo a.1,D.int (a.2:Int)]=D.tup [fo b.1,D.int (b.2:Int)]):a=b:=by
 injection h with h
 injection h with h1 h2
 injection h2 with h2 _
 injection h2 with h2
 exact yZ (Jm _ _ h1) (by omega)
abbrev aV6:bA:=λds Q=>∃(y:List (Option Nat)) (w:List Nat) (room:Nat),ds=[.lst false (dk y),.lst false (aq w),.int room]/\w.length=y.length/\y.length<=1000/\Q (.bl (decide ((bB y).length+2*(iJ y w).length<room)))
theorem YH(T:Txt K mg t):aQ P w K mg base bf 1 t.LJ t.LK ["_law_word","_law_sent_here","_law_room"] (bw (aV6 )):=by
 refine bH T.Mn JC ?_ ?_
 ·intro ds Q h
  obtain⟨y,w,room,rfl,hw,hy,q⟩:=h<;>rfl
 ·intro aI A outer s H E hr
  refine⟨_,(aB (aV (i:=3) JC.nd rfl (ao rfl) (dQ (fW) (by rfl) T.fY fQ (af (ae (du [] ["_law_x"] rfl (fS (bv 0)) (λ_ _ _ _=>(cC (i:=0) (show(["_law_x"]:List Str).Nodup by decide +kernel) rfl (ao (lr1 rfl)) (by decide) (aX (lr1 rfl)))) (λ_ _ _ _=>(ud (bO q9 (bv 0) (ae fC) (bL _)))) (λ_ _ _ _=>(cN (bv 0))) rfl trivial (λ_=>by repeat' (first | exact trivial | refine⟨.inl rfl,?_⟩ | refine⟨.inr (.inl rfl),?_⟩ | refine⟨.inr (.inr ⟨_,rfl⟩),?_⟩)) (λ_=>trivial) rfl (by decide +kernel))) au)))
   (aB (aV (i:=4) JC.nd rfl (ao rfl) (dQ (fW) (by rfl) T.fY fQ (af (ae (du [] ["_law_x","_law_y"] rfl (lU rfl T.mm (af (bv 0) (af (bv 1) au))) (λ_ _ _ _=>(gv (i1:=0) (i2:=1) rfl (show(["_law_x","_law_y"]:List Str).Nodup by decide +kernel) rfl (ao (lr1 rfl)) rfl (ao (lr1 rfl)) (by decide) (by decide) (aX (lr1 rfl)) (aX (lr1 rfl)))) (λ_ _ _ _=>(ud (PW.pt (Hw (bO HD (bv 0) (ae fC) (bL _)) (Sr (bO (jX (dr hr)) (bv 0) (bv 1) (bL _))))))) (λ_ _ _ _=>(cN (bv 0))) rfl trivial (λ_=>by repeat' (first | exact trivial | refine⟨.inl rfl,?_⟩ | refine⟨.inr (.inl rfl),?_⟩ | refine⟨.inr (.inr ⟨_,rfl⟩),?_⟩)) (λ_=>trivial) rfl (by decide +kernel))) au)))
   (aF (aU (vW v3 (ae (aG cQ (ae (aG iB (ae aw) (bv 4))) (bv 3))) (bv 2) (bL _)))))),λds Q h=>?_⟩
  obtain⟨y,w,room,rfl,hw,hy,q⟩:=h
  refine aA λU hU=>?_
  nofun
  refine u5 y fo fo Gf (pL y) Jm (λa ha=>?_) (.inr λa _ _=>by cases a<;>rfl) (by rw[sL];omega) ?_
  ·nofun
   cases a with
   | none=>exact⟨rfl,λ_=>rfl⟩
   | some a=>exact⟨rfl,λ_=>rfl⟩
  rw[show(BP fo (y.filter Gf))=dk (y.filter Gf) from rfl]
  dsimp only[gj,gi]
  rw[WG,cn6]
  refine hU _ ?_
  clear hU U
  refine aA λU hU=>?_
  nofun
  refine⟨_,_,rfl,rfl,u5 (mw y w) (λp=>D.tup [fo p.1,D.int (p.2:Int)]) (λp=>fo p.1) Jw cl9 ck4 (λp hp=>?_) (.inr λp _ _=>by cases p.1<;>rfl) (by rw[sL,qj];omega) ?_⟩
  ·obtain⟨a,b⟩:=p
   nofun
   cases a with
   | none =>
    rw[if_neg (by exact gg)]
    exact⟨rfl,λz=>by cases z⟩
   | some a =>
    rw[if_pos (by exact rfl),show bJ (fo (some a)) (D.int (b:Int))=decide ((a:Int)=(b:Int)) from lQ _ _]
    refine⟨rfl,?_,λ_=>rfl⟩
    show _=decide (a≠b)
    rw[decide_not]
    congr 1
    exact decide_eq_decide.mpr ⟨λh=>by omega,λh=>by omega⟩
  dsimp only[gj,gi]
  rw[br,b99 hw]
  refine hU _ ?_
  clear hU U
  nofun
  have wl:(iJ y w).length<=y.length:=eG (BW ..) (by rw[dB];exact bM _)
  refine⟨js.ok (.inl ⟨by omega,by omega⟩),?_⟩
  rw[show decide (2*((iJ y w).length:Int)+((L3.bB y).length:Int)<(room:Int))=decide ((L3.bB y).length+2*(iJ y w).length<room) from decide_eq_decide.mpr ⟨λh=>by omega,λh=>by omega⟩]
  exact q
def nD(m:Bool × Nat)(c:Int)(b k:Nat):Nat:=gm m b ((c/64+(k:Int))%(aa m:Int)).toNat
def pW(m:Bool × Nat)(ns:List Int)(k:Nat):Nat:=(1+eP ns (15+(k:Int))%((aa m:Int)-1)).toNat
def fq(m:Bool × Nat)(c:Int)(b:Nat)(ns:List Int)(W i:Nat):List Nat:=(aZ W).map λj=>gm m (pW m ns j) (px m (nD m c b j) i)
theorem yF{M:Int}(h:0<M)(a:Int):0<=a%M/\a%M<M:=⟨jl a (by omega),jm a h⟩
theorem cF6{m:Bool × Nat}(hm:m∈aD){c:Int}{b:Nat}(b1:1<=b)(b2:b<aa m){i j:Nat}(hi:i<aa m)(hj:j<aa m)(h:nD m c b i=nD m c b j):i=j:=by
 have dq:=lo1 hm
 obtain⟨v,v1,v2⟩:=IB hm dq b2 (by omega)
 have g1:=yF (show(0:Int)<aa m by omega) (c/64+(i:Int))
 have g2:=yF (show(0:Int)<aa m by omega) (c/64+(j:Int))
 have e:=congrArg (gm m v) h
 unfold nD at e
 rw[<-hE (bW m hm),<- hE (bW m hm),v2,lV (by omega),lV (by omega)]at e
 have e2:(c/64+(i:Int))%(aa m:Int)=(c/64+(j:Int))%(aa m:Int):=by omega
 have e3:=Int.emod_eq_emod_iff_emod_sub_eq_zero.mp e2
 have e4:=Int.eq_zero_of_dvd_of_natAbs_lt_natAbs (Int.dvd_of_emod_eq_zero e3) (by omega)
 omega
theorem Ei{m:Bool × Nat}(hm:m∈aD)(ns:List Int)(k:Nat):1<=pW m ns k/\pW m ns k<aa m/\(pW m ns k:Int)=1+eP ns (15+(k:Int))%((aa m:Int)-1):=by
 have dq:=lo1 hm
 have g:=yF (show(0:Int)<(aa m:Int)-1 by omega) (eP ns (15+(k:Int)))
 unfold pW
 omega
theorem YI(m:Bool × Nat)(c:Int)(b:Nat)(ns:List Int)(W i:Nat):(fq m c b ns W i).length=W:=by unfold fq;rw[br,dB]
theorem YJ{m:Bool × Nat}(hm:m∈aD)(c:Int)(b:Nat)(ns:List Int)(W i:Nat):AllLt (aa m) (fq m c b ns W i):=λx hx=>by
 obtain⟨j,_,rfl⟩:=bE.mp hx
 exact cg hm _ _
theorem co9{m:Bool × Nat}(hm:m∈aD)(c:Int)(b:Nat)(ns:List Int)(W i:Nat):cZ (gm m) (fq m c b ns W i) ((aZ W).map (nD m c b))=fq m c b ns W (i+1):=by
 unfold fq
 rw[tF,List.zipWith_self]
 refine nN λj _=>?_
 rw[hE (bW m hm)];rfl
theorem YK{m:Bool × Nat}(hm:m∈aD){c:Int}{b:Nat}(b1:1<=b)(b2:b<aa m)(ns:List Int){R W:Nat}(hW:W<=aa m){T:List (List Nat)}(hl:T.length=R)(hT:∀r∈T,∃i,r=fq m c b ns W i)(hat:∀i,i<R->∃k,k<R/\T.getD k []=fq m c b ns W i):wQ m R W (nD m c b) (pW m ns) T where
 rt:=λr hr=>by
  obtain⟨i,rfl⟩:=hT r hr
  exact⟨YI ..,YJ hm _ _ _ _ _⟩
 l:=hl
 xl:=λj=>cg hm _ _
 xd:=λi j hi hj h=>cF6 hm b1 b2 (by omega) (by omega) h
 yl:=λj=>(Ei hm ns j).2.1
 y0:=λj _=>by have:=(Ei hm ns j).1;omega
 at_:=λi hi=>by
  obtain⟨k,hk,e⟩:=hat i hi
  refine⟨k,hk,λj hj=>?_⟩
  unfold fX
  rw[e]
  exact Wg _ hj
abbrev aQ0:bA:=λds Q=>∃(m:Bool × Nat) (ns:List Int) (R W:Nat) (c:Int),ds=[dy m,.fz (aL ns),.int R,.int W,.int c]/\m∈aD/\R<=6/\W<=6/\W<=aa m/\∀(T:List (List Nat)) (x y:Nat->Nat),wQ m R W x y T->Q (.lst true (aE false T))
theorem aQ1(T:Txt K mg t):aQ P w K mg base bf 2 t.LL t.LM ["_law_told_here","_law_script","_law_rows","_law_wide","_law_cell_here"] (bw (aQ0 )):=by
 refine bH T.XX sE ?_ ?_
 ·intro ds Q h
  obtain⟨m,ns,R,W,c,rfl,hm,hR,hW,MK,q⟩:=h<;>rfl
 ·intro aI A outer s H E hr
  refine⟨_,(aB (aV (i:=5) sE.nd rfl (aX rfl) (aT ((sP T).mono (by decide)) hr rfl T.sG T.pS.kp T.sH aP (af (bv 0) au)))
   (aB (aV (i:=6) sE.nd rfl (aX rfl) (aG cQ (ae aw) (ae (aG dh (bv 4) (ae (aG gD (bv 5) (ae aw)))))))
   (aB (wF (i:=7) sE.nd rfl (ao rfl) [("_law_told_here",0),("_law_by",6),("_law_many_here",5),("_law_cell_here",4)] ["_law_k"] rfl (kF rfl T.iL (af (bv 3) au)) (λ_ _ _ _=>(cC (i:=4) (show(["_law_told_here","_law_by","_law_many_here","_law_cell_here","_law_k"]:List Str).Nodup by decide +kernel) rfl (ao (lr1 rfl)) (by decide) (aX (lr1 rfl)))) (λ_ _ _ _=>dw) (λ_ _ _ _=>(aT ((Mw T).mono (by decide)) hr rfl T.L8 T.DT.kp T.L9 aP (af (bv 0) (af (bv 1) (af (ae (aG dh (ae (aG cQ (ae (aG jC (bv 3) (ae aw))) (bv 4))) (bv 2))) au))))) rfl ⟨rfl,⟨rfl,⟨rfl,⟨rfl,trivial⟩⟩⟩⟩ (λ_=>by repeat' (first | exact trivial | refine⟨.inl rfl,?_⟩ | refine⟨.inr (.inl rfl),?_⟩ | refine⟨.inr (.inr ⟨_,rfl⟩),?_⟩)) (λ_=>⟨⟨rfl,.inl rfl,.inl rfl,_,rfl,rfl⟩,⟨⟨rfl,.inl rfl,.inl rfl,_,rfl,rfl⟩,⟨⟨rfl,.inl rfl,.inl rfl,_,rfl,rfl⟩,⟨⟨rfl,.inl rfl,.inl rfl,_,rfl,rfl⟩,trivial⟩⟩⟩⟩) rfl (by decide +kernel))
   (aB (wF (i:=8) sE.nd rfl (ao rfl) [("_law_script",1),("_law_many_here",5)] ["_law_k"] rfl (kF rfl T.iL (af (bv 3) au)) (λ_ _ _ _=>(cC (i:=2) (show(["_law_script","_law_many_here","_law_k"]:List Str).Nodup by decide +kernel) rfl (ao (lr1 rfl)) (by decide) (aX (lr1 rfl)))) (λ_ _ _ _=>dw) (λ_ _ _ _=>(aG cQ (ae aw) (ae (aG dh (ae (aT ((ke T).mono (by decide)) hr rfl T.ka T.jJ.kp T.kb aP (af (bv 0) (af (ae (aG cQ (ae aw) (bv 2))) au)))) (ae (aG gD (bv 1) (ae aw))))))) rfl ⟨rfl,⟨rfl,trivial⟩⟩ (λ_=>by repeat' (first | exact trivial | refine⟨.inl rfl,?_⟩ | refine⟨.inr (.inl rfl),?_⟩ | refine⟨.inr (.inr ⟨_,rfl⟩),?_⟩)) (λ_=>⟨⟨rfl,.inl rfl,.inl rfl,_,rfl,rfl⟩,⟨⟨rfl,.inl rfl,.inl rfl,_,rfl,rfl⟩,trivial⟩⟩) rfl (by decide +kernel))
   (aB (aV (i:=9) sE.nd rfl (ao rfl) (eM dH))
   (aB (gu eX rfl (kF rfl T.iL (af (bv 2) au)) (cC (i:=10) sE.nd rfl (ao rfl))
    (oo 8 (aB (lK (i:=9) rfl (by first | exact ao rfl | exact aX (ao rfl)) (cN (bv 8)))
    (aF (wF (i:=8) sE.nd rfl (ao rfl) [("_law_told_here",0)] ["_law_x","_law_y"] rfl (lU rfl T.mm (af (bv 8) (af (bv 7) au))) (λ_ _ _ _=>(gv (i1:=1) (i2:=2) rfl (show(["_law_told_here","_law_x","_law_y"]:List Str).Nodup by decide +kernel) rfl (ao (lr1 rfl)) rfl (ao (lr1 rfl)) (by decide) (by decide) (aX (lr1 rfl)) (aX (lr1 rfl)))) (λ_ _ _ _=>dw) (λ_ _ _ _=>(aT ((Mw T).mono (by decide)) hr rfl T.L8 T.DT.kp T.L9 aP (af (bv 0) (af (bv 1) (af (bv 2) au))))) rfl ⟨rfl,trivial⟩ (λ_=>by repeat' (first | exact trivial | refine⟨.inl rfl,?_⟩ | refine⟨.inr (.inl rfl),?_⟩ | refine⟨.inr (.inr ⟨_,rfl⟩),?_⟩)) (λ_=>⟨⟨rfl,.inl rfl,.inl rfl,_,rfl,rfl⟩,trivial⟩) rfl (by decide +kernel))))))
   (aB (bV (bO (fV (dr hr)) (ae (aG dh (ae (aG jC (bv 4) (ae aw))) (ae aw))) (ae aw) (bL _)) (aF (bX9 (i:=9) rfl (by first | exact ao rfl | exact aX (ao rfl)))) cu)
   (aF (aU (em 9)))))))))),λds Q h=>?_⟩
  obtain⟨m,ns,R,W,c,rfl,hm,hR,hW,MK,q⟩:=h
  have dq:=(cE hm).lo
  have Ec:=An m hm
  have hM:=(cE hm).hi
  refine aA λU hU=>?_
  nofun
  refine⟨m,rfl,by omega,by omega,hU _ ?_⟩
  clear hU U
  obtain⟨b,hb⟩:∃b:Nat,1+c%((aa m:Int)-1)=(b:Int):=⟨(1+c%((aa m:Int)-1)).toNat,by have:=yF (show(0:Int)<(aa m:Int)-1 by omega) c;omega⟩
  obtain⟨b1,b2⟩:1<=b/\b<aa m:=by have:=yF (show(0:Int)<(aa m:Int)-1 by omega) c;omega
  refine aA λU hU=>?_
  nofun
  rw[hb]
  refine⟨by omega,hU _ ?_⟩
  clear hU U
  refine aA λU hU=>?_
  nofun
  refine⟨⟨by omega,by omega⟩,dX (aZ W) (λ(i:Nat)=>D.int (i:Int)) (λk=>D.int ((nD m c b k:Nat):Int)) (se _ rfl) g8 (λk hk=>?_) (.inr λ_ _=>rfl) (by rw[dB,sL];omega) ?_⟩
  ·have g1:=yF (show(0:Int)<aa m by omega) (c/64+(k:Int))
   nofun
   refine⟨jB (by decide) (by decide),by omega,m,b,((c/64+(k:Int))%(aa m:Int)).toNat,by rw[tG g1.1],hm,b2,by omega,rfl⟩
  rw[show((aZ W).map λk=>D.int ((nD m c b k:Nat):Int))=aq ((aZ W).map (nD m c b)) by rw[cw,bZ];rfl]
  refine hU _ ?_
  clear hU U
  refine aA λU hU=>?_
  nofun
  refine⟨⟨by omega,by omega⟩,dX (aZ W) (λ(i:Nat)=>D.int (i:Int)) (λk=>D.int ((pW m ns k:Nat):Int)) (se _ rfl) g8 (λk hk=>?_) (.inr λ_ _=>rfl) (by rw[dB,sL];omega) ?_⟩
  ·have:=cS.mp hk
   nofun
   exact⟨ns,_,rfl,by omega,by omega,by omega,(Ei hm ns k).2.2.symm⟩
  rw[show((aZ W).map λk=>D.int ((pW m ns k:Nat):Int))=aq (fq m c b ns W 0) by
   rw[cw]
   unfold fq
   rw[bZ]
   refine nN λj _=>?_
   show _=D.int ((gm m (pW m ns j) 1:Nat):Int)
   rw[pf (Ei hm ns j).2.1]]
  refine hU _ ?_
  clear hU U
  refine aA λU hU=>?_
  nofun
  refine⟨by decide,hU _ ?_⟩
  clear hU U
  refine aA λU hU=>?_
  nofun
  refine⟨⟨by omega,by omega⟩,?_⟩
  refine fE.mk (λi δ=>∃ML,δ=[some (dy m),some (D.fz (aL ns)),some (D.int R),some (D.int W),some (D.int c),some (D.int (aa m)),some (D.int b),some (D.lst true (aq ((aZ W).map (nD m c b)))),some (D.lst true (aq (fq m c b ns W i))),some (D.lst true (aE false ((aZ i).map (fq m c b ns W)))),ML]) ⟨_,rfl⟩ ?_ ?_
  ·rintro i d δ hd ⟨ML,rfl⟩
   obtain⟨hi,rfl⟩:=ck0 hd
   clear hd hU
   have pl:=YI m c b ns W i
   simp only[gN,gj,gi]
   refine⟨_,rfl,?_⟩
   rw[iG]
   simp only[gj,gi]
   refine aA λU hU=>?_
   nofun
   rw[show aE false ((aZ i).map (fq m c b ns W))++[D.lst false (aq (fq m c b ns W i))]=aE false ((aZ (i+1)).map (fq m c b ns W)) by
    rw[FY,gh];exact sj false _ [fq m c b ns W i]]
   refine⟨⟨_,rfl⟩,by rw[br,dB];omega,hU _ ?_⟩
   clear hU
   nofun
   refine⟨_,_,rfl,rfl,Iz (gm m) (λx hx y hy=>?_) (by omega) ?_⟩
   ·nofun
    obtain⟨j,_,rfl⟩:=bE.mp hy
    exact⟨m,x,_,rfl,hm,YJ hm _ _ _ _ _ x hx,cg hm _ _,rfl⟩
   rw[co9 hm]
   exact⟨_,rfl⟩
  ·rintro δ ⟨ML,rfl⟩
   refine hU _ ?_
   clear hU U
   rw[br,dB,fO]
   refine aA λU hU=>?_
   nofun
   refine⟨jB (by decide) (by decide),?_⟩
   have tm:∀r∈(aZ R).map (fq m c b ns W),∃i,r=fq m c b ns W i:=λr bg=>by
    obtain⟨i,_,rfl⟩:=bE.mp bg
    exact⟨i,rfl⟩
   have tl:((aZ R).map (fq m c b ns W)).length=R:=by rw[br,dB]
   have ta:∀i,i<R->((aZ R).map (fq m c b ns W))[i]?=some (fq m c b ns W i):=λi hi=>by
    rw[bP,kh hi];rfl
   by_cases hc:c/4096%2=1
   ·rw[if_pos hc]
    refine⟨by decide,hU _ ?_⟩
    nofun
    rw[show(aE false ((aZ R).map (fq m c b ns W))).reverse=aE false ((aZ R).map (fq m c b ns W)).reverse by unfold aE;rw[List.map_reverse]]
    refine q _ _ _ (YK hm b1 b2 ns MK (by rw[db3,tl]) (λr bg=>tm r (List.mem_reverse.mp bg)) λi hi=>⟨R-1-i,by omega,?_⟩)
    rw[aK,List.getElem?_reverse (by omega),tl,show R-1-(R-1-i)=i by omega,ta i hi];rfl
   ·rw[if_neg hc]
    refine⟨by decide,hU _ ?_⟩
    nofun
    refine q _ _ _ (YK hm b1 b2 ns MK tl tm λi hi=>⟨i,hi,?_⟩)
    rw[aK,ta i hi];rfl
theorem cW5{tc:fR}{t u:cW}{En:t9}{δ:Dl}(h:∀W:Bool->Dl->Prop,(∀ak,t En ak->W true ak)->(∀ak,u En ak->W false ak)->tc δ W):oq tc t u En δ:=h (λb ak=>if b=true then t En ak else u En ak) (λ_ z=>by rw[if_pos rfl];exact z) (λ_ z=>by rw[if_neg (by decide)];exact z)
abbrev aS3:bA:=λds Q=>∃(m:Bool × Nat) (ns:List Int) (b r w y:Nat),ds=[dy m,.fz (aL ns),.int b,.int r,.int w,.int y]/\m∈aD/\b<=1000/\r<=64/\1<=w/\w<=64/\∀T:List (List Nat),T.length=r->RT (aa m) w T->Q (.lst true (aE true T))
theorem aS4(T:Txt K mg t):aQ P w K mg base bf 4 t.LN t.LO ["_law_told_here","_law_script","_law_begin","_law_rows","_law_wide","_law_way"] (bw (aS3 )):=by
 refine bH T.XY yp ?_ ?_
 ·intro ds Q h
  obtain⟨m,ns,b,r,wi,y,rfl,hm,hb,bg,hw1,hw,q⟩:=h<;>rfl
 ·intro aI A outer s H E hr
  refine⟨_,(aB (aV (i:=6) yp.nd rfl (ao rfl) (eM dH))
   (aB (gu eX rfl (kF rfl T.iL (af (bv 3) au)) (cC (i:=7) yp.nd rfl (aX rfl))
    (aB (wF (i:=8) yp.nd rfl (ao rfl) [("_law_script",1),("_law_told_here",0),("_law_begin",2),("_law_i",7),("_law_wide",4)] ["_law_k"] rfl (kF rfl T.iL (af (bv 4) au)) (λ_ _ _ _=>(cC (i:=5) (show(["_law_script","_law_told_here","_law_begin","_law_i","_law_wide","_law_k"]:List Str).Nodup by decide +kernel) rfl (ao (lr1 rfl)) (by decide) (aX (lr1 rfl)))) (λ_ _ _ _=>dw) (λ_ _ _ _=>(aG dh (ae (aT ((ke T).mono (by decide)) hr rfl T.ka T.jJ.kp T.kb aP (af (bv 0) (af (ae (aG cQ (ae (aG cQ (bv 2) (ae (aG iB (bv 3) (bv 4))))) (bv 5))) au)))) (ae (aT ((sP T).mono (by decide)) hr rfl T.sG T.pS.kp T.sH aP (af (bv 1) au))))) rfl ⟨rfl,⟨rfl,⟨rfl,⟨rfl,⟨rfl,trivial⟩⟩⟩⟩⟩ (λ_=>by repeat' (first | exact trivial | refine⟨.inl rfl,?_⟩ | refine⟨.inr (.inl rfl),?_⟩ | refine⟨.inr (.inr ⟨_,rfl⟩),?_⟩)) (λ_=>⟨⟨rfl,.inl rfl,.inl rfl,_,rfl,rfl⟩,⟨⟨rfl,.inl rfl,.inl rfl,_,rfl,rfl⟩,⟨⟨rfl,.inl rfl,.inl rfl,_,rfl,rfl⟩,⟨⟨rfl,.inl rfl,.inl rfl,_,rfl,rfl⟩,⟨⟨rfl,.inl rfl,.inl rfl,_,rfl,rfl⟩,trivial⟩⟩⟩⟩⟩) rfl (by decide +kernel))
    (aB (bV (bO (fV (dr hr)) (ae (aG dh (bv 5) (ae aw))) (ae aw) (bL _)) (aF (wF (i:=8) yp.nd rfl (ao rfl) [] ["_law_x"] rfl (fS (bv 8)) (λ_ _ _ _=>(cC (i:=0) (show(["_law_x"]:List Str).Nodup by decide +kernel) rfl (ao (lr1 rfl)) (by decide) (aX (lr1 rfl)))) (λ_ _ _ _=>dw) (λ_ _ _ _=>(aG dh (bv 0) (ae aw))) rfl trivial (λ_=>by repeat' (first | exact trivial | refine⟨.inl rfl,?_⟩ | refine⟨.inr (.inl rfl),?_⟩ | refine⟨.inr (.inr ⟨_,rfl⟩),?_⟩)) (λ_=>trivial) rfl (by decide +kernel))) cu)
    (aB (bV (PW.pt (Hw (bO (fV (dr hr)) (ae (aG dh (ae (aG jC (bv 5) (ae aw))) (ae aw))) (ae aw) (bL _)) (Hw (bO HC (bv 7) (ae aw) (bL _)) (Sr (bO (fV (dr hr)) (ae (aG dh (ae (aG jC (ae (aT ((ke T).mono (by decide)) hr rfl T.ka T.jJ.kp T.kb aP (af (bv 1) (af (ae (aG cQ (bv 2) (ae (aG iB (bv 7) (bv 4))))) au)))) (ae aw))) (ae aw))) (ae aw) (bL _)))))) (aF (aV (i:=8) yp.nd rfl (ao rfl) (aT ((Yr T).mono (by decide)) hr rfl T.Xy T.Mc.kp T.Xz aP (af (bv 0) (af (wL (af (bG (bv 8) (ae aw) (λ_ _=>rfl)) (af (bG (bv 8) (ae (aG gD (bv 4) (ae aw))) (λ_ _=>rfl)) au))) (af (wL (af (bG (bv 6) (ae aw) (λ_ _=>rfl)) (af (bG (bv 6) (ae (aG gD (bv 7) (ae aw))) (λ_ _=>rfl)) au))) (af (bv 4) au))))))) cu)
    (aF (lK (i:=6) rfl (by first | exact ao rfl | exact aX (ao rfl)) (em 8)))))))
   (aF (aU (em 6))))),λds Q h=>?_⟩
  obtain⟨m,ns,b,r,wi,y,rfl,hm,hb,bg,hw1,hw,q⟩:=h
  have dq:=(cE hm).lo
  have Ec:=An m hm
  have MB:∀z:Int,z%(aa m:Int)=(((z%(aa m:Int)).toNat:Nat):Int):=λz=>by
   have n0:=jl z (show(aa m:Int)≠0 by omega)
   omega
  have MC:∀z:Int,(z%(aa m:Int)).toNat<aa m:=λz=>by
   have n1:=jm z (show(0:Int)<(aa m:Int) by omega)
   omega
  refine aA λU hU=>?_
  nofun
  refine⟨by decide,hU _ ?_⟩
  clear hU U
  refine aA λU hU=>?_
  nofun
  refine⟨⟨by omega,by omega⟩,HR (λi δ=>∃(G:List (List Nat)) (o1 o2:Option D),δ=[some (dy m),some (.fz (aL ns)),some (.int b),some (.int r),some (.int wi),some (.int y),some (.lst true (aE true G)),o1,o2]/\G.length=i/\RT (aa m) wi G) ⟨[],_,_,rfl,rfl,λ_ h=>nomatch h⟩ ?_ ?_⟩
  ·rintro i δ hi ⟨G,o1,o2,rfl,hG,hR⟩
   simp only[gN,gj,gi]
   clear hU
   have iw:i*wi<=64*64:=Nat.mul_le_mul (by omega) hw
   have eiw:(i:Int)*(wi:Int)=((i*wi:Nat):Int):=by rw[vw]
   refine aA λU hU=>?_
   nofun
   refine⟨⟨by omega,by omega⟩,dX (aZ wi) (λ(i:Nat)=>D.int (i:Int)) (λk=>D.int (((eP ns ((b:Int)+(i:Int)*(wi:Int)+(k:Int))%(aa m:Int)).toNat:Nat):Int)) (se _ rfl) g8 (λk hk=>?_) (.inr λ_ _=>rfl) (by rw[dB,sL];omega) ?_⟩
   ·have hk:=cS.mp hk
    nofun
    refine⟨js.ok (.inl ⟨by omega,by omega⟩),ns,_,rfl,by omega,by omega,m,rfl,by omega,by omega,?_⟩
    dsimp only
    exact⟨by omega,MB _⟩
   obtain⟨row,er,pX,sQ⟩:∃wd:List Nat,((aZ wi).map λ(k:Nat)=>D.int (((eP ns ((b:Int)+(i:Int)*(wi:Int)+(k:Int))%(aa m:Int)).toNat:Nat):Int))=aq wd/\AllLt (aa m) wd/\wd.length=wi:=by
    refine⟨(aZ wi).map λ(k:Nat)=>(eP ns ((b:Int)+(i:Int)*(wi:Int)+(k:Int))%(aa m:Int)).toNat,by rw[cw,bZ];rfl,λa ha=>?_,by simp⟩
    obtain⟨k,_,rfl⟩:=bE.mp ha
    exact MC _
   rw[er]
   refine hU _ ?_
   clear hU
   refine aA λU hU=>?_
   nofun
   have fin:∀row:List Nat,AllLt (aa m) row->row.length=wi->U [some (dy m),some (D.fz (aL ns)),some (D.int b),some (D.int r),some (D.int wi),some (D.int y),some (D.lst true (aE true G)),some (D.int i),some (D.lst true (aq row))]:=by
    clear er pX sQ row
    intro row pX sQ
    refine hU _ ?_
    clear hU
    refine aA λU hU=>?_
    have fin2:∀row:List Nat,AllLt (aa m) row->row.length=wi->U [some (dy m),some (D.fz (aL ns)),some (D.int b),some (D.int r),some (D.int wi),some (D.int y),some (D.lst true (aE true G)),some (D.int i),some (D.lst true (aq row))]:=by
     clear pX sQ row
     intro row pX sQ
     refine hU _ ?_
     nofun
     refine⟨⟨_,rfl⟩,by omega,G++[row],_,_,⟨sj true G [row],rfl,rfl⟩,by rw[dS,hG];rfl,hR.app λx hx=>?_⟩
     rw[dW]at hx
     rw[hx];exact⟨sQ,pX⟩
    refine cW5 λW wt wf=>?_
    have MM:∀z:Bool,z=false->W z [some (dy m),some (D.fz (aL ns)),some (D.int (b:Nat)),some (D.int r),some (D.int wi),some (D.int y),some (D.lst true (aE true G)),some (D.int i),some (D.lst true (aq row))]:=λz hz=>by
     subst hz
     refine wf _ ?_
     nofun
     exact fin2 row pX sQ
    dsimp only[ qJ,mV,qK,oq,dT,kZ,kD,mQ,dC,oh,mU,mT,mS,oj,qI,m3,rm,oJ,rn,rp,qC,qD,qE,qF,qG,qH,oi,rk,oG,oH,ii,oy,qS,oB,qT,qU,qV,qW,qX,qY,iI,gH,qZ,q0,q5,q8,oE,oF,lj,rh,rj,gN,rq,rl,qL,qN,ou,qO,qP,qQ,rz,rA,mW,kG,fU,iX,iA,qa,p8,tH,vy,om,jU,iW,oI,lR,rF,rH,rJ,uP,kH,rO,oS,rL,iC,uS,uQ,uR,dE,jM,nO,nH,gR,vz,bF,nQ,nR,gi,gj,tI,exists_eq_left',exists_eq_left,D.bl.injEq,D.int.injEq,D.lst.injEq,D.fz.injEq,D.str.injEq,D.tup.injEq,tJ,and_true,true_and,dU,qh,ki,kg,uj,uk,um,uo,uq,ur,fi,jS,jD,uz,uA,uB,uC,uD,de,jT,rB,uu,uv,uw,eR,og,vA,vB,sT,gy,vC,vD,sX,uH,uI,uJ,uK,uL,uM,uN,lM,lN,oN,jE,oO,uF,rE,uE,oQ,uG,rC,lQ,rD,if_true,vE,if_false,reduceIte,uO,decide_eq_true_eq,eo,kI,m8,uV,oU,uU,qM,rQ,ph,rM,oX,oY,rV,sg,sq,pH,dj,nq,i9,u4,pj,sC]
    nofun
    refine⟨jB (by decide) (by decide),by decide,?_⟩
    split
    ·split
     ·rename_i h0
      refine⟨js.ok (.inl ⟨by omega,by omega⟩),ns,_,rfl,by omega,by omega,?_⟩
      dsimp only
      refine⟨jB (by decide) (by decide),by decide,?_⟩
      cases hc:decide (eP ns ((b:Int)+(i:Int)*(wi:Int))/64%2=1)with
      | false=>exact MM _ rfl
      | true =>
       refine wt _ ?_
       dsimp only[ qJ,mV,qK,oq,dT,kZ,kD,mQ,dC,oh,mU,mT,mS,oj,qI,m3,rm,oJ,rn,rp,qC,qD,qE,qF,qG,qH,oi,rk,oG,oH,ii,oy,qS,oB,qT,qU,qV,qW,qX,qY,iI,gH,qZ,q0,q5,q8,oE,oF,lj,rh,rj,gN,rq,rl,qL,qN,ou,qO,qP,qQ,rz,rA,mW,kG,fU,iX,iA,qa,p8,tH,vy,om,jU,iW,oI,lR,rF,rH,rJ,uP,kH,rO,oS,rL,iC,uS,uQ,uR,dE,jM,nO,nH,gR,vz,bF,nQ,nR,gi,gj,tI,exists_eq_left',exists_eq_left,D.bl.injEq,D.int.injEq,D.lst.injEq,D.fz.injEq,D.str.injEq,D.tup.injEq,tJ,and_true,true_and,dU,qh,ki,kg,uj,uk,um,uo,uq,ur,fi,jS,jD,uz,uA,uB,uC,uD,de,jT,rB,uu,uv,uw,eR,og,vA,vB,sT,gy,vC,vD,sX,uH,uI,uJ,uK,uL,uM,uN,lM,lN,oN,jE,oO,uF,rE,uE,oQ,uG,rC,lQ,rD,if_true,vE,if_false,reduceIte,uO,decide_eq_true_eq,eo,kI,m8,uV,oU,uU,qM,rQ,ph,rM,oX,oY,rV,sg,sq,pH,dj,nq,i9,u4,pj,sC]
       nofun
       have g0:0<G.length:=by omega
       have g1:i-1<G.length:=by omega
       have l0:0<aa m:=by omega
       refine⟨.int (row.getD 0 0:Nat),by rw[i8 (by omega) (by show 0<row.length;omega)];rfl,.int (row.getD (wi-1) 0:Nat),by rw[i8 (by omega) (by omega),show((wi:Int)-1).toNat=wi-1 by omega],by decide,.lst true (aq G[0]),sk true g0,.lst true (aq G[i-1]),by rw[show((i:Int)-1)=((i-1:Nat):Int) by omega];exact sk true g1,by decide,?_⟩
       refine⟨m,[row.getD 0 0,row.getD (wi-1) 0],[G[0],G[i-1]],wi,by rw[iG,iG];rfl,hm,λx hx=>?_,by show 2<=64;omega,rfl,by omega,λx hx=>?_,gJ _,fin2 _ (Wi hm _ rfl) (IV _ _ _ _)⟩
       ·simp only[cA,ij,or_false]at hx
        rcases hx with rfl | rfl
        ·exact pX.getD l0 _
        ·exact pX.getD l0 _
       ·simp only[cA,ij,or_false]at hx
        rcases hx with rfl | rfl
        ·exact hR _ (cB g0)
        ·exact hR _ (cB g1)
     ·exact MM _ rfl
    ·exact MM _ rfl
   refine⟨by decide,?_⟩
   split
   ·refine dX row (λ(i:Nat)=>D.int (i:Int)) (λ(i:Nat)=>D.int ((i%2:Nat):Int)) (m6 row) g8 (λx hx=>?_) (.inr λ_ _=>rfl) (by rw[sL];omega) ?_
    ·nofun
     exact⟨by decide,by omega⟩
    ·have:=fin (row.map (· % 2)) (λa ha=>by
      obtain⟨x,_,rfl⟩:=bE.mp ha
      omega) (by rw[br];exact sQ)
     rw[cw,bZ]at this
     exact this
   ·exact fin row pX sQ
  ·rintro δ ⟨G,o1,o2,rfl,hG,hR⟩
   refine hU _ ?_
   nofun
   exact q G hG hR
def fK(o:Bool)(l:List Cs):List D:=l.map λs=>.tup [.lst o (aq s.1),.lst o (aE o s.2)]
theorem YL(o:Bool)(l:List Cs):(fK o l).map D.sh=fK false l:=by
 unfold fK
 rw[bZ]
 refine nN λs _=>?_
 show(D.tup [.lst o (aq s.1),.lst o (aE o s.2)]).sh=_
 rw[jT,dE,dE,jM,iG,de,dj]
theorem cG2(l:List Cs):(fK false l).all D.pl=true:=by
 rw[dv]
 intro d hd
 obtain⟨s,_,rfl⟩:=bE.mp hd
 show(D.tup [.lst false (aq s.1),.lst false (aE false s.2)]).pl=true
 rw[jS,dU,dU,fi,fi,kI,nq];rfl
theorem ch8(o:Bool)(a b:List Cs):fK o a++fK o b=fK o (a++b):=by unfold fK;rw[gh]
theorem cC8{o:Bool}{l:List Cs}{i:Nat}{d:D}(hd:(fK o l)[i]?=some d):∃hi:i<l.length,d=.tup [.lst o (aq l[i].1),.lst o (aE o l[i].2)]:=by
 unfold fK at hd
 rw[bP]at hd
 by_cases hi:i<l.length
 ·rw[aJ hi]at hd
  exact⟨hi,(cT hd).symm⟩
 ·rw[gU (by omega)]at hd;cases hd
theorem cm9(o:Bool)(l:List Cs):cX 6 (.lst o (fK o l))=true:=by
 show(fK o l).all (cX 5)=true
 rw[dv]
 intro d hd
 obtain⟨s,_,rfl⟩:=bE.mp hd
 show([D.lst o (aq s.1),.lst o (aE o s.2)]).all (cX 4)=true
 rw[dU,dU,Ap 3 o s.1,IC 2 o o s.2];rfl
theorem cf6{m:Bool × Nat}{c:List Nat}{os:List (List Nat)}{N:Nat}(h:∀o∈os,o.length<=N):∀x∈cy m c os,x.length<=N:=λx hx=>by
 obtain⟨o,ho,rfl⟩:=bE.mp hx
 have:=h o ho
 rw[dS,ig,jk,ik]
 omega
theorem MN{W:Nat}:∀{l:List Cs},(∀s∈l,s.2.length<=W)->(dR l).length<=l.length*W
 | [],_=>jL _
 | s::l,h=>by
  have ih:=MN (λs hs=>h s (dY _ hs))
  have h1:=h s (fZ ..)
  show(fH s++dR l).length<=_
  rw[dS,show(fH s).length=s.2.length by unfold fH;rw[br,dB],gR,Nat.succ_mul]
  omega
def MP:Option (List Nat)->D
 | some l=>.lst true (aq l)
 | none=>.ay
abbrev aQ2(t:gB)(P:Program)(w:World)(K:Frag)(mg:Str->Option Value)(base:Heap):bA:=λds Q=>∃(m:Bool × Nat) (G:List (List Nat)),ds=[fD t.aS t.aW m,.lst false (aE false G)]/\m∈aD/\G.length<=64/\RT (aa m) (ag G) G/\0<ag G/\ag G<=6/\Q (MP (pK m G))
theorem aQ3(T:Txt K mg t):aQ P w K mg base bf 4 t.LP t.LQ ["field","table"] (bw (aQ2 t P w K mg base)):=by
 refine bH T.XZ sF ?_ ?_
 ·intro ds Q h
  obtain⟨m,G,rfl,hm,hG,hR,jK,hw,q⟩:=h<;>rfl
 ·intro aI A outer s H E hr
  refine⟨_,(aB (aV (i:=2) sF.nd rfl (ao rfl) (aT ((Bq T).mono (by decide)) hr rfl T.AO T.yw.kp T.AQ aP (af (bv 1) au)))
   (aB (aV (i:=3) sF.nd rfl (ao rfl) (eM (e5 (zT (e5 (eM dH) (e5 (aT ((YA T).mono (by decide)) hr rfl T.XM T.Mj.kp T.XN aP (af (bv 1) au)) dH))) dH)))
   (aB (zV eX (bO (jX (dr hr)) (bv 3) (ae (eM dH)) (bL _))
    (aB (aV (i:=4) sF.nd rfl (ao rfl) (eM dH))
    (oo 3 (aB (gu eX rfl (CA (cN (bv 3))) (gv (i1:=5) (i2:=6) rfl sF.nd rfl (ao rfl) rfl (ao rfl))
     (aF (gu eX rfl (rN rfl T.sJ (af (bv 6) au)) (gv (i1:=7) (i2:=8) rfl sF.nd rfl (ao rfl) rfl (ao rfl))
      (aB (aV (i:=9) sF.nd rfl (ao rfl) (aG cQ (bv 5) (ae (eM (e5 (aG cQ (ae (aG gD (bv 2) (ae (dQ (fW) (by rfl) T.fY fQ (af (bv 6) au))))) (bv 7)) dH)))))
      (aB (bV (gr (ae (aT ((Ee T).mono (by decide)) hr rfl T.DY T.AS.kp T.DZ aP (af (bv 8) au)))) (aF (aU (em 9))) cu)
      (aF (lK (i:=4) rfl (by first | exact ao rfl | exact aX (ao rfl)) (zT (e5 (em 9) (e5 (aT ((ME T).mono (by decide)) hr rfl T.Mg T.D0.kp T.Mh aP (af (bv 0) (af (bv 8) (af (ae (uT (bv 6) (uh (ae (aG cQ (bv 7) (ae aw)))) ug)) au)))) dH))))))))))
    (aF (aV (i:=3) sF.nd rfl (ao rfl) (em 4)))))))
   (aF (aU fC))))),λds Q h=>?_⟩
  obtain⟨m,G,rfl,hm,hG,hR,jK,hw,q⟩:=h
  have dq:=(cE hm).lo
  refine aA λU hU=>?_
  nofun
  refine⟨G,rfl,by omega,λr bg=>by rw[(hR r bg).1];omega,hU _ ?_⟩
  clear hU U
  refine aA λU hU=>?_
  nofun
  refine⟨by decide,G,rfl,by omega,λr bg=>(hR r bg).1,by omega,by decide,by decide,hU _ ?_⟩
  clear hU U
  have Ls:=Lv.start hm jK hR
  refine aA λU hU=>?_
  nofun
  refine⟨λn δ=>∃(l:List Cs) (k:Nat) (o4 o5 o6 o7 o8 o9:Option D),δ=[some (fD t.aS t.aW m),some (D.lst false (aE false G)),some (D.int (ag G)),some (D.lst true (fK true l)),o4,o5,o6,o7,o8,o9]/\Lv m (fX G) (ag G) k l/\k+n=ag G+1/\u9 m (ag G) n l=pK m G/\l.length<=6 ^ k/\∀s∈l,∀r∈s.2,r.length<=64,⟨ag G+1,[([],cJ G)],0,_,_,_,_,_,_,rfl,Ls,by omega,rfl,bM _,λs hs r bg=>?_⟩,?_⟩
  ·rw[dW.mp hs]at bg
   have:=((wK (by omega) jK hR).2.2 r bg).1
   omega
  rintro n δ ⟨l,k,o4,o5,o6,o7,o8,o9,rfl,L,hk,MQ,Bt,kL⟩
  nofun
  refine⟨by decide,⟨cm9 true l,rfl⟩,?_⟩
  by_cases l0:l=[]
  ·subst l0
   rw[show bJ (D.lst true (fK true [])) (D.lst true [])=true from rfl,if_neg (by decide)]
   refine hU _ ?_
   nofun
   have e0:pK m G=none:=by
    rw[<-MQ]
    cases n with
    | zero=>rfl
    | succ n=>rfl
   rw[e0]at q
   exact q
  have d0:bJ (D.lst true (fK true l)) (D.lst true [])=false:=by
   cases l with
   | nil=>exact absurd rfl l0
   | cons s l=>rfl
  rw[d0,if_pos (by decide)]
  have Bv:∀s∈l,fI (ag G) s.1/\s.2.length<=6:=λs hs=>by
   have g:=(L.gs s hs).1
   have gl:=g.le
   exact⟨⟨g.inc,λx hx=>by have:=g.off x hx;omega⟩,by omega⟩
  obtain⟨n,rfl⟩:∃n',n=n'+1:=by
   cases n with
   | succ n=>exact⟨n,rfl⟩
   | zero =>
    exfalso
    cases l with
    | nil=>exact l0 rfl
    | cons s l =>
     have h1:=(Bv s (fZ ..)).1.len
     have h2:=(L.gs s (fZ ..)).2
     omega
  clear hU
  have k6:6 ^ k*6<=279936:=by
   have:6 ^ (k+1)<=6 ^ 7:=yS (by decide) (by omega)
   rw[nJ]at this
   exact this
  have er3:∀a,(dR (l.take a)).length<=279936:=λa=>by
   have h1:=MN (W:=6) (l:=l.take a) λs hs=>(Bv s (qg hs)).2
   have h2:(l.take a).length<=6 ^ k:=by rw[ig];omega
   have:=de9 6 h2
   omega
  refine aA λU hU=>?_
  nofun
  refine⟨by decide,hU _ ?_⟩
  clear hU
  refine⟨_,rfl,?_⟩
  rw[de,YL]
  simp only[gj,gi]
  refine aA λU hU=>?_
  nofun
  refine⟨cG2 l,?_⟩
  rw[YL]
  refine fE.mk (λa δ=>(∀z∈dR (l.take a),pI z=false)/\∃o5 o6 o7 o8 o9,δ=[some (fD t.aS t.aW m),some (D.lst false (aE false G)),some (D.int (ag G)),some (D.lst false (fK false l)),some (D.lst true (fK true ((dR (l.take a)).map (jf m (ag G))))),o5,o6,o7,o8,o9]) ⟨λz hz=>absurd hz ij,_,_,_,_,_,rfl⟩ ?_ ?_
  ·rintro a d δ hd ⟨sA,o5,o6,o7,o8,o9,rfl⟩
   obtain⟨ha,rfl⟩:=cC8 hd
   clear hd hU
   have hs:=cB ha
   obtain⟨gs,gk⟩:=L.gs _ hs
   obtain⟨hh,MR⟩:=gs.rt
   have g6:=(Bv _ hs).2
   have et:dR (l.take (a+1))=dR (l.take a)++fH l[a]:=by
    unfold dR
    rw[mr,aJ ha,RN,df0,List.flatMap_cons,List.flatMap_nil,mn]
   rw[et]
   have YM:=er3 (a+1)
   rw[et,dS]at YM
   generalize hS:l[a]=s0 at hs gs gk MR g6 et YM ⊢
   have l1:(fH s0).length=s0.2.length:=by unfold fH;rw[br,dB]
   nofun
   refine fE.mk (λi δ=>(∀z∈(fH s0).take i,pI z=false)/\∃o7 o8 o9,δ=[some (fD t.aS t.aW m),some (D.lst false (aE false G)),some (D.int (ag G)),some (D.lst false (fK false l)),some (D.lst true (fK true ((dR (l.take a)++(fH s0).take i).map (jf m (ag G))))),some (D.lst false (aq s0.1)),some (D.lst false (aE false s0.2)),o7,o8,o9]) ⟨λz hz=>absurd hz ij,_,_,_,by rw[List.take_zero,mn]⟩ ?_ ?_
   ·rintro i d δ hd ⟨Bw,o7,o8,o9,rfl⟩
    obtain⟨hi,rfl⟩:=ID hd
    clear hd
    obtain⟨cl,ca⟩:=MR _ (cB hi)
    have gc:s0.2.getD i []=s0.2[i]:=by rw[aK,aJ hi];rfl
    have gle:=gs.le
    have ei:(fH s0).take (i+1)=(fH s0).take i++[(s0,i)]:=by
     rw[mr]
     congr 1
     unfold fH
     rw[bP,kh hi];rfl
    have hh6:hh<=64:=by have:=kL _ hs _ (cB hi);omega
    have il1:=(Bv _ hs).1.len
    simp only[iC,gj,gi]
    refine aA λU hU=>?_
    nofun
    have eb:aq s0.1++[D.int ((ag G:Int)-(s0.2.length:Int)+(i:Int))]=aq (j8 (ag G) (s0,i)):=by
     unfold j8
     rw[cw,cw,gh]
     show _=_++[D.int ((ag G-s0.2.length+i:Nat):Int)]
     rw[show(ag G:Int)-(s0.2.length:Int)+(i:Int)=((ag G-s0.2.length+i:Nat):Int) by omega]
    rw[eb]
    refine⟨by decide,by omega,hU _ ?_⟩
    clear hU
    refine aA λU hU=>?_
    nofun
    refine⟨s0.2[i],rfl,by omega,nul s0.2[i],rfl,?_⟩
    cases hz:nul s0.2[i]with
    | true =>
     rw[if_pos rfl]
     have ef:pK m G=some (j8 (ag G) (s0,i)):=by
      rw[<-MQ,u9,if_neg l0]
      have:(dR l).find? pI=some (s0,i):=by
       refine de2.mpr ⟨by show nul (s0.2.getD i [])=true;rw[gc];exact hz,dR (l.take a)++(fH s0).take i,(fH s0).drop (i+1)++dR (l.drop (a+1)),?_,λz MS=>?_⟩
       ·have e1:dR l=dR (l.take (a+1))++dR (l.drop (a+1)):=by
         conv=>lhs;rw[<-Sd (a+1) l]
         unfold dR
         rw[df0]
        have e2:fH s0=(fH s0).take i++(s0,i)::(fH s0).drop (i+1):=by
         conv=>lhs;rw[<-Sd (i+1) (fH s0),ei,eV]
         rfl
        rw[e1,et]
        conv=>lhs;rw[e2]
        simp only[eV,nO]
       ·have:=(bY.mp MS).elim (sA z) (Bw z)
        rw[this];rfl
      rw[this];rfl
     rw[ef]at q
     exact q
    | false =>
     rw[if_neg (by decide)]
     refine hU _ ?_
     clear hU
     nofun
     rw[show((i:Int)+1)=((i+1:Nat):Int) by omega,CP,ei]
     refine⟨⟨_,rfl⟩,m,s0.2[i],s0.2.drop (i+1),rfl,hm,hz,by omega,ca,λr bg=>by rw[cl];exact MR r (qf bg),by rw[jk];omega,by rw[eR,pk];rfl,by decide,?_,λz MS=>?_,_,_,_,?_,rfl,rfl,rfl⟩
     ·unfold fK
      rw[br,br,dS,ig]
      omega
     ·rcases bY.mp MS with y | y
      ·exact Bw z y
      ·rw[dW.mp y]
       show nul (s0.2.getD i [])=false
       rw[gc];exact hz
     ·rw[<-eV,gh (l₁:=dR (l.take a)++(fH s0).take i),<- ch8]
      congr 1
      show _=[D.tup [.lst true (aq (jf m (ag G) (s0,i)).1),.lst true (aE true (jf m (ag G) (s0,i)).2)]]
      show _=[D.tup [.lst true (aq (j8 (ag G) (s0,i))),.lst true (aE true (cy m (s0.2.getD i []) (s0.2.drop (i+1))))]]
      rw[gc]
   ·rintro δ ⟨Bw,o7,o8,o9,rfl⟩
    rw[show(fk (aE false s0.2)).length=(fH s0).length by rw[oR,i9,l1],tu]at Bw ⊢
    exact⟨λz hz=>(bY.mp hz).elim (sA z) (Bw z),_,_,_,_,_,rfl⟩
  ·rintro δ ⟨sA,o5,o6,o7,o8,o9,rfl⟩
   refine hU _ ?_
   clear hU
   rw[show(fK false l).length=l.length by unfold fK;rw[br],tu]at sA ⊢
   nofun
   have hf:(dR l).find? pI=none:=R6.mpr λz hz=>by rw[sA z hz];decide
   refine⟨n,by omega,_,k+1,_,_,_,_,_,_,⟨rfl,rfl,rfl,rfl,rfl,rfl,rfl⟩,L.next hm (Ji hm hR) sA,by omega,?_,?_,λs hs r bg=>?_⟩
   ·rw[<-MQ,u9,if_neg l0,hf]
   ·rw[br,nJ]
    have:=MN (W:=6) λs hs=>(Bv s hs).2
    exact eG this (de9 6 Bt)
   ·obtain⟨z,hz,rfl⟩:=bE.mp hs
    exact cf6 (λo ho=>kL _ (wO.mp hz).1 o (qf ho)) r bg
abbrev aV7(t:gB)(P:Program)(w:World)(K:Frag)(mg:Str->Option Value)(base:Heap):bA:=λds Q=>∃(m:Bool × Nat) (T:List (List Nat)) (b:Bool),ds=[fD t.aS t.aW m,.lst false (aE false T),.bl b]/\m∈aD/\0<T.length/\T.length<=4/\0<ag T/\ag T<=6/\RT (aa m) (ag T) T/\(b=true->∃x y,wQ m T.length (ag T) x y T)/\∀d:Nat,1<=d->d<=13->(∀S,fI (ag T) S->S.length<d->kJ m (fX T) S)->Q (.int d)
theorem aV8(T:Txt K mg t):aQ P w K mg base bf 5 t.LR t.LS ["_law_field_here","_law_table_here","_law_powers_here"] (bw (aV7 t P w K mg base)):=by
 refine bH T.X0 W6 ?_ ?_
 ·intro ds Q h
  obtain⟨m,T,b,rfl,hm,vh,kM,jK,hw,hT,hb,q⟩:=h<;>rfl
 ·intro aI A outer s H E hr
  refine⟨_,(aB (bV (gr (bv 2)) (aB (bV (bO v3 (ae (dQ (fW) (by rfl) T.fY fQ (af (bv 1) au))) (ae (dQ (fW) (by rfl) T.fY fQ (af (bG (bv 1) (ae aw) (λ_ _=>rfl)) au))) (bL _)) (aF (aU (aG cQ (ae (dQ (fW) (by rfl) T.fY fQ (af (bv 1) au))) (ae aw)))) cu)
    (aF (aU aw))) cu)
   (aB (aV (i:=3) W6.nd rfl (ao rfl) (aT ((aQ3 T).mono (by decide)) hr rfl T.ec9 T.XZ.kp T.ed0 aP (af (bv 0) (af (ae (aT ((Eb T).mono (by decide)) hr rfl T.DV T.AR.kp T.DW aP (af (bv 1) au))) au))))
   (aB (bV (bO q9 (bv 3) (ae fC) (bL _)) (aF (aU aw)) cu)
   (aF (aU (dQ (fW) (by rfl) T.fY fQ (af (bv 3) au))))))),λds Q h=>?_⟩
  obtain⟨m,T,b,rfl,hm,vh,kM,jK,hw,hT,hb,q⟩:=h
  have w0:(T[0]).length=ag T:=(hT _ (cB vh)).1
  refine aA λU hU=>?_
  nofun
  cases b with
  | true =>
   rw[if_pos rfl]
   obtain⟨x,y,h⟩:=hb rfl
   refine aA λU hU=>?_
   nofun
   refine⟨_,sk false vh,?_⟩
   dsimp only
   rw[eo,w0]
   by_cases c:T.length<ag T
   ·rw[if_pos (by omega)]
    exact q (T.length+1) (by omega) (by omega) λS hS hl=>h.ind hm hS (by omega)
   ·rw[if_neg (by omega)]
    refine hU _ ?_
    nofun
    exact q 13 (by decide) (by decide) λS hS hl=>h.ind hm hS (by have:=hS.len;omega)
  | false =>
  rw[if_neg (by decide)]
  refine hU _ ?_
  clear hU U
  refine aA λU hU=>?_
  nofun
  refine⟨T,rfl,by omega,?_⟩
  have ff:∀o,(MP o).fr=true:=λo=>by cases o with | none=>rfl | some l=>exact gJ l
  refine⟨m,T,by rw[de,dj],hm,by omega,hT,jK,hw,by rw[ff,gy],hU _ ?_⟩
  clear hU U
  refine aA λU hU=>?_
  nofun
  cases eF:pK m T with
  | none =>
   rw[if_pos (by exact rfl)]
   exact q 13 (by decide) (by decide) λS hS _=>cB7 hm jK hT eF S hS
  | some F =>
   obtain⟨f1,f2,_,f4⟩:=cE8 hm jK hT eF
   have:=f1.len
   rw[if_neg (by exact gg),show MP (some F)=D.lst true (aq F) from rfl]
   refine hU _ ?_
   nofun
   exact q F.length (by omega) (by omega) λS hS hl=>f4 S hS (.inl hl)
abbrev aX2(t:gB)(P:Program)(w:World)(K:Frag)(mg:Str->Option Value)(base:Heap):bA:=λds Q=>∃(m:Bool × Nat) (T:List (List Nat)) (room:Nat) (c:List Nat),ds=[fD t.aS t.aW m,.lst false (aE false T),.int room,.lst false (aq c)]/\m∈aD/\0<ag T/\ag T<=64/\RT (aa m) (ag T) T/\T.length<=64/\1<=room/\room<=15/\c.length=ag T/\AllLt (aa m) c/\(∀r∈T,gd m r c=0)/\(∀S,fI (ag T) S->S.length<room->kJ m (fX T) S)/\Q (.bl true)
theorem aX3(T:Txt K mg t):aQ P w K mg base bf 15 t.LU t.LV ["_law_field_here","_law_table_here","_law_room","_law_sent_here"] (bw (aX2 t P w K mg base)):=by
 refine bH T.X5 JE ?_ ?_
 ·intro ds Q h
  obtain⟨m,T,room,c,rfl,hm,jK,hw,hT,kM,u6,Eg,lc,hc,cz,hD,q⟩:=h<;>rfl
 ·intro aI A outer s H E hr
  refine⟨_,(aB (aV (i:=4) JE.nd rfl (ao rfl) (CH (CI) (by rfl) T.sM qy (af (bv 3) au)))
   (aB (aV (i:=5) JE.nd rfl (ao rfl) (aT ((MJ T).mono (by decide)) hr rfl T.Ml T.D1.kp T.Mm aP (af (bv 0) (af (bv 1) (af (bv 2) (af (bv 4) au))))))
   (aB (bV (PW.pt (ua (mR (gr (ae (wc (by rfl) T.yC (by rfl) T.sM qy (bv 5))))) (tO (bO (jX (dr hr)) (bv 5) (bv 3) (bL _))))) (aF (aU kE)) cu)
   (aB (wg (i:=5) rfl (by first | exact ao rfl | exact aX (ao rfl)) (aG cQ (bG (bv 5) (ae aw) (λ_ _=>rfl)) (ae aw)) (ae aw))
   (aF (aU (vW (fV (dr hr)) (bv 4) (bv 3) (bL _)))))))),λds Q h=>?_⟩
  obtain⟨m,T,room,c,rfl,hm,jK,hw,hT,kM,u6,Eg,lc,hc,cz,hD,q⟩:=h
  have MA:=(cE hm).hi
  have ec:dk (c.map some)=aq c:=by unfold dk;rw[bZ,cw];rfl
  have hy:∀a,some a∈c.map some->a<aa m:=λa ha=>by
   obtain⟨b,hb,e⟩:=bE.mp ha
   cases e
   exact hc _ hb
  have ly:(c.map some).length=ag T:=by rw[br,lc]
  refine aA λU hU=>?_
  nofun
  refine hU _ ?_
  clear hU U
  refine aA λU hU=>?_
  nofun
  have nk:=(WU hm jK hT hy ly hD).mpr (cN7 hm hc cz (by omega))
  refine⟨m,T,room,c.map some,by rw[ec],hm,jK,hw,hT,kM,hy,ly,Eg,by rw[nk];exact gJ c,hU _ ?_⟩
  clear hU U
  rw[nk,show j9 (some c)=D.lst true (aq c) from rfl]
  refine aA λU hU=>?_
  nofun
  rw[if_neg (by decide)]
  refine hU _ ?_
  clear hU U
  refine aA λU hU=>?_
  nofun
  refine⟨.int ((c.getD 0 0:Nat):Int),i8 (by omega) (by show 0<c.length;omega),?_⟩
  dsimp only
  refine⟨_,0,rfl,Aq (by omega) (by rw[eo];show 0<c.length;omega),hU _ ?_⟩
  nofun
  rw[decide_eq_true trivial]
  exact q
theorem cE2(n:Nat)(o:Bool)(y:List (Option Nat)):cX (n+1) (.lst o (dk y))=true:=by
 show(dk y).all (cX n)=true
 refine dv.mpr λd hd=>?_
 obtain⟨a,_,rfl⟩:=bE.mp hd
 cases a with
 | none=>exact rC n
 | some a=>exact oQ n _
theorem YN:∀y:List (Option Nat),bJ.fF (dk y) (dk y)=true
 | []=>rfl
 | a::y=>by
  show(bJ (fo a) (fo a)&&bJ.fF (dk y) (dk y))=true
  rw[YN y,ki]
  cases a with
  | none=>rfl
  | some a=>exact beq_self_eq_true _
theorem cB9(o o':Bool)(y:List (Option Nat)):bJ (.lst o (dk y)) (.lst o' (dk y))=true:=YN y
theorem YO(o:Option (List Nat)):cX 6 (j9 o)=true:=by
 cases o with
 | none=>rfl
 | some l=>exact Ap 5 true l
theorem cD2(o:Option (List Nat)):bJ (j9 o) (j9 o)=true:=by
 cases o with
 | none=>rfl
 | some l=>exact(u3 true true l l).trans (decide_eq_true rfl)
theorem YQ(o:Bool)(T:List (List Nat))(y:List (Option Nat)):cX 6 (D.lst true [D.lst true (aE o T),D.lst true (dk y)])=true:=by
 show(cX 5 _&&(cX 5 _&&true))=true
 rw[IC 3,cE2 4];rfl
theorem cl4(o o':Bool)(T:List (List Nat))(y:List (Option Nat)):bJ (D.lst true [D.lst true (aE o T),D.lst true (dk y)]) (D.lst true [D.lst true (aE o' T),D.lst true (dk y)])=true:=by
 show(bJ _ _&&(bJ _ _&&true))=true
 rw[VZ,cB9,decide_eq_true rfl];rfl
theorem cP3(T:Txt K mg t)(hB:Bm mg base):aQ P w K mg base bf 16 t.LW t.LX ["_law_script"] (Aa [t.me,t.mf] (bw (UK ))):=by
 refine Vq T.ed5 jI ?_ ?_
 ·intro ds Q h
  obtain⟨ns,rfl,hl,q⟩:=h<;>rfl
 ·intro aI A outer s H E hT hr
  refine⟨_,(aB (aV (i:=1) jI.nd rfl (aX rfl) (aT ((aU0 T).mono (by decide)) hr rfl T.aW1 T.W9.kp T.aW2 aP (af (ae (aT ((ke T).mono (by decide)) hr rfl T.ka T.jJ.kp T.kb aP (af (bv 0) (af (ae aw) au)))) au)))
   (aB (aV (i:=2) jI.nd rfl (ao rfl) (cD9 hT ((aR7 T hB).mono (by decide)) hr rfl T.aT2 T.Xm.kp T.aT3 aP (af (bv 1) au)))
   (aB (aV (i:=3) jI.nd rfl (ao rfl) (aG cQ (ae aw) (ae (aG dh (ae (aT ((ke T).mono (by decide)) hr rfl T.ka T.jJ.kp T.kb aP (af (bv 0) (af (ae aw) au)))) (ae aw)))))
   (aB (aV (i:=4) jI.nd rfl (ao rfl) (aG cQ (ae aw) (ae (aG dh (ae (aG jC (ae (aT ((ke T).mono (by decide)) hr rfl T.ka T.jJ.kp T.kb aP (af (bv 0) (af (ae aw) au)))) (ae aw))) (ae aw)))))
   (aB (aV (i:=5) jI.nd rfl (ao rfl) (vW (fV (dr hr)) (ae (aG dh (ae (aG jC (ae (aT ((ke T).mono (by decide)) hr rfl T.ka T.jJ.kp T.kb aP (af (bv 0) (af (ae aw) au)))) (ae aw))) (ae aw))) (ae aw) (bL _)))
   (aB (bV (gr (bv 5)) (aB (aV (i:=4) jI.nd rfl (ao rfl) (dQ (cR0 rfl) (by rfl) T.ee2 cH8 (af (bv 4) (af (ae (aT ((sP T).mono (by decide)) hr rfl T.sG T.pS.kp T.sH aP (af (bv 1) au))) au))))
    (aF (aV (i:=6) jI.nd rfl (ao rfl) (aT ((aQ1 T).mono (by decide)) hr rfl T.aR1 T.XX.kp T.aR2 aP (af (bv 1) (af (bv 0) (af (bv 3) (af (bv 4) (af (ae (aT ((ke T).mono (by decide)) hr rfl T.ka T.jJ.kp T.kb aP (af (bv 0) (af (ae aw) au)))) au))))))))) (aF (aV (i:=6) jI.nd rfl (ao rfl) (aT ((aS4 T).mono (by decide)) hr rfl T.aT7 T.XY.kp T.aT8 aP (af (bv 1) (af (bv 0) (af (ae aw) (af (bv 3) (af (bv 4) (af (ae (aG dh (ae (aT ((ke T).mono (by decide)) hr rfl T.ka T.jJ.kp T.kb aP (af (bv 0) (af (ae aw) au)))) (ae aw))) au))))))))))
   (aB (aV (i:=7) jI.nd rfl (ao rfl) (aG cQ (ae aw) (ae (aG dh (ae (aG jC (ae (aT ((ke T).mono (by decide)) hr rfl T.ka T.jJ.kp T.kb aP (af (bv 0) (af (ae aw) au)))) (ae aw))) (ae (aT ((aV8 T).mono (by decide)) hr rfl T.aW5 T.X0.kp T.aW6 aP (af (bv 2) (af (bv 6) (af (bv 5) au)))))))))
   (aB (aV (i:=8) jI.nd rfl (ao rfl) (aT ((aU8 T).mono (by decide)) hr rfl T.aW3 T.XC.kp T.aW4 aP (af (bv 1) (af (bv 0) (af (bv 2) (af (bv 6) au))))))
   (aB (bV (PW.pt (ua (bO q9 (bv 8) (ae fC) (bL _)) (tO (mR (gr (ae (aT ((aX3 T).mono (by decide)) hr rfl T.aX5 T.X5.kp T.aX6 aP (af (bv 2) (af (ae (aT ((Eb T).mono (by decide)) hr rfl T.DV T.AR.kp T.DW aP (af (bv 6) au))) (af (bv 7) (af (bv 8) au))))))))))) (aF (aU kE)) cu)
   (aB (aV (i:=9) jI.nd rfl (ao rfl) (aT ((aP7 T).mono (by decide)) hr rfl T.aQ9 T.XD.kp T.aR0 aP (af (bv 1) (af (bv 0) (af (bv 8) au)))))
   (aB (aV (i:=10) jI.nd rfl (ao rfl) (eM (e5 (aT ((Eb T).mono (by decide)) hr rfl T.DV T.AR.kp T.DW aP (af (bv 6) au)) (e5 (CH (CI) (by rfl) T.sM qy (af (bv 9) au)) dH))))
   (aB (aV (i:=11) jI.nd rfl (aX rfl) (aT ((MJ T).mono (by decide)) hr rfl T.Ml T.D1.kp T.Mm aP (af (bv 2) (af (bG (bv 10) (ae aw) (λ_ _=>rfl)) (af (bv 7) (af (bG (bv 10) (ae aw) (λ_ _=>rfl)) au))))))
   (aB (bV (PW.pt (ua (bO (jX (dr hr)) (bv 10) (wL (af (bv 6) (af (bv 9) au))) (bL _)) (tO (bO (jX (dr hr)) (ae (aT ((MJ T).mono (by decide)) hr rfl T.Ml T.D1.kp T.Mm aP (af (bv 2) (af (bG (bv 10) (ae aw) (λ_ _=>rfl)) (af (bv 7) (af (bG (bv 10) (ae aw) (λ_ _=>rfl)) au)))))) (bv 11) (bL _))))) (aF (aU kE)) cu)
   (aB (bV (gr (ae (aT ((YH T).mono (by decide)) hr rfl T.XU T.Mn.kp T.XW aP (af (bv 9) (af (bv 8) (af (bv 7) au)))))) (aF (aU (zS (ae (aT ((Mz T).mono (by decide)) hr rfl T.Md T.DX.kp T.Me aP (af (bv 11) (af (bv 4) (af (ae (aT ((sP T).mono (by decide)) hr rfl T.sG T.pS.kp T.sH aP (af (bv 1) au))) au))))) (zi (vW (fV (dr hr)) (bv 11) (bv 8) (bL _)))))) cu)
   (aB (bV (bO q9 (bv 11) (ae fC) (bL _)) (aF (aU kE)) cu)
   (aB (bV (PW.pt (ua (mR (gr (ae (aT ((Mz T).mono (by decide)) hr rfl T.Md T.DX.kp T.Me aP (af (bv 11) (af (bv 4) (af (ae (aT ((sP T).mono (by decide)) hr rfl T.sG T.pS.kp T.sH aP (af (bv 1) au))) au))))))) (tO (gr (ae (dQ (Wm rfl) (by rfl) T.X7 TK (af (ae (du [("_law_told_here",1),("_law_found",11)] ["_law_row"] rfl (fS (bv 6)) (λ_ _ _ _=>(cC (i:=2) (show(["_law_told_here","_law_found","_law_row"]:List Str).Nodup by decide +kernel) rfl (ao (lr1 rfl)) (by decide) (aX (lr1 rfl)))) (λ_ _ _ _=>dw) (λ_ _ _ _=>(aT ((Mx T).mono (by decide)) hr rfl T.Ma T.DU.kp T.Mb aP (af (bv 0) (af (bv 2) (af (bv 1) au))))) rfl ⟨rfl,⟨rfl,trivial⟩⟩ (λ_=>by repeat' (first | exact trivial | refine⟨.inl rfl,?_⟩ | refine⟨.inr (.inl rfl),?_⟩ | refine⟨.inr (.inr ⟨_,rfl⟩),?_⟩)) (λ_=>⟨⟨rfl,.inl rfl,.inl rfl,_,rfl,rfl⟩,⟨⟨rfl,.inl rfl,.inl rfl,_,rfl,rfl⟩,trivial⟩⟩) rfl (by decide +kernel))) au))))))) (aF (aU kE)) cu)
   (aF (aU (aT ((YH T).mono (by decide)) hr rfl T.XU T.Mn.kp T.XW aP (af (bv 9) (af (bv 11) (af (bv 7) au)))))))))))))))))))))),λds Q h=>?_⟩
  obtain⟨ns,rfl,hl,q⟩:=h
  refine aA λU hU=>?_
  nofun
  refine⟨ns,0,rfl,by decide,by decide,_,rfl,rfl,hU _ ?_⟩
  clear hU U
  generalize hmm:rZ (eP ns 0)=m
  have hm:m∈aD:=by rw[<-hmm];exact cj7 _
  have hF:=cE hm
  have dq:=hF.lo
  have MA:=hF.hi
  have Ec:=An m hm
  refine aA λU hU=>?_
  nofun
  refine⟨m,rfl,hm,hU _ ?_⟩
  clear hU U
  refine aA λU hU=>?_
  nofun
  refine⟨ns,1,rfl,by decide,by decide,by decide,?_⟩
  obtain⟨r,er,u6,hr4⟩:∃k:Nat,1+eP ns 1%4=k/\1<=k/\k<=4:=⟨(1+eP ns 1%4).toNat,by omega,by omega,by omega⟩
  rw[er]
  refine hU _ ?_
  clear hU U
  refine aA λU hU=>?_
  nofun
  refine⟨ns,1,rfl,by decide,by decide,jB (by decide) (by decide),by decide,?_⟩
  obtain⟨wi,ew,YR,YS⟩:∃k:Nat,2+eP ns 1/4%4=k/\2<=k/\k<=5:=⟨(2+eP ns 1/4%4).toNat,by omega,by omega,by omega⟩
  rw[ew]
  refine hU _ ?_
  clear hU U
  refine aA λU hU=>?_
  nofun
  refine⟨ns,2,rfl,by decide,by decide,jB (by decide) (by decide),by decide,?_⟩
  generalize eP ns 2/4%2=pw
  refine hU _ ?_
  clear hU U
  refine aA λU hU=>?_
  nofun
  have st:∀(T:List (List Nat)) (wi:Nat) (o:Bool),2<=wi->wi<=5->T.length=r->RT (aa m) wi T->(pw=0->∃x y,wQ m r wi x y T)->U [some (D.fz (aL ns)),some (dy m),some (fD t.aS t.aW m),some (D.int r),some (D.int wi),some (D.bl (decide (pw=0))),some (D.lst true (aE o T)),none,none,none,none,none]:=by
   intro T wi o YR YS lT hT hP
   refine hU _ ?_
   clear hU U
   have T0:T≠[]:=λz=>by rw[z]at lT;exact absurd lT (by show ¬ (0=r);omega)
   have eW:=cB5 hT T0
   rw[<-eW]at hT hP
   rw[<-lT]at hP
   have vg:∀X:List (List Nat),(D.lst true (aE true X)).fr=true:=λX=>by rw[eR,pk];rfl
   refine aA λU hU=>?_
   nofun
   refine⟨ns,2,rfl,by decide,by decide,?_⟩
   dsimp only
   refine⟨jB (by decide) (by decide),m,T,decide (pw=0),rfl,hm,by omega,by omega,by omega,by omega,hT,λz=>hP (of_decide_eq_true z),λd d1 d13 hD=>⟨rfl,?_⟩⟩
   dsimp only
   obtain⟨room,em,m1,md⟩:∃k:Nat,1+eP ns 2/32%(d:Int)=k/\1<=k/\k<=d:=by
    have n0:=jl (eP ns 2/32) (show(d:Int)≠0 by omega)
    have n1:=jm (eP ns 2/32) (show(0:Int)<(d:Int) by omega)
    exact⟨(1+eP ns 2/32%(d:Int)).toNat,by omega,by omega,by omega⟩
   rw[em]
   refine⟨by omega,hU _ ?_⟩
   clear hU U
   have hD:∀S,fI (ag T) S->S.length<room->kJ m (fX T) S:=λS hS hl=>hD S hS (by omega)
   refine aA λU hU=>?_
   nofun
   refine⟨m,ns,T,rfl,hm,by omega,by omega,by omega,by omega,hT,λc lc hc cz=>⟨gJ _,hU _ ?_⟩⟩
   clear hU U
   refine aA λU hU=>?_
   nofun
   refine⟨T,rfl,by omega,vg _,m,T,room,c,by rw[de,dj],hm,by omega,by omega,hT,by omega,m1,by omega,lc,hc,cz,hD,?_⟩
   refine⟨rfl,true,rfl,?_⟩
   rw[if_neg (by decide)]
   refine hU _ ?_
   clear hU U
   refine aA λU hU=>?_
   nofun
   refine⟨ns,m,c,rfl,hm,by omega,hc,λy ly hy=>?_⟩
   have yfr:∀z:List (Option Nat),(D.lst true (dk z)).fr=true:=λz=>by
    rw[eR,kg]
    refine dv.mpr λd hd=>?_
    obtain⟨a,_,rfl⟩:=bE.mp hd
    cases a<;>rfl
   refine⟨yfr _,hU _ ?_⟩
   clear hU U
   refine aA λU hU=>?_
   nofun
   refine⟨T,rfl,by omega,vg _,cA7 y,by decide,hU _ ?_⟩
   clear hU U
   have ni:=λw=>WU (w:=w) hm (by omega) hT hy (ly.trans lc) hD
   refine aA λU hU=>?_
   nofun
   refine⟨_,rfl,_,rfl,m,T,room,y,by rw[de,de,dj,pL],hm,by omega,by omega,hT,by omega,hy,ly.trans lc,by omega,by rw[AH,gy],hU _ ?_⟩
   clear hU U
   refine aA λU hU=>?_
   nofun
   rw[cl4,if_neg (by decide)]
   refine⟨by decide,⟨YQ ..,YQ ..⟩,_,rfl,_,rfl,m,T,room,y,by rw[de,de,dj,pL],hm,by omega,by omega,hT,by omega,hy,ly.trans lc,by omega,by rw[AH,gy],⟨YO _,YO _⟩,?_⟩
   rw[cD2,if_neg (by decide)]
   refine hU _ ?_
   clear hU U
   generalize pM m T room y=ro at ni ⊢
   refine aA λU hU=>?_
   nofun
   refine⟨y,c,room,by rw[pL],by omega,by omega,rfl,_,rfl,?_⟩
   by_cases nr:(L3.bB y).length+2*(iJ y c).length<room
   ·have e:=(ni c).mpr ⟨by omega,hc,cz,nr⟩
    subst e
    rw[if_pos (decide_eq_true nr),show j9 (some c)=D.lst true (aq c) from rfl,u3,decide_eq_true rfl]
    refine⟨m,rfl,by omega,by omega,c,wi,aa m,by rw[iG,jD],by omega,by omega,hc,by rw[show(D.bl _).fr=true from rfl,gy],true,rfl,?_⟩
    rw[if_pos rfl]
    exact⟨Ap 5 true _,q⟩
   rw[if_neg (by rw[decide_eq_false nr];decide)]
   refine hU _ ?_
   clear hU U
   refine aA λU hU=>?_
   nofun
   cases ro with
   | none =>
    rw[if_pos (by exact rfl)]
    exact q
   | some v =>
   have nv:=(ni v).mp rfl
   have lv:=nv.ln
   rw[if_neg (by exact gg),show j9 (some v)=D.lst true (aq v) from rfl]
   refine hU _ ?_
   clear hU U
   refine aA λU hU=>?_
   nofun
   refine⟨m,rfl,by omega,by omega,v,wi,aa m,by rw[jD],by omega,by omega,nv.lt,rfl,true,rfl,?_⟩
   rw[if_neg (by decide)]
   refine dX T (λr=>D.lst false (aq r)) (λr=>D.int ((gd m r v:Nat):Int)) (by rw[dj];rfl) (λa b h=>nh a b h) (λr bg=>?_) (.inr λr _=>rfl) (by rw[sL];omega) ?_
   ·have vN:=(hT r bg).1
    nofun
    exact⟨m,r,v,rfl,hm,by omega,by omega,(hT r bg).2,nv.lt,rfl⟩
   refine⟨T.map λr=>((gd m r v:Nat):Int),by unfold aL;rw[bZ];rfl,?_⟩
   rw[show(T.map λr=>((gd m r v:Nat):Int)).any (λx=>x != 0)=false by
    rw[RD]
    intro x hx
    obtain⟨r,bg,rfl⟩:=bE.mp hx
    rw[nv.z r bg];decide,if_neg (by decide)]
   refine hU _ ?_
   nofun
   refine⟨y,v,room,by rw[pL],lv,by omega,rfl,?_⟩
   rw[decide_eq_true nv.AG]
   exact q
  clear hU
  by_cases p0:pw=0
  ·rw[if_pos p0]
   refine aA λU hU=>?_
   nofun
   refine⟨m,rfl,by omega,by omega,?_⟩
   obtain⟨w2,ew2,w21,w22,w23⟩:∃k:Nat,(if(aa m:Int)<(wi:Int)then(aa m:Int)else(wi:Int))=k/\2<=k/\k<=5/\k<=aa m:=by
    by_cases c:(aa m:Int)<(wi:Int)
    ·rw[if_pos c];exact⟨aa m,rfl,by omega,by omega,by omega⟩
    ·rw[if_neg c];exact⟨wi,rfl,by omega,by omega,by omega⟩
   dsimp only
   rw[ew2]
   refine hU _ ?_
   clear hU
   nofun
   refine⟨ns,14,rfl,by decide,by decide,m,ns,r,w2,_,rfl,hm,by omega,by omega,w23,λT x y hP=>?_⟩
   exact⟨rfl,st T w2 false w21 w22 hP.l hP.rt λ_=>⟨x,y,hP⟩⟩
  ·rw[if_neg p0]
   refine⟨ns,2,rfl,by decide,by decide,?_⟩
   dsimp only
   refine⟨by decide,m,ns,15,r,wi,(eP ns 2%4).toNat,by rw[show(((eP ns 2%4).toNat:Nat):Int)=eP ns 2%4 by omega];rfl,hm,by decide,by omega,by omega,by omega,λT lT hT=>st T wi true YR YS lT hT λz=>absurd z p0⟩
end
set_option maxHeartbeats 0 in
theorem all_mk{l:PySem.W.OpenLaw}{w:World}{K:Frag}{h:Heap}{mg:Str->Option Value}{fa:Addr}{ts:List Addr}(X:K.In h)(G:h.Ns mainGlobals mg)(hfa:mg "law"=some (.ref fa))
  {od0 an0:Option Addr} {sl0:Array (Option Value)} {oc0 kV0 dc0 pm0 YT ct0:Value} {f0:Addr}
  {od1 an1:Option Addr} {sl1:Array (Option Value)} {oc1 kV1 dc1 pm1 YU ct1:Value} {f1:Addr}
  {Jh an2:Option Addr} {sl2:Array (Option Value)} {oc2 kV2 dc2 pm2 YV ct2:Value} {f2:Addr}
  {od3 an3:Option Addr} {sl3:Array (Option Value)} {oc3 kV3 dc3 pm3 YW ct3:Value} {f3:Addr}
  {od4 an4:Option Addr} {sl4:Array (Option Value)} {oc4 kV4 dc4 pm4 YX ct4:Value} {f4:Addr}
  {od5 an5:Option Addr} {sl5:Array (Option Value)} {oc5 kV5 dc5 pm5 YY ct5:Value} {f5:Addr}
  {od6 an6:Option Addr} {sl6:Array (Option Value)} {oc6 kV6 dc6 pm6 YZ ct6:Value} {f6:Addr}
  {od7 an7:Option Addr} {sl7:Array (Option Value)} {oc7 kV7 dc7 pm7 ct7:Value} {f7:Addr}
  {Bz me:Addr} {aJ2:Option Addr} {aJ3:Array (Option Value)} {Y0:Array Value} {aJ4:Value}
  {od8 an8:Option Addr} {sl8:Array (Option Value)} {oc8 kV8 dc8 pm8 Y1 ct8:Value} {f8:Addr}
  {od9 an9:Option Addr} {sl9:Array (Option Value)} {oc9 kV9 dc9 pm9 Y2 ct9:Value} {f9:Addr}
  {eB3 eB4:Option Addr} {eB5:Array (Option Value)} {eB6 eB7 eB8 eB9 Y3 eC0:Value} {Ej:Addr}
  {eC1 eC2:Option Addr} {eC3:Array (Option Value)} {eC4 eC5 eC6 eC7 Y4 eC8:Value} {Ek:Addr}
  {eC9 eD0:Option Addr} {eD1:Array (Option Value)} {eD2 eD3 eD4 eD5 Y5 eD6:Value} {mX:Addr}
  {eD7 eD8:Option Addr} {eD9:Array (Option Value)} {eE0 eE1 eE2 eE3 eE4:Value} {yG:Addr}
  {BA mf:Addr} {aM8:Option Addr} {aM9:Array (Option Value)} {Y6:Array Value} {aN0:Value}
  {eE8 eE9:Option Addr} {eF0:Array (Option Value)} {eF1 eF2 eF3 eF4 Y7 eF5:Value} {El:Addr}
  {eF6 eF7:Option Addr} {eF8:Array (Option Value)} {eF9 eG0 eG1 eG2 Y8 eG3:Value} {Em:Addr}
  {eG4 eG5:Option Addr} {eG6:Array (Option Value)} {eG7 eG8 eG9 eH0 Y9 eH1:Value} {Eo:Addr}
  {eH2 eH3:Option Addr} {eH4:Array (Option Value)} {eH5 eH6 eH7 eH8 Za eH9:Value} {yH:Addr}
  {eI0 eI1:Option Addr} {eI2:Array (Option Value)} {eI3 eI4 eI5 eI6 Zb eI7:Value} {yI:Addr}
  {eI8 eI9:Option Addr} {eJ0:Array (Option Value)} {eJ1 eJ2 eJ3 eJ4 Zc eJ5:Value} {Ep:Addr}
  {eJ6 eJ7:Option Addr} {eJ8:Array (Option Value)} {eJ9 eK0 eK1 eK2 Zd eK3:Value} {Er:Addr}
  {eK4 eK5:Option Addr} {eK6:Array (Option Value)} {eK7 eK8 eK9 eL0 Ze eL1:Value} {Es:Addr}
  {eL2 eL3:Option Addr} {eL4:Array (Option Value)} {eL5 eL6 eL7 eL8 Zf eL9:Value} {yJ:Addr}
  {eM0 eM1:Option Addr} {eM2:Array (Option Value)} {eM3 eM4 eM5 eM6 Zg eM7:Value} {yK:Addr}
  {eM8 eM9:Option Addr} {eN0:Array (Option Value)} {eN1 eN2 eN3 eN4 Zh eN5:Value} {qR:Addr}
  {eN6 eN7:Option Addr} {eN8:Array (Option Value)} {eN9 eO0 eO1 eO2 Zi eO3:Value} {yL:Addr}
  {eO4 eO5:Option Addr} {eO6:Array (Option Value)} {eO7 eO8 eO9 eP0 Zj eP1:Value} {Et:Addr}
  {eP2 eP3:Option Addr} {eP4:Array (Option Value)} {eP5 eP6 eP7 eP8 Zk eP9:Value} {sR:Addr}
  {eQ0 eQ1:Option Addr} {eQ2:Array (Option Value)} {eQ3 eQ4 eQ5 eQ6 Zl eQ7:Value} {Eu:Addr}
  {eQ8 eQ9:Option Addr} {eR0:Array (Option Value)} {eR1 eR2 eR3 eR4 Zm eR5:Value} {Ew:Addr}
  {eR6 eR7:Option Addr} {eR8:Array (Option Value)} {eR9 eS0 eS1 eS2 Zn eS3:Value} {Ey:Addr}
  {eS4 eS5:Option Addr} {eS6:Array (Option Value)} {eS7 eS8 eS9 eT0 Zo eT1:Value} {Ez:Addr}
  {eT2 eT3:Option Addr} {eT4:Array (Option Value)} {eT5 eT6 eT7 eT8 Zp eT9:Value} {EA:Addr}
  {eU0 eU1:Option Addr} {eU2:Array (Option Value)} {eU3 eU4 eU5 eU6 Zq eU7:Value} {EB:Addr}
  {eU8 eU9:Option Addr} {eV0:Array (Option Value)} {eV1 eV2 eV3 eV4 Zr eV5:Value} {EC:Addr}
  {eV6 eV7:Option Addr} {eV8:Array (Option Value)} {eV9 eW0 eW1 eW2 Zs eW3:Value} {ED:Addr}
  {eW4 eW5:Option Addr} {eW6:Array (Option Value)} {eW7 eW8 eW9 eX0 Zt eX1:Value} {EE:Addr}
  {eX2 eX3:Option Addr} {eX4:Array (Option Value)} {eX5 eX6 eX7 eX8 Zu eX9:Value} {EF:Addr}
  {eY0 eY1:Option Addr} {eY2:Array (Option Value)} {eY3 eY4 eY5 eY6 Zv eY7:Value} {EG:Addr}
  {eY8 eY9:Option Addr} {eZ0:Array (Option Value)} {eZ1 eZ2 eZ3 eZ4 Zw eZ5:Value} {EH:Addr}
  {eZ6 eZ7:Option Addr} {eZ8:Array (Option Value)} {eZ9 e00 e01 e02 Zx e03:Value} {EI:Addr}
  {e04 e05:Option Addr} {e06:Array (Option Value)} {e07 e08 e09 e10 Zy e11:Value} {EJ:Addr}
  {e12 e13:Option Addr} {e14:Array (Option Value)} {e15 e16 e17 e18 Zz e19:Value} {EK:Addr}
  {e20 e21:Option Addr} {e22:Array (Option Value)} {e23 e24 e25 e26 ZA e27:Value} {EL:Addr}
  {e28 e29:Option Addr} {e30:Array (Option Value)} {e31 e32 e33 e34 ZC e35:Value} {yM:Addr}
  {e36 e37:Option Addr} {e38:Array (Option Value)} {e39 e40 e41 e42 ZD e43:Value} {yN:Addr}
  {e44 e45:Option Addr} {e46:Array (Option Value)} {e47 e48 e49 e50 ZE e51:Value} {EM:Addr}
  {e52 e53:Option Addr} {e54:Array (Option Value)} {e55 e56 e57 e58 ZF e59:Value} {EN:Addr}
  {e60 e61:Option Addr} {e62:Array (Option Value)} {e63 e64 e65 e66 ZG e67:Value} {yO:Addr}
  {e68 e69:Option Addr} {e70:Array (Option Value)} {e71 e72 e73 e74 ZH e75:Value} {yP:Addr}
  {e76 e77:Option Addr} {e78:Array (Option Value)} {e79 e80 e81 e82 ZI e83:Value} {EO:Addr}
  {e84 e85:Option Addr} {e86:Array (Option Value)} {e87 e88 e89 e90 ZJ e91:Value} {ER:Addr}
  {e92 e93:Option Addr} {e94:Array (Option Value)} {e95 e96 e97 e98 ZK e99:Value} {ES:Addr}
  {fa0 fa1:Option Addr} {fa2:Array (Option Value)} {fa3 fa4 fa5 fa6 ZL fa7:Value} {ET:Addr}
  {fa8 fa9:Option Addr} {fb0:Array (Option Value)} {fb1 fb2 fb3 fb4 ZM fb5:Value} {EU:Addr}
  {fb6 fb7:Option Addr} {fb8:Array (Option Value)} {fb9 fc0 fc1 fc2 ZN fc3:Value} {EV:Addr}
  {fc4 fc5:Option Addr} {fc6:Array (Option Value)} {fc7 fc8 fc9 fd0 ZO fd1:Value} {EW:Addr}
  {fd2 fd3:Option Addr} {fd4:Array (Option Value)} {fd5 fd6 fd7 fd8 ZP fd9:Value} {EX:Addr}
  {fe0 fe1:Option Addr} {fe2:Array (Option Value)} {fe3 fe4 fe5 fe6 ZQ fe7:Value} {EY:Addr}
  {fe8 fe9:Option Addr} {ff0:Array (Option Value)} {ff1 ff2 ff3 ff4 ZR ff5:Value} {EZ:Addr}
  {ff6 ff7:Option Addr} {ff8:Array (Option Value)} {ff9 fg0 fg1 fg2 ZS fg3:Value} {E1:Addr}
  {fg4 fg5:Option Addr} {fg6:Array (Option Value)} {fg7 fg8 fg9 fh0 ZT fh1:Value} {E2:Addr}
  {fh2 fh3:Option Addr} {fh4:Array (Option Value)} {fh5 fh6 fh7 fh8 ZU fh9:Value} {E3:Addr}
  {fi0 fi1:Option Addr} {fi2:Array (Option Value)} {fi3 fi4 fi5 fi6 ZV fi7:Value} {E4:Addr}
  {fi8 fi9:Option Addr} {fj0:Array (Option Value)} {fj1 fj2 fj3 fj4 ZW fj5:Value} {E5:Addr}
  {fj6 fj7:Option Addr} {fj8:Array (Option Value)} {fj9 fk0 fk1 fk2 ZX fk3:Value} {E6:Addr}
  {fk4 ZY:Option Addr} {fk5:Array (Option Value)} {fk6 ZZ Z0 Z1 MT Z2:Value} {MU:Addr}
  {aS iK mh aW:Addr}
  (Bj:nsIn K mainGlobals "BitField"=some (some (.ref aS)))
  (Bk:nsIn K mainGlobals "ByNought"=some (some (.ref iK)))
  (yD:nsIn K mainGlobals "Field"=some (some (.ref mh)))
  (Bl:nsIn K mainGlobals "PrimeField"=some (some (.ref aW)))
  (a0:nsIn K mainGlobals "_law_told"=some (some (.ref f0)))
  (l0:K.lookup f0=some ⟨oc0,od0,.func (fnOf "_law_told" "_law_told" (bu wW) (bo wW) (az wW) .none kV0 dc0 pm0 an0 YT ct0),sl0⟩)
  (c0:codeIn K YT "_law_told"=true)
  (k0:keepIn K (.ref f0)=true)
  (a1:nsIn K mainGlobals "powers_of"=some (some (.ref f1)))
  (l1:K.lookup f1=some ⟨oc1,od1,.func (fnOf "powers_of" "powers_of" (bu wX) (bo wX) (az wX) .none kV1 dc1 pm1 an1 YU ct1),sl1⟩)
  (c1:codeIn K YU "powers_of"=true)
  (k1:keepIn K (.ref f1)=true)
  (a2:nsIn K mainGlobals "step_powers"=some (some (.ref f2)))
  (l2:K.lookup f2=some ⟨oc2,Jh,.func (fnOf "step_powers" "step_powers" (bu wY) (bo wY) (az wY) .none kV2 dc2 pm2 an2 YV ct2),sl2⟩)
  (c2:codeIn K YV "step_powers"=true)
  (k2:keepIn K (.ref f2)=true)
  (a3:nsIn K mainGlobals "logs_of"=some (some (.ref f3)))
  (l3:K.lookup f3=some ⟨oc3,od3,.func (fnOf "logs_of" "logs_of" (bu wZ) (bo wZ) (az wZ) .none kV3 dc3 pm3 an3 YW ct3),sl3⟩)
  (c3:codeIn K YW "logs_of"=true)
  (k3:keepIn K (.ref f3)=true)
  (a4:findIn K (.ref mh) "step_power"=some (some (.ref f4)))
  (l4:K.lookup f4=some ⟨oc4,od4,.func (fnOf "step_power" "Field.step_power" (bu w6) (bo w6) (az w6) .none kV4 dc4 pm4 an4 YX ct4),sl4⟩)
  (c4:codeIn K YX "Field.step_power"=true)
  (k4:keepIn K (.ref f4)=true)
  (a5:findIn K (.ref mh) "__init__"=some (some (.ref f5)))
  (l5:K.lookup f5=some ⟨oc5,od5,.func (fnOf "__init__" "Field.__init__" (bu w9) (bo w9) (az w9) .none kV5 dc5 pm5 an5 YY ct5),sl5⟩)
  (c5:codeIn K YY "Field.__init__"=true)
  (k5:keepIn K (.ref f5)=true)
  (a6:nsIn K mainGlobals "makes_prime_field"=some (some (.ref f6)))
  (l6:K.lookup f6=some ⟨oc6,od6,.func (fnOf "makes_prime_field" "makes_prime_field" (bu xa) (bo xa) (az xa) .none kV6 dc6 pm6 an6 YZ ct6),sl6⟩)
  (c6:codeIn K YZ "makes_prime_field"=true)
  (k6:keepIn K (.ref f6)=true)
  (a7:findIn K (.ref aW) "__init__"=some (some (.ref f7)))
  (l7:K.lookup f7=some ⟨oc7,od7,.func (fnOf "__init__" "PrimeField.__init__" (bu pO) (bo pO) (az pO) .none kV7 dc7 pm7 an7 (.ref Bz) ct7),sl7⟩)
  (c7:codeIn K (.ref Bz) "PrimeField.__init__"=true)
  (k7:keepIn K (.ref f7)=true)
  (Z3:K.lookup Bz=some ⟨aJ4,aJ2,.fields Y0,aJ3⟩)
  (Z4:Y0[11]?=some (.ref me))
  (MV:codeHdIn K Bz me=true)
  (a8:nsIn K mainGlobals "product_rows"=some (some (.ref f8)))
  (l8:K.lookup f8=some ⟨oc8,od8,.func (fnOf "product_rows" "product_rows" (bu xb) (bo xb) (az xb) .none kV8 dc8 pm8 an8 Y1 ct8),sl8⟩)
  (c8:codeIn K Y1 "product_rows"=true)
  (k8:keepIn K (.ref f8)=true)
  (a9:nsIn K mainGlobals "bits_divided"=some (some (.ref f9)))
  (l9:K.lookup f9=some ⟨oc9,od9,.func (fnOf "bits_divided" "bits_divided" (bu xf) (bo xf) (az xf) .none kV9 dc9 pm9 an9 Y2 ct9),sl9⟩)
  (c9:codeIn K Y2 "bits_divided"=true)
  (k9:keepIn K (.ref f9)=true)
  (MW:nsIn K mainGlobals "stands_alone"=some (some (.ref Ej)))
  (MX:K.lookup Ej=some ⟨eB6,eB3,.func (fnOf "stands_alone" "stands_alone" (bu xh) (bo xh) (az xh) .none eB7 eB8 eB9 eB4 Y3 eC0),eB5⟩)
  (MY:codeIn K Y3 "stands_alone"=true)
  (MZ:keepIn K (.ref Ej)=true)
  (M0:nsIn K mainGlobals "makes_bit_field"=some (some (.ref Ek)))
  (M1:K.lookup Ek=some ⟨eC4,eC1,.func (fnOf "makes_bit_field" "makes_bit_field" (bu xi) (bo xi) (az xi) .none eC5 eC6 eC7 eC2 Y4 eC8),eC3⟩)
  (M3:codeIn K Y4 "makes_bit_field"=true)
  (M4:keepIn K (.ref Ek)=true)
  (M5:nsIn K mainGlobals "bits_times"=some (some (.ref mX)))
  (M6:K.lookup mX=some ⟨eD2,eC9,.func (fnOf "bits_times" "bits_times" (bu xj) (bo xj) (az xj) .none eD3 eD4 eD5 eD0 Y5 eD6),eD1⟩)
  (M7:codeIn K Y5 "bits_times"=true)
  (M8:keepIn K (.ref mX)=true)
  (Z5:findIn K (.ref aS) "__init__"=some (some (.ref yG)))
  (M9:K.lookup yG=some ⟨eE0,eD7,.func (fnOf "__init__" "BitField.__init__" (bu pP) (bo pP) (az pP) .none eE1 eE2 eE3 eD8 (.ref BA) eE4),eD9⟩)
  (Na:codeIn K (.ref BA) "BitField.__init__"=true)
  (Nb:keepIn K (.ref yG)=true)
  (Z6:K.lookup BA=some ⟨aN0,aM8,.fields Y6,aM9⟩)
  (Z7:Y6[11]?=some (.ref mf))
  (Nc:codeHdIn K BA mf=true)
  (Nd:nsIn K mainGlobals "_law_field"=some (some (.ref El)))
  (Nf:K.lookup El=some ⟨eF1,eE8,.func (fnOf "_law_field" "_law_field" (bu xk) (bo xk) (az xk) .none eF2 eF3 eF4 eE9 Y7 eF5),eF0⟩)
  (Ng:codeIn K Y7 "_law_field"=true)
  (Nh:keepIn K (.ref El)=true)
  (Ni:nsIn K mainGlobals "leads"=some (some (.ref Em)))
  (Nj:K.lookup Em=some ⟨eF9,eF6,.func (fnOf "leads" "leads" (bu xm) (bo xm) (az xm) .none eG0 eG1 eG2 eF7 Y8 eG3),eF8⟩)
  (Nl:codeIn K Y8 "leads"=true)
  (Nm:keepIn K (.ref Em)=true)
  (Nn:nsIn K mainGlobals "free_places"=some (some (.ref Eo)))
  (Np:K.lookup Eo=some ⟨eG7,eG4,.func (fnOf "free_places" "free_places" (bu xn) (bo xn) (az xn) .none eG8 eG9 eH0 eG5 Y9 eH1),eG6⟩)
  (Nq:codeIn K Y9 "free_places"=true)
  (Nr:keepIn K (.ref Eo)=true)
  (Z8:findIn K (.ref aS) "minus"=some (some (.ref yH)))
  (Nt:K.lookup yH=some ⟨eH5,eH2,.func (fnOf "minus" "BitField.minus" (bu xo) (bo xo) (az xo) .none eH6 eH7 eH8 eH3 Za eH9),eH4⟩)
  (Nu:codeIn K Za "BitField.minus"=true)
  (E7:keepIn K (.ref yH)=true)
  (Z9:findIn K (.ref aW) "minus"=some (some (.ref yI)))
  (Nv:K.lookup yI=some ⟨eI3,eI0,.func (fnOf "minus" "PrimeField.minus" (bu xp) (bo xp) (az xp) .none eI4 eI5 eI6 eI1 Zb eI7),eI2⟩)
  (Nw:codeIn K Zb "PrimeField.minus"=true)
  (E8:keepIn K (.ref yI)=true)
  (Nx:nsIn K mainGlobals "kernel_of_reduced"=some (some (.ref Ep)))
  (Ny:K.lookup Ep=some ⟨eJ1,eI8,.func (fnOf "kernel_of_reduced" "kernel_of_reduced" (bu xq) (bo xq) (az xq) .none eJ2 eJ3 eJ4 eI9 Zc eJ5),eJ0⟩)
  (Nz:codeIn K Zc "kernel_of_reduced"=true)
  (NA:keepIn K (.ref Ep)=true)
  (NB:nsIn K mainGlobals "width_of"=some (some (.ref Er)))
  (NC:K.lookup Er=some ⟨eJ9,eJ6,.func (fnOf "width_of" "width_of" (bu xu) (bo xu) (az xu) .none eK0 eK1 eK2 eJ7 Zd eK3),eJ8⟩)
  (ND:codeIn K Zd "width_of"=true)
  (NF:keepIn K (.ref Er)=true)
  (NG:nsIn K mainGlobals "first_with"=some (some (.ref Es)))
  (NH:K.lookup Es=some ⟨eK7,eK4,.func (fnOf "first_with" "first_with" (bu xv) (bo xv) (az xv) .none eK8 eK9 eL0 eK5 Ze eL1),eK6⟩)
  (NI:codeIn K Ze "first_with"=true)
  (NJ:keepIn K (.ref Es)=true)
  (γ:findIn K (.ref aS) "scaled"=some (some (.ref yJ)))
  (NK:K.lookup yJ=some ⟨eL5,eL2,.func (fnOf "scaled" "BitField.scaled" (bu xw) (bo xw) (az xw) .none eL6 eL7 eL8 eL3 Zf eL9),eL4⟩)
  (NL:codeIn K Zf "BitField.scaled"=true)
  (E9:keepIn K (.ref yJ)=true)
  (ε:findIn K (.ref aW) "scaled"=some (some (.ref yK)))
  (NM:K.lookup yK=some ⟨eM3,eM0,.func (fnOf "scaled" "PrimeField.scaled" (bu xx) (bo xx) (az xx) .none eM4 eM5 eM6 eM1 Zg eM7),eM2⟩)
  (NN:codeIn K Zg "PrimeField.scaled"=true)
  (Fb:keepIn K (.ref yK)=true)
  (ζ:findIn K (.ref aS) "lessened"=some (some (.ref qR)))
  (NO:K.lookup qR=some ⟨eN1,eM8,.func (fnOf "lessened" "BitField.lessened" (bu xy) (bo xy) (az xy) .none eN2 eN3 eN4 eM9 Zh eN5),eN0⟩)
  (NP:codeIn K Zh "BitField.lessened"=true)
  (Fc:keepIn K (.ref qR)=true)
  (η:findIn K (.ref aW) "lessened"=some (some (.ref yL)))
  (NQ:K.lookup yL=some ⟨eN9,eN6,.func (fnOf "lessened" "PrimeField.lessened" (bu xA) (bo xA) (az xA) .none eO0 eO1 eO2 eN7 Zi eO3),eN8⟩)
  (NR:codeIn K Zi "PrimeField.lessened"=true)
  (Fd:keepIn K (.ref yL)=true)
  (NS:nsIn K mainGlobals "cleared"=some (some (.ref Et)))
  (NT:K.lookup Et=some ⟨eO7,eO4,.func (fnOf "cleared" "cleared" (bu xB) (bo xB) (az xB) .none eO8 eO9 eP0 eO5 Zj eP1),eO6⟩)
  (NU:codeIn K Zj "cleared"=true)
  (NV:keepIn K (.ref Et)=true)
  (θ:findIn K (.ref mh) "over"=some (some (.ref sR)))
  (NW:K.lookup sR=some ⟨eP5,eP2,.func (fnOf "over" "Field.over" (bu xC) (bo xC) (az xC) .none eP6 eP7 eP8 eP3 Zk eP9),eP4⟩)
  (NX:codeIn K Zk "Field.over"=true)
  (BB:keepIn K (.ref sR)=true)
  (NY:nsIn K mainGlobals "reduced"=some (some (.ref Eu)))
  (NZ:K.lookup Eu=some ⟨eQ3,eQ0,.func (fnOf "reduced" "reduced" (bu xD) (bo xD) (az xD) .none eQ4 eQ5 eQ6 eQ1 Zl eQ7),eQ2⟩)
  (N0:codeIn K Zl "reduced"=true)
  (N1:keepIn K (.ref Eu)=true)
  (N2:nsIn K mainGlobals "kernel"=some (some (.ref Ew)))
  (N3:K.lookup Ew=some ⟨eR1,eQ8,.func (fnOf "kernel" "kernel" (bu xE) (bo xE) (az xE) .none eR2 eR3 eR4 eQ9 Zm eR5),eR0⟩)
  (N4:codeIn K Zm "kernel"=true)
  (N5:keepIn K (.ref Ew)=true)
  (N6:nsIn K mainGlobals "_law_plus"=some (some (.ref Ey)))
  (N7:K.lookup Ey=some ⟨eR9,eR6,.func (fnOf "_law_plus" "_law_plus" (bu xF) (bo xF) (az xF) .none eS0 eS1 eS2 eR7 Zn eS3),eR8⟩)
  (N8:codeIn K Zn "_law_plus"=true)
  (N9:keepIn K (.ref Ey)=true)
  (Oa:nsIn K mainGlobals "_law_times"=some (some (.ref Ez)))
  (Ob:K.lookup Ez=some ⟨eS7,eS4,.func (fnOf "_law_times" "_law_times" (bu xG) (bo xG) (az xG) .none eS8 eS9 eT0 eS5 Zo eT1),eS6⟩)
  (Oc:codeIn K Zo "_law_times"=true)
  (Od:keepIn K (.ref Ez)=true)
  (Oe:nsIn K mainGlobals "_law_dot"=some (some (.ref EA)))
  (Of:K.lookup EA=some ⟨eT5,eT2,.func (fnOf "_law_dot" "_law_dot" (bu xI) (bo xI) (az xI) .none eT6 eT7 eT8 eT3 Zp eT9),eT4⟩)
  (Og:codeIn K Zp "_law_dot"=true)
  (Oh:keepIn K (.ref EA)=true)
  (Oi:nsIn K mainGlobals "_law_by_row"=some (some (.ref EB)))
  (Oj:K.lookup EB=some ⟨eU3,eU0,.func (fnOf "_law_by_row" "_law_by_row" (bu xJ) (bo xJ) (az xJ) .none eU4 eU5 eU6 eU1 Zq eU7),eU2⟩)
  (Ol:codeIn K Zq "_law_by_row"=true)
  (Om:keepIn K (.ref EB)=true)
  (Oo:nsIn K mainGlobals "_law_copy"=some (some (.ref EC)))
  (Oq:K.lookup EC=some ⟨eV1,eU8,.func (fnOf "_law_copy" "_law_copy" (bu xK) (bo xK) (az xK) .none eV2 eV3 eV4 eU9 Zr eV5),eV0⟩)
  (Ot:codeIn K Zr "_law_copy"=true)
  (Ou:keepIn K (.ref EC)=true)
  (Ov:nsIn K mainGlobals "_law_whole"=some (some (.ref ED)))
  (Ow:K.lookup ED=some ⟨eV9,eV6,.func (fnOf "_law_whole" "_law_whole" (bu xM) (bo xM) (az xM) .none eW0 eW1 eW2 eV7 Zs eW3),eV8⟩)
  (Ox:codeIn K Zs "_law_whole"=true)
  (Oy:keepIn K (.ref ED)=true)
  (Oz:nsIn K mainGlobals "_law_row_kind"=some (some (.ref EE)))
  (OA:K.lookup EE=some ⟨eW7,eW4,.func (fnOf "_law_row_kind" "_law_row_kind" (bu xN) (bo xN) (az xN) .none eW8 eW9 eX0 eW5 Zt eX1),eW6⟩)
  (OB:codeIn K Zt "_law_row_kind"=true)
  (OC:keepIn K (.ref EE)=true)
  (OD:nsIn K mainGlobals "_law_table_kind"=some (some (.ref EF)))
  (OE:K.lookup EF=some ⟨eX5,eX2,.func (fnOf "_law_table_kind" "_law_table_kind" (bu xO) (bo xO) (az xO) .none eX6 eX7 eX8 eX3 Zu eX9),eX4⟩)
  (OF:codeIn K Zu "_law_table_kind"=true)
  (OG:keepIn K (.ref EF)=true)
  (OH:nsIn K mainGlobals "_law_cell"=some (some (.ref EG)))
  (OI:K.lookup EG=some ⟨eY3,eY0,.func (fnOf "_law_cell" "_law_cell" (bu xP) (bo xP) (az xP) .none eY4 eY5 eY6 eY1 Zv eY7),eY2⟩)
  (OJ:codeIn K Zv "_law_cell"=true)
  (OK:keepIn K (.ref EG)=true)
  (OL:nsIn K mainGlobals "_law_many"=some (some (.ref EH)))
  (OM:K.lookup EH=some ⟨eZ1,eY8,.func (fnOf "_law_many" "_law_many" (bu xQ) (bo xQ) (az xQ) .none eZ2 eZ3 eZ4 eY9 Zw eZ5),eZ0⟩)
  (ON:codeIn K Zw "_law_many"=true)
  (OO:keepIn K (.ref EH)=true)
  (OP:nsIn K mainGlobals "_law_sent"=some (some (.ref EI)))
  (OQ:K.lookup EI=some ⟨eZ9,eZ6,.func (fnOf "_law_sent" "_law_sent" (bu xR) (bo xR) (az xR) .none e00 e01 e02 eZ7 Zx e03),eZ8⟩)
  (OR:codeIn K Zx "_law_sent"=true)
  (OS:keepIn K (.ref EI)=true)
  (OT:nsIn K mainGlobals "_law_spoilt"=some (some (.ref EJ)))
  (OU:K.lookup EJ=some ⟨e07,e04,.func (fnOf "_law_spoilt" "_law_spoilt" (bu xS) (bo xS) (az xS) .none e08 e09 e10 e05 Zy e11),e06⟩)
  (OV:codeIn K Zy "_law_spoilt"=true)
  (OW:keepIn K (.ref EJ)=true)
  (OX:nsIn K mainGlobals "lost_places"=some (some (.ref EK)))
  (OY:K.lookup EK=some ⟨e15,e12,.func (fnOf "lost_places" "lost_places" (bu xT) (bo xT) (az xT) .none e16 e17 e18 e13 Zz e19),e14⟩)
  (OZ:codeIn K Zz "lost_places"=true)
  (O0:keepIn K (.ref EK)=true)
  (O1:nsIn K mainGlobals "noughts_for_lost"=some (some (.ref EL)))
  (O2:K.lookup EL=some ⟨e23,e20,.func (fnOf "noughts_for_lost" "noughts_for_lost" (bu xU) (bo xU) (az xU) .none e24 e25 e26 e21 ZA e27),e22⟩)
  (O3:codeIn K ZA "noughts_for_lost"=true)
  (O4:keepIn K (.ref EL)=true)
  (ι:findIn K (.ref aS) "dot"=some (some (.ref yM)))
  (O5:K.lookup yM=some ⟨e31,e28,.func (fnOf "dot" "BitField.dot" (bu xV) (bo xV) (az xV) .none e32 e33 e34 e29 ZC e35),e30⟩)
  (O6:codeIn K ZC "BitField.dot"=true)
  (Fe:keepIn K (.ref yM)=true)
  (μ:findIn K (.ref aW) "dot"=some (some (.ref yN)))
  (O7:K.lookup yN=some ⟨e39,e36,.func (fnOf "dot" "PrimeField.dot" (bu xW) (bo xW) (az xW) .none e40 e41 e42 e37 ZD e43),e38⟩)
  (O8:codeIn K ZD "PrimeField.dot"=true)
  (Ff:keepIn K (.ref yN)=true)
  (O9:nsIn K mainGlobals "by_column"=some (some (.ref EM)))
  (Pa:K.lookup EM=some ⟨e47,e44,.func (fnOf "by_column" "by_column" (bu xX) (bo xX) (az xX) .none e48 e49 e50 e45 ZE e51),e46⟩)
  (Pb:codeIn K ZE "by_column"=true)
  (Pc:keepIn K (.ref EM)=true)
  (Pd:nsIn K mainGlobals "is_nought"=some (some (.ref EN)))
  (Pe:K.lookup EN=some ⟨e55,e52,.func (fnOf "is_nought" "is_nought" (bu xY) (bo xY) (az xY) .none e56 e57 e58 e53 ZF e59),e54⟩)
  (Pf:codeIn K ZF "is_nought"=true)
  (Pg:keepIn K (.ref EN)=true)
  (ν:findIn K (.ref aS) "times"=some (some (.ref yO)))
  (Ph:K.lookup yO=some ⟨e63,e60,.func (fnOf "times" "BitField.times" (bu xZ) (bo xZ) (az xZ) .none e64 e65 e66 e61 ZG e67),e62⟩)
  (Pj:codeIn K ZG "BitField.times"=true)
  (Fg:keepIn K (.ref yO)=true)
  (ξ:findIn K (.ref aW) "times"=some (some (.ref yP)))
  (Pk:K.lookup yP=some ⟨e71,e68,.func (fnOf "times" "PrimeField.times" (bu x6) (bo x6) (az x6) .none e72 e73 e74 e69 ZH e75),e70⟩)
  (Pl:codeIn K ZH "PrimeField.times"=true)
  (Fh:keepIn K (.ref yP)=true)
  (Pm:nsIn K mainGlobals "past"=some (some (.ref EO)))
  (Pn:K.lookup EO=some ⟨e79,e76,.func (fnOf "past" "past" (bu x8) (bo x8) (az x8) .none e80 e81 e82 e77 ZI e83),e78⟩)
  (Po:codeIn K ZI "past"=true)
  (Pp:keepIn K (.ref EO)=true)
  (Pq:nsIn K mainGlobals "past_lost"=some (some (.ref ER)))
  (Pr:K.lookup ER=some ⟨e87,e84,.func (fnOf "past_lost" "past_lost" (bu ya) (bo ya) (az ya) .none e88 e89 e90 e85 ZJ e91),e86⟩)
  (Pt:codeIn K ZJ "past_lost"=true)
  (Pu:keepIn K (.ref ER)=true)
  (Pw:nsIn K mainGlobals "numbers_within"=some (some (.ref ES)))
  (Px:K.lookup ES=some ⟨e95,e92,.func (fnOf "numbers_within" "numbers_within" (bu yb) (bo yb) (az yb) .none e96 e97 e98 e93 ZK e99),e94⟩)
  (Py:codeIn K ZK "numbers_within"=true)
  (Pz:keepIn K (.ref ES)=true)
  (PB:nsIn K mainGlobals "turned"=some (some (.ref ET)))
  (PC:K.lookup ET=some ⟨fa3,fa0,.func (fnOf "turned" "turned" (bu yc) (bo yc) (az yc) .none fa4 fa5 fa6 fa1 ZL fa7),fa2⟩)
  (PD:codeIn K ZL "turned"=true)
  (PF:keepIn K (.ref ET)=true)
  (PH:nsIn K mainGlobals "wrong_places"=some (some (.ref EU)))
  (PJ:K.lookup EU=some ⟨fb1,fa8,.func (fnOf "wrong_places" "wrong_places" (bu yd) (bo yd) (az yd) .none fb2 fb3 fb4 fa9 ZM fb5),fb0⟩)
  (PK:codeIn K ZM "wrong_places"=true)
  (PL:keepIn K (.ref EU)=true)
  (PM:nsIn K mainGlobals "taken_off"=some (some (.ref EV)))
  (PN:K.lookup EV=some ⟨fb9,fb6,.func (fnOf "taken_off" "taken_off" (bu ye) (bo ye) (az ye) .none fc0 fc1 fc2 fb7 ZN fc3),fb8⟩)
  (PQ:codeIn K ZN "taken_off"=true)
  (PR:keepIn K (.ref EV)=true)
  (PU:nsIn K mainGlobals "with_due"=some (some (.ref EW)))
  (PV:K.lookup EW=some ⟨fc7,fc4,.func (fnOf "with_due" "with_due" (bu yf) (bo yf) (az yf) .none fc8 fc9 fd0 fc5 ZO fd1),fc6⟩)
  (PX:codeIn K ZO "with_due"=true)
  (PY:keepIn K (.ref EW)=true)
  (PZ:nsIn K mainGlobals "solved"=some (some (.ref EX)))
  (P0:K.lookup EX=some ⟨fd5,fd2,.func (fnOf "solved" "solved" (bu yg) (bo yg) (az yg) .none fd6 fd7 fd8 fd3 ZP fd9),fd4⟩)
  (P1:codeIn K ZP "solved"=true)
  (P2:keepIn K (.ref EX)=true)
  (P4:nsIn K mainGlobals "picked"=some (some (.ref EY)))
  (P5:K.lookup EY=some ⟨fe3,fe0,.func (fnOf "picked" "picked" (bu yi) (bo yi) (az yi) .none fe4 fe5 fe6 fe1 ZQ fe7),fe2⟩)
  (P6:codeIn K ZQ "picked"=true)
  (P7:keepIn K (.ref EY)=true)
  (P8:nsIn K mainGlobals "near_row"=some (some (.ref EZ)))
  (P9:K.lookup EZ=some ⟨ff1,fe8,.func (fnOf "near_row" "near_row" (bu yj) (bo yj) (az yj) .none ff2 ff3 ff4 fe9 ZR ff5),ff0⟩)
  (Qa:codeIn K ZR "near_row"=true)
  (Qb:keepIn K (.ref EZ)=true)
  (Qc:nsIn K mainGlobals "_law_near"=some (some (.ref E1)))
  (Qe:K.lookup E1=some ⟨ff9,ff6,.func (fnOf "_law_near" "_law_near" (bu ym) (bo ym) (az ym) .none fg0 fg1 fg2 ff7 ZS fg3),ff8⟩)
  (Qf:codeIn K ZS "_law_near"=true)
  (Qg:keepIn K (.ref E1)=true)
  (Qh:nsIn K mainGlobals "_law_powers"=some (some (.ref E2)))
  (Qi:K.lookup E2=some ⟨fg7,fg4,.func (fnOf "_law_powers" "_law_powers" (bu yn) (bo yn) (az yn) .none fg8 fg9 fh0 fg5 ZT fh1),fg6⟩)
  (Qj:codeIn K ZT "_law_powers"=true)
  (Qk:keepIn K (.ref E2)=true)
  (Ql:nsIn K mainGlobals "_law_table"=some (some (.ref E3)))
  (Qm:K.lookup E3=some ⟨fh5,fh2,.func (fnOf "_law_table" "_law_table" (bu yo) (bo yo) (az yo) .none fh6 fh7 fh8 fh3 ZU fh9),fh4⟩)
  (Qn:codeIn K ZU "_law_table"=true)
  (Qo:keepIn K (.ref E3)=true)
  (Qp:nsIn K mainGlobals "first_bound"=some (some (.ref E4)))
  (Qq:K.lookup E4=some ⟨fi3,fi0,.func (fnOf "first_bound" "first_bound" (bu yq) (bo yq) (az yq) .none fi4 fi5 fi6 fi1 ZV fi7),fi2⟩)
  (Qr:codeIn K ZV "first_bound"=true)
  (Qs:keepIn K (.ref E4)=true)
  (Qt:nsIn K mainGlobals "_law_most"=some (some (.ref E5)))
  (kK:K.lookup E5=some ⟨fj1,fi8,.func (fnOf "_law_most" "_law_most" (bu yr) (bo yr) (az yr) .none fj2 fj3 fj4 fi9 ZW fj5),fj0⟩)
  (Qu:codeIn K ZW "_law_most"=true)
  (Qv:keepIn K (.ref E5)=true)
  (Qw:nsIn K mainGlobals "_law_own"=some (some (.ref E6)))
  (Qx:K.lookup E6=some ⟨fj9,fj6,.func (fnOf "_law_own" "_law_own" (bu yt) (bo yt) (az yt) .none fk0 fk1 fk2 fj7 ZX fk3),fj8⟩)
  (Qy:codeIn K ZX "_law_own"=true)
  (Qz:keepIn K (.ref E6)=true)
  (Fj:nsIn K mainGlobals "law"=some (some (.ref MU)))
  (QB:K.lookup MU=some ⟨fk6,fk4,.func (fnOf "law" "law" (bu pQ) (bo pQ) (az pQ) .none ZZ Z0 Z1 ZY MT Z2),fk5⟩)
  (QC:codeIn K MT "law"=true)
  (QD:keepIn K (.ref MU)=true)
  (Fl:PySem.W.plainGet K aS Str.empty=true)
  (Fm:PySem.W.hasDictIn K aS=true)
  (Fo:PySem.W.plainOver K aS=true)
  (Fp:findIn K (.ref aS) "__setattr__"=some (some (.builtin "object.__setattr__")))
  (AU:PySem.W.makesIn K aS=true)
  (QE:findIn K (.ref aS) "__init__"=some (some (.ref yG)))
  (QF:isFn K (.ref yG)=true)
  (QG:keepIn K (.ref aS)=true)
  (QH:findIn K (.ref aS) "__class__"=some (some (.builtin "object.__class__")))
  (QI:specialIn K (.builtin "object.__class__") "__get__"=some (some (.builtin "getset_descriptor.__get__")))
  (QJ:takesIn K (.builtin "object.__class__")=some true)
  (QK:mroIn K aS (.type "object")=some true)
  (AV:findIn K (.ref aS) "bits"=some none)
  (sI:findIn K (.ref aS) "logs"=some none)
  (yx:findIn K (.ref aS) "many"=some none)
  (vb:findIn K (.ref aS) "powers"=some none)
  (D2:findIn K (.ref aS) "prime"=some none)
  (pU:findIn K (.ref aS) "products"=some none)
  (AW:findIn K (.ref aS) "step"=some none)
  (AX:findIn K (.ref aS) "wide"=some none)
  (AY:findIn K (.ref aS) "dot"=some (some (.ref yM)))
  (QL:isFn K (.ref yM)=true)
  (AZ:findIn K (.ref aS) "lessened"=some (some (.ref qR)))
  (QM:isFn K (.ref qR)=true)
  (A6:findIn K (.ref aS) "minus"=some (some (.ref yH)))
  (QN:isFn K (.ref yH)=true)
  (A7:findIn K (.ref aS) "over"=some (some (.ref sR)))
  (QO:isFn K (.ref sR)=true)
  (A8:findIn K (.ref aS) "scaled"=some (some (.ref yJ)))
  (QP:isFn K (.ref yJ)=true)
  (yy:findIn K (.ref aS) "step_power"=some (some (.ref f4)))
  (QQ:isFn K (.ref f4)=true)
  (A9:findIn K (.ref aS) "times"=some (some (.ref yO)))
  (QR:isFn K (.ref yO)=true)
  (Fq:PySem.W.plainGet K aW Str.empty=true)
  (Fs:PySem.W.hasDictIn K aW=true)
  (Ft:PySem.W.plainOver K aW=true)
  (Fu:findIn K (.ref aW) "__setattr__"=some (some (.builtin "object.__setattr__")))
  (Ba:PySem.W.makesIn K aW=true)
  (QS:findIn K (.ref aW) "__init__"=some (some (.ref f7)))
  (QT:isFn K (.ref f7)=true)
  (QU:keepIn K (.ref aW)=true)
  (QV:findIn K (.ref aW) "__class__"=some (some (.builtin "object.__class__")))
  (QW:specialIn K (.builtin "object.__class__") "__get__"=some (some (.builtin "getset_descriptor.__get__")))
  (QX:takesIn K (.builtin "object.__class__")=some true)
  (QY:mroIn K aW (.type "object")=some true)
  (D3:findIn K (.ref aW) "bits"=some none)
  (vd:findIn K (.ref aW) "logs"=some none)
  (yz:findIn K (.ref aW) "many"=some none)
  (yA:findIn K (.ref aW) "powers"=some none)
  (nu:findIn K (.ref aW) "prime"=some none)
  (D4:findIn K (.ref aW) "products"=some none)
  (Bb:findIn K (.ref aW) "step"=some none)
  (Bc:findIn K (.ref aW) "wide"=some none)
  (Bd:findIn K (.ref aW) "dot"=some (some (.ref yN)))
  (QZ:isFn K (.ref yN)=true)
  (Be:findIn K (.ref aW) "lessened"=some (some (.ref yL)))
  (Q0:isFn K (.ref yL)=true)
  (Bf:findIn K (.ref aW) "minus"=some (some (.ref yI)))
  (Q1:isFn K (.ref yI)=true)
  (Bg:findIn K (.ref aW) "over"=some (some (.ref sR)))
  (Q2:isFn K (.ref sR)=true)
  (Bh:findIn K (.ref aW) "scaled"=some (some (.ref yK)))
  (Q3:isFn K (.ref yK)=true)
  (yB:findIn K (.ref aW) "step_power"=some (some (.ref f4)))
  (Q4:isFn K (.ref f4)=true)
  (Bi:findIn K (.ref aW) "times"=some (some (.ref yP)))
  (Q5:isFn K (.ref yP)=true)
  (Q6:specialIn K (.ref mh) "__getattribute__"=some (some (.builtin "type.__getattribute__")))
  (Q7:PySem.W.readsIn K mh (.type "type")=true)
  (Q8:PySem.W.findCls K (.ref mh) (.type "type") "__init__"=some (.val (.ref f5)))
  (Q9:nsIn K mainGlobals "all"=some none)
  (Ra:nsIn K mainGlobals "any"=some none)
  (Rb:nsIn K mainGlobals "bool"=some none)
  (Rc:nsIn K mainGlobals "enumerate"=some none)
  (Rh:nsIn K mainGlobals "int"=some none)
  (Ri:nsIn K mainGlobals "isinstance"=some none)
  (Rj:nsIn K mainGlobals "len"=some none)
  (Rk:nsIn K mainGlobals "list"=some none)
  (Rl:nsIn K mainGlobals "min"=some none)
  (Rm:nsIn K mainGlobals "range"=some none)
  (Rn:nsIn K mainGlobals "sum"=some none)
  (Ro:nsIn K mainGlobals "zip"=some none)
  (Rp:(PySem.W.clsIn K iK).isSome=true)
  (ο:PySem.W.typeIn K (.ref iK)=some (.type "type"))
  (Rq:PySem.W.excIn K iK [.type "ValueError",.type "Exception",.type "BaseException",.type "object"] "ValueError.__new__"=true)
  (Rt:findIn K (.ref iK) "__getattribute__"=some (some (.builtin "BaseException.__getattribute__")))
  (Ru:findIn K (.ref iK) "__getattr__"=some none)
  (Rv:findIn K (.ref iK) "__class__"=some (some (.builtin "object.__class__")))
  (Rw:specialIn K (.builtin "object.__class__") "__get__"=some (some (.builtin "getset_descriptor.__get__")))
  (Rx:takesIn K (.builtin "object.__class__")=some true)
  (Ry:mroIn K iK (.type "object")=some true)
  (Rz:mroIn K iK (.type "BaseException")=some true)
  (nl:K.all (λp=>HM p.2)=true)
  (sub:∀P∈[me,mf],P∈ts) :
  ∃fd:FuncData,(∀(s:Shared) (v:Value),BindsTo s fd ⟨[v],[]⟩ [("_law_script",v)])/\∀base:Heap,K.In base->base.Ns mainGlobals mg->Bm mg base->aQ l.prog w K mg base bf 16 fa fd ["_law_script"] (CU ts K):=by
 have e:=hfa.symm.trans (mg_of X G Fj)
 cases e
 have F0:=bD (st:=wW) l0 c0 k0
 have b0:=F0.binds (ps:=["_law_cell_here"]) λ_ _ _ _ _ _=>hJ (λ_=>rfl)
 have F1:=bD (st:=wX) l1 c1 k1
 have b1:=F1.binds (ps:=["a","product"]) λ_ _ _ _ _ _=>hV (λ_ _=>rfl)
 have F2:=bD (st:=wY) l2 c2 k2
 have b2:=F2.binds (ps:=["many","product"]) λ_ _ _ _ _ _=>hV (λ_ _=>rfl)
 have F3:=bD (st:=wZ) l3 c3 k3
 have b3:=F3.binds (ps:=["powers"]) λ_ _ _ _ _ _=>hJ (λ_=>rfl)
 have F4:=bD (st:=w6) l4 c4 k4
 have b4:=F4.binds (ps:=["self","n"]) λ_ _ _ _ _ _=>hV (λ_ _=>rfl)
 have F5:=bD (st:=w9) l5 c5 k5
 have b5:=F5.binds (ps:=["self","many","product"]) λ_ _ _ _ _ _=>fm (λ_ _ _=>rfl)
 have F6:=bD (st:=xa) l6 c6 k6
 have b6:=F6.binds (ps:=["prime"]) λ_ _ _ _ _ _=>hJ (λ_=>rfl)
 have F7:=bD (st:=pO) l7 c7 k7
 have b7:=F7.binds (ps:=["self","prime"]) λ_ _ _ _ _ _=>hV (λ_ _=>rfl)
 have F8:=bD (st:=xb) l8 c8 k8
 have b8:=F8.binds (ps:=["powers","logs"]) λ_ _ _ _ _ _=>hV (λ_ _=>rfl)
 have F9:=bD (st:=xf) l9 c9 k9
 have b9:=F9.binds (ps:=["a","b"]) λ_ _ _ _ _ _=>hV (λ_ _=>rfl)
 have π:=bD (st:=xh) MX MY MZ
 have b10:=π.binds (ps:=["a"]) λ_ _ _ _ _ _=>hJ (λ_=>rfl)
 have ρ:=bD (st:=xi) M1 M3 M4
 have b11:=ρ.binds (ps:=["bits"]) λ_ _ _ _ _ _=>hJ (λ_=>rfl)
 have τ:=bD (st:=xj) M6 M7 M8
 have b12:=τ.binds (ps:=["a","b"]) λ_ _ _ _ _ _=>hV (λ_ _=>rfl)
 have υ:=bD (st:=pP) M9 Na Nb
 have b13:=υ.binds (ps:=["self","bits"]) λ_ _ _ _ _ _=>hV (λ_ _=>rfl)
 have χ:=bD (st:=xk) Nf Ng Nh
 have b14:=χ.binds (ps:=["_law_told_here"]) λ_ _ _ _ _ _=>hJ (λ_=>rfl)
 have ω:=bD (st:=xm) Nj Nl Nm
 have b15:=ω.binds (ps:=["rows"]) λ_ _ _ _ _ _=>hJ (λ_=>rfl)
 have Γ:=bD (st:=xn) Np Nq Nr
 have b16:=Γ.binds (ps:=["rows","width"]) λ_ _ _ _ _ _=>hV (λ_ _=>rfl)
 have Δ:=bD (st:=xo) Nt Nu E7
 have b17:=Δ.binds (ps:=["self","a","b"]) λ_ _ _ _ _ _=>fm (λ_ _ _=>rfl)
 have Θ:=bD (st:=xp) Nv Nw E8
 have b18:=Θ.binds (ps:=["self","a","b"]) λ_ _ _ _ _ _=>fm (λ_ _ _=>rfl)
 have Λ:=bD (st:=xq) Ny Nz NA
 have b19:=Λ.binds (ps:=["field","rows","width"]) λ_ _ _ _ _ _=>fm (λ_ _ _=>rfl)
 have Ξ:=bD (st:=xu) NC ND NF
 have b20:=Ξ.binds (ps:=["table"]) λ_ _ _ _ _ _=>hJ (λ_=>rfl)
 have Φ:=bD (st:=xv) NH NI NJ
 have b21:=Φ.binds (ps:=["rows","place"]) λ_ _ _ _ _ _=>hV (λ_ _=>rfl)
 have Ψ:=bD (st:=xw) NK NL E9
 have b22:=Ψ.binds (ps:=["self","a","row"]) λ_ _ _ _ _ _=>fm (λ_ _ _=>rfl)
 have Ω:=bD (st:=xx) NM NN Fb
 have b23:=Ω.binds (ps:=["self","a","row"]) λ_ _ _ _ _ _=>fm (λ_ _ _=>rfl)
 have F24:=bD (st:=xy) NO NP Fc
 have b24:=F24.binds (ps:=["self","row","a","other"]) λ_ _ _ _ _ _=>lY (λ_ _ _ _=>rfl)
 have F25:=bD (st:=xA) NQ NR Fd
 have b25:=F25.binds (ps:=["self","row","a","other"]) λ_ _ _ _ _ _=>lY (λ_ _ _ _=>rfl)
 have F26:=bD (st:=xB) NT NU NV
 have b26:=F26.binds (ps:=["field","rows","lead_row","place"]) λ_ _ _ _ _ _=>lY (λ_ _ _ _=>rfl)
 have F27:=bD (st:=xC) NW NX BB
 have b27:=F27.binds (ps:=["self","a","b"]) λ_ _ _ _ _ _=>fm (λ_ _ _=>rfl)
 have F28:=bD (st:=xD) NZ N0 N1
 have b28:=F28.binds (ps:=["field","table"]) λ_ _ _ _ _ _=>hV (λ_ _=>rfl)
 have F29:=bD (st:=xE) N3 N4 N5
 have b29:=F29.binds (ps:=["field","table"]) λ_ _ _ _ _ _=>hV (λ_ _=>rfl)
 have F30:=bD (st:=xF) N7 N8 N9
 have b30:=F30.binds (ps:=["_law_told_here","_law_a","_law_b"]) λ_ _ _ _ _ _=>fm (λ_ _ _=>rfl)
 have F31:=bD (st:=xG) Ob Oc Od
 have b31:=F31.binds (ps:=["_law_told_here","_law_a","_law_b"]) λ_ _ _ _ _ _=>fm (λ_ _ _=>rfl)
 have F32:=bD (st:=xI) Of Og Oh
 have b32:=F32.binds (ps:=["_law_told_here","_law_xs","_law_ys"]) λ_ _ _ _ _ _=>fm (λ_ _ _=>rfl)
 have F33:=bD (st:=xJ) Oj Ol Om
 have b33:=F33.binds (ps:=["_law_told_here","_law_xs","_law_table_here","_law_wide"]) λ_ _ _ _ _ _=>lY (λ_ _ _ _=>rfl)
 have F34:=bD (st:=xK) Oq Ot Ou
 have b34:=F34.binds (ps:=["_law_table_here"]) λ_ _ _ _ _ _=>hJ (λ_=>rfl)
 have F35:=bD (st:=xM) Ow Ox Oy
 have b35:=F35.binds (ps:=["_law_x"]) λ_ _ _ _ _ _=>hJ (λ_=>rfl)
 have F36:=bD (st:=xN) OA OB OC
 have b36:=F36.binds (ps:=["_law_row","_law_wide","_law_many_here"]) λ_ _ _ _ _ _=>fm (λ_ _ _=>rfl)
 have F37:=bD (st:=xO) OE OF OG
 have b37:=F37.binds (ps:=["_law_table_here","_law_rows","_law_wide","_law_many_here"]) λ_ _ _ _ _ _=>lY (λ_ _ _ _=>rfl)
 have F38:=bD (st:=xP) OI OJ OK
 have b38:=F38.binds (ps:=["_law_script","_law_k"]) λ_ _ _ _ _ _=>hV (λ_ _=>rfl)
 have F39:=bD (st:=xQ) OM ON OO
 have b39:=F39.binds (ps:=["_law_told_here"]) λ_ _ _ _ _ _=>hJ (λ_=>rfl)
 have F40:=bD (st:=xR) OQ OR OS
 have b40:=F40.binds (ps:=["_law_told_here","_law_script","_law_field_here","_law_table_here"]) λ_ _ _ _ _ _=>lY (λ_ _ _ _=>rfl)
 have F41:=bD (st:=xS) OU OV OW
 have b41:=F41.binds (ps:=["_law_told_here","_law_script","_law_sent_here"]) λ_ _ _ _ _ _=>fm (λ_ _ _=>rfl)
 have F42:=bD (st:=xT) OY OZ O0
 have b42:=F42.binds (ps:=["signs"]) λ_ _ _ _ _ _=>hJ (λ_=>rfl)
 have F43:=bD (st:=xU) O2 O3 O4
 have b43:=F43.binds (ps:=["signs"]) λ_ _ _ _ _ _=>hJ (λ_=>rfl)
 have F44:=bD (st:=xV) O5 O6 Fe
 have b44:=F44.binds (ps:=["self","xs","ys"]) λ_ _ _ _ _ _=>fm (λ_ _ _=>rfl)
 have F45:=bD (st:=xW) O7 O8 Ff
 have b45:=F45.binds (ps:=["self","xs","ys"]) λ_ _ _ _ _ _=>fm (λ_ _ _=>rfl)
 have F46:=bD (st:=xX) Pa Pb Pc
 have b46:=F46.binds (ps:=["field","table","column"]) λ_ _ _ _ _ _=>fm (λ_ _ _=>rfl)
 have F47:=bD (st:=xY) Pe Pf Pg
 have b47:=F47.binds (ps:=["column"]) λ_ _ _ _ _ _=>hJ (λ_=>rfl)
 have F48:=bD (st:=xZ) Ph Pj Fg
 have b48:=F48.binds (ps:=["self","a","b"]) λ_ _ _ _ _ _=>fm (λ_ _ _=>rfl)
 have F49:=bD (st:=x6) Pk Pl Fh
 have b49:=F49.binds (ps:=["self","a","b"]) λ_ _ _ _ _ _=>fm (λ_ _ _=>rfl)
 have F50:=bD (st:=x8) Pn Po Pp
 have b50:=F50.binds (ps:=["field","column","others"]) λ_ _ _ _ _ _=>fm (λ_ _ _=>rfl)
 have F51:=bD (st:=ya) Pr Pt Pu
 have b51:=F51.binds (ps:=["field","columns","lost"]) λ_ _ _ _ _ _=>fm (λ_ _ _=>rfl)
 have F52:=bD (st:=yb) Px Py Pz
 have b52:=F52.binds (ps:=["field","columns","due","most"]) λ_ _ _ _ _ _=>lY (λ_ _ _ _=>rfl)
 have F53:=bD (st:=yc) PC PD PF
 have b53:=F53.binds (ps:=["table"]) λ_ _ _ _ _ _=>hJ (λ_=>rfl)
 have F54:=bD (st:=yd) PJ PK PL
 have b54:=F54.binds (ps:=["field","table","lost","sums","most"]) λ_ _ _ _ _ _=>Jb (λ_ _ _ _ _=>rfl)
 have F55:=bD (st:=ye) PN PQ PR
 have b55:=F55.binds (ps:=["field","word","places","signs"]) λ_ _ _ _ _ _=>lY (λ_ _ _ _=>rfl)
 have F56:=bD (st:=yf) PV PX PY
 have b56:=F56.binds (ps:=["table","due"]) λ_ _ _ _ _ _=>hV (λ_ _=>rfl)
 have F57:=bD (st:=yg) P0 P1 P2
 have b57:=F57.binds (ps:=["field","table","due"]) λ_ _ _ _ _ _=>fm (λ_ _ _=>rfl)
 have F58:=bD (st:=yi) P5 P6 P7
 have b58:=F58.binds (ps:=["table","places"]) λ_ _ _ _ _ _=>hV (λ_ _=>rfl)
 have F59:=bD (st:=yj) P9 Qa Qb
 have b59:=F59.binds (ps:=["field","table","room","word"]) λ_ _ _ _ _ _=>lY (λ_ _ _ _=>rfl)
 have F60:=bD (st:=ym) Qe Qf Qg
 have b60:=F60.binds (ps:=["_law_word","_law_sent_here","_law_room"]) λ_ _ _ _ _ _=>fm (λ_ _ _=>rfl)
 have F61:=bD (st:=yn) Qi Qj Qk
 have b61:=F61.binds (ps:=["_law_told_here","_law_script","_law_rows","_law_wide","_law_cell_here"]) λ_ _ _ _ _ _=>Jb (λ_ _ _ _ _=>rfl)
 have F62:=bD (st:=yo) Qm Qn Qo
 have b62:=F62.binds (ps:=["_law_told_here","_law_script","_law_begin","_law_rows","_law_wide","_law_way"]) λ_ _ _ _ _ _=>cL2 (λ_ _ _ _ _ _=>rfl)
 have F63:=bD (st:=yq) Qq Qr Qs
 have b63:=F63.binds (ps:=["field","table"]) λ_ _ _ _ _ _=>hV (λ_ _=>rfl)
 have F64:=bD (st:=yr) kK Qu Qv
 have b64:=F64.binds (ps:=["_law_field_here","_law_table_here","_law_powers_here"]) λ_ _ _ _ _ _=>fm (λ_ _ _=>rfl)
 have F65:=bD (st:=yt) Qx Qy Qz
 have b65:=F65.binds (ps:=["_law_field_here","_law_table_here","_law_room","_law_sent_here"]) λ_ _ _ _ _ _=>lY (λ_ _ _ _=>rfl)
 have F66:=bD (st:=pQ) QB QC QD
 have b66:=F66.binds (ps:=["_law_script"]) λ_ _ _ _ _ _=>hJ (λ_=>rfl)
 have T:Txt K mg ⟨f0,_,f1,_,f2,_,f3,_,f4,_,f5,_,f6,_,f7,_,f8,_,f9,_,Ej,_,Ek,_,mX,_,yG,_,El,_,Em,_,Eo,_,yH,_,yI,_,Ep,_,Er,_,Es,_,yJ,_,yK,_,qR,_,yL,_,Et,_,sR,_,Eu,_,Ew,_,Ey,_,Ez,_,EA,_,EB,_,EC,_,ED,_,EE,_,EF,_,EG,_,EH,_,EI,_,EJ,_,EK,_,EL,_,yM,_,yN,_,EM,_,EN,_,yO,_,yP,_,EO,_,ER,_,ES,_,ET,_,EU,_,EV,_,EW,_,EX,_,EY,_,EZ,_,E1,_,E2,_,E3,_,E4,_,E5,_,E6,_,fa,_,Bz,me,BA,mf,aS,iK,mh,aW⟩:=⟨F0,mg_of X G a0,b0,F1,mg_of X G a1,b1,F2,mg_of X G a2,b2,F3,mg_of X G a3,b3,F4,b4,F5,b5,F6,mg_of X G a6,b6,F7,b7,F8,mg_of X G a8,b8,F9,mg_of X G a9,b9,π,mg_of X G MW,b10,ρ,mg_of X G M0,b11,τ,mg_of X G M5,b12,υ,b13,χ,mg_of X G Nd,b14,ω,mg_of X G Ni,b15,Γ,mg_of X G Nn,b16,Δ,b17,Θ,b18,Λ,mg_of X G Nx,b19,Ξ,mg_of X G NB,b20,Φ,mg_of X G NG,b21,Ψ,b22,Ω,b23,F24,b24,F25,b25,F26,mg_of X G NS,b26,F27,b27,F28,mg_of X G NY,b28,F29,mg_of X G N2,b29,F30,mg_of X G N6,b30,F31,mg_of X G Oa,b31,F32,mg_of X G Oe,b32,F33,mg_of X G Oi,b33,F34,mg_of X G Oo,b34,F35,mg_of X G Ov,b35,F36,mg_of X G Oz,b36,F37,mg_of X G OD,b37,F38,mg_of X G OH,b38,F39,mg_of X G OL,b39,F40,mg_of X G OP,b40,F41,mg_of X G OT,b41,F42,mg_of X G OX,b42,F43,mg_of X G O1,b43,F44,b44,F45,b45,F46,mg_of X G O9,b46,F47,mg_of X G Pd,b47,F48,b48,F49,b49,F50,mg_of X G Pm,b50,F51,mg_of X G Pq,b51,F52,mg_of X G Pw,b52,F53,mg_of X G PB,b53,F54,mg_of X G PH,b54,F55,mg_of X G PM,b55,F56,mg_of X G PU,b56,F57,mg_of X G PZ,b57,F58,mg_of X G P4,b58,F59,mg_of X G P8,b59,F60,mg_of X G Qc,b60,F61,mg_of X G Qh,b61,F62,mg_of X G Ql,b62,F63,mg_of X G Qp,b63,F64,mg_of X G Qt,b64,F65,mg_of X G Qw,b65,F66,mg_of X G Fj,b66,rfl,MV,rfl,Nc,⟨Fl,Fm,Fo,Fp⟩,⟨AU,QE,QF,QG⟩,⟨⟨Fl,Fm,Fo,Fp⟩,QH,QI,QJ,QK⟩,AV,sI,yx,vb,D2,pU,AW,AX,⟨AY,QL,Fe⟩,⟨AZ,QM,Fc⟩,⟨A6,QN,E7⟩,⟨A7,QO,BB⟩,⟨A8,QP,E9⟩,⟨yy,QQ,k4⟩,⟨A9,QR,Fg⟩,⟨Fq,Fs,Ft,Fu⟩,⟨Ba,QS,QT,QU⟩,⟨⟨Fq,Fs,Ft,Fu⟩,QV,QW,QX,QY⟩,D3,vd,yz,yA,nu,D4,Bb,Bc,⟨Bd,QZ,Ff⟩,⟨Be,Q0,Fd⟩,⟨Bf,Q1,E8⟩,⟨Bg,Q2,BB⟩,⟨Bh,Q3,Fb⟩,⟨yB,Q4,k4⟩,⟨Bi,Q5,Fh⟩,⟨Q6,Q7,Q8,k5⟩,mg_none_of X G Q9,mg_none_of X G Ra,mg_none_of X G Rb,mg_none_of X G Rc,mg_none_of X G Rh,mg_none_of X G Ri,mg_none_of X G Rj,mg_none_of X G Rk,mg_none_of X G Rl,mg_none_of X G Rm,mg_none_of X G Rn,mg_none_of X G Ro,mg_of X G Bj,mg_of X G Bk,mg_of X G yD,mg_of X G Bl,cJ5 (mg_of X G Bk) Rq,⟨Rp,Rt,Ru,Rv,Rw,Rx,Ry,Rz⟩⟩
 exact⟨fnOf "law" "law" (bu pQ) (bo pQ) (az pQ) .none ZZ Z0 Z1 ZY MT Z2,λs v=>.of_eq rfl,λbase _ _ hB=>(cP3 T hB).imp λvs H Q E h=>let z:=cp1 nl h;⟨λP hP=>z.1 P (sub P hP),z.2⟩⟩
theorem aJ5{K:Frag}{h:Heap}{c f k P:Addr}{od an:Option Addr}{sl:Array (Option Value)}{oc kV dc pm ct kt:Value}{ko:Option Addr}{ks:Array (Option Value)}{kf:Array Value}(X:K.In h)(a:nsIn K mainGlobals "PrimeField"=some (some (.ref c)))(b:findIn K (.ref c) "__init__"=some (some (.ref f)))
  (l:K.lookup f=some ⟨oc,od,.func (fnOf "__init__" "PrimeField.__init__" (bu pO) (bo pO) (az pO) .none kV dc pm an (.ref k) ct),sl⟩) (lk:K.lookup k=some ⟨kt,ko,.fields kf,ks⟩) (lp:kf[11]?=some (.ref P)) (n:K.lookup P=none) (e:codeHdIn K k P=true):K.lookup P=none/\∃c,CodeHd h c P:=⟨n,k,PySem.W.codeHd_of_K X e⟩
theorem aN1{K:Frag}{h:Heap}{c f k P:Addr}{od an:Option Addr}{sl:Array (Option Value)}{oc kV dc pm ct kt:Value}{ko:Option Addr}{ks:Array (Option Value)}{kf:Array Value}(X:K.In h)(a:nsIn K mainGlobals "BitField"=some (some (.ref c)))(b:findIn K (.ref c) "__init__"=some (some (.ref f)))
  (l:K.lookup f=some ⟨oc,od,.func (fnOf "__init__" "BitField.__init__" (bu pP) (bo pP) (az pP) .none kV dc pm an (.ref k) ct),sl⟩) (lk:K.lookup k=some ⟨kt,ko,.fields kf,ks⟩) (lp:kf[11]?=some (.ref P)) (n:K.lookup P=none) (e:codeHdIn K k P=true):K.lookup P=none/\∃c,CodeHd h c P:=⟨n,k,PySem.W.codeHd_of_K X e⟩
theorem walk{l:PySem.W.OpenLaw}{q:Program}{loose:List Str}{XP:(Str->Option Value)->Heap->Prop}{YP:World->Heap->Prop}{d:DefRec}{K:Params->Frag}{ts:List Addr}(hn:l.most=some 63)(zE:d.params.defaults=[])
  (hY:∀(w:World) (h:Heap),YP w h->(K w.params).In h/\∀P∈ts,h.get? P=some (PySem.W.tabObj #[]))
  (hC:∀(w:World) (h:Heap),(K w.params).In h->∀P∈ts,(K w.params).lookup P=none/\∃c,CodeHd h c P)
  (F:∀(w:World) (mg:Str->Option Value) (fa:Addr) (h:Heap),(K w.params).In h->h.Ns mainGlobals mg->mg d.name=some (.ref fa) ->
   ∃fd:FuncData,(∀(s:Shared) (u:Value),BindsTo s fd ⟨[u],[]⟩ [("_law_script",u)])/\∀base:Heap,(K w.params).In base->base.Ns mainGlobals mg->Bm mg base->aQ l.prog w (K w.params) mg base bf 16 fa fd ["_law_script"] (CU ts (K w.params))) :
  PySem.W.WalkO q loose XP YP l.row.toRowW d [] (λf vs=>PySem.call f vs) :=
 L2.dL1 (n:=63) (k:=16) (x:="_law_script") (CX:=λ_=>bf) (sp:=λw=>CU ts (K w.params)) hn (by decide) zE ⟨rfl,by decide,by decide⟩ hY hC F (λ_ _ a ns hl hO hS=>⟨a,ns,rfl,hO,hS,hl,λ_=>rfl⟩) λ_ _ _ _ _ z=>z
end HK30
set_option genInjectivity false in
set_option genSizeOf false in
structure PySem.W.Fast:Prop where
 (tw16345187565299748864 tw15448562062285432832 tw10911465671604390944 tw17174062348317023264 tw11121239889123665952 tw2938354587542552640 tw16023752922164156544 tw2326206623955813536 tw17415788962479296704 tw5165751672999188800 tw18391710472752978368 tw10858417988327783936 tw5035762874191202816 tw15639842466985409056 tw2051026145921381984 tw2208038230180060768 tw6464233828770648800 tw10150370116809014016 tw17246921976711291680 tw1624686258773474112 tw17537338562089140032 tw17107558850812282720 tw11977405395312224128 tw10533717292199523200 tw17991661293555112832 tw2260000036722949121 tw15443357659300656193 tw5227397132486693985 tw6163518087285641377 tw3597610423140585633 tw11868487400569899265 tw10823465452919436577 tw9241891657122433313 tw5781095103325181345 tw15671870689160509921 tw8674362433468119521 tw177921795191465473 tw1326292988660218369 tw17958430875719413281 tw338257058058190369:True)
 (tw5608987595618304577 tw2000263379960298177 tw12201488867378147105 tw16919886546110135105 tw13376121401025297377 tw2754696159351089154 tw9540138308721138722 tw17434003696488046658 tw2226220033053738082 tw6271724907149819010 tw11114404787624971586 tw16011307131014943074 tw12093245327412103618 tw1271281753236679106 tw3545127669473208802 tw8822842079068974562 tw5458679898832844290 tw4486856839633391170 tw17309878697793825474 tw6076142284221642434 tw9346800664252712674 tw8946402103549908706 tw3770332838803489602 tw424553724840236866 tw7757860757034491746 tw7161686881414202306 tw1986221365801184194 tw3334094383519042563 tw6324411586642965571 tw5763110701378101411 tw10237159016543218851 tw11975957879450237091 tw18116182656355189955 tw14831408262837266627 tw13822145541349534947 tw17041982120446143811 tw12566491071467782499 tw1610113513352431971 tw2689389001570641315 tw11233990857268600259:True)
 (tw15789958278087156227 tw13125027807303161347 tw12481506557943912995 tw18034957540825689667 tw7749197678574255715 tw1886246320157018787 tw17164247376620251811 tw34004418649949923 tw26726956584014563 tw8901489205674872611 tw188056696238563107 tw7224380628217652003 tw11378570172304166723 tw11370790230202699715 tw14480246682668167300 tw7465154393697407172 tw2330025069379854564 tw1963766420254273764 tw12978200611346279652 tw17046600560623723780 tw641832976934233412 tw8202401679041378660 tw4661999717057675620 tw5290444565835928964 tw350298378246542756 tw16863560875151128004 tw16672586569124217316 tw17551919920806392324 tw8524901484126009860 tw7934898503255024164 tw15113251876097796676 tw16844542579606812292 tw2276951028228430532 tw6396097173906932420 tw13200551301046764260 tw13807208070243836676 tw7170197043931151140 tw16497157531526379300 tw7412588441208908644 tw15942612965158916004:True)
 (tw14564236641022828581 tw2290034553101597829 tw10142160139123357861 tw18255737094120510789 tw15540772547568501125 tw1859868330247583109 tw17646746623845311973 tw2690703872446881285 tw1695823509535353349 tw15263916711437143557 tw1398782490395194917 tw5655607584143495781 tw854375017854271077 tw12404723345169490565 tw11683096141061885637 tw2030168444011547365 tw296977481649020645 tw4478127994804213509 tw12447643457475728165 tw5696037210588646213 tw17649457817108383621 tw17185115494332206981 tw9928257014260291525 tw4329987269571064773 tw5301411505244262373 tw16875300652836960229 tw2276954645381520390 tw637413238841259046 tw825883028143194438 tw2345422087432096070 tw66009543176829350 tw9471307879700916646 tw776950518065051078 tw1906354327892044358 tw5450844367062207078 tw1265418559122695782 tw7796926253993691814 tw3990917437957971622 tw3402168575862935238 tw1347430206166920934:True)
 (tw4060300545421093702 tw1906726854054172486 tw15505450923632127814 tw9972053594490766214 tw1805266649675532230 tw3766557707288317894 tw16216304065209151462 tw943912429093791751 tw12765078050600535111 tw14124235429302577255 tw13726683382126325863 tw1668028330217213095 tw1720751538541540519 tw3534074797821135047 tw1810971532037245127 tw12802380588443263175 tw4160184058882405671 tw15752142431949123943 tw3619068846058516871 tw8572778612834780647 tw3059788683076560391 tw13596579040872927815 tw9070236229346714183 tw16937213667714339527 tw916343448411164391 tw10843610474545237735 tw3378692767688335207 tw6568597735832571751 tw15230682339152871303 tw4502306453042797479 tw7490640416873814951 tw10832655355788462055 tw5119569460769048551 tw401906460227977224 tw12735563166730796104 tw15612068188185186376 tw8821494028735379528 tw2555936074726859976 tw16877867462806284520 tw5229439955171049736:True)
 (tw12622304751678899464 tw11197634365248241992 tw3286091670445610344 tw5271561158191525288 tw3372571134894747080 tw6558328042239339016 tw2369304197439332904 tw5696272823081209416 tw2740412005913999944 tw9085897313130639976 tw15390491872250414728 tw11135964234450523848 tw3050493136227174120 tw62929766341184232 tw12563366695971370728 tw18238027482593553160 tw7736973499721791240 tw13755979871409253352 tw1865500144208756809 tw6649215094832387145 tw2642947492518152297 tw9224517917940076713 tw17718004014430941417 tw7312668038236503273 tw5769036078068267273 tw10218582021697379625 tw3755173555839147337 tw15857975623661797737 tw14745397811886774697 tw4931885121516299721 tw16688820592270992905 tw6216247134165322281 tw11622318657031314025 tw107779650335248041 tw3536929642084807337 tw5222484691261737641 tw3812726853832613577 tw10091521329162732265 tw11957262239419525929 tw1643241169556568873:True)
 (tw5911960740101435305 tw1234291215482372073 tw65886052276364265 tw9326146686159233034 tw7375275052706720778 tw2504206522077801482 tw6369779326623897642 tw6869748240943497290 tw17240263288932232266 tw16660236540078125130 tw1468540493176960074 tw5493319744785667370 tw16458358838885090634 tw14421620013906497866 tw5544834854327096650 tw17041985307322192234 tw16350926708797296042 tw11653937814503245258 tw14128276709545659946 tw9509224413980067402 tw16554162308689132138 tw5327166899647007370 tw16470468816806875818 tw1010428377304909482 tw4366679121978253994 tw14369109669200527018 tw1134129374875209418 tw9235094353643923146 tw14634843082412030858 tw3590507198605126602 tw9696728218656706538 tw1509537975815595019 tw7079526287380886571 tw207577838999357483 tw11004758407973605515 tw14597327979668155531 tw6505297311199580491 tw9842602474289612203 tw10849863629131045387 tw3742209513771719211:True)
 (tw7347858637605828203 tw10747392481866054347 tw10790499966622469899 tw17342553710703267595 tw17475794077057209163 tw8974011257740110731 tw12484075687935610763 tw17261680780534644715 tw8393247646872955948 tw5689364999894508620 tw11776204170979303500 tw7895515762156386636 tw12835856286298676588 tw2093097914579165548 tw4022600986555688428 tw11251153212576982604 tw12078675849514619532 tw3221996422434865804 tw7841104402859048652 tw13751070945867049740 tw15629997084484768556 tw2685262832597463884 tw11567134347162939276 tw12663127725698830252 tw14397179526672974861 tw1176935609181708397 tw13149265375494949997 tw15863789551471243405 tw7615945779444575373 tw7220885160183889037 tw6519310494259652909 tw13067977008745997837 tw15117934321093706349 tw10883026183082216141 tw4088523789097823981 tw3087453244849042189 tw17993649066903301005 tw824798860214812589 tw3710447612401259469 tw6768130607285188589:True)
 (tw1497812769056734189 tw7827290581931053037 tw3825611845344216110 tw7701312079295964238 tw2902265594041394318 tw15950808791758839982 tw3589801468958569678 tw9589697869464565966 tw12925789123360749838 tw152890890334509358 tw10050449365328337198 tw7161705794407134510 tw4478980342071916846 tw14049468806973512014 tw10749208176305601870 tw10270529066271762862 tw16495828377982428654 tw17042735802399518254 tw12525206570326228526 tw3196815353218171470 tw11629003596979310158 tw13546272387575133838 tw17262857145446913678 tw1797120237747507918 tw3062967853500628718 tw2098932412211809038 tw5561076363920120622 tw3553555920702128942 tw12022507699259670382 tw7144464019501058030 tw9155534046669847534 tw16405503577523702799 tw9589184845749506063 tw8021374838500775951 tw14309217481464226895 tw8664250182877892719 tw2944508208588368015 tw7942473266279333007 tw11086837587163036815 tw6459579093623761135:True)
 (tw14247646248519525647 tw11711784167985266991 tw9797761472960292143 tw10381286943775181135 tw17093761647335675279 tw9634841666334343567 tw1231283801639520751 tw109479833493098063 tw17577292622913570447 tw8385065378588710575 tw617087557242533551 tw6378635186244628175 tw4504881685127871183 tw11211916441705402063 tw13754038390993998543 tw3980748018528401135 tw106837804724665103 tw15763848253047533327 tw4812447873426682639 tw12484792675497656111 tw1354044725377502095 tw15344641222769359791 tw8572519071128638383 tw3985359750282481647 tw38485743769986031 tw14100899122986547183 tw7786646100394702831 tw16206151951802954768 tw1887144808783209584 tw6683590632504019056 tw866095252022354064 tw4417583914499174544 tw8371556025216078160 tw13312475204889721168 tw13041419718897754640 tw5952637643528195696 tw10458923021294819952 tw11191935774524500752 tw7035332661131120 tw1155708561534578576:True)
 (tw13784815149251009456 tw8703556883396479920 tw5168437384795686961 tw17927536887264156785 tw7287614381419467921 tw238977911289537681 tw13349253003194474737 tw12905568734808194321 tw3218525349659501841 tw16230885780254812593 tw15131810047598711249 tw16671311187151609297 tw107478160669499985 tw18440585482815473265 tw12220308903903582865 tw1237729643530023601 tw3067151528951862033 tw9806188193817287441 tw11382721527755409233 tw10767154639168459601 tw9272866453721848753 tw12321438133518237649 tw346474810511506385 tw7036717210330821714 tw5719758306200172690 tw2442076404408226994 tw8581796169467246930 tw8415920713532857714 tw13975512124865545618 tw369688762584834450 tw15047567789788052914 tw18330383540162598386 tw8107456643397803506 tw4933502325583601234 tw2921866320683691634 tw11528437938672262802 tw13096876455081818866 tw14683713595051931378 tw14155404474967762706 tw5789186871974540114:True)
 (tw3586971119681122162 tw9320041502428274578 tw5420052027101396914 tw6705189889239598355 tw2939993900452998419 tw3975331061663155571 tw549273955798309267 tw12636139690778523027 tw15074939148209586707 tw7317159391822281395 tw16902165150020820691 tw11870676565994108691 tw5801287469688986387 tw8338035954559919923 tw7990139654562902867 tw9873970473980853139 tw5180686984855705523 tw2623861345601021907 tw2653058187374037012 tw3548297949784026132 tw586238008209004660 tw15512592023653395604 tw9142260370009096372 tw2381947864832581908 tw10796103741711105396 tw3642939976912280980 tw17768964974843399604 tw14817443126731245012 tw15139509469495738932 tw1392548574642436724 tw5271192923637054068 tw14083279937541523092 tw5836533736012961428 tw10085306269609739956 tw2903680763218044628 tw17415960133029796596 tw16247660822808180500 tw5283348493142653780 tw6141334021001880468 tw14199971349146195860:True)
 (tw1066082451151457204 tw15688868510910225332 tw2122587504534716340 tw4385401213066466260 tw5628107174426078261 tw17581449306779415637 tw9206346602585270421 tw1712268212914035061 tw4526898306042033621 tw3104143842136105525 tw10888599924413945429 tw10515747858022229589 tw7462891947856334453 tw5083168188733143701 tw2157923289019667125 tw14408808051527836341 tw1631569767545917173 tw6163222614855455509 tw8002777071738655573 tw322838564920950709 tw4423578435600513013 tw9184420897722115094 tw12779632774112531478 tw4915880942411463734 tw833252282544944214 tw16660136850896846998 tw2505709373025716374 tw792836821273475318 tw2343696386796841238 tw14569430666646963510 tw6275442564454670710 tw14021267640925420918 tw13035287943396090262 tw13921388896180724150 tw12840789953932101078 tw2900021161104185846 tw10520270688516453878 tw16256890451228365334 tw7535327468229915190 tw8784206509662265974:True)
 (tw3351653947298528982 tw6483810992190209846 tw7831015808977196950 tw2122356132729160694 tw9041558845270598646 tw7498524418137270262 tw10886227852884453399 tw2891362755038123127 tw6977896616728575191 tw11245399934663173367 tw2593361381707773207 tw4368066353760045367 tw14003713571833036119 tw3118937056747450711 tw9739791898989455735 tw2467749308452649335 tw17518593439705090455 tw2243900953937864215 tw12440409522631162423 tw4547914864151418423 tw15485488795724890711 tw12017711799816628855 tw8840343712085365399 tw2745965883774357207 tw1363335416978629367 tw71528528558930711 tw11796295325268842295 tw13396814416127979383 tw15597244269573735319 tw1079338354390075287 tw14029967780004570039 tw7627116921616698424 tw12130298779709983800 tw7959160592142164024 tw17986428707709314136 tw7491010789237324024 tw16588163508501736728 tw10221765026796599608 tw8097853181388622168 tw15440947068850221400:True)
 (tw10895943188392164696 tw702349939626975704 tw4721351412143120856 tw4078541633807312344 tw4973300875542878712 tw5560994181354545656 tw16844931463964610072 tw1893897380232047160 tw12689845976685784632 tw10202993001516281528 tw14457894223795749592 tw16118276622758151896 tw2847586225413280472 tw11514680003520891672 tw4060334711878673240 tw14735196309518220120 tw16241854815559396248 tw5636605374352082904 tw5138662606944364569 tw12421837049327243289 tw13380720950837424313 tw11729811739285869753 tw8086386994040283417 tw5251663687075785017 tw12688909661033028985 tw13662496658791618969 tw8826375218646404569 tw15440510115698744825 tw4068301118380870201 tw8228229376025852473 tw7607624432397184601 tw8836984608645160633 tw16180009008723393209 tw15337310874479441625 tw3908546551248048857 tw4221622841880753913 tw9152723231863229177 tw17138557439859403545 tw15916466218684985177 tw2635543626010487673:True)
 (tw17842715951552174969 tw10890351395194496921 tw6075937620083010489 tw14884500120389905337 tw10073938942268080186 tw13084974571788502106 tw6448102045453848666 tw2285892695986491514 tw10724668555452510330 tw281320406503382202 tw15558903960236324090 tw2606002121878511898 tw10969310618074346778 tw6916826351247405370 tw14458221132591993242 tw4881517475334100378 tw13706931764888872346 tw1629294260343371162 tw4137972819720175066 tw1078640249770125818 tw7676281745297336858 tw2182485641411018330 tw770138179542740570 tw8754248209328571002 tw118836383078346362 tw3318602962129860314 tw12756924421016782586 tw83125976938443514 tw7663416675671134970 tw6226272690986458906 tw12831416977254977466 tw9529132443283897306 tw5968294768278361050 tw10449492735181908986 tw8537793782064100379 tw3841596844006827483 tw10875761633678646779 tw7771421326517219899 tw3313518601469284923 tw12194816991856351803:True)
 (tw5525478002546026139 tw2582021732870228667 tw13899629341330095867 tw15480546079943345915 tw17834662752305688347 tw16023525278496042779 tw406395399510696763 tw17960125562860440411 tw5942609053668220795 tw7446249092990650235 tw18178916097124539291 tw7767962664481179579 tw17336792585276454843 tw4367861826685771739 tw14900987421709039611 tw7837243119312935004 tw2815701499627054172 tw15894965022865362044 tw17799337907522346172 tw17002571159783056668 tw8698214133152140604 tw1131637091317146940 tw16905194209832459580 tw5321440222178979228 tw9561627981191639516 tw12154736265572000284 tw12517494106296323644 tw8090565382420987516 tw13478628725295998620 tw16559933191715892956 tw5843006080828002044 tw10236143150437008124 tw1872077749322181436 tw4484592494387710812 tw16898706860814133116 tw5018430574330390428 tw1777923561490805660 tw12394323166111751164 tw14736237130020369437 tw5142352153495736445:True)
 (tw11292177661185638525 tw15911655907859639453 tw7148292876221569181 tw11551755227510698205 tw5887828569689779453 tw15066101020747784477 tw11337441496454686013 tw156621878501224829 tw8695230003756544381 tw15309256947380971933 tw12840067152423812509 tw1436707718068752829 tw1791622332385928701 tw14913449118437806621 tw1470899811015346749 tw17194134482833811037 tw3147818021600533181 tw159162723129865949 tw11627531852352488253 tw3116007689393711965 tw11268180003783694173 tw7530158920335536029 tw4923798234475075549 tw3097753821416728573 tw1136869280092059742 tw3492194560533084286 tw14680968864918294654 tw6602412770355995806 tw11923911142725540094 tw12849453075598574910 tw12200167604369321278 tw7228016231834774878 tw15472334216533170590 tw5847729690758462910 tw11258132984037509598 tw16637031312385249758 tw5411530535482687998 tw15036627200102583806 tw10755558651781021214 tw8402615166050808382:True)
 (tw12111825759874673310 tw13390592210900711102 tw17467202742855511806 tw11444162963878326142 tw500597291311150974 tw2489519257847733182 tw17156502865494423518 tw13949625319243333598 tw10961733314547563551 tw17825075924110566431 tw13005674743135874143 tw4334090376480439423 tw14251762488096115839 tw7447062749118437567 tw940402653184970943 tw592041889663299807 tw13449595679697013983 tw10327062441382388063 tw5909549741875646815 tw319993879237102975 tw1399116904212815455 tw10228850201443852895 tw18300564291228918367 tw14583812819287059071 tw16432808912575764159 tw4238745143916428063 tw14185176525247859519 tw16931073831511928703 tw6111554061475102591 tw2492015873808399295 tw995940661986518391:True)
open PySem PySem.W PyProof.Rows
end
set_option maxRecDepth 100000 in
set_option maxHeartbeats 0 in
theorem PySem.Challenge.cw_mendfield_k30_near_row_holds : PySem.Challenge.rw_mendfield_k30_near_row.Holds := by
 w_on;o_law;k_head;(case hw=>w_witness2)
 k_fill
 refine HK30.walk (l:=PySem.Challenge.rw_mendfield_k30_near_row) rfl rfl (λw h Y=>⟨PySem.W.km_in_of Y,PySem.W.km_tabs_of Y⟩) ?C ?F
 case C =>
  intro w h hX
  repeat' (first | exact List.forall_mem_nil _ | refine List.forall_mem_cons.mpr ⟨?_,?_⟩)
  all_goals first | (refine' HK30.aJ5 hX ?a ?b ?l ?lk ?lp ?n ?e;(case a=>k_is);(case b=>k_is);(case l=>k_is);(case lk=>k_is);(case lp=>first | rfl | with_unfolding_all rfl);(case n=>kernel_rfl);(case e=>kernel_rfl)) | (refine' HK30.aN1 hX ?a ?b ?l ?lk ?lp ?n ?e;(case a=>k_is);(case b=>k_is);(case l=>k_is);(case lk=>k_is);(case lp=>first | rfl | with_unfolding_all rfl);(case n=>kernel_rfl);(case e=>kernel_rfl))
 case F =>
  intro w mg fa h KX G zF
  refine' HK30.all_mk KX G zF ?Bj ?Bk ?yD ?Bl ?a0 ?l0 ?c0 ?k0 ?a1 ?l1 ?c1 ?k1 ?a2 ?l2 ?c2 ?k2 ?a3 ?l3 ?c3 ?k3 ?a4 ?l4 ?c4 ?k4 ?a5 ?l5 ?c5 ?k5 ?a6 ?l6 ?c6 ?k6 ?a7 ?l7 ?c7 ?k7 ?Z3 ?Z4 ?MV ?a8 ?l8 ?c8 ?k8 ?a9 ?l9 ?c9 ?k9 ?MW ?MX ?MY ?MZ ?M0 ?M1 ?M3 ?M4 ?M5 ?M6 ?M7 ?M8 ?Z5 ?M9 ?Na ?Nb ?Z6 ?Z7 ?Nc ?Nd ?Nf ?Ng ?Nh ?Ni ?Nj ?Nl ?Nm ?Nn ?Np ?Nq ?Nr ?Z8 ?Nt ?Nu ?E7 ?Z9 ?Nv ?Nw ?E8 ?Nx ?Ny ?Nz ?NA ?NB ?NC ?ND ?NF ?NG ?NH ?NI ?NJ ?γ ?NK ?NL ?E9 ?ε ?NM ?NN ?Fb ?ζ ?NO ?NP ?Fc ?η ?NQ ?NR ?Fd ?NS ?NT ?NU ?NV ?θ ?NW ?NX ?BB ?NY ?NZ ?N0 ?N1 ?N2 ?N3 ?N4 ?N5 ?N6 ?N7 ?N8 ?N9 ?Oa ?Ob ?Oc ?Od ?Oe ?Of ?Og ?Oh ?Oi ?Oj ?Ol ?Om ?Oo ?Oq ?Ot ?Ou ?Ov ?Ow ?Ox ?Oy ?Oz ?OA ?OB ?OC ?OD ?OE ?OF ?OG ?OH ?OI ?OJ ?OK ?OL ?OM ?ON ?OO ?OP ?OQ ?OR ?OS ?OT ?OU ?OV ?OW ?OX ?OY ?OZ ?O0 ?O1 ?O2 ?O3 ?O4 ?ι ?O5 ?O6 ?Fe ?μ ?O7 ?O8 ?Ff ?O9 ?Pa ?Pb ?Pc ?Pd ?Pe ?Pf ?Pg ?ν ?Ph ?Pj ?Fg ?ξ ?Pk ?Pl ?Fh ?Pm ?Pn ?Po ?Pp ?Pq ?Pr ?Pt ?Pu ?Pw ?Px ?Py ?Pz ?PB ?PC ?PD ?PF ?PH ?PJ ?PK ?PL ?PM ?PN ?PQ ?PR ?PU ?PV ?PX ?PY ?PZ ?P0 ?P1 ?P2 ?P4 ?P5 ?P6 ?P7 ?P8 ?P9 ?Qa ?Qb ?Qc ?Qe ?Qf ?Qg ?Qh ?Qi ?Qj ?Qk ?Ql ?Qm ?Qn ?Qo ?Qp ?Qq ?Qr ?Qs ?Qt ?kK ?Qu ?Qv ?Qw ?Qx ?Qy ?Qz ?Fj ?QB ?QC ?QD ?Fl ?Fm ?Fo ?Fp ?AU ?QE ?QF ?QG ?QH ?QI ?QJ ?QK ?AV ?sI ?yx ?vb ?D2 ?pU ?AW ?AX ?AY ?QL ?AZ ?QM ?A6 ?QN ?A7 ?QO ?A8 ?QP ?yy ?QQ ?A9 ?QR ?Fq ?Fs ?Ft ?Fu ?Ba ?QS ?QT ?QU ?QV ?QW ?QX ?QY ?D3 ?vd ?yz ?yA ?nu ?D4 ?Bb ?Bc ?Bd ?QZ ?Be ?Q0 ?Bf ?Q1 ?Bg ?Q2 ?Bh ?Q3 ?yB ?Q4 ?Bi ?Q5 ?Q6 ?Q7 ?Q8 ?Q9 ?Ra ?Rb ?Rc ?Rh ?Ri ?Rj ?Rk ?Rl ?Rm ?Rn ?Ro ?Rp ?ο ?Rq ?Rt ?Ru ?Rv ?Rw ?Rx ?Ry ?Rz ?nl ?sub
  (case Bj=>k_is)
  (case Bk=>k_is)
  (case yD=>k_is)
  (case Bl=>k_is)
  (case a0=>k_is)
  (case l0=>k_is)
  (case c0=>k_is)
  (case k0=>k_is)
  (case a1=>k_is)
  (case l1=>k_is)
  (case c1=>k_is)
  (case k1=>k_is)
  (case a2=>k_is)
  (case l2=>k_is)
  (case c2=>k_is)
  (case k2=>k_is)
  (case a3=>k_is)
  (case l3=>k_is)
  (case c3=>k_is)
  (case k3=>k_is)
  (case a4=>k_is)
  (case l4=>k_is)
  (case c4=>k_is)
  (case k4=>k_is)
  (case a5=>k_is)
  (case l5=>k_is)
  (case c5=>k_is)
  (case k5=>k_is)
  (case a6=>k_is)
  (case l6=>k_is)
  (case c6=>k_is)
  (case k6=>k_is)
  (case a7=>k_is)
  (case l7=>k_is)
  (case c7=>k_is)
  (case k7=>k_is)
  (case Z3=>k_is)
  (case Z4=>first | rfl | with_unfolding_all rfl)
  (case MV=>kernel_rfl)
  (case a8=>k_is)
  (case l8=>k_is)
  (case c8=>k_is)
  (case k8=>k_is)
  (case a9=>k_is)
  (case l9=>k_is)
  (case c9=>k_is)
  (case k9=>k_is)
  (case MW=>k_is)
  (case MX=>k_is)
  (case MY=>k_is)
  (case MZ=>k_is)
  (case M0=>k_is)
  (case M1=>k_is)
  (case M3=>k_is)
  (case M4=>k_is)
  (case M5=>k_is)
  (case M6=>k_is)
  (case M7=>k_is)
  (case M8=>k_is)
  (case Z5=>k_is)
  (case M9=>k_is)
  (case Na=>k_is)
  (case Nb=>k_is)
  (case Z6=>k_is)
  (case Z7=>first | rfl | with_unfolding_all rfl)
  (case Nc=>kernel_rfl)
  (case Nd=>k_is)
  (case Nf=>k_is)
  (case Ng=>k_is)
  (case Nh=>k_is)
  (case Ni=>k_is)
  (case Nj=>k_is)
  (case Nl=>k_is)
  (case Nm=>k_is)
  (case Nn=>k_is)
  (case Np=>k_is)
  (case Nq=>k_is)
  (case Nr=>k_is)
  (case Z8=>k_is)
  (case Nt=>k_is)
  (case Nu=>k_is)
  (case E7=>k_is)
  (case Z9=>k_is)
  (case Nv=>k_is)
  (case Nw=>k_is)
  (case E8=>k_is)
  (case Nx=>k_is)
  (case Ny=>k_is)
  (case Nz=>k_is)
  (case NA=>k_is)
  (case NB=>k_is)
  (case NC=>k_is)
  (case ND=>k_is)
  (case NF=>k_is)
  (case NG=>k_is)
  (case NH=>k_is)
  (case NI=>k_is)
  (case NJ=>k_is)
  (case γ=>k_is)
  (case NK=>k_is)
  (case NL=>k_is)
  (case E9=>k_is)
  (case ε=>k_is)
  (case NM=>k_is)
  (case NN=>k_is)
  (case Fb=>k_is)
  (case ζ=>k_is)
  (case NO=>k_is)
  (case NP=>k_is)
  (case Fc=>k_is)
  (case η=>k_is)
  (case NQ=>k_is)
  (case NR=>k_is)
  (case Fd=>k_is)
  (case NS=>k_is)
  (case NT=>k_is)
  (case NU=>k_is)
  (case NV=>k_is)
  (case θ=>k_is)
  (case NW=>k_is)
  (case NX=>k_is)
  (case BB=>k_is)
  (case NY=>k_is)
  (case NZ=>k_is)
  (case N0=>k_is)
  (case N1=>k_is)
  (case N2=>k_is)
  (case N3=>k_is)
  (case N4=>k_is)
  (case N5=>k_is)
  (case N6=>k_is)
  (case N7=>k_is)
  (case N8=>k_is)
  (case N9=>k_is)
  (case Oa=>k_is)
  (case Ob=>k_is)
  (case Oc=>k_is)
  (case Od=>k_is)
  (case Oe=>k_is)
  (case Of=>k_is)
  (case Og=>k_is)
  (case Oh=>k_is)
  (case Oi=>k_is)
  (case Oj=>k_is)
  (case Ol=>k_is)
  (case Om=>k_is)
  (case Oo=>k_is)
  (case Oq=>k_is)
  (case Ot=>k_is)
  (case Ou=>k_is)
  (case Ov=>k_is)
  (case Ow=>k_is)
  (case Ox=>k_is)
  (case Oy=>k_is)
  (case Oz=>k_is)
  (case OA=>k_is)
  (case OB=>k_is)
  (case OC=>k_is)
  (case OD=>k_is)
  (case OE=>k_is)
  (case OF=>k_is)
  (case OG=>k_is)
  (case OH=>k_is)
  (case OI=>k_is)
  (case OJ=>k_is)
  (case OK=>k_is)
  (case OL=>k_is)
  (case OM=>k_is)
  (case ON=>k_is)
  (case OO=>k_is)
  (case OP=>k_is)
  (case OQ=>k_is)
  (case OR=>k_is)
  (case OS=>k_is)
  (case OT=>k_is)
  (case OU=>k_is)
  (case OV=>k_is)
  (case OW=>k_is)
  (case OX=>k_is)
  (case OY=>k_is)
  (case OZ=>k_is)
  (case O0=>k_is)
  (case O1=>k_is)
  (case O2=>k_is)
  (case O3=>k_is)
  (case O4=>k_is)
  (case ι=>k_is)
  (case O5=>k_is)
  (case O6=>k_is)
  (case Fe=>k_is)
  (case μ=>k_is)
  (case O7=>k_is)
  (case O8=>k_is)
  (case Ff=>k_is)
  (case O9=>k_is)
  (case Pa=>k_is)
  (case Pb=>k_is)
  (case Pc=>k_is)
  (case Pd=>k_is)
  (case Pe=>k_is)
  (case Pf=>k_is)
  (case Pg=>k_is)
  (case ν=>k_is)
  (case Ph=>k_is)
  (case Pj=>k_is)
  (case Fg=>k_is)
  (case ξ=>k_is)
  (case Pk=>k_is)
  (case Pl=>k_is)
  (case Fh=>k_is)
  (case Pm=>k_is)
  (case Pn=>k_is)
  (case Po=>k_is)
  (case Pp=>k_is)
  (case Pq=>k_is)
  (case Pr=>k_is)
  (case Pt=>k_is)
  (case Pu=>k_is)
  (case Pw=>k_is)
  (case Px=>k_is)
  (case Py=>k_is)
  (case Pz=>k_is)
  (case PB=>k_is)
  (case PC=>k_is)
  (case PD=>k_is)
  (case PF=>k_is)
  (case PH=>k_is)
  (case PJ=>k_is)
  (case PK=>k_is)
  (case PL=>k_is)
  (case PM=>k_is)
  (case PN=>k_is)
  (case PQ=>k_is)
  (case PR=>k_is)
  (case PU=>k_is)
  (case PV=>k_is)
  (case PX=>k_is)
  (case PY=>k_is)
  (case PZ=>k_is)
  (case P0=>k_is)
  (case P1=>k_is)
  (case P2=>k_is)
  (case P4=>k_is)
  (case P5=>k_is)
  (case P6=>k_is)
  (case P7=>k_is)
  (case P8=>k_is)
  (case P9=>k_is)
  (case Qa=>k_is)
  (case Qb=>k_is)
  (case Qc=>k_is)
  (case Qe=>k_is)
  (case Qf=>k_is)
  (case Qg=>k_is)
  (case Qh=>k_is)
  (case Qi=>k_is)
  (case Qj=>k_is)
  (case Qk=>k_is)
  (case Ql=>k_is)
  (case Qm=>k_is)
  (case Qn=>k_is)
  (case Qo=>k_is)
  (case Qp=>k_is)
  (case Qq=>k_is)
  (case Qr=>k_is)
  (case Qs=>k_is)
  (case Qt=>k_is)
  (case kK=>k_is)
  (case Qu=>k_is)
  (case Qv=>k_is)
  (case Qw=>k_is)
  (case Qx=>k_is)
  (case Qy=>k_is)
  (case Qz=>k_is)
  (case Fj=>k_is)
  (case QB=>k_is)
  (case QC=>k_is)
  (case QD=>k_is)
  (case Fl=>k_is)
  (case Fm=>k_is)
  (case Fo=>k_is)
  (case Fp=>k_is)
  (case AU=>k_is)
  (case QE=>k_is)
  (case QF=>k_is)
  (case QG=>k_is)
  (case QH=>k_is)
  (case QI=>k_is)
  (case QJ=>k_is)
  (case QK=>k_is)
  (case AV=>k_is)
  (case sI=>k_is)
  (case yx=>k_is)
  (case vb=>k_is)
  (case D2=>k_is)
  (case pU=>k_is)
  (case AW=>k_is)
  (case AX=>k_is)
  (case AY=>k_is)
  (case QL=>k_is)
  (case AZ=>k_is)
  (case QM=>k_is)
  (case A6=>k_is)
  (case QN=>k_is)
  (case A7=>k_is)
  (case QO=>k_is)
  (case A8=>k_is)
  (case QP=>k_is)
  (case yy=>k_is)
  (case QQ=>k_is)
  (case A9=>k_is)
  (case QR=>k_is)
  (case Fq=>k_is)
  (case Fs=>k_is)
  (case Ft=>k_is)
  (case Fu=>k_is)
  (case Ba=>k_is)
  (case QS=>k_is)
  (case QT=>k_is)
  (case QU=>k_is)
  (case QV=>k_is)
  (case QW=>k_is)
  (case QX=>k_is)
  (case QY=>k_is)
  (case D3=>k_is)
  (case vd=>k_is)
  (case yz=>k_is)
  (case yA=>k_is)
  (case nu=>k_is)
  (case D4=>k_is)
  (case Bb=>k_is)
  (case Bc=>k_is)
  (case Bd=>k_is)
  (case QZ=>k_is)
  (case Be=>k_is)
  (case Q0=>k_is)
  (case Bf=>k_is)
  (case Q1=>k_is)
  (case Bg=>k_is)
  (case Q2=>k_is)
  (case Bh=>k_is)
  (case Q3=>k_is)
  (case yB=>k_is)
  (case Q4=>k_is)
  (case Bi=>k_is)
  (case Q5=>k_is)
  (case Q6=>k_is)
  (case Q7=>k_is)
  (case Q8=>k_is)
  (case Q9=>k_is)
  (case Ra=>k_is)
  (case Rb=>k_is)
  (case Rc=>k_is)
  (case Rh=>k_is)
  (case Ri=>k_is)
  (case Rj=>k_is)
  (case Rk=>k_is)
  (case Rl=>k_is)
  (case Rm=>k_is)
  (case Rn=>k_is)
  (case Ro=>k_is)
  (case Rp=>first | k_is | rfl | decide)
  (case ο=>k_is)
  (case Rq=>k_exc)
  (case Rt=>k_is)
  (case Ru=>k_is)
  (case Rv=>k_is)
  (case Rw=>k_is)
  (case Rx=>k_is)
  (case Ry=>k_is)
  (case Rz=>k_is)
  (case nl=>first | k_is | rfl | decide)
  (case sub=>decide)
