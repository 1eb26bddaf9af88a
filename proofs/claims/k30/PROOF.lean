import PyProof.Rows.All
import Wide.All
import OpenK.AllK
import Wide.FinOn
import Lean
import PyProof.EqAt
import PyProof.EqKinds
import PyProof.TupleCall
import PyProof.NeKinds
import PyProof.Rows.Range3
import PyProof.FitsBits
import PyProof.StationsW
import PyProof.NsDelKeeps
import PyProof.Rows.CatchOwn
import KE.KTryMore
import PyProof.ExcArgsOwn
import PyProof.ExcAttrAll.ValueError
import OpenK.KOwn
import PyProof.ZipIter
import PyProof.WalksEnum
import PyProof.EnumMake
import KE.KIntText
import PyProof.Conv_int
import PyProof.StrWalks
import PyProof.StrLawsFirst
import KE.KLam
import KE.KNestM
import KE.KRevIter
import PyProof.ListRange
import PyProof.Rows.SortWalk
import PyProof.Rows.SetFrom
import PyProof.FactsAll.set
import PyProof.Rows.SeqMore
import PyProof.FString
import PySem.Challenge.RW_mendfield_k30_near_row
open Array renaming length_toList→yS,append_assoc→BG,getElem?_eq_some_iff→RN,toList_append→dd9
open Bool renaming and_eq_true→eR,false_ne_true→gh,or_true→gz,true_and→kh,and_true→kj,false_and→sV,or_false→sZ,eq_iff_iff→tw,not_false→vC,not_true→vD,true_or→vE,false_or→vF,false_eq_true→vG
open Classical renaming byContradiction→FJ
open Decidable renaming byContradiction→za
open Eq renaming trans→qm
open False renaming elim→gg
open ForInStep renaming yield→FK
open Int renaming toNat_natCast→fP,emod_nonneg→jm,emod_lt_of_pos→jn,natAbs_natCast→jo,natCast_emod→qk,toNat_of_nonneg→tI,natCast_mul→vy,natCast_add→FY,natCast_nonneg→RG,zero_add→R1,fdiv_eq_ediv_of_nonneg→db4
open List renaming getElem?_eq_getElem→aJ,getD_eq_getElem?_getD→aK,range→aZ,length_map→bt,mem_map→bF,replicate→bG,getElem?_map→bQ,mem_append→bZ,map_map→cg,mem_cons→cB,getElem_mem→cC,mem_range→cT,zipWith→da,all_eq_true→dw,length_range→dD,map_cons→dF,size_toArray→dP,length_append→dU,all_cons→dW,mem_singleton→dX,mem_cons_of_mem→dZ,append_assoc→eX,mem_append_right→fg,mem_cons_self→gb,map_append→gi,set_cons_zero→gj,set_cons_succ→gn,getElem_of_mem→gy,lookup_cons→gH,mem_append_left→gQ,length_cons→gU,getElem?_eq_none→gW,length_take→ij,not_mem_nil→ik,length_zipWith→iq,getElem?_eq_some_iff→jj,nodup_cons→jk,length_drop→jl,map_nil→jN,getElem?_range→ki,append_nil→mr,take_add_one→mw,all_map→mx,zip→my,getElem?_zipWith→mB,mem_filter→nG,lookup→nH,length_set→nI,nil_append→nJ,cons.inj→nO,map_congr_left→nQ,cons_append→nR,getElem?_cons_zero→nS,getElem?_cons_succ→nU,length_replicate→p9,perm_append_comm→qg,mem_of_mem_drop→qh,mem_of_mem_take→qi,all_nil→qj,length_zip→ql,of_mem_zip→sW,getElem?_append_right→sX,getElem?_append_left→sY,replicate_succ→s9,foldl_cons→tf,take_length→tD,take_of_length_le→tE,map_zipWith→tG,zipWith_map→tH,cons.injEq→tL,getElem?_set_ne→vn,mem_of_getElem?→vq,flatten_cons→vt,getElem_map→vz,length_nil→vB,getElem?_mapIdx→yV,mem_or_eq_of_mem_set→yX,foldl_append→y8,filterMap_cons→BF,getElem?_replicate→BL,map→BS,ext_getElem→BU,contains_iff_mem→BV,pairwise_cons→BX,pairwise_append→BY,length_filter_le→BZ,getElem?_set_self→Fz,length→FA,reverse_cons→FE,length_singleton→FF,any_eq_true→FL,append_eq_nil_iff→FR,append_inj→FT,mem_replicate→FU,ext_getElem?→FW,getElem?_drop→FX,mem_map_of_mem→FZ,findIdx_lt_length_of_exists→Ga,range_succ→Gb,pairwise_iff_getElem→Gf,nodup_range→Gh,map_replicate→Gk,any_eq_false→RH,Pairwise.nil→RJ,Sublist.refl→RQ,set_set→RU,mem_of_find?_eq_some→RW,map_drop→RX,map_take→RY,drop_eq_nil_of_le→RZ,any_map→R3,sum_cons→R5,zipWith_cons_cons→R6,filter_map→R8,filter_congr→R9,find?_eq_none→Sa,getElem_zip→Sd,getElem_range→Se,pairwise_singleton→Sf,pairwise_map→Sg,take_append_drop→Sh,mem_filterMap→db3,getElem?_take_of_lt→db6,length_reverse→db7,set_eq_of_length_le→dd3,eq_nil_iff_forall_not_mem→dd4,filter_eq_self→dd5,range_succ_eq_map→dd6,getElem?_take→dd7,getElem_zipWith→dd8,zip_cons_cons→de0,sublist_cons_self→de1,findIdx_getElem→de2,findIdx?_eq_some_iff_getElem→de3,findIdx?_eq_none_iff→de4,pairwise_lt_range→de5,find?_eq_some_iff_append→de6,length_eq_zero_iff→de7,mem_erase_of_ne→de8,length_erase_of_mem→de9,findSome?_eq_none_iff→df0,filter_eq_nil_iff→df2,flatMap_append→df4
open Nat renaming le_refl→bN,lt_of_lt_of_le→dB,le_trans→eH,ne_of_lt→fA,lt_irrefl→fN,zero_le→jM,shiftLeft_eq→kO,xor_zero→mv,mul_comm→nK,pow_succ→nL,testBit_xor→nM,lt_of_le_of_lt→nN,zero_xor→qe,xor_assoc→tu,min_self→tF,mul_assoc→vv,mod_lt→vx,two_pow_pos→yT,pow_le_pow_right→yU,not_lt→yW,mul_mod→yY,mod_eq_of_lt→yZ,mod_add_mod→y6,succ.inj→y9,le_of_lt→BE,le_of_eq→BJ,lt_succ_self→BK,add_comm→BN,eq_of_testBit_eq→BO,testBit_zero→BP,strongRecOn→BQ,xor_self→BR,le_of_succ_le→BW,testBit_lt_two_pow→FG,testBit_succ→FH,lt_trans→FI,add_assoc→FV,sub_self→Ge,not_lt_zero→Gg,one_shiftLeft→Gj,ne_of_gt→RF,xor_comm→RK,testBit_and→RL,lt_succ_of_lt→R0,mod_mod→R4,zero_add→R7,lt_or_ge→Sb,zero_lt_one→Si,succ_pos→Sj,testBit_eq_decide_div_mod_eq→db8,shiftLeft_xor_distrib→db9,mul_lt_mul_right→dd0,testBit_shiftLeft→dd1,shiftRight_eq_div_pow→dd2,mul_le_mul_right→df3
open Ne renaming symm→fB
open Option renaming some.inj→cU,getD_none→qa,getD_some→qf,map_some→tJ,some.injEq→tK,map_eq_some_iff→vw,map_none→vA,isNone→Gi,toList_some→RV,isSome_iff_exists→db5,map_eq_none_iff→df1
open Or renaming inl→ao,inr→aX
open Prod renaming ext→y7
open PyProof renaming Rows.callWith_type1→BH
open PySem renaming Heap.lt_size→bV,PassesOwn.never→eY,Value.ref→fM,Heap.get?_push_of_some→fO,Heap.get?_push_size→gR,Value.int→p5,Builtin.bitAnd→p7,Builtin.bitXor→p8,Value.none→sU,Heap.get?_update_other→s8,Heap.size_push→vp,Obj.mapSeq→BM,Value.bool→Fy,Heap.get?_update_self→FC,SeqAt.EqAt→FD,Obj.data_mapFields→FN,Value.type.inj→FP,Builtin.Str.strSliceIndices→FQ,NameKind.cell→Gd,Builtin.List.listTooLong→RI,Obj.isFreed_of_fields→RM,Heap.MadeExcOf→RP,Calls.Name_function_global→db2
open Sum renaming inl→vk,inr→vm
open True renaming intro→vo
set_option Elab.async false
set_option linter.all false
set_option maxRecDepth 100000
local macro_rules | `(tactic| omega)=>`(tactic| lia)
noncomputable section
namespace L2
open PySem PySem.Spec PyProof.Rows
abbrev Key:=Sum Int Str
def Sk:Key->Value->Bool
 | .inl k,v=>Value.isInt k v
 | .inr x,v=>Value.isStrOf x v
def cZ6(w:World):Key->Int
 | .inl k=>hashInt k
 | .inr x=>hashStr w x
theorem nV:∀{k:Key} {v:Value},Sk k v=true->(∃i t,k=vk i/\v=p5 i t)\/(∃x t,k=vm x/\v=Value.str x t)
 | .inl i,v,h=>by
  obtain⟨t,e⟩:=Value.isInt_shape (k:=i) (v:=v) h
  exact .inl ⟨i,t,rfl,e⟩
 | .inr x,v,h=>by
  obtain⟨t,e⟩:=Value.isStrOf_shape (x:=x) (v:=v) h
  exact .inr ⟨x,t,rfl,e⟩
theorem cI9(a b:Int):decide ((vk a:Key)=vk b)=(a==b):=by
 by_cases e:a=b
 ·subst e;simp
 ·have h:¬ (vk a:Key)=vk b:=λq=>e (Sum.inl.inj q)
  rw[decide_eq_false h]
  exact(beq_eq_false_iff_ne.mpr e).symm
theorem cJ6(a b:Str):decide ((vm a:Key)=vm b)=decide (a=b):=by
 by_cases e:a=b
 ·subst e;simp
 ·have h:¬ (vm a:Key)=vm b:=λq=>e (Sum.inr.inj q)
  rw[decide_eq_false h,decide_eq_false e]
theorem cO2(a:Int)(b:Str):decide ((vk a:Key)=vm b)=false:=decide_eq_false (λq=>nomatch q)
theorem cK5(a:Str)(b:Int):decide ((vm a:Key)=vk b)=false:=decide_eq_false (λq=>nomatch q)
def Sl(prog:Program)(w:World):PySem.KeyKind prog w Key where
 is:=Sk
 hash:=cZ6 w
 inj:=λv a b ha hb=>by
  rcases nV ha with⟨i,t,rfl,rfl⟩ | ⟨x,t,rfl,rfl⟩
  ·rcases nV hb with⟨j,u,rfl,e⟩ | ⟨y,u,rfl,e⟩
   ·injection e with e1 _;rw[e1]
   ·exact nomatch e
  ·rcases nV hb with⟨j,u,rfl,e⟩ | ⟨y,u,rfl,e⟩
   ·exact nomatch e
   ·injection e with e1 _;rw[e1]
 byValue:=λk v h=>by
  rcases nV h with⟨i,t,rfl,rfl⟩ | ⟨x,t,rfl,rfl⟩<;>rfl
 pyHash:=λhv h=>by
  rcases nV hv with⟨i,t,rfl,rfl⟩ | ⟨x,t,rfl,rfl⟩
  ·exact wpAny_pyHash_int h
  ·exact wpAny_pyHash_str h
 eqBool:=λhu hv h=>by
  rcases nV hu with⟨i,t,rfl,rfl⟩ | ⟨x,t,rfl,rfl⟩
  ·rcases nV hv with⟨j,u,rfl,rfl⟩ | ⟨y,u,rfl,rfl⟩
   ·rw[cI9]at h;exact wpAny_eqBool_int h
   ·rw[cO2]at h;exact SeqAt.EqAt.int_str i t y u _ _ _ _ h
  ·rcases nV hv with⟨j,u,rfl,rfl⟩ | ⟨y,u,rfl,rfl⟩
   ·rw[cK5]at h;exact SeqAt.EqAt.str_int x t j u _ _ _ _ h
   ·rw[cJ6]at h;exact wpAny_eqBool_str h
 «strs»:=λk x t v h=>by
  rcases nV h with⟨i,u,rfl,e⟩ | ⟨y,u,rfl,e⟩
  ·exact nomatch e
  ·injection e with e1 _
   subst e1
   cases v<;>rfl
end L2
namespace L2
open PySem PySem.Spec PyProof.Rows
inductive V where
 | ay | bl (b:Bool) | int (i:Int) | str (x:Str) | B0 (b:Array UInt8) | tM (b:UInt64) | ref (a:Addr) | ty (n:String)
 deriving DecidableEq
def RelV:V->Value->Prop
 | .ay,u=>u=sU
 | .bl b,u=>u=Fy b
 | .int i,u=>∃t,u=p5 i t
 | .str x,u=>∃t,u=Value.str x t
 | .B0 b,u=>∃t,u=Value.bytes b t
 | .tM b,u=>∃t,u=Value.float b t
 | .ref a,u=>u=fM a
 | .ty n,u=>u=Value.type n
abbrev Vals:List V->List Value->Prop:=Paired RelV
theorem Vals.length{xs:List V}{us:List Value}(r:Vals xs us):xs.length=us.length:=Paired.length r
theorem Vals.get:∀{xs:List V} {us:List Value} {i:Nat} {x:V},Vals xs us->xs[i]?=some x->∃u,us[i]?=some u/\RelV x u
 | _,_,_,_,.nil,e=>by simp at e
 | _,_,0,_,.cons r _,e=>by simp at e;subst e;exact⟨_,rfl,r⟩
 | _,_,i+1,x,.cons _ t,e=>by
  obtain⟨u,h1,h2⟩:=Vals.get (i:=i) (x:=x) t (by simpa using e)
  exact⟨u,by simpa using h1,h2⟩
theorem Vals.set{x:V}{u:Value}(r:RelV x u):∀{xs:List V} {us:List Value} (i:Nat),Vals xs us->Vals (xs.set i x) (us.set i u)
 | _,_,_,.nil=>.nil
 | _,_,0,.cons _ t=>.cons r t
 | _,_,i+1,.cons q t=>.cons q (Vals.set r i t)
theorem Vals.append:∀{xs ys:List V} {us ws:List Value},Vals xs us->Vals ys ws->Vals (xs++ys) (us++ws)
 | _,_,_,_,.nil,s=>s
 | _,_,_,_,.cons r t,s=>.cons r (Vals.append t s)
theorem Vals.take:∀{xs:List V} {us:List Value} (n:Nat),Vals xs us->Vals (xs.take n) (us.take n)
 | _,_,0,_=>.nil
 | _,_,_+1,.nil=>.nil
 | _,_,n+1,.cons r t=>.cons r (Vals.take n t)
theorem Vals.drop:∀{xs:List V} {us:List Value} (n:Nat),Vals xs us->Vals (xs.drop n) (us.drop n)
 | _,_,0,r=>r
 | _,_,_+1,.nil=>.nil
 | _,_,n+1,.cons _ t=>Vals.drop n t
def mC:Option V->Option Value->Prop
 | some v,some u=>RelV v u
 | none,none=>True
 | _,_=>False
def KV{κ:Type}:List (κ × V)->List (κ × Value)->Prop:=Paired λ(p:κ × V) (q:κ × Value)=>p.1=q.1/\RelV p.2 q.2
def kV:Key->V
 | .inl i=>.int i
 | .inr x=>.str x
inductive HO where
 | lst (xs:List V)
 | tup (xs:List V)
 | dK (dQ:List (Key × V)) | dT (dQ:List (List Key × V))
 | set (S:Int->Bool) (n:Nat)
 | ins (C dx:Addr) (fs:List (Str × V))
 | own (x:Addr)
 | xd (fs:List (Str × V))
 | met (f x:Addr)
 | zb (lo hi:Int)
 | cu (o:Obj) (u:HO)
 | dN (ps:Array Value)
 | ext (φ:Heap->Prop)
abbrev Hp:=Addr->Option HO
def upd(H:Hp)(a:Addr)(o:HO):Hp:=λb=>if b=a then some o else H b
theorem cI{H:Hp}{a:Addr}{o:HO}:upd H a o a=some o:=by unfold upd;rw[if_pos rfl]
theorem bA{H:Hp}{a b:Addr}{o:HO}(h:b≠a):upd H a o b=H b:=by unfold upd;rw[if_neg h]
theorem fC{H:Hp}{a b:Addr}{o:HO}(h:H a=some o)(h':H b=none):a≠b:=by
 intro e;subst e;rw[h]at h';cases h'
section
variable(P:Program)(w:World)
def eI(H:Hp)(h:Heap)(a:Addr):HO->Prop
 | .lst xs=>xs.length<=sizeLine/\∃(its:List Value) (n:Nat),Vals xs its/\h.get? a=some { cls:=.type "list",data:=.seq its.toArray n }
 | .tup xs=>xs.length<=sizeLine/\∃its:List Value,Vals xs its/\IsTup h a its.toArray
 | .dK dQ=>dQ.length<=sizeLine/\(a==sysModules)=false/\∃vs,KV dQ vs/\h.DictOf (Sl P w) a vs
 | .dT dQ=>dQ.length<=sizeLine/\(a==sysModules)=false/\∃xs:List (List Key × Addr × Value),
   Paired (λ(p:List Key × V) (q:List Key × Addr × Value)=>p.1=q.1/\H q.2.1=some (.tup (p.1.map kV))/\RelV p.2 q.2.2) dQ xs /\
   ∃o es ep,h.get? a=some o/\o.ExactDict/\o.data=.dict es ep/\es.toList=xs.map (entryOfKey (tupleKind (Sl P w)))/\(xs.map (·.1)).Nodup
 | .set S n=>h.SetOf (intKind P w) a S n
 | .ins C dx fs=>H dx=some (.own a)/\fs.length<=1000/\dx≠a/\h.get? a=some (PySem.W.instObj C dx) /\
   ∃mA,h.Ns1 dx mA/\(∀f,mC (fs.lookup f) (mA f))/\PySem.Within mA (fs.map (·.1))
 | .own _=>∃o,h.get? a=some o
 | .xd fs=>∃mA,h.Ns1 a mA/\∀f,mC (fs.lookup f) (mA f)
 | .zb lo hi=>∃t u v,h.get? a=some { cls:=.type "range",data:=.fields #[.int lo t,.int hi u,.int 1 v] }
 | .cu o u=>h.get? a=some o/\eI H h a u
 | .dN ps=>h.get? a=some { cls:=.none,data:=.fields ps }/\TriplesOk ps.toList/\∀pos cv,codeAmong pos ps.toList=some cv->∃c φ,cv=.ref c/\H c=some (.ext φ)/\∀h',φ h'->∃q,h'.CodeRec (.ref c) q
 | .met f x=>h.get? a=some (PySem.W.methodObj (.ref f) (.ref x))
 | .ext φ=>φ h/\(∃o,h.get? a=some o)/\∀h1 h2:Heap,φ h1->(∀b o,(b=a\/H b=some (.own a))->h1.get? b=some o->h2.get? b=some o)->φ h2
def cV(H:Hp)(h:Heap):Prop:=∀a o,H a=some o->eI P w H h a o
end
section
variable{P:Program}{w:World}{H H':Hp}{h h':Heap}{a:Addr}{o:HO}
theorem eI.lt(x:eI P w H h a o):a<h.objs.size:=by
 cases o with
 | lst xs=>obtain⟨_,_,_,_,e⟩:=x;exact bV e
 | tup xs=>obtain⟨_,_,_,p⟩:=x;exact p.lt
 | dK dQ=>obtain⟨_,_,_,_,o,_,_,e,_⟩:=x;exact bV e
 | dT dQ=>obtain⟨_,_,_,_,o,_,_,e,_⟩:=x;exact bV e
 | set S n=>obtain⟨o,_,_,_,e,_⟩:=x;exact bV e
 | ins C dx fs=>obtain⟨_,_,_,e,_⟩:=x;exact bV e
 | own y=>obtain⟨_,e⟩:=x;exact bV e
 | xd fs=>obtain⟨_,⟨_,_,_,e,_⟩,_⟩:=x;exact bV e
 | zb lo hi=>obtain⟨_,_,_,e⟩:=x;exact bV e
 | cu ob u=>obtain⟨e,_⟩:=x;exact bV e
 | dN ps=>exact bV (show h.get? a=some _ from x.1)
 | met f y=>exact bV (show h.get? a=some _ from x)
 | ext φ=>obtain⟨_,⟨_,e⟩,_⟩:=x;exact bV e
theorem Paired.Gm{α β:Type}{F G:α->β->Prop}:∀{l₁:List α} {l₂:List β},Paired F l₁ l₂->(∀a b,F a b->G a b)->Paired G l₁ l₂
 | _,_,.nil,_=>.nil
 | _,_,.cons r t,f=>.cons (f _ _ r) (Paired.Gm t f)
theorem eI.kP(x:eI P w H h a o)(k:∀b u,(b=a\/H b=some (.own a))->h.get? b=some u->h'.get? b=some u)
  (ho:∀b,H b=some (.own a)->H' b=some (.own a)) (ht:∀b xs,H b=some (.tup xs)->H' b=some (.tup xs)) (hx:∀b φ,H b=some (.ext φ)->H' b=some (.ext φ)):eI P w H' h' a o:=by
 induction o with
 | lst xs=>obtain⟨z,its,n,r,e⟩:=x;exact⟨z,its,n,r,k _ _ (.inl rfl) e⟩
 | tup xs=>obtain⟨z,its,r,ob,e,c⟩:=x;exact⟨z,its,r,ob,k _ _ (.inl rfl) e,c⟩
 | dK dQ=>obtain⟨z,y,vs,r,ob,es,ep,e,c⟩:=x;exact⟨z,y,vs,r,ob,es,ep,k _ _ (.inl rfl) e,c⟩
 | dT dQ =>
  obtain⟨z,y,xs,r,ob,es,ep,e,c⟩:=x
  exact⟨z,y,xs,Paired.Gm r λp q z=>⟨z.1,ht _ _ z.2.1,z.2.2⟩,ob,es,ep,k _ _ (.inl rfl) e,c⟩
 | set S n=>obtain⟨ob,es,ep,t,e,c⟩:=x;exact⟨ob,es,ep,t,k _ _ (.inl rfl) e,c⟩
 | ins C dx fs =>
  obtain⟨d,z,ne,e,mA,⟨od,es,ep,e2,c⟩,r⟩:=x
  exact⟨ho _ d,z,ne,k _ _ (.inl rfl) e,mA,⟨od,es,ep,k _ _ (.inr d) e2,c⟩,r⟩
 | own y=>obtain⟨ob,e⟩:=x;exact⟨ob,k _ _ (.inl rfl) e⟩
 | xd fs=>obtain⟨mA,⟨od,es,ep,e,c⟩,r⟩:=x;exact⟨mA,⟨od,es,ep,k _ _ (.inl rfl) e,c⟩,r⟩
 | zb lo hi=>obtain⟨t,u,v,e⟩:=x;exact⟨t,u,v,k _ _ (.inl rfl) e⟩
 | cu ob u ih=>obtain⟨e,q⟩:=x;exact⟨k _ _ (.inl rfl) e,ih q⟩
 | dN ps =>
  obtain⟨e,t,c⟩:=x
  refine⟨k a _ (.inl rfl) e,t,λpos cv q=>?_⟩
  obtain⟨d,φ,e1,e2,e3⟩:=c pos cv q
  exact⟨d,φ,e1,hx _ _ e2,e3⟩
 | met f y =>
  have e:h.get? a=some (PySem.W.methodObj (.ref f) (.ref y)):=x
  show h'.get? a=some (PySem.W.methodObj (.ref f) (.ref y))
  exact k a _ (.inl rfl) e
 | ext φ=>obtain⟨p,⟨o,e⟩,st⟩:=x;exact⟨st _ _ p λb o hb q=>k _ _ hb q,⟨o,k _ _ (.inl rfl) e⟩,λh1 h2 p1 kk=>st h1 h2 p1 λb o hb q=>kk b o (hb.imp id (ho b)) q⟩
theorem cV.lt(x:cV P w H h)(e:H a=some o):a<h.objs.size:=(x a o e).lt
theorem cV.fresh(x:cV P w H h)(e:h.objs.size<=a):H a=none:=by
 cases q:H a with
 | none=>rfl
 | some u=>exact absurd (dB (x.lt q) e) (fN _)
theorem cV.kept(x:cV P w H h)(k:∀b u,h.get? b=some u->h'.get? b=some u):cV P w H h':=λa o e =>
 (x a o e).kP (λb u _ q=>k b u q) (λ_ q=>q) (λ_ _ q=>q) λ_ _ q=>q
theorem cV.laid(x:cV P w H h)(k:∀b u,h.get? b=some u->h'.get? b=some u)(hp:h.objs.size<=a)(new:eI P w (upd H a o) h' a o):cV P w (upd H a o) h':=λb u e=>by
 have hn:=x.fresh hp
 by_cases hb:b=a
 ·subst hb;rw[cI]at e;cases e;exact new
 ·rw[bA hb]at e
  exact(x b u e).kP (λc v _ q=>k c v q) (λc q=>by rw[bA (fC q hn)];exact q) (λc xs q=>by rw[bA (fC q hn)];exact q) λc xs q=>by rw[bA (fC q hn)];exact q
end
def Rd(H:Hp)(a:Addr)(u:HO):Prop:=H a=some u\/∃o,H a=some (.cu o u)
theorem Rd.ok{P:Program}{w:World}{H:Hp}{h:Heap}{a:Addr}{u:HO}(r:Rd H a u)(x:cV P w H h):eI P w H h a u:=by
 rcases r with r | ⟨o,r⟩
 ·exact x a u r
 ·obtain⟨_,q⟩:=x a _ r
  exact q
def B3:Option HO->Prop
 | some (.lst _)=>True
 | some (.dK _)=>True
 | some (.dT _)=>True
 | some (.set _ _)=>True
 | some (.ins _ _ _)=>True
 | _=>False
section
variable{P:Program}{w:World}{H:Hp}{h h':Heap}{x e:Addr}{o':HO}
theorem cV.write(ok:cV P w H h)(mu:B3 (H x))(he:e=x\/H e=some (.own x))(k:∀b u,b≠e->h.get? b=some u->h'.get? b=some u)(vH:∃u,h'.get? e=some u)
  (new:eI P w (upd H x o') h' x o'):cV P w (upd H x o') h':=λb u q=>by
 have Sm:∀c y,H c=some (.own y)->c≠x:=λc y r z=>by subst z;rw[r]at mu;exact mu
 have dg0:∀c xs,H c=some (.tup xs)->c≠x:=λc xs r z=>by subst z;rw[r]at mu;exact mu
 by_cases hb:b=x
 ·subst hb;rw[cI]at q;cases q;exact new
 ·rw[bA hb]at q
  by_cases tN:b=e
  ·have q':H b=some (.own x):=by
    rcases he with z | z
    ·exact absurd (tN.trans z) hb
    ·rw[tN];exact z
   rw[q]at q';cases q'
   obtain⟨v,hv⟩:=vH
   exact⟨v,by rw[tN];exact hv⟩
  ·refine(ok b u q).kP (λc v hc r=>k c v ?_ r) (λc r=>by rw[bA (Sm c b r)];exact r) (λc xs r=>by rw[bA (dg0 c xs r)];exact r) λc φ r=>by rw[bA (λz=>by rw[z]at r;rw[r]at mu;exact mu)];exact r
   rcases hc with rfl | hc
   ·exact tN
   ·rintro rfl
    rcases he with z | z
    ·exact Sm c b hc z
    ·rw[hc]at z;cases z;exact hb rfl
end
structure Un(fs ex:List Addr)(H H':Hp)(h h':Heap):Prop where
 keep:∀b o,h.get? b=some o->H b=none->b ∉ fs->b ∉ ex->h'.get? b=some o
 slot:∀b o,h.get? b=some o->H b=none->b∈fs->b ∉ ex->∃sl,h'.get? b=some { o with slots:=sl }
 free:∀b o,h.get? b=some o->H b=none->b ∉ ex->H' b=none
 there:∀b o,h.get? b=some o->b ∉ ex->∃o',h'.get? b=some o'
 km:∀b xs,H b=some (.tup xs)->H' b=some (.tup xs)
 jO:∀b o u,H b=some (.cu o u)->H' b=some (.cu o u)
 iN:∀b ps,H b=some (.dN ps)->∃more,H' b=some (.dN (ps++more))
section
variable{fs fs' ex ex':List Addr}{H H1 H2:Hp}{h h1 h2 h':Heap}{a x e:Addr}{o:HO}
theorem Un.any(u:Un fs ex H H1 h h1){b:Addr}{ob:Obj}(q:h.get? b=some ob)(n:H b=none)(hx:b ∉ ex):∃sl,h1.get? b=some { ob with slots:=sl }:=by
 by_cases hb:b∈fs
 ·exact u.slot b ob q n hb hx
 ·exact⟨ob.slots,u.keep b ob q n hb hx⟩
theorem Un.kept(k:∀b u,h.get? b=some u->h'.get? b=some u):Un fs ex H H h h' :=
 ⟨λb ob q _ _ _=>k b ob q,λb ob q _ _ _=>⟨ob.slots,k b ob q⟩,λ_ _ _ n _=>n,λb ob q _=>⟨ob,k b ob q⟩,λ_ _ q=>q,λ_ _ _ q=>q,λ_ ps q=>⟨#[],by rw[q];simp⟩⟩
theorem Un.refl:Un fs ex H H h h:=Un.kept λ_ _ q=>q
theorem Un.laid(k:∀b u,h.get? b=some u->h'.get? b=some u)(hp:h.objs.size<=a)(hn:H a=none):Un fs ex H (upd H a o) h h' where
 keep:=λb u q _ _ _=>k b u q
 slot:=λb u q _ _ _=>⟨u.slots,k b u q⟩
 free:=λb u q n _=>by rw[bA (fA (dB (bV q) hp))];exact n
 there:=λb u q _=>⟨u,k b u q⟩
 km:=λb xs q=>by rw[bA (fC q hn)];exact q
 jO:=λb u xs q=>by rw[bA (fC q hn)];exact q
 iN:=λb ps q=>⟨#[],by rw[bA (fC q hn),q];simp⟩
theorem Un.write(mu:B3 (H x))(he:e=x\/H e=some (.own x))(k:∀b u,b≠e->h.get? b=some u->h'.get? b=some u)(vH:∃u,h'.get? e=some u):Un fs ex H (upd H x o) h h':=by
 have hx:∀b,H b=none->b≠x:=λb n z=>by subst z;rw[n]at mu;exact mu
 have hb:∀b,H b=none->b≠e:=λb n z=>by
  subst z
  rcases he with r | r
  ·exact hx b n r
  ·rw[n]at r;cases r
 have hm:∀b u,H b=some u->¬ B3 (some u)->b≠x:=λb u q nm z=>by subst z;rw[q]at mu;exact nm mu
 refine⟨λb u q n _ _=>k b u (hb b n) q,λb u q n _ _=>⟨u.slots,k b u (hb b n) q⟩,λb u q n _=>by rw[bA (hx b n)];exact n,λb u q _=>?_,
  λb xs q=>by rw[bA (hm b _ q λz=>z)];exact q,λb u xs q=>by rw[bA (hm b _ q λz=>z)];exact q,λb ps q=>⟨#[],by rw[bA (hm b _ q λz=>z),q];simp⟩⟩
 by_cases tN:b=e
 ·subst tN;exact vH
 ·exact⟨u,k b u tN q⟩
end
def B4(h:Heap)(H:Hp):List Addr:=(aZ h.objs.size).filter λa=>(H a).isSome
def mD(h:Heap)(H:Hp):Heap:=PySem.W.hideAll h (B4 h H)
theorem ce2(h:Heap)(H:Hp):(mD h H).objs.size=h.objs.size:=PySem.W.hideAll_size _ _
theorem cj9{h:Heap}{H:Hp}{b:Addr}{o:Obj}(e:h.get? b=some o)(n:H b=none):(mD h H).get? b=some o :=
 PySem.W.hideAll_get _ e λhm=>by
  have q:(H b).isSome=true:=(nG.mp hm).2
  rw[n]at q;simp at q
theorem cE8{h:Heap}{H:Hp}{b:Addr}{o:Obj}(e:(mD h H).get? b=some o):h.get? b=some o/\H b=none:=by
 have e':h.get? b=some o:=PySem.W.of_hideAll (B4 h H) e
 refine⟨e',?_⟩
 cases q:H b with
 | none=>rfl
 | some x =>
  have hm:b∈B4 h H:=nG.mpr ⟨cT.mpr (bV e'),by simp[q]⟩
  have z:(mD h H).get? b=none:=PySem.W.hideAll_none (B4 h H) hm
  rw[z]at e;cases e
end L2
namespace L2
open PySem PySem.Spec PyProof.Rows
structure Mod(K:PySem.W.Frag)(mg:Str->Option Value)(base:Heap):Prop where
 nW:K.In base
 glob:base.Ns mainGlobals mg
 blt:∃mb,base.Ns builtinsNs mb/\∀x:Str,x≠"__name__"->mb x=bootBuiltins x
 nolimit:base.NoLimit
structure Cx where
 prog:Program
 w:World
 K:PySem.W.Frag
 mg:Str->Option Value
 base:Heap
 A:Around
 N:List Str
 cW:Shared
 kQ:Hp
 env:Env
 outer:List Env
 stack:List Env
 ex:List Addr
 fn:Str->Bool
 calm:Bool
 pn:List (Addr × Obj)
 xe:Value->Shared->Prop
def eJ(l:List Env):List Addr:=l.filterMap (·.frame)
abbrev Cx.fs(X:Cx):List Addr:=eJ X.outer
def mE(sc:Scope)(x:Str):Prop:=sc.names.lookup x=some .local\/sc.names.lookup x=some .cell\/sc.names.lookup x=some .free
def Loc(sc:Scope)(x:Str):Prop:=sc.names.lookup x=some .local\/sc.names.lookup x=some .cell
def cZ5(env:Env)(h:Heap)(m:Str->Option Value)(x:Str)(u:Value):Prop :=
 (env.kindOf x=some .local/\m x=some u)\/((env.kindOf x=some .cell\/env.kindOf x=some .free)/\∃c,env.cells.lookup x=some c/\h.IsCell c (some u))
structure Cx.Ok(X:Cx):Prop where
 mod:Mod X.K X.mg X.base
 kind:X.env.scope.kind=.function
 glob:X.env.globals=mainGlobals
 blt:X.env.builtins=builtinsNs
 above:X.cW.heap.objs.size<=X.env.locals
 inj:∀x y c,X.env.cells.lookup x=some c->X.env.cells.lookup y=some c->x=y
 has:∀x,(X.env.kindOf x=some .cell\/X.env.kindOf x=some .free)->∃c,X.env.cells.lookup x=some c
 tO:∀x c,X.fn x=true->X.env.cells.lookup x=some c->X.cW.heap.objs.size<=c
 hd:X.calm=true->X.A.handled=none
 frames:X.A.frames=some X.stack
 zc:X.stack=X.outer\/(X.stack=X.env::X.outer/\X.env.frame=some X.env.locals)
 zd:∀b∈X.ex,b≠X.env.locals/\∀x c,X.env.cells.lookup x=some c->c≠b
 bs:∀b o,X.base.get? b=some o->X.cW.heap.get? b=some o/\X.kQ b=none
 kq:X.base.objs.size<=X.cW.heap.objs.size
 vI:∀b o,X.base.get? b=some o->b ∉ X.ex
 vJ:∀b∈X.ex,b ∉ X.fs
 gX:X.cW.heap.FunFrames X.base X.outer
 kr:∀b∈X.fs,X.kQ b=none
structure Inv(X:Cx)(pins:List (Addr × Obj))(σ:List (Option V))(H:Hp)(s:Shared):Prop where
 ok:X.Ok
 os:s.os=X.cW.os
 bare:AllBare s.gens
 base:Un X.fs X.ex X.kQ H X.cW.heap s.heap
 loc:∃m,s.heap.Ns X.env.locals m/\∀(i:Nat) (x:Str) (v:V),X.N[i]?=some x->σ[i]?=some (some v)->mE X.env.scope x->∃u,RelV v u/\cZ5 X.env s.heap m x u
 cell:∀x c,X.env.cells.lookup x=some c->∃v,s.heap.IsCell c v
 free:H X.env.locals=none
 jP:∀x c,X.env.cells.lookup x=some c->H c=none
 pin:∀p∈X.pn++pins,s.heap.get? p.1=some p.2/\H p.1=none/\p.1≠X.env.locals/\p.1 ∉ X.fs/\∀v,p.2.data≠.cell v
 aO:cV X.prog X.w H s.heap
 len:σ.length=X.N.length
section
variable{X:Cx}{pins:List (Addr × Obj)}{σ:List (Option V)}{H H':Hp}{s:Shared}{h':Heap}
theorem Cx.Ok.dg6(ok:X.Ok){b:Addr}{o:Obj}(e:X.base.get? b=some o):b ∉ X.fs:=λhb=>by
 have:=(ok.gX.mem hb).1
 rw[e]at this;cases this
theorem Inv.bs(I:Inv X pins σ H s):∀b o,X.base.get? b=some o->s.heap.get? b=some o/\H b=none:=λb o e =>
 ⟨I.base.keep b o (I.ok.bs b o e).1 (I.ok.bs b o e).2 (I.ok.dg6 e) (I.ok.vI b o e),I.base.free b o (I.ok.bs b o e).1 (I.ok.bs b o e).2 (I.ok.vI b o e)⟩
theorem Inv.bk(I:Inv X pins σ H s):∀b o,X.base.get? b=some o->s.heap.get? b=some o:=λb o e=>(I.bs b o e).1
theorem Inv.mod(I:Inv X pins σ H s):Mod X.K X.mg X.base:=I.ok.mod
theorem Inv.dG(I:Inv X pins σ H s):X.K.In s.heap:=I.ok.mod.nW.keeps I.bk
theorem Inv.lt(I:Inv X pins σ H s):X.env.locals<s.heap.objs.size:=let⟨_,hn,_⟩:=I.loc;hn.lt
theorem Inv.sz(I:Inv X pins σ H s):X.cW.heap.objs.size<=s.heap.objs.size:=eH I.ok.above (BE I.lt)
theorem Inv.Sn(I:Inv X pins σ H s){a:Addr}(h:s.heap.objs.size<=a):a ∉ X.fs:=λhb=>by
 obtain⟨_,o,ho,_⟩:=I.ok.gX.mem hb
 exact absurd (dB (bV ho) (eH I.sz h)) (fN _)
theorem Inv.qo(I:Inv X pins σ H s):∀x c,X.env.cells.lookup x=some c->c≠X.env.locals:=λx c e z=>by
 obtain⟨v,o,ho,hd⟩:=I.cell x c e
 obtain⟨m,⟨o',es,ep,kR,ze,_⟩,_⟩:=I.loc
 rw[z,kR]at ho;cases ho;rw[ze]at hd;cases hd
theorem Inv.gX(I:Inv X pins σ H s):s.heap.FunFrames X.base X.outer:=by
 have all:∀(l:List Env),(∀b∈eJ l,b∈X.fs)->X.cW.heap.FunFrames X.base l->s.heap.FunFrames X.base l:=by
  intro l
  induction l with
  | nil=>intro _ _;trivial
  | cons env r ih =>
   intro hs hl
   obtain⟨hk,⟨L,o,hf,hn,ho,hd⟩,hr⟩:=hl
   have hL:L∈X.fs:=hs L (by unfold eJ;rw[BF,hf];exact gb)
   obtain⟨sl,e⟩:=I.base.slot L o ho (I.ok.kr L hL) hL λz=>I.ok.vJ L z hL
   exact⟨hk,⟨L,_,hf,hn,e,hd⟩,ih (λb hb=>hs b (by unfold eJ;rw[BF,hf];exact dZ _ hb)) hr⟩
 exact all X.outer (λ_ hb=>hb) I.ok.gX
theorem Inv.stack(I:Inv X pins σ H s):s.heap.FunFrames X.base X.stack:=by
 rcases I.ok.zc with e | ⟨e,hf⟩
 ·rw[e];exact I.gX
 ·rw[e]
  obtain⟨m,hn,_⟩:=I.loc
  refine .cons (by rw[I.ok.kind];decide) hf hn ?_ I.gX
  exact Heap.get?_none_of_le (eH I.ok.kq I.ok.above)
theorem Inv.B5(I:Inv X pins σ H s):∀b∈eJ X.stack,b∈X.env.locals::X.fs:=λb hb=>by
 rcases I.ok.zc with e | ⟨e,hf⟩
 ·rw[e]at hb;exact dZ _ hb
 ·rw[e]at hb
  unfold eJ at hb
  rw[BF,hf]at hb
  exact hb
theorem Inv.Gp(I:Inv X pins σ H s):∀b∈eJ X.stack,H b=none:=λb hb=>by
 rcases cB.mp (I.B5 b hb)with e | hb
 ·rw[e];exact I.free
 ·obtain⟨_,o,ho,_⟩:=I.ok.gX.mem hb
  exact I.base.free b o ho (I.ok.kr b hb) λz=>I.ok.vJ b z hb
theorem Inv.step{g':Array GenState}{t':Nat}{d':Drawn}{ch:List Addr}(I:Inv X pins σ H s)
  (mF:∀b∈ch,(b∈X.ex\/X.cW.heap.objs.size<=b)/\b≠X.env.locals/\(∀x c,X.env.cells.lookup x=some c->c≠b)/\∀p∈X.pn++pins,p.1≠b)
  (keep:∀b o,b≠X.env.locals->b ∉ X.fs->b ∉ ch->s.heap.get? b=some o->H b=none->h'.get? b=some o)
  (slot:∀b o,b≠X.env.locals->b∈X.fs->b ∉ ch->s.heap.get? b=some o->H b=none->∃sl,h'.get? b=some { o with slots:=sl }) (free:∀b o,b ∉ ch->s.heap.get? b=some o->H b=none->H' b=none)
  (there:∀b o,b ∉ ch->s.heap.get? b=some o->∃o',h'.get? b=some o')
  (km:∀b xs,H b=some (.tup xs)->H' b=some (.tup xs)) (jO:∀b o u,H b=some (.cu o u)->H' b=some (.cu o u)) (iN:∀b ps,H b=some (.dN ps)->∃more,H' b=some (.dN (ps++more)))
  (ns:∀m,s.heap.Ns X.env.locals m->h'.Ns X.env.locals m) (aO:cV X.prog X.w H' h') (hg:AllBare g') :
  Inv X pins σ H' { s with heap:=h',gens:=g',drawn:=d',toks:=t' }:=by
 have B6:∀b o,X.cW.heap.get? b=some o->b≠X.env.locals:=λb o e=>fA (dB (bV e) I.ok.above)
 have vK:∀b o,X.cW.heap.get? b=some o->b ∉ X.ex->b ∉ ch:=λb o e hx hb=>by
  rcases(mF b hb).1 with z | z
  ·exact hx z
  ·exact absurd (dB (bV e) z) (fN _)
 have cellK:∀x c,X.env.cells.lookup x=some c->∀v,s.heap.IsCell c v->h'.IsCell c v:=λx c e v ⟨o,ho,hd⟩=>by
  have zf:c ∉ ch:=λz=>(mF c z).2.2.1 x c e rfl
  by_cases hc:c∈X.fs
  ·obtain⟨sl,q⟩:=slot c o (I.qo x c e) hc zf ho (I.jP x c e)
   exact⟨_,q,hd⟩
  ·exact⟨o,keep c o (I.qo x c e) hc zf ho (I.jP x c e),hd⟩
 refine⟨I.ok,I.os,hg,⟨λb o e n hb hx=>?_,λb o e n hb hx=>?_,λb o e n hx=>?_,λb o e hx=>?_,λb xs e=>km b xs (I.base.km b xs e),λb o xs e=>jO b o xs (I.base.jO b o xs e),λb ps e=>?_⟩,?_,λx c e=>?_,?_,λx c e=>?_,λp hp=>?_,aO,I.len⟩
 ·exact keep b o (B6 b o e) hb (vK b o e hx) (I.base.keep b o e n hb hx) (I.base.free b o e n hx)
 ·obtain⟨sl,e1⟩:=I.base.slot b o e n hb hx
  obtain⟨sl',e2⟩:=slot b _ (B6 b o e) hb (vK b o e hx) e1 (I.base.free b o e n hx)
  exact⟨sl',e2⟩
 ·obtain⟨o',e1⟩:=I.base.there b o e hx
  exact free b o' (vK b o e hx) e1 (I.base.free b o e n hx)
 ·obtain⟨o',e1⟩:=I.base.there b o e hx
  exact there b o' (vK b o e hx) e1
 ·obtain⟨m1,e1⟩:=I.base.iN b ps e
  obtain⟨m2,e2⟩:=iN b _ e1
  exact⟨m1++m2,by rw[e2,BG]⟩
 ·obtain⟨m,hn,hl⟩:=I.loc
  refine⟨m,ns m hn,λi x v e1 e2 e3=>?_⟩
  obtain⟨u,r,l⟩:=hl i x v e1 e2 e3
  refine⟨u,r,?_⟩
  rcases l with l | ⟨k,c,e,z⟩
  ·exact .inl l
  ·exact .inr ⟨k,c,e,cellK x c e _ z⟩
 ·obtain⟨v,z⟩:=I.cell x c e
  exact⟨v,cellK x c e v z⟩
 ·obtain⟨m,⟨o,_,_,ho,_⟩,_⟩:=I.loc
  exact free _ o (λz=>(mF _ z).2.1 rfl) ho I.free
 ·obtain⟨v,o,ho,hd⟩:=I.cell x c e
  exact free c o (λz=>(mF c z).2.2.1 x c e rfl) ho (I.jP x c e)
 ·obtain⟨e,n,ne,nf,d⟩:=I.pin p hp
  have zf:p.1 ∉ ch:=λz=>(mF p.1 z).2.2.2 p hp rfl
  exact⟨keep p.1 p.2 ne nf zf e n,free p.1 p.2 zf e n,ne,nf,d⟩
theorem Inv.un{t':Nat}(I:Inv X pins σ H s)(u:Un X.fs [] H H' s.heap h')(aO:cV X.prog X.w H' h'):Inv X pins σ H' { s with heap:=h',toks:=t' }:=by
 obtain⟨m,⟨o,es,ep,ho,r⟩,_⟩:=id I.loc
 obtain⟨sl,hL⟩:=u.any ho I.free (by simp)
 exact I.step (g':=s.gens) (d':=s.drawn) (ch:=[]) (λ_ z=>nomatch z) (λb o _ hb _ e n=>u.keep b o e n hb (by simp)) (λb o _ hb _ e n=>u.slot b o e n hb (by simp)) (λb o _ e n=>u.free b o e n (by simp)) (λb o _ e=>u.there b o e (by simp)) u.km u.jO u.iN (λm' hm=>by
  obtain⟨o',Gq,Gr,kR,r'⟩:=hm
  rw[ho]at kR;cases kR
  exact⟨_,Gq,Gr,hL,r'⟩) aO I.bare
theorem Inv.call{g':Array GenState}{t':Nat}{d':Drawn}{ch:List Addr}(I:Inv X pins σ H s)(u:Un (eJ X.stack) ch H H' s.heap h')(aO:cV X.prog X.w H' h')(hg:AllBare g')
  (mF:∀b∈ch,(b∈X.ex\/X.cW.heap.objs.size<=b)/\b≠X.env.locals/\(∀x c,X.env.cells.lookup x=some c->c≠b)/\∀p∈X.pn++pins,p.1≠b) :
  Inv X pins σ H' { s with heap:=h',gens:=g',drawn:=d',toks:=t' }:=by
 obtain⟨m,⟨o,es,ep,ho,r⟩,_⟩:=id I.loc
 obtain⟨sl,hL⟩:=u.any ho I.free λz=>(mF _ z).2.1 rfl
 exact I.step (ch:=ch) mF (λb o hL hb hc e n=>u.keep b o e n (λz=>(cB.mp (I.B5 b z)).elim hL hb) hc) (λb o _ _ hc e n=>u.any e n hc) (λb o hc e n=>u.free b o e n hc) (λb o hc e=>u.there b o e hc) u.km u.jO u.iN (λm' hm=>by
  obtain⟨o',Gq,Gr,kR,r'⟩:=hm
  rw[ho]at kR;cases kR
  exact⟨_,Gq,Gr,hL,r'⟩) aO hg
theorem Inv.turned{t':Nat}{it:Addr}(I:Inv X pins σ H s)(k:∀b o,b≠it->s.heap.get? b=some o->h'.get? b=some o)(hn:H it=none)(hL:it≠X.env.locals)
  (h1:it∈X.ex\/X.cW.heap.objs.size<=it) (h2:∀x c,X.env.cells.lookup x=some c->c≠it) (h3:∀p∈X.pn++pins,p.1≠it):Inv X pins σ H { s with heap:=h',toks:=t' }:=by
 have qp:∀b u,H b=some u->b≠it:=λb u e z=>by rw[z,hn]at e;cases e
 refine I.step (g':=s.gens) (d':=s.drawn) (ch:=[it]) (λb hb=>?_) (λb o _ _ hc e _=>k b o (λz=>hc (by simp[z])) e) (λb o _ _ hc e _=>⟨o.slots,k b o (λz=>hc (by simp[z])) e⟩) (λ_ _ _ _ n=>n)
  (λb o hc e=>⟨o,k b o (λz=>hc (by simp[z])) e⟩) (λ_ _ e=>e) (λ_ _ _ e=>e) (λb ps e=>⟨#[],by rw[e];simp⟩) (λm hm=>?_) (λb u e=>?_) I.bare
 ·have e:b=it:=by simpa using hb
  subst e
  exact⟨h1,hL,h2,h3⟩
 ·obtain⟨o,es,ep,ho,r⟩:=hm
  exact⟨o,es,ep,k _ o (fB hL) ho,r⟩
 ·refine(I.aO b u e).kP (λc v hc q=>k c v ?_ q) (λ_ q=>q) (λ_ _ q=>q) λ_ _ q=>q
  rcases hc with z | z
  ·rw[z];exact qp b u e
  ·exact qp c _ z
theorem Inv.tok(I:Inv X pins σ H s)(t:Nat):Inv X pins σ H { s with toks:=t }:=I.un (h':=s.heap) (t':=t) Un.refl I.aO
theorem Inv.kept{t':Nat}(I:Inv X pins σ H s)(k:∀b u,s.heap.get? b=some u->h'.get? b=some u):Inv X pins σ H { s with heap:=h',toks:=t' }:=I.un (Un.kept k) (I.aO.kept k)
theorem Inv.laid{a:Addr}{o:HO}{t':Nat}(I:Inv X pins σ H s)(k:∀b u,s.heap.get? b=some u->h'.get? b=some u)(hp:s.heap.objs.size<=a)(new:eI X.prog X.w (upd H a o) h' a o) :
  Inv X pins σ (upd H a o) { s with heap:=h',toks:=t' }:=I.un (Un.laid k hp (I.aO.fresh hp)) (I.aO.laid k hp new)
theorem Inv.write{x e:Addr}{o:HO}{t':Nat}(I:Inv X pins σ H s)(mu:B3 (H x))(he:e=x\/H e=some (.own x))(k:∀b u,b≠e->s.heap.get? b=some u->h'.get? b=some u)(vH:∃u,h'.get? e=some u)
  (new:eI X.prog X.w (upd H x o) h' x o):Inv X pins σ (upd H x o) { s with heap:=h',toks:=t' }:=I.un (Un.write mu he k vH) (I.aO.write mu he k vH new)
theorem Inv.weak{aN:List (Option V)}(I:Inv X pins σ H s)(hl:aN.length=σ.length)(w:∀(i:Nat) v,aN[i]?=some (some v)->σ[i]?=some (some v)):Inv X pins aN H s :=
 ⟨I.ok,I.os,I.bare,I.base,let⟨m,hn,qq⟩:=I.loc;⟨m,hn,λi x v e1 e2 e3=>qq i x v e1 (w i v e2) e3⟩,I.cell,I.free,I.jP,I.pin,I.aO,hl.trans I.len⟩
theorem Inv.So{Gu:List (Addr × Obj)}(I:Inv X pins σ H s)(h:∀p∈Gu,s.heap.get? p.1=some p.2/\H p.1=none/\p.1≠X.env.locals/\p.1 ∉ X.fs/\∀v,p.2.data≠.cell v):Inv X Gu σ H s :=
 ⟨I.ok,I.os,I.bare,I.base,I.loc,I.cell,I.free,I.jP,λp hp=>(bZ.mp hp).elim (λz=>I.pin p (gQ _ z)) (h p),I.aO,I.len⟩
theorem Sq{N:List Str}(hN:N.Nodup){i j:Nat}{x:Str}(a:N[i]?=some x)(b:N[j]?=some x):i=j:=by
 obtain⟨h1,e1⟩:=jj.mp a
 obtain⟨h2,e2⟩:=jj.mp b
 exact(List.getElem_inj hN).mp (e1.trans e2.symm)
theorem b74{M:Model}{A:Around}{E:Value->Shared->Prop}{i:Nat}{x:Str}{v:V}{u:Value}{Q:Unit->Shared->Prop}(I:Inv X pins σ H s)(hN:X.N.Nodup)(hi:X.N[i]?=some x)(hx:Loc X.env.scope x)(r:RelV v u)
  (h:∀s',Inv X pins (σ.set i (some v)) H s'->(∃a,Heap.SameBut a s.heap s'.heap/\(a=X.env.locals\/X.env.cells.lookup x=some a))->Q () s') (hf:X.fn x=true\/X.env.scope.names.lookup x=some .local:=by first | exact .inl rfl | exact .inr rfl | assumption):wpAny M A (storeName X.env x u) Q E s:=by
 obtain⟨m,hn,hl⟩:=id I.loc
 have dg9:(X.env.scope.kind==.class||(X.env.scope.kind==.module&&X.env.locals != X.env.globals))=false:=by rw[I.ok.kind];rfl
 have Sr:i<σ.length:=by rw[I.len];exact(jj.mp hi).1
 have qo:=I.qo
 have tracked:∀{a:Addr} {h':Heap},(∃o,s.heap.get? a=some o/\H a=none)->Heap.SameBut a s.heap h'->cV X.prog X.w H h':=λ{a h'} ha hs b ob e=>by
  obtain⟨_,_,Ss⟩:=ha
  refine(I.aO b ob e).kP (λc w' hc q=>(hs.2 c ?_).trans q) (λ_ q=>q) (λ_ _ q=>q) λ_ _ q=>q
  rintro rfl
  rcases hc with rfl | hc
  ·rw[Ss]at e;cases e
  ·rw[Ss]at hc;cases hc
 rcases hx with hk | hk
 ·refine wpAny_storeName_local hk hn (λh' hn' hs=>?_) dg9
  obtain⟨oL,_,_,hoL,_⟩:=id hn
  refine h _ ⟨I.ok,I.os,I.bare,⟨λb o e n hb hx=>?_,λb o e n hb hx=>?_,I.base.free,λb o e hx=>?_,I.base.km,I.base.jO,I.base.iN⟩,⟨_,hn',λj y v' e1 e2 e3=>?_⟩,λy c e=>?_,I.free,I.jP,λp hp=>?_,tracked ⟨oL,hoL,I.free⟩ hs,by simpa using I.len⟩ ⟨_,hs,.inl rfl⟩
  ·exact(hs.2 b (fA (dB (bV e) I.ok.above))).trans (I.base.keep b o e n hb hx)
  ·obtain⟨sl,e1⟩:=I.base.slot b o e n hb hx
   exact⟨sl,(hs.2 b (fA (dB (bV e) I.ok.above))).trans e1⟩
  ·obtain⟨o',e1⟩:=I.base.there b o e hx
   exact⟨o',(hs.2 b (fA (dB (bV e) I.ok.above))).trans e1⟩
  ·by_cases hj:j=i
   ·subst hj
    rw[hi]at e1;cases e1
    rw[Fz Sr]at e2
    cases e2
    exact⟨u,r,.inl ⟨hk,by simp⟩⟩
   ·rw[vn (fB hj)]at e2
    obtain⟨u',r',q⟩:=hl j y v' e1 e2 e3
    refine⟨u',r',?_⟩
    rcases q with⟨k,e⟩ | ⟨k,c,e,z⟩
    ·refine .inl ⟨k,?_⟩
     have:y≠x:=λe=>hj (Sq hN e1 (e ▸ hi))
     simp[this,e]
    ·exact .inr ⟨k,c,e,z.sameBut hs (qo y c e)⟩
  ·obtain⟨w',z⟩:=I.cell y c e
   exact⟨w',z.sameBut hs (qo y c e)⟩
  ·obtain⟨e,n,ne,nf,d⟩:=I.pin p hp
   exact⟨(hs.2 p.1 ne).trans e,n,ne,nf,d⟩
 ·have zh:X.fn x=true:=by
   rcases hf with z | z
   ·exact z
   ·rw[z]at hk;cases hk
  obtain⟨c,hc⟩:=I.ok.has x (.inl hk)
  obtain⟨w',z⟩:=I.cell x c hc
  refine wpAny_storeName_cell I.ok.kind hk hc z (λh' zi hs=>?_)
  obtain⟨oc,jq,dh2⟩:=id z
  refine h { s with heap:=h' } ⟨I.ok,I.os,I.bare,⟨λb o e n hb hx=>?_,λb o e n hb hx=>?_,I.base.free,λb o e hx=>?_,I.base.km,I.base.jO,I.base.iN⟩,⟨m,hn.sameBut hs (fB (qo x c hc)),λj y v' e1 e2 e3=>?_⟩,λy c' e=>?_,I.free,I.jP,λp hp=>?_,tracked ⟨oc,jq,I.jP x c hc⟩ hs,by simpa using I.len⟩ ⟨c,hs,.inr hc⟩
  ·exact(hs.2 b (fA (dB (bV e) (I.ok.tO x c zh hc)))).trans (I.base.keep b o e n hb hx)
  ·obtain⟨sl,e1⟩:=I.base.slot b o e n hb hx
   exact⟨sl,(hs.2 b (fA (dB (bV e) (I.ok.tO x c zh hc)))).trans e1⟩
  ·obtain⟨o',e1⟩:=I.base.there b o e hx
   exact⟨o',(hs.2 b (fA (dB (bV e) (I.ok.tO x c zh hc)))).trans e1⟩
  ·by_cases hj:j=i
   ·subst hj
    rw[hi]at e1;cases e1
    rw[Fz Sr]at e2
    cases e2
    exact⟨u,r,.inr ⟨.inl hk,c,hc,zi⟩⟩
   ·rw[vn (fB hj)]at e2
    obtain⟨u',r',q⟩:=hl j y v' e1 e2 e3
    refine⟨u',r',?_⟩
    rcases q with q | ⟨k,c',e,z'⟩
    ·exact .inl q
    ·refine .inr ⟨k,c',e,z'.sameBut hs ?_⟩
     rintro rfl
     exact hj (Sq hN e1 (I.ok.inj _ _ _ e hc ▸ hi))
  ·by_cases Su:c'=c
   ·subst Su;exact⟨_,zi⟩
   ·obtain⟨w2,z2⟩:=I.cell y c' e
    exact⟨w2,z2.sameBut hs Su⟩
  ·obtain⟨e,n,ne,nf,d⟩:=I.pin p hp
   refine⟨(hs.2 p.1 ?_).trans e,n,ne,nf,d⟩
   intro q
   rw[q,jq]at e
   have q':oc=p.2:=cU e
   exact d w' (by rw[<-q'];exact dh2)
theorem Gv{M:Model}{A:Around}{E:Value->Shared->Prop}{i:Nat}{x:Str}{v:V}{u:Value}{Q:Unit->Shared->Prop}(I:Inv X pins σ H s)(hN:X.N.Nodup)(hi:X.N[i]?=some x)(hx:Loc X.env.scope x)(r:RelV v u)
  (h:∀s',Inv X pins (σ.set i (some v)) H s'->Q () s') (hf:X.fn x=true\/X.env.scope.names.lookup x=some .local:=by first | exact .inl rfl | exact .inr rfl | assumption):wpAny M A (storeName X.env x u) Q E s :=
 b74 I hN hi hx r (λs' I' _=>h s' I') hf
theorem Inv.dh3{s':Shared}{ch:List Addr}(I:Inv X pins σ H s)(ho:s'.os=s.os)(u:Un (eJ X.stack) ch H H' s.heap s'.heap)(aO:cV X.prog X.w H' s'.heap)(hg:AllBare s'.gens)
  (mF:∀b∈ch,(b∈X.ex\/X.cW.heap.objs.size<=b)/\b≠X.env.locals/\(∀x c,X.env.cells.lookup x=some c->c≠b)/\∀p∈X.pn++pins,p.1≠b):Inv X pins σ H' s':=by
 obtain⟨h',g',d',t',o'⟩:=s'
 have e:o'=s.os:=ho
 subst e
 exact I.call (g':=g') (t':=t') (d':=d') u aO hg mF
end
abbrev XK:=Value->Option Addr->Hp->Prop
abbrev St:=List (Option V)
abbrev VK:=V->Hp->Prop
abbrev TE:=St->Hp->VK->Prop
abbrev TT:=St->Hp->(Bool->Hp->Prop)->Prop
abbrev TA:=St->Hp->(List V->Hp->Prop)->Prop
structure Ends where
 nx:St->Hp->Prop
 rt:VK
 bk:St->Hp->Prop:=λ_ _=>False
 ct:St->Hp->Prop:=λ_ _=>False
abbrev TS:=Ends->St->Hp->Prop
def EP(X:Cx)(pins:List (Addr × Obj))(σ:St)(Q:VK)(u:Value)(s':Shared):Prop:=∃v H',Inv X pins σ H' s'/\RelV v u/\Q v H'
def TP(X:Cx)(pins:List (Addr × Obj))(σ:St)(Q:Bool->Hp->Prop)(b:Bool)(s':Shared):Prop:=∃H',Inv X pins σ H' s'/\Q b H'
def AP(X:Cx)(pins:List (Addr × Obj))(σ:St)(Q:List V->Hp->Prop)(us:List Value)(s':Shared):Prop:=∃vs H',Inv X pins σ H' s'/\Vals vs us/\Q vs H'
def SP(X:Cx)(pins:List (Addr × Obj))(D:Ends)(f:Flow)(s':Shared):Prop :=
 match f with
 | .next=>∃aN H',Inv X pins aN H' s'/\D.nx aN H'
 | .brk=>∃aN H',Inv X pins aN H' s'/\D.bk aN H'
 | .cont=>∃aN H',Inv X pins aN H' s'/\D.ct aN H'
 | .ret u=>∃v aN H',Inv X pins aN H' s'/\RelV v u/\D.rt v H'
def PE(X:Cx)(e:Expr)(t:TE):Prop :=
 ∀(pins:List (Addr × Obj)) (s:Shared) (σ:St) (H:Hp) (Q:VK),Inv X pins σ H s->t σ H Q->wpAny (model X.prog X.w) X.A (eval e X.env) (EP X pins σ Q) X.xe s
def PT(X:Cx)(e:Expr)(t:TT):Prop :=
 ∀(pins:List (Addr × Obj)) (s:Shared) (σ:St) (H:Hp) (Q:Bool->Hp->Prop),Inv X pins σ H s->t σ H Q->wpAny (model X.prog X.w) X.A (isTrue e X.env (eval e X.env)) (TP X pins σ Q) X.xe s
def PW(X:Cx)(e:Expr)(t:TT):Prop :=
 ∀(whole:Sem Value) (pins:List (Addr × Obj)) (s:Shared) (σ:St) (H:Hp) (Q:Bool->Hp->Prop),Inv X pins σ H s->t σ H Q->wpAny (model X.prog X.w) X.A (isTrue e X.env whole) (TP X pins σ Q) X.xe s
theorem PW.pt{X:Cx}{e:Expr}{t:TT}(h:PW X e t):PT X e t:=h _
def PA(X:Cx)(es:List Expr)(t:TA):Prop :=
 ∀(pos:Pos) (pins:List (Addr × Obj)) (s:Shared) (σ:St) (H:Hp) (Q:List V->Hp->Prop),Inv X pins σ H s->t σ H Q->wpAny (model X.prog X.w) X.A (spliced (backTo pos (starEach es X.env))) (AP X pins σ Q) X.xe s
def PS(X:Cx)(st:Stmt)(t:TS):Prop :=
 ∀(pins:List (Addr × Obj)) (s:Shared) (σ:St) (H:Hp) (D:Ends),Inv X pins σ H s->t D σ H->wpAny (model X.prog X.w) X.A (exec st X.env) (SP X pins D) X.xe s
def PSs(X:Cx)(st:List Stmt)(t:TS):Prop :=
 ∀(pins:List (Addr × Obj)) (s:Shared) (σ:St) (H:Hp) (D:Ends),Inv X pins σ H s->t D σ H->wpAny (model X.prog X.w) X.A (execs st X.env) (SP X pins D) X.xe s
theorem bc{α:Type}{t:Sem α}{Q Q':α->Shared->Prop}{M:Model}{A:Around}{E:Value->Shared->Prop}{s:Shared}(h:wpAny M A t Q E s)(hQ:∀a s,Q a s->Q' a s):wpAny M A t Q' E s:=wpAny_mono h hQ λ_ _ x=>x
end L2
namespace L2
open PySem PySem.Spec PyProof.Rows
section
variable{X:Cx}
def Sv(i:Nat):TE:=λσ H Q=>∃v,σ[i]?=some (some v)/\Q v H
def tC(v:V):TE:=λ_ H Q=>Q v H
theorem tP{i:Nat}{x:Str}{pos:Pos}(hN:X.N[i]?=some x)(hv:mE X.env.scope x)(hd:(x==("__debug__":Str))=false:=by decide)(de:(x==("__classdict__":Str))=false:=by decide):PE X (.Name x pos) (Sv i):=by
 intro pins s σ H Q I h
 obtain⟨v,e,h⟩:=h
 obtain⟨m,hn,hl⟩:=I.loc
 obtain⟨u,r,l⟩:=hl i x v hN e hv
 have fin:EP X pins σ Q u s:=⟨v,H,I,r,h⟩
 rcases l with⟨hk,hm⟩ | ⟨hk,c,hc,B7⟩
 ·exact wpAny_Name (wpAny_loadName_local I.ok.kind hk hn hm fin) hd
 ·rcases hk with hk | hk
  ·exact wpAny_Name (wpAny_loadName_cell I.ok.kind hk hc B7 fin) hd
  ·exact wpAny_Name (wpAny_loadName_free I.ok.kind hk hc B7 fin de) hd
theorem zj{i j pos}:PE X (.Constant (.int i) j pos) (tC (.int i)):=λ_ _ _ H _ I h=>wpAny_Constant_int ⟨.int i,H,I.tok _,⟨_,rfl⟩,h⟩
theorem cV2{b j pos}:PE X (.Constant (.bool b) j pos) (tC (.bl b)):=λ_ _ _ H _ I h=>Constant_bool ⟨.bl b,H,I,rfl,h⟩
theorem cN9{j pos}:PE X (.Constant .none j pos) (tC .ay):=λ_ _ _ H _ I h=>Constant_none ⟨.ay,H,I,rfl,h⟩
theorem cJ9{x j pos}:PE X (.Constant (.str x) j pos) (tC (.str x)):=λ_ _ _ H _ I h=>Calls.Constant_str ⟨.str x,H,I.tok _,⟨_,rfl⟩,h⟩
def Gl(X:Cx)(x:Str):Prop:=X.env.kindOf x=some .globalImplicit
theorem B8{E:Value->Shared->Prop}{pins:List (Addr × Obj)}{s:Shared}{σ:St}{H:Hp}{x:Str}{u:Value}{pos:Pos}{Q:Value->Shared->Prop}(I:Inv X pins σ H s)(hg:Gl X x)(hm:X.mg x=some u)(h:Q u s)
  (hd:(x==("__debug__":Str))=false:=by decide):wpAny (model X.prog X.w) X.A (eval (.Name x pos) X.env) Q E s :=
 db2 I.ok.kind hg (Calls.loadGlobal_global (by rw[I.ok.glob];exact I.mod.glob.keeps I.bk) hm h) hd
theorem by4{E:Value->Shared->Prop}{pins:List (Addr × Obj)}{s:Shared}{σ:St}{H:Hp}{x:Str}{u:Value}{pos:Pos}{Q:Value->Shared->Prop}(I:Inv X pins σ H s)(hg:Gl X x)(hm:X.mg x=none)(hv:bootBuiltins x=some u)(h:Q u s)
  (hn:x≠"__name__":=by decide) (hd:(x==("__debug__":Str))=false:=by decide):wpAny (model X.prog X.w) X.A (eval (.Name x pos) X.env) Q E s:=by
 obtain⟨mb,h1,h2⟩:=I.mod.blt
 exact db2 I.ok.kind hg (Calls.loadGlobal_builtin (by rw[I.ok.glob];exact I.mod.glob.keeps I.bk) hm (by rw[I.ok.blt];exact h1.keeps I.bk) ((h2 x hn).trans hv) h) hd
theorem cD8{x:Str}{v:V}{u:Value}{pos:Pos}(hg:Gl X x)(hm:X.mg x=none)(hv:bootBuiltins x=some u)(r:RelV v u)(hn:x≠"__name__":=by decide)(hd:(x==("__debug__":Str))=false:=by decide):PE X (.Name x pos) (tC v) :=
 λ_ _ _ H _ I h=>by4 I hg hm hv ⟨v,H,I,r,h⟩ hn hd
variable{a b:Expr}{ta tb:TE}{pos:Pos}
def tB(t:TE):TT:=λσ H Q=>t σ H λx H1=>∃c,x=.bl c/\Q c H1
theorem Gw{e:Expr}{t:TE}(h:PE X e t)(he:∀whole,isTrue e X.env whole=(do let v<-whole;standAt e.pos;holding [v] (truthy v)):=by intro _;rfl):PT X e (tB t):=by
 intro pins s σ H Q I hw
 refine isTrue_plain (bc (h pins s σ H _ I hw) λv s1 ⟨x,H1,I1,r1,q1⟩=>?_) (he _)
 obtain⟨d,rfl,q⟩:=q1
 cases r1
 exact wpAny_truthy_bool ⟨H1,I1,q⟩
variable{tA B9:TT}{rest:List Expr}
def c04(t u:TT):TT:=λσ H Q=>t σ H λc H1=>if c=true then u σ H1 Q else Q false H1
def tOr(t u:TT):TT:=λσ H Q=>t σ H λc H1=>if c=true then Q true H1 else u σ H1 Q
def cZ0(t:TT):TT:=λσ H Q=>t σ H λc H1=>Q (!c) H1
theorem Sw(ha:PT X a tA):PW X (.BoolOp .And [a] pos) tA:=by
 intro wh pins s σ H Q I h
 refine isTrue_and (bc (ha pins s σ H Q I h) λc s1 e=>?_)
 cases c with
 | true=>exact isTrue_and_nil e
 | false=>exact e
theorem tQ(ha:PT X a tA):PW X (.BoolOp .Or [a] pos) tA:=by
 intro wh pins s σ H Q I h
 refine isTrue_or (bc (ha pins s σ H Q I h) λc s1 e=>?_)
 cases c with
 | false=>exact isTrue_or_nil e
 | true=>exact e
theorem cJ0(ha:PT X a tA)(hb:PW X (.BoolOp .And (b::rest) pos) B9):PW X (.BoolOp .And (a::b::rest) pos) (c04 tA B9):=by
 intro wh pins s σ H Q I h
 refine isTrue_and (bc (ha pins s σ H _ I h) λc s1 ⟨H1,I1,q1⟩=>?_)
 cases c with
 | true=>exact hb wh pins s1 σ H1 Q I1 q1
 | false=>exact⟨H1,I1,q1⟩
theorem cR1(ha:PT X a tA)(hb:PW X (.BoolOp .Or (b::rest) pos) B9):PW X (.BoolOp .Or (a::b::rest) pos) (tOr tA B9):=by
 intro wh pins s σ H Q I h
 refine isTrue_or (bc (ha pins s σ H _ I h) λc s1 ⟨H1,I1,q1⟩=>?_)
 cases c with
 | true=>exact⟨H1,I1,q1⟩
 | false=>exact hb wh pins s1 σ H1 Q I1 q1
theorem Gx(ha:PT X a tA):PT X (.UnaryOp .Not a pos) (cZ0 tA):=by
 intro pins s σ H Q I h
 exact isTrue_not (ha pins s σ H (λc H1=>Q (!c) H1) I h)
def cU9(ta tb:TE):TE:=λσ H Q=>ta σ H λx H1=>∃c,x=.bl c/\if c=true then tb σ H1 Q else Q (.bl false) H1
def cW5(ta:TE):TE:=λσ H Q=>ta σ H λx H1=>∃c,x=.bl c/\Q (.bl (!c)) H1
theorem zk{op}{t:TE}(h:PE X a t):PE X (.BoolOp op [a] pos) t:=λpins s σ H Q I hw=>BoolOp_one (h pins s σ H Q I hw)
theorem cN8(ha:PE X a ta)(hb:PE X (.BoolOp .And (b::rest) pos) tb):PE X (.BoolOp .And (a::b::rest) pos) (cU9 ta tb):=by
 intro pins s σ H Q I h
 refine BoolOp_and (bc (ha pins s σ H _ I h) λv s1 ⟨x,H1,I1,r1,q1⟩=>?_)
 obtain⟨c,rfl,q1⟩:=q1
 cases r1
 refine wpAny_truthy_bool ?_
 cases c with
 | true=>exact hb pins s1 σ H1 Q I1 q1
 | false=>exact⟨.bl false,H1,I1,rfl,q1⟩
theorem cP0(ha:PE X a ta):PE X (.UnaryOp .Not a pos) (cW5 ta):=by
 intro pins s σ H Q I h
 refine UnaryOp_ (bc (ha pins s σ H _ I h) λv s1 ⟨x,H1,I1,r1,q1⟩=>?_)
 obtain⟨c,rfl,q1⟩:=q1
 cases r1
 exact not_of (wpAny_truthy_bool ⟨.bl (!c),H1,I1,rfl,q1⟩)
def tIf(t:TT)(ta tb:TE):TE:=λσ H Q=>t σ H λc H1=>if c=true then ta σ H1 Q else tb σ H1 Q
theorem ck7{c:Expr}(hc:PT X c tA)(ha:PE X a ta)(hb:PE X b tb):PE X (.IfExp c a b pos) (tIf tA ta tb):=by
 intro pins s σ H Q I h
 refine wpAny_IfExp (bc (hc pins s σ H _ I h) λd s1 ⟨H1,I1,q1⟩=>?_)
 cases d with
 | true=>exact ha pins s1 σ H1 Q I1 q1
 | false=>exact hb pins s1 σ H1 Q I1 q1
end
end L2
namespace L2
open PySem PySem.Spec PyProof.Rows
def bR(K:PySem.W.Frag)(H:Hp)(a:Addr)(xs:List V):Prop :=
 Rd H a (.lst xs) \/
  ∃(o:Obj) (its:Array Value) (n:Nat),K.lookup a=some o/\o.cls=.type "list"/\o.dict=none/\o.data=.seq its n/\its.size<=sizeLine/\Vals xs its.toList
def ir(K:PySem.W.Frag)(H:Hp)(a:Addr)(xs:List V):Prop :=
 Rd H a (.tup xs) \/
  ∃(o:Obj) (its:Array Value) (n:Nat),K.lookup a=some o/\o.cls=.type "tuple"/\o.data=.seq its n/\its.size<=sizeLine/\Vals xs its.toList
def cZ7:Value->Option V
 | .none=>some .ay
 | .bool b=>some (.bl b)
 | .int i _=>some (.int i)
 | .str x _=>some (.str x)
 | .bytes b _=>some (.B0 b)
 | .float b _=>some (.tM b)
 | .ref a=>some (.ref a)
 | .type n=>some (.ty n)
 | _=>none
theorem RelV.abs{x:V}{u:Value}(r:RelV x u):cZ7 u=some x:=by
 cases x with
 | ay=>cases r;rfl
 | bl _=>cases r;rfl
 | int _=>obtain⟨t,rfl⟩:=r;rfl
 | str _=>obtain⟨t,rfl⟩:=r;rfl
 | B0 _=>obtain⟨t,rfl⟩:=r;rfl
 | tM _=>obtain⟨t,rfl⟩:=r;rfl
 | ref _=>cases r;rfl
 | ty _=>cases r;rfl
theorem RelV.inj{x y:V}{u:Value}(r:RelV x u)(q:RelV y u):x=y:=cU (r.abs.symm.trans q.abs)
theorem Vals.inj:∀{xs ys:List V} {us:List Value},Vals xs us->Vals ys us->xs=ys
 | _,_,_,.nil,.nil=>rfl
 | _,_,_,.cons r t,.cons r' t'=>by rw[r.inj r',Vals.inj t t']
section
variable{X:Cx}{pins:List (Addr × Obj)}{σ:St}{H:Hp}{s:Shared}{a:Addr}{xs ys:List V}
theorem bR.of{K:PySem.W.Frag}(h:H a=some (.lst xs)):bR K H a xs:=.inl (.inl h)
theorem ir.of{K:PySem.W.Frag}(h:H a=some (.tup xs)):ir K H a xs:=.inl (.inl h)
theorem Inv.list(I:Inv X pins σ H s)(h:bR X.K H a xs):∃its:List Value,Vals xs its/\PlainL s.heap a its.toArray/\xs.length<=sizeLine:=by
 rcases h with h | ⟨o,its,n,hk,hc,hd,hs,hz,r⟩
 ·obtain⟨z,its,n,r,e⟩:=h.ok I.aO
  exact⟨its,r,⟨_,n,e,rfl,rfl,rfl⟩,z⟩
 ·refine⟨its.toList,r,⟨o,n,I.dG a o hk,hc,hd,by simpa using hs⟩,?_⟩
  have e:=r.length
  simp only[yS]at e
  omega
theorem Inv.tuple(I:Inv X pins σ H s)(h:ir X.K H a xs):∃its:List Value,Vals xs its/\IsTup s.heap a its.toArray/\xs.length<=sizeLine:=by
 rcases h with h | ⟨o,its,n,hk,hc,hs,hz,r⟩
 ·obtain⟨z,its,r,p⟩:=h.ok I.aO
  exact⟨its,r,p,z⟩
 ·refine⟨its.toList,r,⟨o,I.dG a o hk,hc,n,by simpa using hs⟩,?_⟩
  have e:=r.length
  simp only[yS]at e
  omega
theorem Inv.Ca(I:Inv X pins σ H s)(h:bR X.K H a xs)(h':bR X.K H a ys):xs=ys:=by
 obtain⟨its,r,⟨o,n,e,_,_,d⟩,_⟩:=I.list h
 obtain⟨its',r',⟨o',n',e',_,_,d'⟩,_⟩:=I.list h'
 rw[e]at e';cases e'
 rw[d]at d'
 injection d' with d1 _
 have:its=its':=by simpa using congrArg Array.toList d1
 subst this
 exact r.inj r'
end
abbrev Cx.ku(X:Cx)(E:Value->Shared->Prop):Cx:={ X with xe:=E }
abbrev Cx.gY(X:Cx):Cx:=X.ku λ_ _=>False
theorem Cx.Ok.ku{X:Cx}(ok:X.Ok)(E:Value->Shared->Prop):(X.ku E).Ok :=
 ⟨ok.mod,ok.kind,ok.glob,ok.blt,ok.above,ok.inj,ok.has,ok.tO,ok.hd,ok.frames,ok.zc,ok.zd,ok.bs,ok.kq,ok.vI,ok.vJ,ok.gX,ok.kr⟩
theorem Cx.Ok.mG{X:Cx}{E:Value->Shared->Prop}(ok:(X.ku E).Ok):X.Ok :=
 ⟨ok.mod,ok.kind,ok.glob,ok.blt,ok.above,ok.inj,ok.has,ok.tO,ok.hd,ok.frames,ok.zc,ok.zd,ok.bs,ok.kq,ok.vI,ok.vJ,ok.gX,ok.kr⟩
section
variable{X:Cx}{pins:List (Addr × Obj)}{σ:St}{H:Hp}{s:Shared}{E:Value->Shared->Prop}
theorem Inv.ku(I:Inv X pins σ H s)(E:Value->Shared->Prop):Inv (X.ku E) pins σ H s:=⟨I.ok.ku E,I.os,I.bare,I.base,I.loc,I.cell,I.free,I.jP,I.pin,I.aO,I.len⟩
theorem Inv.mG(I:Inv (X.ku E) pins σ H s):Inv X pins σ H s:=⟨I.ok.mG,I.os,I.bare,I.base,I.loc,I.cell,I.free,I.jP,I.pin,I.aO,I.len⟩
theorem SP.mG{D:Ends}{f:Flow}{s':Shared}(h:SP (X.ku E) pins D f s'):SP X pins D f s':=by
 cases f with
 | next=>obtain⟨aN,H',I,q⟩:=h;exact⟨aN,H',I.mG,q⟩
 | brk=>obtain⟨aN,H',I,q⟩:=h;exact⟨aN,H',I.mG,q⟩
 | cont=>obtain⟨aN,H',I,q⟩:=h;exact⟨aN,H',I.mG,q⟩
 | ret u=>obtain⟨v,aN,H',I,r,q⟩:=h;exact⟨v,aN,H',I.mG,r,q⟩
theorem PE.gY{e:Expr}{t:TE}(h:PE X.gY e t):PE X e t:=λpins s σ H Q I hw =>
 wpAny_mono (h pins s σ H Q (I.ku _) hw) (λ_ _ ⟨v,H',I',r,q⟩=>⟨v,H',I'.mG,r,q⟩) λ_ _ z=>gg z
theorem PSs.gY{st:List Stmt}{t:TS}(h:PSs X.gY st t):PSs X st t:=λpins s σ H D I hw =>
 wpAny_mono (h pins s σ H D (I.ku _) hw) (λ_ _ q=>q.mG) λ_ _ z=>gg z
end
section
variable{X:Cx}{st:Stmt}{rest:List Stmt}{t u:TS}{e:Expr}{te:TE}{pos:Pos}
def cU7:TS:=λD σ H=>D.nx σ H
def cZ9(t u:TS):TS:=λD σ H=>t { D with nx:=u D } σ H
theorem Gz:PSs X [] cU7:=λ_ _ σ H _ I h=>wpAny_execs_nil ⟨σ,H,I,h⟩
theorem kS(h1:PS X st t)(h2:PSs X rest u):PSs X (st::rest) (cZ9 t u):=by
 intro pins s σ H D I h
 refine wpAny_execs_cons (bc (h1 pins s σ H { D with nx:=u D } I h) λf s1 q=>?_)
 cases f with
 | next =>
  obtain⟨aN,H',I',q⟩:=q
  exact h2 pins s1 aN H' D I' q
 | ret v=>exact q
 | brk=>exact q
 | cont=>exact q
theorem vL(h1:PS X st t):PSs X [st] t:=by
 intro pins s σ H D I h
 refine wpAny_execs_cons (bc (h1 pins s σ H D I h) λf s1 q=>?_)
 cases f with
 | next=>exact wpAny_execs_nil q
 | ret v=>exact q
 | brk=>exact q
 | cont=>exact q
theorem Inv.quiet{pins:List (Addr × Obj)}{σ:St}{H:Hp}{s:Shared}(I:Inv X pins σ H s):interactive X.env=false:=by simp[interactive,I.ok.kind]
def cQ9(te:TE):TS:=λD σ H=>te σ H λ_ H1=>D.nx σ H1
theorem Cb(he:PE X e te)(hs:swapsWith e none pos.line X.env=pure false:=by rfl):PS X (.Expr e pos) (cQ9 te):=by
 intro pins s σ H D I h
 exact wpAny_Expr_any (bc (he pins s σ H _ I h) λv s1 ⟨x,H1,I1,r1,q1⟩=>⟨σ,H1,I1,q1⟩) I.quiet hs
def c02(te:TE):TS:=λD σ H=>te σ H D.rt
theorem cH7(he:PE X e te):PS X (.Return (some e) pos) (c02 te):=by
 intro pins s σ H D I h
 exact wpAny_Return_some (bc (he pins s σ H _ I h) λv s1 ⟨x,H1,I1,r1,q1⟩=>⟨x,σ,H1,I1,r1,q1⟩)
def cZ1(c:TT)(t u:TS):TS:=λD σ H=>c σ H λb H1=>if b=true then t D σ H1 else u D σ H1
theorem GA{c:Expr}{a b:List Stmt}{tc:TT}(hc:PT X c tc)(ha:PSs X a t)(hb:PSs X b u):PS X (.If c a b pos) (cZ1 tc t u):=by
 intro pins s σ H D I h
 refine wpAny_If (bc (hc pins s σ H _ I h) λd s1 ⟨H1,I1,q1⟩=>?_)
 cases d with
 | true=>exact ha pins s1 σ H1 D I1 q1
 | false=>exact hb pins s1 σ H1 D I1 q1
def cL3:TS:=λ_ _ _=>False
theorem Sx:PS X st cL3:=λ_ _ _ _ _ _ h=>h.elim
end
abbrev TG:=V->St->Hp->(St->Hp->Prop)->Prop
abbrev tR:=List V->St->Hp->(St->Hp->Prop)->Prop
def PG(X:Cx)(target:Expr)(t:TG):Prop :=
 ∀(pins:List (Addr × Obj)) (s:Shared) (σ:St) (H:Hp) (v:V) (u:Value) (Q:St->Hp->Prop),Inv X pins σ H s->RelV v u->t v σ H Q ->
  wpAny (model X.prog X.w) X.A (assign target X.env u) (λ_ s'=>∃aN H',Inv X pins aN H' s'/\Q aN H') X.xe s
def Cc(X:Cx)(ts:List Expr)(t:tR):Prop :=
 ∀(pins:List (Addr × Obj)) (s:Shared) (σ:St) (H:Hp) (vs:List V) (us:List Value) (Q:St->Hp->Prop),Inv X pins σ H s->Vals vs us->t vs σ H Q ->
  wpAny (model X.prog X.w) X.A (assignInOrder ((assignEach ts X.env).map (·.2)) us) (λ_ s'=>∃aN H',Inv X pins aN H' s'/\Q aN H') X.xe s
abbrev GB:=V->V->V->Hp->(Hp->Prop)->Prop
def Sy(X:Cx)(t:GB):Prop :=
 ∀(pins:List (Addr × Obj)) (s:Shared) (σ:St) (H:Hp) (o i v:V) (ov iv u:Value) (Q:Hp->Prop),Inv X pins σ H s->RelV o ov->RelV i iv->RelV v u->t o i v H Q ->
  wpAny (model X.prog X.w) X.A (setItem ov iv u) (λ_ s'=>∃H',Inv X pins σ H' s'/\Q H') X.xe s
abbrev GC:=V->V->Hp->VK->Prop
def PIp(X:Cx)(op:Operator)(t:GC):Prop :=
 ∀(pins:List (Addr × Obj)) (s:Shared) (σ:St) (H:Hp) (x y:V) (v u:Value) (Q:VK),Inv X pins σ H s->RelV x v->RelV y u->t x y H Q ->
  wpAny (model X.prog X.w) X.A (inplaceOp op v u) (EP X pins σ Q) X.xe s
section
variable{X:Cx}{pos:Pos}
def Cd(i:Nat):TG:=λv σ H Q=>Q (σ.set i (some v)) H
theorem Ce{i:Nat}{x:Str}(hN:X.N.Nodup)(hi:X.N[i]?=some x)(hx:Loc X.env.scope x)(hf:X.fn x=true\/X.env.scope.names.lookup x=some .local:=by first | exact .inl rfl | exact .inr rfl | assumption):PG X (.Name x pos) (Cd i):=by
 intro pins s σ H v u Q I r h
 exact wpAny_assign_Name (Gv I hN hi hx r (λs' I'=>⟨_,H,I',h⟩) hf)
def cY3:tR:=λvs σ H Q=>vs=[]/\Q σ H
def cS9(t:TG)(u:tR):tR:=λvs σ H Q=>∃v r,vs=v::r/\t v σ H λaN H'=>u r aN H' Q
theorem cC2:Cc X [] cY3:=by
 intro pins s σ H vs us Q I r h
 obtain⟨e,h⟩:=h
 subst e
 cases r
 exact assignInOrder_nil ⟨σ,H,I,h⟩
theorem Sz{e:Expr}{es:List Expr}{t:TG}{u:tR}(h1:PG X e t)(h2:Cc X es u)
  (hs:(assignEach (e::es) X.env).map (·.2)=assign e X.env::(assignEach es X.env).map (·.2):=by rfl):Cc X (e::es) (cS9 t u):=by
 intro pins s σ H vs us Q I r h
 obtain⟨v,vr,e1,h⟩:=h
 subst e1
 cases r with
 | cons r rr =>
  rw[hs]
  refine assignInOrder_cons (bc (h1 pins s σ H _ _ _ I r h) λ_ s1 ⟨gZ,H1,I1,q1⟩=>?_)
  exact h2 pins s1 gZ H1 _ _ Q I1 rr q1
def c06(K:PySem.W.Frag)(n:Nat)(t:tR):TG:=λv σ H Q=>∃a xs,v=.ref a/\ir K H a xs/\xs.length=n/\t xs σ H Q
theorem cP8{es:List Expr}{k:Nat}{t:tR}{n:Nat}(hc:X.calm=true)(h:Cc X es t)
  (hn:(assignEach es X.env).length=n:=by rfl) (dH:(assignEach es X.env).findIdx? (·.1)=none:=by rfl):PG X (.Tuple es k pos) (c06 X.K n t):=by
 intro pins s σ H v u Q I r hw
 obtain⟨a,xs,e1,hq,hl,hw⟩:=hw
 subst e1
 cases r
 obtain⟨its,rv,ht,hz⟩:=I.tuple hq
 refine assign_Tuple_tuple (I.ok.hd hc) ht (by simp[hn,<- hl,rv.length]) dH λh' hx=>?_
 have I1:Inv X pins σ H { s with heap:=h' }:=I.kept (t':=s.toks) λb o e=>hx b o (fA (bV e)) e
 exact h pins _ σ H xs _ Q I1 (by simpa using rv) hw
def cY4(to ti:TE)(t:GB):TG:=λv σ H Q=>to σ H λo H1=>ti σ H1 λi H2=>t o i v H2 λH3=>Q σ H3
theorem cP7{o i:Expr}{to ti:TE}{t:GB}(ho:PE X o to)(hi:PE X i ti)(hs:Sy X t)
  (ha:∀v,assign (.Subscript o i pos) X.env v=(do
   let ov<-holding [v] (eval o X.env)
   let iv<-holding [v,ov] (eval i X.env)
   standAt pos
   holding [v,ov,iv] (setItem ov iv v)
   release [v,ov,iv] []):=by intro _;rfl):PG X (.Subscript o i pos) (cY4 to ti t):=by
 intro pins s σ H v u Q I r h
 rw[ha]
 refine wpAny_bind (wpAny_holding (bc (ho pins s σ H _ I h) λov s1 ⟨x,H1,I1,r1,q1⟩=>?_))
 refine wpAny_bind (wpAny_holding (bc (hi pins s1 σ H1 _ I1 q1) λiv s2 ⟨y,H2,I2,r2,q2⟩=>?_))
 refine wpAny_bind (wpAny_standAt (wpAny_bind (wpAny_holding (bc (hs pins s2 σ H2 x y v ov iv u _ I2 r1 r2 r q2) λ_ s3 ⟨H3,I3,q3⟩=>?_))))
 exact wpAny_release ⟨σ,H3,I3,q3⟩
def GD(te:TE)(g:TG):TS:=λD σ H=>te σ H λx H1=>g x σ H1 D.nx
theorem cO9{tg e:Expr}{te:TE}{g:TG}(he:PE X e te)(hg:PG X tg g)(hs:swapsWithSole [tg] e pos.line X.env=pure false:=by rfl)(hw:swappedStores [tg] e X.env=pure none:=by rfl)
  (h1:(assignEach [tg] X.env).map (·.2)=[assign tg X.env]:=by rfl):PS X (.Assign [tg] e pos) (GD te g):=by
 intro pins s σ H D I h
 refine wpAny_Assign_stores (bc (he pins s σ H _ I h) λv s1 ⟨x,H1,I1,r1,q1⟩=>?_) hs hw
 rw[h1]
 exact bc (hg pins s1 σ H1 x v _ I1 r1 q1) λ_ s2 q=>q
theorem SA{i:Nat}{x:Str}{e:Expr}{te:TE}{pos':Pos}(hN:X.N.Nodup)(hi:X.N[i]?=some x)(hx:Loc X.env.scope x)(he:PE X e te)(hs:swapsWith e (some (.Name x pos')) pos.line X.env=pure false:=by rfl)(hf:X.fn x=true\/X.env.scope.names.lookup x=some .local:=by first | exact .inl rfl | exact .inr rfl | assumption) :
  PS X (.Assign [.Name x pos'] e pos) (GD te (Cd i)):=by
 intro pins s σ H D I h
 refine wpAny_Assign_Name (bc (he pins s σ H _ I h) λv s1 ⟨y,H1,I1,r1,q1⟩=>?_) hs
 exact Gv I1 hN hi hx r1 (λs2 I2=>⟨_,H1,I2,q1⟩) hf
def cZ4(i:Nat)(te:TE)(ti:GC):TS:=λD σ H=>∃x,σ[i]?=some (some x)/\te σ H λy H1=>ti x y H1 λz H2=>D.nx (σ.set i (some z)) H2
theorem cJ7{i:Nat}{x:Str}{e:Expr}{te:TE}{op:Operator}{ti:GC}{pos':Pos}(hN:X.N.Nodup)(hi:X.N[i]?=some x)(hx:Loc X.env.scope x)(he:PE X e te)(ho:PIp X op ti)(hf:X.fn x=true\/X.env.scope.names.lookup x=some .local:=by first | exact .inl rfl | exact .inr rfl | assumption) :
  PS X (.AugAssign (.Name x pos') op e pos) (cZ4 i te ti):=by
 intro pins s σ H D I h
 obtain⟨v,e1,h⟩:=h
 obtain⟨m,hn,hl⟩:=I.loc
 have vis:mE X.env.scope x:=by rcases hx with k | k;exact .inl k;exact .inr (.inl k)
 obtain⟨u,r,l⟩:=hl i x v hi e1 vis
 refine wpAny_AugAssign_Name ?_
 have go:wpAny (model X.prog X.w) X.A (eval e X.env) (λw kT=>wpAny (model X.prog X.w) X.A (inplaceOp op u w) (λr dk9=>wpAny (model X.prog X.w) X.A (storeName X.env x r) (λ_=>SP X pins D .next) X.xe dk9) X.xe kT) X.xe s:=by
  refine bc (he pins s σ H _ I h) λw s1 ⟨y,H1,I1,r1,q1⟩=>?_
  refine bc (ho pins s1 σ H1 v y u w _ I1 r r1 q1) λz s2 ⟨zv,H2,I2,r2,q2⟩=>?_
  exact Gv I2 hN hi hx r2 (λs3 I3=>⟨_,H2,I3,q2⟩) hf
 rcases l with⟨hk,hm⟩ | ⟨hk,c,hc,B7⟩
 ·exact wpAny_loadName_local I.ok.kind hk hn hm go
 ·rcases hk with hk | hk
  ·exact wpAny_loadName_cell I.ok.kind hk hc B7 go
  ·rcases hx with k | k
   ·have:X.env.scope.names.lookup x=some .free:=hk
    rw[k]at this;cases this
   ·have:X.env.scope.names.lookup x=some .free:=hk
    rw[k]at this;cases this
end
section
variable{X:Cx}{pos:Pos}
def cQ0(c:TT)(tb:TS):TS:=λD σ H=>∃W:Nat->St->Hp->Prop,(∃m,W m σ H)/\∀m σ H,W m σ H ->
 c σ H λb H1=>if b=true then ∃N:St->Hp->Prop,(∀aN H',N aN H'->∃m',m'<m/\W m' aN H')/\tb { D with nx:=N,ct:=N,bk:=D.nx } σ H1 else D.nx σ H1
theorem co3{c:Expr}{body:List Stmt}{tc:TT}{tb:TS}(hp:PassesOwn (model X.prog X.w) X.A X.env X.xe)(hc:PT X c tc)(hb:PSs X body tb):PS X (.While c body [] pos) (cQ0 tc tb):=by
 intro pins s σ H D I h
 obtain⟨W,⟨m0,w0⟩,turn⟩:=h
 refine wpAny_While (codeAny_whileLoop (λn s'=>∃aN H',Inv X pins aN H' s'/\W n aN H') ?_ m0 ⟨σ,H,I,w0⟩)
 rintro n s1 ⟨gZ,H1,I1,w1⟩
 refine wpAny_passesOwn hp (bc (hc pins s1 gZ H1 _ I1 (turn n gZ H1 w1)) λb s2 ⟨H2,I2,q2⟩=>?_)
 cases b with
 | true =>
  obtain⟨N,hN,q2⟩:=q2
  rw[if_pos rfl]
  refine wpAny_passesOwn hp (bc (hb pins s2 gZ H2 _ I2 q2) λf s3 q3=>?_)
  cases f with
  | next =>
   obtain⟨kU,H3,I3,n3⟩:=q3
   obtain⟨m',hm,w3⟩:=hN kU H3 n3
   exact⟨m',hm,kU,H3,I3,w3⟩
  | cont =>
   obtain⟨kU,H3,I3,n3⟩:=q3
   obtain⟨m',hm,w3⟩:=hN kU H3 n3
   exact⟨m',hm,kU,H3,I3,w3⟩
  | brk=>exact q3
  | ret v=>exact q3
 | false =>
  rw[if_neg gh]
  exact wpAny_execs_nil ⟨gZ,H2,I2,q2⟩
end
structure It where
 go:Nat->Hp->Prop
 ky:Nat->Hp->V->Hp->Prop
 stop:Nat->Hp->Prop
def jr(X:Cx)(pins:List (Addr × Obj))(H:Hp)(b:Addr):Prop :=
 H b=none/\b≠X.env.locals/\b ∉ X.fs/\(b∈X.ex\/X.cW.heap.objs.size<=b)/\(∀x c,X.env.cells.lookup x=some c->c≠b)/\∀p∈X.pn++pins,p.1≠b
theorem Inv.Cf{X:Cx}{pins:List (Addr × Obj)}{σ:St}{H H':Hp}{s:Shared}{b:Addr}(I:Inv X pins σ H s)(hb:s.heap.objs.size<=b)(hn:H' b=none):jr X pins H' b:=by
 refine⟨hn,RF (dB I.lt hb),I.Sn hb,.inr (eH I.sz hb),λx c e z=>?_,λp hp z=>?_⟩
 ·obtain⟨v,q⟩:=I.cell x c e
  exact absurd (dB q.lt (by rw[z];exact hb)) (fN _)
 ·exact absurd (dB (bV (I.pin p hp).1) (by rw[z];exact hb)) (fN _)
structure Turn(P:Program)(w:World)(K:PySem.W.Frag)(tg:Expr)(J:It)(fp:List Addr)(it:Addr)(tn:Nat->Heap->Prop):Prop where
 mem:it∈fp
 obj:∀i h,tn i h->∀b∈fp,∃o,h.get? b=some o/\∀v,o.data≠.cell v
 keep:∀i h h',tn i h->(∀b∈fp,∀o,h.get? b=some o->h'.get? b=some o)->tn i h'
 item:∀(X:Cx),X.prog=P->X.w=w->X.K=K->X.calm=true->∀(i:Nat) (pins:List (Addr × Obj)) (s:Shared) (σ:St) (H:Hp) (E:Value->Shared->Prop),Inv X pins σ H s->(∀b∈fp,jr X pins H b)->tn i s.heap->J.go i H ->
  wpAny (model P w) X.A (pyNext (.ref it)) (λr s1=>∃u,r=some u /\
   wpAny (model P w) X.A (letOwnedTupleGo tg (.ref it) u) (λ_ s2=>∃x H',Inv X pins σ H' s2/\RelV x u/\J.ky i H x H'/\tn (i+1) s2.heap/\∀b∈fp,H' b=none) E s1) E s
 done:∀(X:Cx),X.prog=P->X.w=w->X.K=K->X.calm=true->∀(i:Nat) (pins:List (Addr × Obj)) (s:Shared) (σ:St) (H:Hp) (E:Value->Shared->Prop),Inv X pins σ H s->(∀b∈fp,jr X pins H b)->tn i s.heap->J.stop i H ->
  wpAny (model P w) X.A (pyNext (.ref it)) (λr s1=>r=none/\Inv X pins σ H s1) E s
 self:∀(A:Around) (i:Nat) (s:Shared) (Q:Value->Shared->Prop) (E:Value->Shared->Prop),tn i s.heap->Q (.ref it) s->wpAny (model P w) A (pyIter (.ref it)) Q E s
abbrev TI:=St->Hp->(It->Hp->Prop)->Prop
def SD(X:Cx)(pins:List (Addr × Obj))(σ:St)(tg:Expr)(R:It->Hp->Prop)(GF:Value)(s2:Shared):Prop :=
 ∃(it:Addr) (fp:List Addr) (tn:Nat->Heap->Prop) (J:It) (H':Hp),GF=.ref it/\Inv X pins σ H' s2/\Turn X.prog X.w X.K tg J fp it tn/\tn 0 s2.heap/\(∀b∈fp,jr X pins H' b)/\R J H'
def PI(X:Cx)(tg iter:Expr)(wi:TI):Prop :=
 ∀(pins:List (Addr × Obj)) (s:Shared) (σ:St) (H:Hp) (R:It->Hp->Prop),Inv X pins σ H s->wi σ H R ->
  wpAny (model X.prog X.w) X.A (eval iter X.env) (λv s1=>wpAny (model X.prog X.w) X.A (pyIter v) (SD X pins σ tg R) X.xe s1) X.xe s
theorem SE{M:Model}{A:Around}{E:Value->Shared->Prop}{s:Shared}{tg:Expr}{it:Addr}{u:Value}{o:Obj}{n:String}{vs:Array Value}{Q:Unit->Shared->Prop}(ho:s.heap.get? it=some o)(hc:o.cls=.type n)(hd:o.data=.fields vs)
  (hn:["enumerate","zip","dict_itemiterator","dict_reverseitemiterator","odict_iterator","itertools.zip_longest","itertools.pairwise"].contains n=false) (hQ:Q () s):wpAny M A (letOwnedTupleGo tg (.ref it) u) Q E s:=by
 unfold letOwnedTupleGo
 cases tg<;>first
  | exact wpAny_pure hQ
  | (cases u<;>first
    | exact wpAny_pure hQ
    | (refine wpAny_bind (wpAny_load ho ?_)
       rw[hc,hd]
       show wpAny M A (if(["enumerate","zip","dict_itemiterator","dict_reverseitemiterator","odict_iterator","itertools.zip_longest","itertools.pairwise"].contains n&&vs[0]?==some (rawInt _))=true then _ else _) Q E s
       rw[if_neg (by intro h;rw[hn,sV]at h;cases h)]
       exact wpAny_pure hQ))
def GG(K:PySem.W.Frag)(a:Addr):It :=
 ⟨λi H=>∃xs x,bR K H a xs/\xs[i]?=some x,λi H x H'=>H'=H/\∀xs,bR K H a xs->xs[i]?=some x,λi H=>∃xs,bR K H a xs/\xs.length<=i⟩
def zo(lo:Int)(n:Nat):It:=⟨λi _=>i<n,λi H x H'=>H'=H/\x=.int (lo+i),λi _=>n<=i⟩
theorem b78{P:Program}{w:World}{K:PySem.W.Frag}{tg:Expr}(a it:Addr):Turn P w K tg (GG K a) [it] it (λi h=>h.IsListIter it a i) where
 mem:=by simp
 obj:=λi h st b hb=>by
  have e:b=it:=by simpa using hb
  subst e
  obtain⟨o,e,c,d⟩:=st
  exact⟨o,e,λv z=>by rw[d]at z;cases z⟩
 keep:=λi h h' st k=>st.at λo e=>k it (by simp) o e
 item:=by
  intro X hP hw hK hc i pins s σ H E I hf st hg
  subst hP hw hK
  obtain⟨xs,x,hq,hx⟩:=hg
  obtain⟨its,rv,p,hz⟩:=I.list hq
  obtain⟨u,hu,ru⟩:=rv.get hx
  obtain⟨f0,f1,f2,f3,f4,f5⟩:=hf it (by simp)
  refine wpAny_pyNext_list_item st p.isList (x:=u) (by simpa using hu) λh' qt sb=>?_
  have I1:Inv X pins σ H { s with heap:=h' }:=I.turned (t':=s.toks) (λb o hb e=>(sb.2 b hb).trans e) f0 f1 f3 f4 f5
  obtain⟨o,e,c,d⟩:=id qt
  exact⟨u,rfl,SE (s:={ s with heap:=h' }) e c d (by decide) ⟨x,H,I1,ru,⟨rfl,λys hy=>by rw[I.Ca hy hq];exact hx⟩,qt,λb hb=>(hf b hb).1⟩⟩
 done:=by
  intro X hP hw hK hc i pins s σ H E I hf st hg
  subst hP hw hK
  obtain⟨xs,hq,hx⟩:=hg
  obtain⟨its,rv,p,hz⟩:=I.list hq
  obtain⟨f0,f1,f2,f3,f4,f5⟩:=hf it (by simp)
  have hl:=rv.length
  exact wpAny_pyNext_list_end (I.ok.hd hc) st p.isList (by simp;omega) λh' eb=>⟨rfl,I.turned (t':=s.toks) (λb o hb e=>eb b o hb e) f0 f1 f3 f4 f5⟩
 self:=λ_ _ _ _ _ st h=>wpAny_pyIter_listiter st h
theorem bX0{P:Program}{w:World}{K:PySem.W.Frag}{tg:Expr}(it:Addr)(lo:Int)(n:Nat):Turn P w K tg (zo lo n) [it] it (λi h=>IsRangeIter h it (lo+(i:Nat)*1) ((n:Int)-(i:Nat)) 1) where
 mem:=by simp
 obj:=λi h st b hb=>by
  have e:b=it:=by simpa using hb
  subst e
  exact⟨_,st,λv z=>by
   have z':Data.fields _=Data.cell v:=z
   cases z'⟩
 keep:=λi h h' st k=>k it (by simp) _ st
 item:=by
  intro X hP hw hK hc i pins s σ H E I hf st hg
  subst hP hw hK
  obtain⟨f0,f1,f2,f3,f4,f5⟩:=hf it (by simp)
  have W:=Walks.range (prog:=X.prog) (w:=X.w) (I.ok.hd hc) it lo 1 n
  refine W.item i s _ _ hg st λv h' tk hv qt kk=>?_
  obtain⟨t,rfl⟩:=hv
  have I1:Inv X pins σ H { s with heap:=h',toks:=tk }:=I.turned (λb o hb e=>kk b o (by simpa using hb) e) f0 f1 f3 f4 f5
  refine⟨_,rfl,SE (s:={ s with heap:=h',toks:=tk }) (n:="range_iterator") qt rfl rfl (by decide) ⟨.int (lo+i),H,I1,⟨t,?_⟩,⟨rfl,rfl⟩,qt,λb hb=>(hf b hb).1⟩⟩
  rw[Int.mul_one]
 done:=by
  intro X hP hw hK hc i pins s σ H E I hf st hg
  subst hP hw hK
  obtain⟨f0,f1,f2,f3,f4,f5⟩:=hf it (by simp)
  exact wpAny_pyNext_range_end (I.ok.hd hc) st (by have:n<=i:=hg;omega) λh' eb=>⟨rfl,I.turned (t':=s.toks) (λb o hb e=>eb b o hb e) f0 f1 f3 f4 f5⟩
 self:=λ_ _ _ _ _ st h=>wpAny_pyIter_rangeiter st h
end L2
namespace L2
open PySem PySem.Spec PyProof.Rows
section
variable{X:Cx}{tg:Expr}
def cW3(K:PySem.W.Frag)(tl:TE):TI:=λσ H R=>tl σ H λx H1=>∃a,x=.ref a/\(∃xs,bR K H1 a xs)/\R (GG K a) H1
theorem SF{l:Expr}{tl:TE}(hl:PE X l tl):PI X tg l (cW3 X.K tl):=by
 intro pins s σ H R I h
 refine bc (hl pins s σ H _ I h) λv s1 ⟨x,H1,I1,r1,q1⟩=>?_
 obtain⟨a,e,⟨xs,hq⟩,q⟩:=q1
 subst e
 cases r1
 obtain⟨its,rv,p,hz⟩:=I1.list hq
 refine wpAny_pyIter_list p.isList ?_
 refine⟨s1.heap.objs.size,[s1.heap.objs.size],_,_,H1,rfl,I1.kept (t':=s1.toks) λb o e=>fO _ e,b78 a _,⟨_,gR _ rfl,rfl,rfl⟩,λb hb=>?_,q⟩
 have e:b=s1.heap.objs.size:=by simpa using hb
 subst e
 exact I1.Cf (bN _) (I1.aO.fresh (bN _))
theorem SG{pins:List (Addr × Obj)}{σ:St}{H:Hp}{s:Shared}{R:It->Hp->Prop}{E:Value->Shared->Prop}{lo hi:Int}{t u v:Tok}{tk:Nat}(I:Inv X pins σ H s)(h1:-(2 ^ 62)<=lo)(h2:lo<2 ^ 62)(h3:-(2 ^ 62)<=hi)(h4:hi<2 ^ 62)
  (q:R (zo lo (hi-lo).toNat) H):wpAny (model X.prog X.w) X.A (pyIter (.ref s.heap.objs.size)) (SD X pins σ tg R) E { s with heap:=s.heap.push { cls:=.type "range",data:=.fields #[.int lo t,.int hi u,.int 1 v] },toks:=tk }:=by
 refine wpAny_pyIter_range (IsRange.new ..) (small_one h1 h2 h3 h4) ?_
 have I1:Inv X pins σ H { s with heap:=s.heap.push { cls:=.type "range",data:=.fields #[.int lo t,.int hi u,.int 1 v] },toks:=tk }:=I.kept λb o e=>fO _ e
 refine⟨(s.heap.push { cls:=.type "range",data:=.fields #[.int lo t,.int hi u,.int 1 v] }).objs.size,[(s.heap.push { cls:=.type "range",data:=.fields #[.int lo t,.int hi u,.int 1 v] }).objs.size],_,_,H,rfl,
  I1.kept (t':=tk) λb o e=>fO _ e,bX0 _ lo (hi-lo).toNat,?_,λb hb=>?_,q⟩
 ·have e1:lo+((0:Nat):Int)*1=lo:=by simp
  have e2:(((hi-lo).toNat:Nat):Int)-((0:Nat):Int)=Builtin.Range.rangeSize lo hi 1:=by rw[rangeSize_one];split<;>omega
  show IsRangeIter _ _ (lo+((0:Nat):Int)*1) ((((hi-lo).toNat:Nat):Int)-((0:Nat):Int)) 1
  rw[e1,e2]
  exact gR _ rfl
 ·have e:b=(s.heap.push { cls:=.type "range",data:=.fields #[.int lo t,.int hi u,.int 1 v] }).objs.size:=by simpa using hb
  subst e
  exact I1.Cf (bN _) (I1.aO.fresh (bN _))
def cR9(ta:TA):TI:=λσ H R=>ta σ H λvs H1=>∃j:Int,vs=[.int j]/\-(2 ^ 62)<=j/\j<2 ^ 62/\R (zo 0 j.toNat) H1
def cV3(ta:TA):TI:=λσ H R=>ta σ H λvs H1=>∃i j:Int,vs=[.int i,.int j]/\(-(2 ^ 62)<=i/\i<2 ^ 62/\-(2 ^ 62)<=j/\j<2 ^ 62)/\R (zo i (j-i).toNat) H1
theorem b77{a:Expr}{ta:TA}{p pos:Pos}(hg:Gl X "range")(hm:X.mg "range"=none)(ha:PA X [a] ta)(hs:starEach [a] X.env=[(false,eval a X.env)]:=by rfl):PI X tg (.Call (.Name "range" p) [a] [] pos) (cR9 ta):=by
 intro pins s σ H R I h
 refine Call_ (by4 I hg hm boot_range (BH (bc (ha pos pins s σ H _ I h) λus s1 ⟨vs,H1,I1,r1,q1⟩=>?_) hs rfl))
 obtain⟨j,e,q1,q2,q⟩:=q1
 subst e
 cases r1 with
 | cons r rr =>
  cases rr
  obtain⟨t,rfl⟩:=r
  exact call_range_1 (SG I1 (by omega) (by omega) q1 q2 (by simpa using q))
theorem b81{a b:Expr}{ta:TA}{p pos:Pos}(hg:Gl X "range")(hm:X.mg "range"=none)(ha:PA X [a,b] ta)(hs:starEach [a,b] X.env=[(false,eval a X.env),(false,eval b X.env)]:=by rfl)(js:starEach [b] X.env=[(false,eval b X.env)]:=by rfl) :
  PI X tg (.Call (.Name "range" p) [a,b] [] pos) (cV3 ta):=by
 intro pins s σ H R I h
 refine Call_ (by4 I hg hm boot_range (BH (bc (ha pos pins s σ H _ I h) λus s1 ⟨vs,H1,I1,r1,q1⟩=>?_) (by rw[hs,js]) (by rw[js];rfl)))
 obtain⟨i,j,e,⟨q1,q2,q3,q4⟩,q⟩:=q1
 subst e
 cases r1 with
 | cons r rr =>
  cases rr with
  | cons r' rr =>
   cases rr
   obtain⟨t,rfl⟩:=r
   obtain⟨t',rfl⟩:=r'
   exact call_range_2 (SG I1 q1 q2 q3 q4 q)
def c07(wi:TI)(g:TG)(tb:TS):TS:=λD σ H=>wi σ H λJ H1=>∃W:Nat->Nat->St->Hp->Prop,(∃m,W 0 m σ H1)/\∀i m σ H,W i m σ H ->
 (J.stop i H/\D.nx σ H)\/(J.go i H/\∃N:St->Hp->Prop,(∀aN H',N aN H'->∃m',m'<m/\W (i+1) m' aN H')/\∀x H',J.ky i H x H'->g x σ H' λmH H2=>tb { D with nx:=N,ct:=N,bk:=D.nx } mH H2)
def zr(fp:List Addr)(h:Heap):List (Addr × Obj):=fp.filterMap λb=>(h.get? b).map λo=>(b,o)
theorem Cg{fp:List Addr}{h:Heap}{b:Addr}{o:Obj}(hb:b∈fp)(e:h.get? b=some o):(b,o)∈zr fp h:=db3.mpr ⟨b,hb,by rw[e];rfl⟩
theorem ce5{fp:List Addr}{h:Heap}{p:Addr × Obj}(hp:p∈zr fp h):p.1∈fp/\h.get? p.1=some p.2:=by
 obtain⟨b,hb,e⟩:=db3.mp hp
 cases q:h.get? b with
 | none=>rw[q]at e;cases e
 | some o =>
  rw[q]at e
  have e':(b,o)=p:=cU e
  subst e'
  exact⟨hb,q⟩
theorem Inv.pinned{pins:List (Addr × Obj)}{σ:St}{H:Hp}{s:Shared}{fp:List Addr}(I:Inv X pins σ H s)(hf:∀b∈fp,jr X pins H b)(ho:∀b∈fp,∃o,s.heap.get? b=some o/\∀v,o.data≠.cell v):Inv X (pins++zr fp s.heap) σ H s :=
 I.So λp hp=>(bZ.mp hp).elim (λz=>I.pin p (fg _ z)) λz=>by
  obtain⟨hb,e⟩:=ce5 z
  obtain⟨f0,f1,f2,_⟩:=hf p.1 hb
  obtain⟨o,e',d⟩:=ho p.1 hb
  rw[e]at e';cases e'
  exact⟨e,f0,f1,f2,d⟩
theorem Inv.zt{pins pl:List (Addr × Obj)}{σ:St}{H:Hp}{s:Shared}(I:Inv X (pins++pl) σ H s):Inv X pins σ H s:=I.So λp hp=>I.pin p (fg _ (gQ _ hp))
theorem cL1{iter:Expr}{body:List Stmt}{wi:TI}{g:TG}{tb:TS}{pos:Pos}(hp:PassesOwn (model X.prog X.w) X.A X.env X.xe)(hc:X.calm=true)(hi:PI X tg iter wi)(hg:PG X tg g)(hb:PSs X body tb)
  (hs:∀x,foldedSetIterable iter X.env x=pure x:=by intro _;rfl):PS X (.For tg iter body [] pos) (c07 wi g tb):=by
 intro pins s σ H D I h
 refine wpAny_For (bc (hi pins s σ H _ I h) λv s1 h1=>bc h1 λGF s2 h2=>?_) hs
 obtain⟨it,fp,tn,J,H2,e,I2,T,zu,f2,W,⟨m0,w0⟩,turn⟩:=h2
 subst e
 have GH:∀{H':Hp},(∀b∈fp,H' b=none)->∀b∈fp,jr X pins H' b:=λhn b hb=>⟨hn b hb,(f2 b hb).2⟩
 refine codeAny_forLoop_any (λn s'=>∃i aN H',Inv X pins aN H' s'/\tn i s'.heap/\(∀b∈fp,H' b=none)/\W i n aN H') ?_ m0 ⟨0,σ,H2,I2,zu,λb hb=>(f2 b hb).1,w0⟩
 rintro n s3 ⟨i,kU,H3,I3,SH,SI,w3⟩
 rcases turn i n kU H3 w3 with⟨stop,qn⟩ | ⟨go,N,hN,step⟩
 ·refine wpAny_passesOwn hp (bc (T.done X rfl rfl rfl hc i pins s3 kU H3 X.xe I3 (GH SI) SH stop) λr s4 ⟨hr,I4⟩=>?_)
  subst hr
  exact wpAny_execs_nil ⟨kU,H3,I4,qn⟩
 ·refine wpAny_passesOwn hp (bc (T.item X rfl rfl rfl hc i pins s3 kU H3 X.xe I3 (GH SI) SH go) λr s4 ⟨u,hr,h4⟩=>?_)
  subst hr
  refine wpAny_passesOwn hp (bc h4 λ_ s5 ⟨x,H5,I5,r5,y5,tS,GI⟩=>?_)
  have GJ:=I5.pinned (GH GI) (T.obj _ _ tS)
  refine wpAny_passesOwn hp (bc (hg _ s5 kU H5 x u _ GJ r5 (step x H5 y5)) λ_ s6 ⟨GK,H6,I6,q6⟩=>?_)
  refine wpAny_passesOwn hp (bc (hb _ s6 GK H6 _ I6 q6) λf s7 q7=>?_)
  have again:∀{kW:St} {H7:Hp},Inv X (pins++zr fp s5.heap) kW H7 s7->N kW H7->∃m,m<n/\∃i aN H',Inv X pins aN H' s7/\tn i s7.heap/\(∀b∈fp,H' b=none)/\W i m aN H':=λ{kW H7} I7 n7=>by
   obtain⟨m',hm,w7⟩:=hN kW H7 n7
   refine⟨m',hm,i+1,kW,H7,I7.zt,T.keep _ _ _ tS λb hb o e=>(I7.pin (b,o) (fg _ (fg _ (Cg hb e)))).1,λb hb=>?_,w7⟩
   obtain⟨o,e,d⟩:=T.obj _ _ tS b hb
   exact(I7.pin (b,o) (fg _ (fg _ (Cg hb e)))).2.1
  cases f with
  | next=>obtain⟨kW,H7,I7,n7⟩:=q7;exact again I7 n7
  | cont=>obtain⟨kW,H7,I7,n7⟩:=q7;exact again I7 n7
  | brk=>obtain⟨kW,H7,I7,q7⟩:=q7;exact⟨kW,H7,I7.zt,q7⟩
  | ret v=>obtain⟨x7,kW,H7,I7,r7,q7⟩:=q7;exact⟨x7,kW,H7,I7.zt,r7,q7⟩
end
end L2
namespace L2
open PySem PySem.Spec PyProof.Rows
abbrev R2:=V->V->Hp->VK->Prop
def cL(X:Cx)(f:Value->Value->Sem Value)(r:R2):Prop :=
 ∀(pins:List (Addr × Obj)) (s:Shared) (σ:St) (H:Hp) (x y:V) (v u:Value) (Q:VK),Inv X pins σ H s->RelV x v->RelV y u->r x y H Q ->
  wpAny (model X.prog X.w) X.A (f v u) (EP X pins σ Q) X.xe s
def GL(X:Cx)(f:Value->Sem Value)(r:V->Hp->VK->Prop):Prop :=
 ∀(pins:List (Addr × Obj)) (s:Shared) (σ:St) (H:Hp) (x:V) (v:Value) (Q:VK),Inv X pins σ H s->RelV x v->r x H Q ->
  wpAny (model X.prog X.w) X.A (f v) (EP X pins σ Q) X.xe s
def g5(X:Cx)(f:Value)(r:List V->Hp->VK->Prop):Prop :=
 ∀(pins:List (Addr × Obj)) (s:Shared) (σ:St) (H:Hp) (xs:List V) (us:List Value) (Q:VK),Inv X pins σ H s->Vals xs us->r xs H Q ->
  wpAny (model X.prog X.w) X.A (call f us) (EP X pins σ Q) X.xe s
def zw(r:R2)(ta tb:TE):TE:=λσ H Q=>ta σ H λx H1=>tb σ H1 λy H2=>r x y H2 Q
def tUn(r:V->Hp->VK->Prop)(ta:TE):TE:=λσ H Q=>ta σ H λx H1=>r x H1 Q
def rI(C:Int->Int->Prop)(g:Int->Int->V):R2:=λx y H Q=>∃i j,x=.int i/\y=.int j/\C i j/\Q (g i j) H
def jQ(g:Int->Int->V):R2:=λx y H Q=>∃i j,x=.int i/\y=.int j/\Q (g i j) H
def rU(g:Int->V):V->Hp->VK->Prop:=λx H Q=>∃i,x=.int i/\Q (g i) H
section
variable{X:Cx}{a b c:Expr}{ta tb tc:TE}{pos:Pos}
theorem GN(ha:PE X a ta)(hb:PE X b tb){pins:List (Addr × Obj)}{s:Shared}{σ:St}{H:Hp}{R:V->V->Hp->Prop}(I:Inv X pins σ H s)
  (h:ta σ H λx H1=>tb σ H1 λy H2=>R x y H2) {Q:Value->Shared->Prop} {f:Value->Value->Sem Value}
  (hf:∀v u s2 x y H2,Inv X pins σ H2 s2->RelV x v->RelV y u->R x y H2->wpAny (model X.prog X.w) X.A (f v u) Q X.xe s2) :
  wpAny (model X.prog X.w) X.A (eval a X.env) (λv bL=>wpAny (model X.prog X.w) X.A (eval b X.env) (λu kT=>wpAny (model X.prog X.w) X.A (f v u) Q X.xe kT) X.xe bL) X.xe s:=by
 refine bc (ha pins s σ H _ I h) λv s1 ⟨x,H1,I1,r1,q1⟩=>?_
 refine bc (hb pins s1 σ H1 _ I1 q1) λu s2 ⟨y,H2,I2,r2,q2⟩=>?_
 exact hf v u s2 x y H2 I2 r1 r2 q2
theorem zx{op:Operator}{r:R2}(ho:cL X (binaryOp op) r)(ha:PE X a ta)(hb:PE X b tb):PE X (.BinOp a op b pos) (zw r ta tb):=by
 intro pins s σ H Q I h
 exact wpAny_BinOp (GN ha hb I h λv u s2 x y H2 I2 rx ry q=>ho pins s2 σ H2 x y v u Q I2 rx ry q)
theorem cT7{op:UnaryOp}{r:V->Hp->VK->Prop}(ho:GL X (unaryOp op) r)(ha:PE X a ta):PE X (.UnaryOp op a pos) (tUn r ta):=by
 intro pins s σ H Q I h
 exact UnaryOp_ (bc (ha pins s σ H _ I h) λv s1 ⟨x,H1,I1,r1,q1⟩=>ho pins s1 σ H1 x v Q I1 r1 q1)
theorem zy{f:Value->Value->Sem Value}{C:Int->Int->Prop}{g:Int->Int->Int}
  (rule:∀(i j:Int) (t u:Tok) (s:Shared) (Q:Value->Shared->Prop) (E:Value->Shared->Prop),C i j->Q (.int (g i j) s.toks) { s with toks:=s.toks+1 }->wpAny (model X.prog X.w) X.A (f (.int i t) (.int j u)) Q E s) :
  cL X f (rI C λi j=>.int (g i j)):=by
 intro pins s σ H x y v u Q I rx ry h
 obtain⟨i,j,rfl,rfl,hc,q⟩:=h
 obtain⟨t,rfl⟩:=rx
 obtain⟨t',rfl⟩:=ry
 exact rule i j t t' s _ _ hc ⟨.int (g i j),H,I.tok _,⟨_,rfl⟩,q⟩
theorem vM{f:Value->Value->Sem Value}{g:Int->Int->Int}
  (rule:∀(i j:Int) (t u:Tok) (s:Shared) (Q:Value->Shared->Prop) (E:Value->Shared->Prop),Q (.int (g i j) s.toks) { s with toks:=s.toks+1 }->wpAny (model X.prog X.w) X.A (f (.int i t) (.int j u)) Q E s) :
  cL X f (jQ λi j=>.int (g i j)):=by
 intro pins s σ H x y v u Q I rx ry h
 obtain⟨i,j,rfl,rfl,q⟩:=h
 obtain⟨t,rfl⟩:=rx
 obtain⟨t',rfl⟩:=ry
 exact rule i j t t' s _ _ ⟨.int (g i j),H,I.tok _,⟨_,rfl⟩,q⟩
theorem Ci{f:Value->Value->Sem Value}{g:Int->Int->Bool}
  (rule:∀(i j:Int) (t u:Tok) (s:Shared) (Q:Value->Shared->Prop) (E:Value->Shared->Prop),Q (.bool (g i j)) s->wpAny (model X.prog X.w) X.A (f (.int i t) (.int j u)) Q E s) :
  cL X f (jQ λi j=>.bl (g i j)):=by
 intro pins s σ H x y v u Q I rx ry h
 obtain⟨i,j,rfl,rfl,q⟩:=h
 obtain⟨t,rfl⟩:=rx
 obtain⟨t',rfl⟩:=ry
 exact rule i j t t' s _ _ ⟨.bl (g i j),H,I,rfl,q⟩
def jt(i j:Int):Prop:=(-(2 ^ 64)<i/\i<2 ^ 64)\/(-(2 ^ 64)<j/\j<2 ^ 64)
theorem jt.ok{i j:Int}(h:jt i j):IntMulOk i j:=by
 rcases h with⟨h1,h2⟩ | ⟨h1,h2⟩
 ·exact .of_left (intBits_le_64 h1 h2)
 ·exact .of_right (intBits_le_64 h1 h2)
theorem bW9(k:Nat):(0:Int)<=2 ^ k:=by
 rw[two_pow_cast]
 exact RG _
theorem cJ8:cL X (binaryOp .Add) (jQ λi j=>.int (i+j)):=vM λ_ _ _ _ _ _ _ q=>add_int q
theorem GO:cL X (binaryOp .Sub) (jQ λi j=>.int (i-j)):=vM λ_ _ _ _ _ _ _ q=>sub_int q
theorem cO3:cL X (binaryOp .Mod) (rI (λ_ j=>0<j) λi j=>.int (i%j)):=zy λi j _ _ _ _ _ hc q=>by
 have h1:(0:Int)<j:=hc
 exact mod_int' (by omega) (by rw[Int.fmod_eq_emod_of_nonneg i (by omega)];exact q)
theorem cK8:cL X (binaryOp .RShift) (rI (λ_ j=>0<=j) λi j=>.int (i/2 ^ j.toNat)):=zy λi j _ _ _ _ _ hc q =>
 rshift_int hc (by rw[db4 i (bW9 _)];exact q)
theorem cL4:cL X (binaryOp .BitAnd) (jQ λi j=>.int (p7 i j)):=vM λ_ _ _ _ _ _ _ q=>and_int q
theorem cM5:cL X (binaryOp .BitXor) (jQ λi j=>.int (p8 i j)):=vM λ_ _ _ _ _ _ _ q=>xor_int q
theorem cE3:cL X (inplaceOp .Add) (jQ λi j=>.int (i+j)):=vM λ_ _ _ _ _ _ _ q=>iadd_int q
theorem cB4:cL X (inplaceOp .BitXor) (jQ λi j=>.int (p8 i j)):=vM λ_ _ _ _ _ _ _ q=>ixor_int q
theorem unI{f:Value->Sem Value}{g:Int->Int}
  (rule:∀(i:Int) (t:Tok) (s:Shared) (Q:Value->Shared->Prop) (E:Value->Shared->Prop),Q (.int (g i) s.toks) { s with toks:=s.toks+1 }->wpAny (model X.prog X.w) X.A (f (.int i t)) Q E s) :
  GL X f (rU λi=>.int (g i)):=by
 intro pins s σ H x v Q I rx h
 obtain⟨i,rfl,q⟩:=h
 obtain⟨t,rfl⟩:=rx
 exact rule i t s _ _ ⟨.int (g i),H,I.tok _,⟨_,rfl⟩,q⟩
theorem cN2:GL X (unaryOp .USub) (rU λi=>.int (-i)):=unI λ_ _ _ _ _ q=>neg_int q
end
section
variable{X:Cx}{a b c:Expr}{ta tb tc:TE}{pos:Pos}
theorem SJ{pins:List (Addr × Obj)}{σ:St}{H:Hp}{s:Shared}{Q:VK}{k k':Bool}(I:Inv X pins σ H s)(q:Q (.bl k) H)(e:k=k'):EP X pins σ Q (.bool k') s:=by
 subst e
 exact⟨.bl k,H,I,rfl,q⟩
theorem cV0:cL X (compareOp .Lt) (jQ λi j=>.bl (decide (i<j))):=Ci λ_ _ _ _ _ _ _ q=>lt_int q
theorem cT4:cL X (compareOp .LtE) (jQ λi j=>.bl (decide (i<=j))):=Ci λ_ _ _ _ _ _ _ q=>le_int q
theorem cS4:cL X (compareOp .Gt) (jQ λi j=>.bl (decide (j<i))):=Ci λ_ _ _ _ _ _ _ q=>gt_int q
theorem cW8:cL X (compareOp .GtE) (jQ λi j=>.bl (decide (j<=i))):=Ci λ_ _ _ _ _ _ _ q=>ge_int q
theorem cI8:cL X (compareOp .Is) (λx y H Q=>y=.ay/\Q (.bl (decide (x=.ay))) H):=by
 intro pins s σ H x y v u Q I rx ry h
 obtain⟨rfl,q⟩:=h
 cases ry
 refine is_none_gen (SJ I q ?_)
 cases x<;>first
  | (cases rx;rfl)
  | (obtain⟨t,rfl⟩:=rx;rfl)
theorem cB1:cL X (compareOp .IsNot) (λx y H Q=>y=.ay/\Q (.bl (!decide (x=.ay))) H):=by
 intro pins s σ H x y v u Q I rx ry h
 obtain⟨rfl,q⟩:=h
 cases ry
 refine isnot_none_gen (SJ I q ?_)
 cases x<;>first
  | (cases rx;rfl)
  | (obtain⟨t,rfl⟩:=rx;rfl)
theorem cL.or{f:Value->Value->Sem Value}{r r':R2}(h:cL X f r)(h':cL X f r'):cL X f (λx y H Q=>r x y H Q\/r' x y H Q):=by
 intro pins s σ H x y v u Q I rx ry q
 rcases q with q | q
 ·exact h pins s σ H x y v u Q I rx ry q
 ·exact h' pins s σ H x y v u Q I rx ry q
theorem bM(b:Expr){op:CmpOp}(h:op≠.In:=by decide)(h2:op≠.NotIn:=by decide):behindInMarks op b=false:=by
 have e1:(op==CmpOp.In)=false:=by cases op<;>first | rfl | exact absurd rfl h
 have e2:(op==CmpOp.NotIn)=false:=by cases op<;>first | rfl | exact absurd rfl h2
 cases b<;>simp[behindInMarks,e1,e2]
theorem cA2{op:CmpOp}{r:R2}(ho:cL X (compareOp op) r)(ha:PE X a ta)(hb:PE X b tb)(hm:behindInMarks op b=false):PE X (.Compare a [op] [b] pos) (zw r ta tb):=by
 intro pins s σ H Q I h
 exact wpAny_Compare1 (GN ha hb I h λv u s2 x y H2 I2 rx ry q=>ho pins s2 σ H2 x y v u Q I2 rx ry q) hm
def SK(t:TE):TT:=λσ H Q=>t σ H λx H'=>∃k,x=.bl k/\Q k H'
theorem cB2{op:CmpOp}{r:R2}(ho:cL X (compareOp op) r)(ha:PE X a ta)(hb:PE X b tb)(hm:behindInMarks op b=false):PT X (.Compare a [op] [b] pos) (SK (zw r ta tb)):=by
 intro pins s σ H Q I h
 refine wpAny_isTrue_Compare1 (bc (ha pins s σ H _ I h) λv s1 ⟨x,H1,I1,r1,q1⟩=>bc (hb pins s1 σ H1 _ I1 q1) λu s2 ⟨y,H2,I2,r2,q2⟩ =>
  bc (ho pins s2 σ H2 x y v u _ I2 r1 r2 q2) λc s3 ⟨z,H3,I3,r3,k,e,q3⟩=>?_) hm
 subst e
 cases r3
 exact wpAny_truthy_bool ⟨H3,I3,q3⟩
def SM(r r':R2)(ta tb tc:TE):TE:=λσ H Q=>ta σ H λx H1=>tb σ H1 λy H2=>r x y H2 λz H3=>∃k,z=.bl k /\
 (if k=true then tc σ H3 λw' H4=>r' y w' H4 Q else Q (.bl false) H3)
theorem cg6{op tT:CmpOp}{r r':R2}(ho:cL X (compareOp op) r)(kR:cL X (compareOp tT) r')(ha:PE X a ta)(hb:PE X b tb)(hc:PE X c tc)
  (hm:lastMarks [op,tT] [b,c]=false:=by with_unfolding_all rfl):PE X (.Compare a [op,tT] [b,c] pos) (SM r r' ta tb tc):=by
 intro pins s σ H Q I h
 refine Compare_chain (bc (ha pins s σ H _ I h) λv s1 ⟨x,H1,I1,r1,q1⟩=>chain_link (bc (hb pins s1 σ H1 _ I1 q1) λu s2 ⟨y,H2,I2,r2,q2⟩ =>
  bc (ho pins s2 σ H2 x y v u _ I2 r1 r2 q2) λd s3 ⟨z,H3,I3,r3,k,e,q3⟩=>?_)) hm
 subst e
 cases r3
 refine wpAny_truthy_bool ?_
 cases k with
 | false=>exact ite_ff ⟨.bl false,H3,I3,rfl,q3⟩
 | true=>exact ite_tt (chain_last (bc (hc pins s3 σ H3 _ I3 q3) λw' s4 ⟨z',H4,I4,r4,q4⟩=>kR pins s4 σ H4 y z' u w' Q I4 r2 r4 q4))
theorem vN:(sizeLine:Nat)<2 ^ 63:=by rw[sizeLine_eq];decide
theorem bV2:cL X (binaryOp .Add) (λx y H Q=>∃i j,x=.str i/\y=.str j/\i.length+j.length<=sizeLine/\Q (.str (i++j)) H):=by
 intro pins s σ H x y v u Q I rx ry h
 obtain⟨i,j,rfl,rfl,hz,q⟩:=h
 obtain⟨t,rfl⟩:=rx
 obtain⟨t',rfl⟩:=ry
 exact add_str (λt' tk=>⟨.str (i++j),H,I.tok _,⟨_,rfl⟩,q⟩) hz
theorem GP{x:V}{us:List Value}(r:Vals [x] us):∃u,us=[u]/\RelV x u:=by
 cases r with
 | cons r1 r2=>cases r2;exact⟨_,rfl,r1⟩
theorem cR4{x y:V}{us:List Value}(r:Vals [x,y] us):∃u w',us=[u,w']/\RelV x u/\RelV y w':=by
 cases r with
 | cons r1 r2 =>
  cases r2 with
  | cons r3 r4=>cases r4;exact⟨_,_,rfl,r1,r3⟩
theorem b08(hc:X.calm=true):g5 X (.builtin "min") (λxs H Q=>∃i j,xs=[.int i,.int j]/\Q (.int (if j<i then j else i)) H):=by
 intro pins s σ H xs us Q I r h
 obtain⟨i,j,rfl,q⟩:=h
 obtain⟨u,w',rfl,⟨t,rfl⟩,⟨t',rfl⟩⟩:=cR4 r
 refine min_two_ints (I.ok.hd hc) λh' tk k=>⟨_,H,I.kept k,?_,q⟩
 by_cases hj:j<i
 ·rw[if_pos hj,if_pos hj];exact⟨_,rfl⟩
 ·rw[if_neg hj,if_neg hj];exact⟨_,rfl⟩
end
end L2
namespace L2
open PySem PySem.Spec PyProof.Rows
structure tU(h:Heap)(x dx C:Addr)(mA:Str->Option Value):Prop where
 obj:h.get? x=some (PySem.W.instObj C dx)
 ns:h.Ns1 dx mA
 ne:dx≠x
theorem ce3{h:Heap}{dx:Addr}{mA:Str->Option Value}(n:h.Ns1 dx mA):∃od,h.get? dx=some od/\∀name,PySem.W.lookIn name od=some (mA name):=by
 obtain⟨o,es,ep,ho,hd,hk,_,hm⟩:=n
 refine⟨o,ho,λname=>?_⟩
 have e:=hm name
 unfold nsFind findBy at e
 rw[<-Array.find?_toList]at e
 unfold PySem.W.lookIn
 rw[hd]
 dsimp only
 split
 ·rename_i y q
  rw[q]at e
  exact congrArg some e
 ·rename_i q
  rw[q]at e
  have a:es.toList.any (·.refKey)=false:=by
   rw[RH]
   intro y hy
   obtain⟨z,t,do7⟩:=hk y (Array.mem_toList_iff.mp hy)
   simp[DictEntry.refKey,do7]
  have a':¬ es.toList.any (·.refKey)=true:=by rw[a];exact gh
  rw[if_neg a']
  exact congrArg some e
theorem tU.look{h:Heap}{x dx C:Addr}{mA:Str->Option Value}(I:tU h x dx C mA):∃od,PySem.W.InstAt h x (PySem.W.instObj C dx) C (some od)/\∀name,PySem.W.lookIn name od=some (mA name) :=
 let⟨od,ho,hl⟩:=ce3 I.ns
 ⟨od,⟨I.obj,rfl,rfl,ho⟩,hl⟩
section
variable{prog:Program}{w:World}{A:Around}{E:Value->Shared->Prop}{s:Shared}{K:PySem.W.Frag}{x dx C f:Addr}{mA:Str->Option Value}{name:Str}{v:Value}
theorem cA9{expr:Bool}{Q:Value->Shared->Prop}(X:K.In s.heap)(I:tU s.heap x dx C mA)(hg:PySem.W.plainGet K C name=true)(hh:PySem.W.hasDictIn K C=true)
  (ha:PySem.W.findIn K (.ref C) name=some none) (hv:mA name=some v) (hv':PySem.W.handedIn v=true) (h:Q v { s with toks:=s.toks+1 }) :
  wpAny (model prog w) A (getAttr (.ref x) name expr) Q E s:=by
 obtain⟨od,J,hl⟩:=I.look
 exact PySem.W.get_value X J (PySem.W.plainGet_of hg).1 (PySem.W.findObj_own hh ha rfl (by rw[hl,hv])) hv' h
theorem cj4{pl:Sem Bool}{Q:Value × List Value->Shared->Prop}(X:K.In s.heap)(I:tU s.heap x dx C mA)(hg:PySem.W.plainGet K C name=true)
  (hf:PySem.W.findIn K (.ref C) name=some (some (.ref f))) (ht:PySem.W.isFn K (.ref f)=true) (hv:mA name=none) (h:Q (.ref f,[.ref x]) s) :
  wpAny (model prog w) A (getMethod (.ref x) name pl) Q E s:=by
 obtain⟨od,J,hl⟩:=I.look
 exact PySem.W.method_fn X J (PySem.W.plainGet_of hg).1 (PySem.W.plainGet_of hg).2 hf (beq_iff_eq.mp ht) (by show(PySem.W.lookIn name od).map (·.isSome)=some false;rw[hl,hv];rfl) h
theorem cy7{ns:List Str}{Q:Unit->Shared->Prop}(X:K.In s.heap)(I:tU s.heap x dx C mA)
  (hs:PySem.W.findIn K (.ref C) "__setattr__"=some (some (.builtin "object.__setattr__"))) (hp:PySem.W.plainOver K C=true) (ht:PySem.W.takerIn K C name=some none) (hh:PySem.W.hasDictIn K C=true)
  (hw:PySem.Within mA ns) (mI:ns.length<=sizeLine)
  (h:∀h',tU h' x dx C (λy=>if y=name then some v else mA y)->Heap.SameBut dx s.heap h'->Q () { s with heap:=h',toks:=s.toks+2 }) :
  wpAny (model prog w) A (setAttr (.ref x) name v) Q E s:=by
 obtain⟨od,J,hl⟩:=I.look
 refine PySem.W.set_plain X J hs (PySem.W.osa_open (s:={ s with toks:=s.toks+1 }) (r:=none) X J hp ht λb=>?_)
 obtain⟨cd,hc,ze⟩:=PySem.W.any_some hh
 have hx:s.heap.get? x=some ⟨.ref C,some dx,.plain,#[]⟩:=I.obj
 refine wpAny_bind (wpAny_pure (wpAny_bind (wpAny_bind (wpAny_loadPart hx (wpAny_bind (PySem.W.Looks.here (s:={ s with toks:=s.toks+1 }) (PySem.W.looks_clsIn X hc) ?_))))))
 rw[ze]
 refine wpAny_pure (a:=some dx) (wpAny_bind (wpAny_pure (wpAny_bind ?_)))
 refine wpAny_nsSet1 (s:={ s with toks:=s.toks+1 }) I.ns λh' Cj js=>?_
 obtain⟨oD,esD,epD,hoD,hdD,hcD⟩:=Cj.count (PySem.Within.cons name v hw)
 refine wpAny_bind (wpAny_lookBehind hoD (by rw[hdD];exact pastItsLine_dict (eH hcD (by rw[gU];omega))) ?_)
 exact wpAny_pure (h _ ⟨(js.2 _ (fB I.ne)).trans I.obj,Cj,I.ne⟩ js)
theorem cj7{R:Result->Shared->Prop}{vs:List Value}{kw:List (Str × Value)}(X:K.In s.heap)(hm:PySem.W.makesIn K C=true)
  (hi:PySem.W.findIn K (.ref C) "__init__"=some (some (.ref f))) (hf:PySem.W.typeIn K (.ref f)=some (.type "function"))
  (h:codeAny (model prog w) (A.under (.builtin "type.__call__" ⟨.ref C::vs,kw⟩)) (.call (.ref f) ⟨.ref (s.heap.objs.size+1)::vs,kw⟩) (PySem.W.InitBack (s.heap.objs.size+1) R)
   { s with heap:=(s.heap.push PySem.W.emptyDict).push (PySem.W.instObj C s.heap.objs.size) }) :
  codeAny (model prog w) A (.call (.ref C) ⟨vs,kw⟩) R s:=by
 obtain⟨hh,g,d,t,os⟩:=s
 exact PySem.W.make_core (PySem.W.makes_of X hm) (PySem.W.looks_findIn X hi) (λself=>PySem.W.bind_fn X self hf) (.inl rfl) h
end
def gq(f:Str)(v:V):List (Str × V)->List (Str × V)
 | []=>[(f,v)]
 | (g,x)::r=>if g=f then(g,v)::r else(g,x)::gq f v r
theorem SN(f g:Str)(v:V):∀fs:List (Str × V),(gq f v fs).lookup g=if g=f then some v else fs.lookup g
 | []=>by
  show nH g [(f,v)]=_
  by_cases h:g=f
  ·have hb:(g==f)=true:=beq_iff_eq.mpr h
   simp only[nH,hb,if_pos h]
  ·have hb:(g==f)=false:=beq_eq_false_iff_ne.mpr h
   simp only[nH,hb,if_neg h]
 | (k,x)::r=>by
  have ih:=SN f g v r
  rw[show gq f v ((k,x)::r)=(if k=f then(k,v)::r else(k,x)::gq f v r) from rfl]
  by_cases hk:k=f
  ·rw[if_pos hk]
   by_cases h:g=k
   ·have hb:(g==k)=true:=beq_iff_eq.mpr h
    simp only[nH,hb,if_pos (h.trans hk)]
   ·have hb:(g==k)=false:=beq_eq_false_iff_ne.mpr h
    simp only[nH,hb,if_neg (λe:g=f=>h (e.trans hk.symm))]
  ·rw[if_neg hk]
   by_cases h:g=k
   ·have hb:(g==k)=true:=beq_iff_eq.mpr h
    simp only[nH,hb,if_neg (λe:g=f=>hk (h.symm.trans e))]
   ·have hb:(g==k)=false:=beq_eq_false_iff_ne.mpr h
    simp only[nH,hb]
    exact ih
theorem GQ(f:Str)(v:V):∀fs:List (Str × V),f∈(gq f v fs).map (·.1)/\∀g,g∈fs.map (·.1)->g∈(gq f v fs).map (·.1)
 | []=>⟨by simp[gq],λg h=>by simp at h⟩
 | (k,x)::r=>by
  obtain⟨i1,i2⟩:=GQ f v r
  rw[show gq f v ((k,x)::r)=(if k=f then(k,v)::r else(k,x)::gq f v r) from rfl]
  by_cases hk:k=f
  ·rw[if_pos hk]
   subst hk
   exact⟨by simp,λg h=>by simpa using h⟩
  ·rw[if_neg hk]
   refine⟨?_,λg h=>?_⟩
   ·rw[dF]
    exact dZ _ i1
   ·rw[dF]at h ⊢
    rcases cB.mp h with e | e
    ·exact cB.mpr (.inl e)
    ·exact dZ _ (i2 g e)
theorem SO(f:Str)(v:V):∀fs:List (Str × V),(gq f v fs).length<=fs.length+1
 | []=>by simp[gq]
 | (k,x)::r=>by
  have ih:=SO f v r
  rw[show gq f v ((k,x)::r)=(if k=f then(k,v)::r else(k,x)::gq f v r) from rfl]
  by_cases hk:k=f
  ·rw[if_pos hk,gU,gU];omega
  ·rw[if_neg hk,gU,gU];omega
theorem mC.some_of{v:V}{o:Option Value}(r:mC (some v) o):∃u,o=some u/\RelV v u:=by
 cases o with
 | none=>exact(show False from r).elim
 | some u=>exact⟨u,rfl,r⟩
theorem mC.none_of{o:Option Value}(r:mC none o):o=none:=by
 cases o with
 | none=>rfl
 | some u=>exact(show False from r).elim
theorem b89{v:V}{u:Value}(r:RelV v u):PySem.W.handedIn u=true:=by
 cases v with
 | ay=>cases(show u=sU from r);rfl
 | bl b=>cases(show u=Fy b from r);rfl
 | int i=>obtain⟨t,e⟩:=(show ∃t,u=p5 i t from r);cases e;rfl
 | str x=>obtain⟨t,e⟩:=(show ∃t,u=Value.str x t from r);cases e;rfl
 | B0 b=>obtain⟨t,e⟩:=(show ∃t,u=Value.bytes b t from r);cases e;rfl
 | tM b=>obtain⟨t,e⟩:=(show ∃t,u=Value.float b t from r);cases e;rfl
 | ref a=>cases(show u=fM a from r);rfl
 | ty n=>cases(show u=Value.type n from r);rfl
section
variable{P:Program}{w:World}{H H':Hp}{h h':Heap}{a C dx:Addr}{fs fs':List (Str × V)}
theorem Ck(aO:cV P w H h)(e:H a=some (.ins C dx fs)):∃mA,tU h a dx C mA/\(∀f,mC (fs.lookup f) (mA f))/\PySem.Within mA (fs.map (·.1))/\fs.length<=1000/\H dx=some (.own a):=by
 obtain⟨d,z,ne,ob,mA,n,r,q⟩:=(show eI P w H h a (.ins C dx fs) from aO a _ e)
 exact⟨mA,⟨ob,n,ne⟩,r,q,z,d⟩
end
structure eK(K:PySem.W.Frag)(C:Addr):Prop where
 pg:PySem.W.plainGet K C Str.empty=true
 hd:PySem.W.hasDictIn K C=true
 po:PySem.W.plainOver K C=true
 sa:PySem.W.findIn K (.ref C) "__setattr__"=some (some (.builtin "object.__setattr__"))
theorem eK.get{K:PySem.W.Frag}{C:Addr}(c:eK K C)(f:Str):PySem.W.plainGet K C f=true:=c.pg
def cJ(K:PySem.W.Frag)(C:Addr)(f:Str):Prop:=PySem.W.findIn K (.ref C) f=some none
theorem cJ.dp7{K:PySem.W.Frag}{C:Addr}{f:Str}(n:cJ K C f):PySem.W.takerIn K C f=some none:=by
 unfold PySem.W.takerIn
 rw[show PySem.W.findIn K (.ref C) f=some none from n]
 rfl
structure Meth(K:PySem.W.Frag)(C:Addr)(m:Str)(f:Addr):Prop where
 at_:PySem.W.findIn K (.ref C) m=some (some (.ref f))
 fn:PySem.W.isFn K (.ref f)=true
 kp:PySem.W.keepIn K (.ref f)=true
section
variable{X:Cx}{pins:List (Addr × Obj)}{σ:St}{H:Hp}{s:Shared}{a C dx:Addr}{fs:List (Str × V)}{f:Str}{v:V}{A:Around}{E:Value->Shared->Prop}
theorem bW2{b:Bool}{Q:Value->Shared->Prop}(I:Inv X pins σ H s)(e:H a=some (.ins C dx fs))(c:eK X.K C)(n:cJ X.K C f)(l:fs.lookup f=some v)
  (h:∀u s',Inv X pins σ H s'->RelV v u->Q u s'):wpAny (model X.prog X.w) A (getAttr (.ref a) f b) Q E s:=by
 obtain⟨mA,O,r,_,_,_⟩:=Ck I.aO e
 obtain⟨u,hu,ru⟩:=mC.some_of (v:=v) (o:=mA f) (by rw[<-l];exact r f)
 exact cA9 I.dG O (c.get f) c.hd n hu (b89 ru) (h u _ (I.tok _) ru)
theorem GR{m:Str}{g:Addr}{pl:Sem Bool}{Q:Value × List Value->Shared->Prop}(I:Inv X pins σ H s)(e:H a=some (.ins C dx fs))(c:eK X.K C)(k:Meth X.K C m g)(l:fs.lookup m=none)
  (h:Q (.ref g,[.ref a]) s):wpAny (model X.prog X.w) A (getMethod (.ref a) m pl) Q E s:=by
 obtain⟨mA,O,r,_,_,_⟩:=Ck I.aO e
 have hn:mA m=none:=mC.none_of (by rw[<-l];exact r m)
 exact cj4 I.dG O (c.get m) k.at_ k.fn hn h
theorem bW6{y:V}{u:Value}{Q:Unit->Shared->Prop}(I:Inv X pins σ H s)(e:H a=some (.ins C dx fs))(c:eK X.K C)(n:cJ X.K C f)(hl:fs.length<1000)(ry:RelV y u)
  (h:∀s',Inv X pins σ (upd H a (.ins C dx (gq f y fs))) s'->Q () s'):wpAny (model X.prog X.w) A (setAttr (.ref a) f u) Q E s:=by
 obtain⟨mA,O,r,wi,_,ho⟩:=Ck I.aO e
 have hz:(fs.map (·.1)).length<=sizeLine:=by rw[bt,sizeLine_eq];omega
 refine cy7 I.dG O c.sa c.po n.dp7 c.hd wi hz λh' O' sb=>h _ ?_
 have hd:∃o,h'.get? dx=some o:=let⟨o,_,_,e',_⟩:=O'.ns;⟨o,e'⟩
 refine I.write (x:=a) (e:=dx) (by rw[e];exact vo) (.inr ho) (λb q hb z=>(sb.2 b hb).trans z) hd ?_
 refine⟨by rw[bA O.ne];exact ho,?_,O.ne,O'.obj,_,O'.ns,λg=>?_,λg hg=>?_⟩
 ·have:=SO f y fs;omega
 ·show mC ((gq f y fs).lookup g) (if g=f then some u else mA g)
  rw[SN]
  by_cases q:g=f
  ·rw[if_pos q,if_pos q];exact ry
  ·rw[if_neg q,if_neg q];exact r g
 ·by_cases q:g=f
  ·rw[q];exact(GQ f y fs).1
  ·refine(GQ f y fs).2 g (wi g λz=>hg ?_)
   show(if g=f then some u else mA g)=none
   rw[if_neg q];exact z
theorem Inv.made(I:Inv X pins σ H s):Inv X pins σ (upd (upd H s.heap.objs.size (.own (s.heap.objs.size+1))) (s.heap.objs.size+1) (.ins C s.heap.objs.size []))
  { s with heap:=(s.heap.push PySem.W.emptyDict).push (PySem.W.instObj C s.heap.objs.size) }:=by
 have e1:(s.heap.push PySem.W.emptyDict).get? s.heap.objs.size=some PySem.W.emptyDict:=gR s.heap rfl
 have e2:((s.heap.push PySem.W.emptyDict).push (PySem.W.instObj C s.heap.objs.size)).get? (s.heap.objs.size+1)=some (PySem.W.instObj C s.heap.objs.size):=by
  have:=gR (s.heap.push PySem.W.emptyDict) (o:=PySem.W.instObj C s.heap.objs.size) rfl
  rwa [vp]at this
 have e3:(s.heap.push PySem.W.emptyDict).Ns s.heap.objs.size (λ_=>none):=⟨PySem.W.emptyDict,#[],_,e1,rfl,(λe he=>absurd he (by simp)),λ_=>rfl⟩
 have I1:=I.laid (a:=s.heap.objs.size) (o:=.own (s.heap.objs.size+1)) (h':=s.heap.push PySem.W.emptyDict) (t':=s.toks) (λb u q=>fO _ q) (bN _) ⟨_,e1⟩
 refine I1.laid (a:=s.heap.objs.size+1) (o:=.ins C s.heap.objs.size []) (t':=s.toks) (λb u q=>fO _ q) (BJ (vp _ _)) ?_
 have ne:s.heap.objs.size≠s.heap.objs.size+1:=fA (BK _)
 refine⟨by rw[bA ne,cI],jM _,ne,e2,λ_=>none,(Heap.Ns1.of_empty e3).at λo q=>fO _ q,λ_=>vo,λy hy=>absurd rfl hy⟩
theorem cF3{prog:Program}{w:World}{env:Env}{e:Expr}{f:Str}{pos:Pos}{s:Shared}{Q:Value->Shared->Prop}(hb:attributeBase e f env (eval e env)=eval e env)
  (h:wpAny (model prog w) A (eval e env) (λo bL=>wpAny (model prog w) A (getAttr o f true) Q E bL) E s):wpAny (model prog w) A (eval (.Attribute e f pos) env) Q E s :=
 Attribute_any_ h (by rw[arm_eval_Attribute,hb])
end
def cZ2(K:PySem.W.Frag)(ta:TE)(f:Str):TE:=λσ H Q=>ta σ H λx H1=>∃a C dx fs v,x=.ref a/\H1 a=some (.ins C dx fs)/\eK K C/\cJ K C f/\fs.lookup f=some v/\Q v H1
def cY2(K:PySem.W.Frag)(ta tv:TE)(f:Str):TS:=λD σ H=>tv σ H λy H1=>ta σ H1 λx H2=>∃a C dx fs,x=.ref a/\H2 a=some (.ins C dx fs)/\eK K C/\cJ K C f/\fs.length<1000 /\
 D.nx σ (upd H2 a (.ins C dx (gq f y fs)))
section
variable{X:Cx}{o e value:Expr}{f:Str}{pos pos' tV:Pos}{ta tv:TE}
theorem Cm(he:PE X e ta)(hb:attributeBase e f X.env (eval e X.env)=eval e X.env):PE X (.Attribute e f pos) (cZ2 X.K ta f):=by
 intro pins s σ H Q I h
 refine cF3 hb (bc (he pins s σ H _ I h) λu s1 ⟨x,H1,I1,rx,a,C,dx,fs,v,ex,ea,c,n,l,q⟩=>?_)
 subst ex
 obtain rfl:u=fM a:=rx
 exact bW2 I1 ea c n l λu' s2 I2 ru=>⟨v,H1,I2,ru,q⟩
theorem qu(ha:PE X o ta)(hv:PE X value tv)(hs:swapsWith value (some (.Attribute o f pos')) pos.line X.env=pure false):PS X (.Assign [.Attribute o f pos'] value pos) (cY2 X.K ta tv f):=by
 intro pins s σ H D I h
 refine plainObj_wpAny_Assign_Attribute (bc (hv pins s σ H _ I h) λu s1 ⟨y,H1,I1,ry,q⟩=>bc (ha pins s1 σ H1 _ I1 q) λov s2 ⟨x,H2,I2,rx,a,C,dx,fs,ex,ea,c,n,l,q2⟩=>?_) hs
 subst ex
 obtain rfl:ov=fM a:=rx
 exact bW6 I2 ea c n l ry λs3 I3=>⟨σ,_,I3,q2⟩
end
section
variable{X:Cx}{pins:List (Addr × Obj)}{σ:St}{H:Hp}{s:Shared}{A:Around}{E:Value->Shared->Prop}{Q:Value->Shared->Prop}{c:Value}{b:Bool}
inductive iO(K:PySem.W.Frag)(H:Hp):V->Value->Prop where
 | ay:iO K H .ay (.type "NoneType")
 | bl (x:Bool):iO K H (.bl x) (.type "bool")
 | int (i:Int):iO K H (.int i) (.type "int")
 | str (x:Str):iO K H (.str x) (.type "str")
 | tM (x:UInt64):iO K H (.tM x) (.type "float")
 | lst {a:Addr} {xs:List V} (e:H a=some (.lst xs)):iO K H (.ref a) (.type "list")
 | cu {a:Addr} {o:Obj} {xs:List V} (e:H a=some (.cu o (.lst xs))):iO K H (.ref a) (.type "list")
 | tup {a:Addr} {xs:List V} (e:H a=some (.tup xs)):iO K H (.ref a) (.type "tuple")
 | dK {a:Addr} {dQ:List (Key × V)} (e:H a=some (.dK dQ)):iO K H (.ref a) (.type "dict")
 | dT {a:Addr} {dQ:List (List Key × V)} (e:H a=some (.dT dQ)):iO K H (.ref a) (.type "dict")
 | ins {a C dx:Addr} {fs:List (Str × V)} (e:H a=some (.ins C dx fs)) (cl:eK K C) (ha:PySem.W.findIn K (.ref C) "__class__"=some (some (.builtin "object.__class__")))
   (hn:PySem.W.specialIn K (.builtin "object.__class__") "__get__"=some (some (.builtin "getset_descriptor.__get__"))) (GS:PySem.W.takesIn K (.builtin "object.__class__")=some true)
   (hm:PySem.W.mroIn K C (.type "object")=some true):iO K H (.ref a) (.ref C)
theorem cb2{x:V}{u t:Value}(I:Inv X pins σ H s)(rx:RelV x u)(ty:iO X.K H x t)(e:PySem.W.kitOne X.K t c=some b)(h:∀tk,Q (.bool b) { s with toks:=tk }) :
  wpAny (model X.prog X.w) A (call (.builtin "isinstance") [u,c]) Q E s:=by
 cases ty with
 | ay=>cases(show u=sU from rx);exact PySem.W.kia_one PySem.W.kitx_none I.dG vo e (λz=>nomatch z) h
 | bl y=>cases(show u=Fy y from rx);exact PySem.W.kia_one PySem.W.kitx_bool I.dG vo e (λz=>nomatch z) h
 | int i=>obtain⟨t,q⟩:=(show ∃t,u=p5 i t from rx);cases q;exact PySem.W.kia_one PySem.W.kitx_int I.dG vo e (λz=>nomatch z) h
 | str y=>obtain⟨t,q⟩:=(show ∃t,u=Value.str y t from rx);cases q;exact PySem.W.kia_one PySem.W.kitx_str I.dG vo e (λz=>nomatch z) h
 | tM y=>obtain⟨t,q⟩:=(show ∃t,u=Value.float y t from rx);cases q;exact PySem.W.kia_one PySem.W.kitx_float I.dG vo e (λz=>nomatch z) h
 | @lst a xs ea =>
  cases(show u=fM a from rx)
  obtain⟨_,_,n,_,h1⟩:=(show eI X.prog X.w H s.heap a (.lst xs) from I.aO a _ ea)
  exact PySem.W.kia_one PySem.W.kitx_list I.dG ⟨_,h1,rfl⟩ e (λz=>nomatch z) h
 | @cu a ob xs ea =>
  cases(show u=fM a from rx)
  obtain⟨_,_,_,n,_,h1⟩:=(show eI X.prog X.w H s.heap a (.cu ob (.lst xs)) from I.aO a _ ea)
  exact PySem.W.kia_one PySem.W.kitx_list I.dG ⟨_,h1,rfl⟩ e (λz=>nomatch z) h
 | @tup a xs ea =>
  cases(show u=fM a from rx)
  obtain⟨_,_,_,p⟩:=(show eI X.prog X.w H s.heap a (.tup xs) from I.aO a _ ea)
  obtain⟨o,h1,h2,_⟩:=p
  exact PySem.W.kia_one PySem.W.kitx_tuple I.dG ⟨o,h1,h2⟩ e (λz=>nomatch z) h
 | @dK a dQ ea =>
  cases(show u=fM a from rx)
  obtain⟨_,_,vs,_,p⟩:=(show eI X.prog X.w H s.heap a (.dK dQ) from I.aO a _ ea)
  obtain⟨o,es,ep,h1,h2,_⟩:=p
  exact PySem.W.kia_one PySem.W.kitx_dict I.dG ⟨o,h1,h2.1⟩ e (λz=>nomatch z) h
 | @dT a dQ ea =>
  cases(show u=fM a from rx)
  obtain⟨_,_,xs,_,o,es,ep,h1,h2,_⟩:=(show eI X.prog X.w H s.heap a (.dT dQ) from I.aO a _ ea)
  exact PySem.W.kia_one PySem.W.kitx_dict I.dG ⟨o,h1,h2.1⟩ e (λz=>nomatch z) h
 | @ins a C dx fs ea cl ha hn GS hm =>
  cases(show u=fM a from rx)
  obtain⟨mA,O,_⟩:=Ck I.aO ea
  obtain⟨od,J,_⟩:=O.look
  exact PySem.W.kia_one (PySem.W.kitx_own (cl.get _) cl.hd ha hn GS hm) I.dG J e (λz=>nomatch z) h
end
end L2
namespace L2
open PySem PySem.Spec PyProof.Rows
structure cM(k:Nat)(A:Around):Prop where
 hd:A.handled=none
 dp:A.depth+3*k+5<recursionLimit
 un:A.units+16*k+200<cLine
theorem cM.mono{j k:Nat}{A:Around}(r:cM k A)(h:j<=k):cM j A:=⟨r.hd,by have:=r.dp;omega,by have:=r.un;omega⟩
theorem cM.deeper{k:Nat}{A:Around}(r:cM (k+1) A)(env:Env):cM k (A.deeper env) :=
 ⟨r.hd,by have:=r.dp;show A.depth+1+3*k+5<_;omega,by have:=r.un;show A.units+3+16*k+200<_;omega⟩
theorem bV8{A:Around}{C:Addr}{us:List Value}{kw:List (Str × Value)}:(A.under (.builtin "type.__call__" ⟨.ref C::us,kw⟩)).depth=A.depth+1:=by
 first | rfl | simp[Around.under,Code.weight,Code.isCreation,Code.isGuard,Code.isCaller,Code.frames,Code.isFrame,guardIds]
theorem bU9{A:Around}{C:Addr}{us:List Value}{kw:List (Str × Value)}:(A.under (.builtin "type.__call__" ⟨.ref C::us,kw⟩)).units=A.units+1:=by
 first | rfl | simp[Around.under,Code.cUnits,Code.frames,Code.isFrame]
theorem cM.make{k:Nat}{A:Around}(r:cM (k+1) A)(C:Addr)(us:List Value)(kw:List (Str × Value)):cM k (A.under (.builtin "type.__call__" ⟨.ref C::us,kw⟩)) :=
 ⟨r.hd,by have:=r.dp;rw[bV8];omega,by have:=r.un;rw[bU9];omega⟩
theorem cM.depth{k:Nat}{A:Around}(r:cM k A):A.depth<recursionLimit:=by have:=r.dp;omega
def cY6:TA:=λ_ H Q=>Q [] H
def cV9(ta:TE)(tr:TA):TA:=λσ H Q=>ta σ H λx H1=>tr σ H1 λxs H2=>Q (x::xs) H2
section
variable{X:Cx}{e:Expr}{es:List Expr}{te:TE}{t:TA}{pos:Pos}
theorem kA:PA X [] cY6:=λ_ _ _ _ H Q I h=>Calls.spliced_nil ⟨[],H,I,.nil,h⟩
theorem gA(ha:PE X e te)(hr:PA X es t)(hs:starEach (e::es) X.env=(false,eval e X.env)::starEach es X.env:=by rfl):PA X (e::es) (cV9 te t):=by
 intro pos pins s σ H Q I h
 rw[hs]
 show wpAny _ _ (spliced ((false,eval e X.env)::backTo pos (starEach es X.env))) _ _ s
 refine Calls.spliced_cons (bc (ha pins s σ H _ I h) λu s1 ⟨x,H1,I1,r1,q1⟩=>?_)
 exact bc (hr pos pins s1 σ H1 _ I1 q1) λus s2 ⟨xs,H2,I2,r2,q2⟩=>⟨x::xs,H2,I2,.cons r1 r2,q2⟩
def cY7(t:TA):TE:=λσ H Q=>t σ H λxs H1=>xs.length<=sizeLine/\∀p,H1 p=none->Q (.ref p) (upd H1 p (.tup xs))
def cZ8(t:TA):TE:=λσ H Q=>t σ H λxs H1=>xs.length<=sizeLine/\∀p,H1 p=none->Q (.ref p) (upd H1 p (.lst xs))
theorem cI1{x1}(h:PA X es t):PE X (.Tuple es x1 pos) (cY7 t):=by
 intro pins s σ H Q I hq
 refine wpAny_Tuple_spliced (bc (h pos pins s σ H _ I hq) λus s1 ⟨xs,H1,I1,r,z,q⟩=>⟨by rw[<-r.length];exact z,?_⟩)
 have hf:H1 s1.heap.objs.size=none:=I1.aO.fresh (bN _)
 refine⟨.ref s1.heap.objs.size,upd H1 s1.heap.objs.size (.tup xs),I1.laid (t':=s1.toks) (λb u e=>fO _ e) (bN _) ?_,rfl,q _ hf⟩
 exact⟨z,us,r,⟨_,gR _ rfl,rfl,_,rfl⟩⟩
theorem SQ(h:PA X es t):PE X (.List es pos) (cZ8 t):=by
 intro pins s σ H Q I hq
 refine wpAny_List_spliced (bc (h pos pins s σ H _ I hq) λus s1 ⟨xs,H1,I1,r,z,q⟩=>⟨by rw[<-r.length];exact z,?_⟩)
 have hf:H1 s1.heap.objs.size=none:=I1.aO.fresh (bN _)
 refine⟨.ref s1.heap.objs.size,upd H1 s1.heap.objs.size (.lst xs),I1.laid (t':=s1.toks) (λb u e=>fO _ e) (bN _) ?_,rfl,q _ hf⟩
 exact⟨z,us,0,r,gR _ rfl⟩
end
abbrev Sp:=List V->Hp->VK->XK->Prop
abbrev fh:=List Env->Hp->Shared->XK->Value->Shared->Prop
structure ju(P:Program)(w:World)(K:PySem.W.Frag)(mg:Str->Option Value)(base:Heap)(A:Around)(outer:List Env)(s:Shared)(H:Hp):Prop where
 frames:A.frames=some outer
 mod:Mod K mg base
 bs:∀b o,base.get? b=some o->s.heap.get? b=some o/\H b=none
 kq:base.objs.size<=s.heap.objs.size
 gX:s.heap.FunFrames base outer
 kr:∀b∈eJ outer,H b=none
 aO:cV P w H s.heap
 bare:AllBare s.gens
def CE(outer:List Env)(P:Program)(w:World)(H:Hp)(s:Shared)(Q:VK)(u:Value)(s':Shared):Prop :=
 ∃v H',s'.os=s.os/\AllBare s'.gens/\Un (eJ outer) [] H H' s.heap s'.heap/\cV P w H' s'.heap/\RelV v u/\Q v H'
def CR(CX:fh)(outer:List Env)(P:Program)(w:World)(H:Hp)(s:Shared)(Q:VK)(E:XK)(r:Result)(s':Shared):Prop :=
 match r with
 | .ok (.ret u)=>CE outer P w H s Q u s'
 | .ok _=>False
 | .error e=>CX outer H s E e s'
structure aQ(P:Program)(w:World)(K:PySem.W.Frag)(mg:Str->Option Value)(base:Heap)(CX:fh)(k:Nat)(f:Addr)(fd:FuncData)(ps:List Str)(sp:Sp):Prop where
 len:∀vs H Q E,sp vs H Q E->vs.length=ps.length
 run:∀(A:Around) (outer:List Env) (s:Shared) (H:Hp) (args:Args) (us:List Value) (vs:List V) (Q:VK) (E:XK),cM k A->ju P w K mg base A outer s H->BindsTo s fd args (ps.zip us)->Vals vs us->sp vs H Q E ->
  codeAny (model P w) A (.call (.ref f) args) (CR CX outer P w H s Q E) s
theorem aQ.mono{P:Program}{w:World}{K:PySem.W.Frag}{mg:Str->Option Value}{base:Heap}{CX:fh}{j k:Nat}{f:Addr}{fd:FuncData}{ps:List Str}{sp:Sp}(F:aQ P w K mg base CX j f fd ps sp)(h:j<=k) :
  aQ P w K mg base CX k f fd ps sp:=⟨F.len,λA outer s H args us vs Q E hr=>F.run A outer s H args us vs Q E (hr.mono h)⟩
theorem aQ.imp{P:Program}{w:World}{K:PySem.W.Frag}{mg:Str->Option Value}{base:Heap}{CX:fh}{k:Nat}{f:Addr}{fd:FuncData}{ps:List Str}{sp SR:Sp}(F:aQ P w K mg base CX k f fd ps sp)
  (h:∀vs H Q E,SR vs H Q E->sp vs H Q E):aQ P w K mg base CX k f fd ps SR :=
 ⟨λvs H Q E q=>F.len vs H Q E (h _ _ _ _ q),λA outer s H args us vs Q E hr he hb hv hs=>F.run A outer s H args us vs Q E hr he hb hv (h _ _ _ _ hs)⟩
theorem ju.make{P:Program}{w:World}{K:PySem.W.Frag}{mg:Str->Option Value}{base:Heap}{A:Around}{outer:List Env}{s:Shared}{H:Hp}(e:ju P w K mg base A outer s H)(C:Addr)(us:List Value)(kw:List (Str × Value)) :
  ju P w K mg base (A.under (.builtin "type.__call__" ⟨.ref C::us,kw⟩)) outer s H:=⟨by first | exact e.frames | (simpa[Around.under,Code.envs,Code.isFrame,pushEnvs]using e.frames),e.mod,e.bs,e.kq,e.gX,e.kr,e.aO,e.bare⟩
section
variable{X:Cx}{pins:List (Addr × Obj)}{σ:St}{H:Hp}{s s':Shared}
theorem Inv.zA(I:Inv X pins σ H s):ju X.prog X.w X.K X.mg X.base X.A X.stack s H :=
 ⟨I.ok.frames,I.ok.mod,I.bs,eH I.ok.kq I.sz,I.stack,I.Gp,I.aO,I.bare⟩
theorem Inv.after{Q:VK}{u:Value}(I:Inv X pins σ H s)(h:CE X.stack X.prog X.w H s Q u s'):EP X pins σ Q u s':=by
 obtain⟨v,H',os,bare,un,aO,r,q⟩:=h
 obtain⟨hh,g,d,t,os'⟩:=s'
 obtain rfl:os'=s.os:=os
 exact⟨v,H',I.call (h':=hh) (g':=g) (d':=d) (t':=t) (ch:=[]) un aO bare (λb z=>absurd z (by simp)),r,q⟩
end
def cQ6(sp:Sp)(fQ:List V)(E:XK)(t:TA):TE:=λσ H Q=>t σ H λvs H1=>sp (vs++fQ) H1 Q E
def cS3(C:Addr)(m:Str)(sp:Sp)(fQ:List V)(E:XK)(ta:TE)(t:TA):TE:=λσ H Q=>ta σ H λx H1=>∃a dx fs,x=.ref a/\H1 a=some (.ins C dx fs)/\fs.lookup m=none /\
 t σ H1 λvs H2=>sp (x::(vs++fQ)) H2 Q E
def cR0(C:Addr)(sp:Sp)(fQ:List V)(E:XK)(t:TA):TE:=λσ H Q=>t σ H λvs H1=>∀x dx,H1 x=none->H1 dx=none->dx≠x ->
 sp (.ref x::(vs++fQ)) (upd (upd H1 dx (.own x)) x (.ins C dx [])) (λv H2=>v=.ay/\Q (.ref x) H2) E
def Binds(K:PySem.W.Frag)(fd:FuncData)(ps:List Str)(ds:List Value):Prop :=
 ∀(s:Shared) (us:List Value),K.In s.heap->(us++ds).length=ps.length->BindsTo s fd ⟨us,[]⟩ (ps.zip (us++ds))
theorem Binds.all{K:PySem.W.Frag}{fd:FuncData}{ps:List Str}(h:∀us:List Value,us.length=ps.length->bindArgs fd ⟨us,[]⟩=pure (ps.zip us)):Binds K fd ps []:=λs us _ hl=>by
 rw[mr]at hl ⊢
 exact .of_eq (h us hl)
def mJ(CX:fh)(X:Cx)(E:XK):Prop:=∀(pins:List (Addr × Obj)) (σ:St) (H:Hp) (s:Shared) (e:Value) (s':Shared),Inv X pins σ H s->CX X.stack H s E e s'->X.xe e s'
section
variable{X:Cx}{CX:fh}{k:Nat}{f C:Addr}{fd:FuncData}{ps:List Str}{sp:Sp}{fQ:List V}{ds:List Value}{E:XK}{x m:Str}{p pos apos:Pos}{e o:Expr}{es:List Expr}{ta:TE}{t:TA}
theorem Cn{pins:List (Addr × Obj)}{σ:St}{H:Hp}{s:Shared}{Q:VK}{us:List Value}{vs:List V}(F:aQ X.prog X.w X.K X.mg X.base CX k f fd ps sp)(hr:cM k X.A)(hb:Binds X.K fd ps ds)(hd:Vals fQ ds)(hx:mJ CX X E)
  (I:Inv X pins σ H s) (r:Vals vs us) (h:sp (vs++fQ) H Q E):wpAny (model X.prog X.w) X.A (call (.ref f) us) (EP X pins σ Q) X.xe s:=by
 have r2:Vals (vs++fQ) (us++ds):=r.append hd
 have hl:(us++ds).length=ps.length:=by rw[<-r2.length];exact F.len _ _ _ _ h
 refine wpAny_call (codeAny_mono (F.run X.A X.stack s H ⟨us,[]⟩ (us++ds) (vs++fQ) Q E hr I.zA (hb s us I.dG hl) r2 h) λr s' hq=>?_)
 cases r with
 | error e=>exact hx pins σ H s e s' I hq
 | ok fl =>
  cases fl with
  | ret u=>exact I.after hq
  | next=>exact gg hq
  | brk=>exact gg hq
  | cont=>exact gg hq
theorem tW(F:aQ X.prog X.w X.K X.mg X.base CX k f fd ps sp)(hr:cM k X.A)(hg:Gl X x)(hm:X.mg x=some (.ref f))(hk:PySem.W.keepIn X.K (.ref f)=true)(hb:Binds X.K fd ps ds)(hd:Vals fQ ds)(hx:mJ CX X E)
  (ha:PA X (e::es) t) (fi:(x==("__debug__":Str))=false:=by decide) (he:starEach (e::es) X.env=(false,eval e X.env)::starEach es X.env:=by rfl) (bS:(backTo pos (starEach es X.env)).any (·.1)=false:=by rfl) :
  PE X (.Call (.Name x p) (e::es) [] pos) (cQ6 sp fQ E t):=by
 intro pins s σ H Q I h
 refine wpAny_Call_Name_kw (B8 I hg hm ?_ fi)
 refine PySem.W.callWith_K (h₀:=X.base) I.ok.mod.nW hk (bc (ha pos pins s σ H _ I h) λus s1 ⟨vs,H1,I1,r,q⟩=>⟨I1.dG,?_⟩) he bS
 exact Cn F hr hb hd hx I1 r q
theorem cH0{pl:Sem Bool}(he:PE X o ta)(c:eK X.K C)(hm:Meth X.K C m f)(F:aQ X.prog X.w X.K X.mg X.base CX k f fd ps sp)(hr:cM k X.A)(hb:Binds X.K fd ps ds)(hd:Vals fQ ds)(hx:mJ CX X E)(ha:PA X (e::es) t)
  (dH:starEach (e::es) X.env=(false,eval e X.env)::starEach es X.env:=by rfl) (bS:(backTo pos (starEach es X.env)).any (·.1)=false:=by rfl)
  (ht:eval (.Call (.Attribute o m apos) (e::es) [] pos) X.env=(do
   let ov<-eval o X.env
   standAt apos.atName
   let (f,first)<-holding [ov] (getMethod ov m pl)
   callWith pos f first (backTo pos (starEach (e::es) X.env)) (backToKw pos (keywordEach [] X.env))):=by rfl) :
  PE X (.Call (.Attribute o m apos) (e::es) [] pos) (cS3 C m sp fQ E ta t):=by
 intro pins s σ H Q I h
 refine PySem.W.methodCall_KW (pl:=pl) (bc (he pins s σ H _ I h) λu s1 ⟨x,H1,I1,rx,a,dx,fs,ex,ea,l,q⟩=>?_) ht
 subst ex
 obtain rfl:u=fM a:=rx
 refine GR I1 ea c hm l ?_
 refine PySem.W.callWith_K (first:=[.ref a]) (h₀:=X.base) I.ok.mod.nW hm.kp (bc (ha pos pins s1 σ H1 _ I1 q) λus s2 ⟨vs,H2,I2,r,q2⟩=>⟨I2.dG,?_⟩) dH bS
 exact Cn (us:=.ref a::us) (vs:=.ref a::vs) F hr hb hd hx I2 (.cons rfl r) q2
structure Mk(K:PySem.W.Frag)(C f:Addr):Prop where
 makes:PySem.W.makesIn K C=true
 init:PySem.W.findIn K (.ref C) "__init__"=some (some (.ref f))
 fn:PySem.W.isFn K (.ref f)=true
 kp:PySem.W.keepIn K (.ref C)=true
theorem cj6{pins:List (Addr × Obj)}{σ:St}{H:Hp}{s:Shared}{Q:VK}{us:List Value}{vs:List V}(M:Mk X.K C f)(F:aQ X.prog X.w X.K X.mg X.base CX k f fd ps sp)(hr:cM (k+1) X.A)(hb:Binds X.K fd ps ds)(hd:Vals fQ ds)
  (hx:mJ CX X E) (I:Inv X pins σ H s) (r:Vals vs us)
  (h:∀x dx,H x=none->H dx=none->dx≠x->sp (.ref x::(vs++fQ)) (upd (upd H dx (.own x)) x (.ins C dx [])) (λv H2=>v=.ay/\Q (.ref x) H2) E) :
  wpAny (model X.prog X.w) X.A (call (.ref C) us) (EP X pins σ Q) X.xe s:=by
 have hq:=h (s.heap.objs.size+1) s.heap.objs.size (I.aO.fresh (Nat.le_succ _)) (I.aO.fresh (bN _)) (fA (BK _))
 have I2:=Inv.made (C:=C) I
 have r2:Vals (V.ref (s.heap.objs.size+1)::(vs++fQ)) (fM (s.heap.objs.size+1)::(us++ds)):=.cons rfl (r.append hd)
 have hl:(fM (s.heap.objs.size+1)::us++ds).length=ps.length:=by
  have e:=r2.length
  rw[F.len _ _ _ _ hq]at e
  exact e.symm
 refine wpAny_call (cj7 (f:=f) I.dG M.makes M.init (beq_iff_eq.mp M.fn) (codeAny_mono (F.run _ X.stack _ _ ⟨fM (s.heap.objs.size+1)::us,[]⟩ (fM (s.heap.objs.size+1)::(us++ds)) _ _ E (hr.make C us [])
  (I2.zA.make C us []) (hb _ (fM (s.heap.objs.size+1)::us) I2.dG hl) r2 hq) λr s' nX=>?_))
 cases r with
 | error e=>exact hx pins σ _ _ e s' I2 nX
 | ok fl =>
  cases fl with
  | ret u =>
   obtain⟨v,H',I3,rv,ev,q3⟩:=I2.after nX
   subst ev
   exact⟨rv,⟨V.ref (s.heap.objs.size+1),H',I3,rfl,q3⟩⟩
  | next=>exact gg nX
  | brk=>exact gg nX
  | cont=>exact gg nX
theorem cD2(M:Mk X.K C f)(F:aQ X.prog X.w X.K X.mg X.base CX k f fd ps sp)(hr:cM (k+1) X.A)(hg:Gl X x)(hm:X.mg x=some (.ref C))(hb:Binds X.K fd ps ds)(hd:Vals fQ ds)(hx:mJ CX X E)
  (ha:PA X (e::es) t) (fi:(x==("__debug__":Str))=false:=by decide) (he:starEach (e::es) X.env=(false,eval e X.env)::starEach es X.env:=by rfl) (bS:(backTo pos (starEach es X.env)).any (·.1)=false:=by rfl) :
  PE X (.Call (.Name x p) (e::es) [] pos) (cR0 C sp fQ E t):=by
 intro pins s σ H Q I h
 refine wpAny_Call_Name_kw (B8 I hg hm ?_ fi)
 refine PySem.W.callWith_K (h₀:=X.base) I.ok.mod.nW M.kp (bc (ha pos pins s σ H _ I h) λus s1 ⟨vs,H1,I1,r,q⟩=>⟨I1.dG,?_⟩) he bS
 exact cj6 M F hr hb hd hx I1 r q
end
section
variable{X:Cx}{CX:fh}{k:Nat}{f C:Addr}{fd:FuncData}{ps ks:List Str}{sp:Sp}{E:XK}{x m:Str}{p pos apos fr7:Pos}{e o:Expr}{es:List Expr}{kws:List Keyword}{te ta:TE}{t tk:TA}{nm:Option Str}
variable{g:List Value->List Value->List Value}{gV:List V->List V->List V}
end
structure bu(N P:List Str)(sc:Scope):Prop where
 kind:sc.kind=.function
 co:sc.isCoroutine=false
 gen:sc.isGenerator=false
 nd:N.Nodup
 pre:N.take P.length=P
 par:∀x∈P,sc.names.lookup x=some .local\/sc.names.lookup x=some .cell
 dr8:∀y∈sc.names,y.2≠.free
theorem SS{kindOf:Str->Option NameKind}{x:Str}:∀{binds:List (Str × Value)} {m:Str->Option Value},(∀v,(x,v) ∉ binds)->bindL kindOf binds m x=m x
 | [],_,_=>rfl
 | (n,v)::r,m,h=>by
  unfold bindL
  rw[SS λw hw=>h w (dZ _ hw)]
  split
  ·have:x≠n:=by rintro rfl;exact h v gb
   simp[this]
  ·rfl
theorem SU{kindOf:Str->Option NameKind}{x:Str}:∀{binds:List (Str × Value)} {m:Str->Option Value},(∀v,(x,v) ∉ binds)->bindC kindOf binds m x=m x
 | [],_,_=>rfl
 | (n,v)::r,m,h=>by
  unfold bindC
  rw[SU λw hw=>h w (dZ _ hw)]
  split
  ·rfl
  ·have:x≠n:=by rintro rfl;exact h v gb
   simp[this]
theorem SV{kindOf:Str->Option NameKind}{x:Str}{v:Value}:∀{P:List Str} {vs:List Value} {i:Nat} {m:Str->Option Value},P.Nodup->P[i]?=some x->vs[i]?=some v->kindOf x=some .local ->
  bindL kindOf (P.zip vs) m x=some v
 | [],_,_,_,_,h,_,_=>by simp at h
 | _::_,[],_,_,_,_,h,_=>by simp at h
 | p::P,w::vs,0,m,nd,h1,h2,hk=>by
  simp at h1 h2;subst h1;subst h2
  show bindL kindOf ((p,w)::P.zip vs) m p=_
  unfold bindL
  rw[SS λv hv=>(jk.mp nd).1 (sW hv).1,if_pos hk]
  simp
 | p::P,w::vs,i+1,m,nd,h1,h2,hk=>by
  show bindL kindOf ((p,w)::P.zip vs) m x=_
  unfold bindL
  exact SV (i:=i) (jk.mp nd).2 (by simpa using h1) (by simpa using h2) hk
theorem SW{kindOf:Str->Option NameKind}{x:Str}{v:Value}:∀{P:List Str} {vs:List Value} {i:Nat} {m:Str->Option Value},P.Nodup->P[i]?=some x->vs[i]?=some v->kindOf x≠some .local ->
  bindC kindOf (P.zip vs) m x=some v
 | [],_,_,_,_,h,_,_=>by simp at h
 | _::_,[],_,_,_,_,h,_=>by simp at h
 | p::P,w::vs,0,m,nd,h1,h2,hk=>by
  simp at h1 h2;subst h1;subst h2
  show bindC kindOf ((p,w)::P.zip vs) m p=_
  unfold bindC
  rw[SU λv hv=>(jk.mp nd).1 (sW hv).1,if_neg hk]
  simp
 | p::P,w::vs,i+1,m,nd,h1,h2,hk=>by
  show bindC kindOf ((p,w)::P.zip vs) m x=_
  unfold bindC
  exact SW (i:=i) (jk.mp nd).2 (by simpa using h1) (by simpa using h2) hk
def start(N:List Str)(vs:List V):St:=vs.map some++bG (N.length-vs.length) none
def jv(CX:fh)(P:Program)(w:World)(K:PySem.W.Frag)(mg:Str->Option Value)(base:Heap)(N:List Str)(qual:Str)(scope:Scope)(f:Addr)(cd:Value)(A:Around)(outer:List Env)(s:Shared)(H:Hp)(E:XK):Cx where
 prog:=P
 w:=w
 K:=K
 mg:=mg
 base:=base
 A:=A.deeper (envOfC qual scope s.heap.objs.size f cd)
 N:=N
 cW:=s
 kQ:=H
 env:=envOfC qual scope s.heap.objs.size f cd
 outer:=outer
 stack:=envOfC qual scope s.heap.objs.size f cd::outer
 ex:=[]
 calm:=true
 fn:=λ_=>true
 pn:=[]
 xe:=λe s'=>wpAny (model P w) (A.deeper (envOfC qual scope s.heap.objs.size f cd)) (leaving (envOfC qual scope s.heap.objs.size f cd) e) (λ_ tX=>CX outer H s E e tX) (λe' tX=>CX outer H s E e' tX) s'
theorem SX{sc:Scope}{n:Nat}{x:Str}(h:sc.names.lookup x=some .cell):∃c,(cellsFrom n sc.names []).lookup x=some c:=by
 have q:=PySem.W.cellsFrom_some sc.names n [] (.inl h)
 exact db5.mp q
theorem b84{CX:fh}{P:Program}{w:World}{K:PySem.W.Frag}{mg:Str->Option Value}{base:Heap}{N ps:List Str}{qual:Str}{scope:Scope}{f:Addr}{cd:Value}{A:Around}{outer:List Env}{s s1:Shared}{H:Hp}{E:XK}{us:List Value}{vs:List V}
  (S:bu N ps scope) (hd:A.handled=none) (e0:ju P w K mg base A outer s H) (hl:vs.length=ps.length) (r:Vals vs us)
  (x:InCallC s s.heap.objs.size (bindL (envOfC qual scope s.heap.objs.size f cd).kindOf (ps.zip us) λ_=>none) (cellsFrom (s.heap.objs.size+1) scope.names []) (bindC (envOfC qual scope s.heap.objs.size f cd).kindOf (ps.zip us) λ_=>none) s1) :
  Inv (jv CX P w K mg base N qual scope f cd A outer s H E) [] (start N vs) H s1:=by
 have bS:ps.length<=N.length:=by have:=congrArg FA S.pre;rw[ij]at this;omega
 obtain⟨h1,tk,rfl,hk⟩:=x.done
 have zB:∀b:Addr,b ∉ (jv CX P w K mg base N qual scope f cd A outer s H E).ex:=λb z=>absurd (show b∈([]:List Addr) from z) (by simp)
 refine⟨⟨e0.mod,S.kind,rfl,rfl,bN _,λy z c h1 h2=>?_,λy hy=>?_,λy c _ h=>?_,λ_=>hd,Around.frames_deeper e0.frames,.inr ⟨rfl,rfl⟩,λb z=>absurd z (zB b),e0.bs,e0.kq,λb _ _=>zB b,λb z=>absurd z (zB b),e0.gX,e0.kr⟩,
  rfl,e0.bare,Un.kept hk,⟨_,x.toInCall.ns,λi y v h1 h2 h3=>?_⟩,λy c h=>⟨_,x.cell y c h⟩,e0.aO.fresh (bN _),λy c h=>?_,λp hp=>absurd (show p∈([]:List (Addr × Obj)) from hp) (by simp),e0.aO.kept hk,?_⟩
 ·exact name_of_addr x.apart (PySem.mem_of_lookup h1) (PySem.mem_of_lookup h2)
 ·have hy:scope.names.lookup y=some .cell\/scope.names.lookup y=some .free:=hy
  rcases hy with hy | hy
  ·exact SX hy
  ·exact absurd rfl (S.dr8 _ (PySem.mem_of_lookup hy))
 ·exact BE (x.above y c (PySem.mem_of_lookup h))
 ·have hi:i<vs.length:=by
   unfold start at h2
   by_cases hi:i<vs.length
   ·exact hi
   ·rw[sX (by simpa using hi)]at h2
    rw[BL]at h2
    split at h2<;>cases h2
  have ha:vs[i]?=some v:=by
   unfold start at h2
   rw[sY (by simpa using hi),bQ]at h2
   cases e:vs[i]? with
   | none=>rw[e]at h2;cases h2
   | some a=>rw[e]at h2;cases h2;rfl
  obtain⟨u,hu,rv⟩:=r.get ha
  have hp:ps[i]?=some y:=by
   rw[<-S.pre,db6 (by omega)];exact h1
  have SY:ps.Nodup:=by rw[<-S.pre];exact S.nd.sublist (List.take_sublist _ _)
  refine⟨u,rv,?_⟩
  rcases S.par y (vq hp)with k | k
  ·exact .inl ⟨k,SV SY hp hu k⟩
  ·obtain⟨c,e⟩:=SX (n:=s.heap.objs.size+1) k
   refine .inr ⟨.inl k,c,e,?_⟩
   have q:=x.cell y c e
   rw[SW SY hp hu (by show scope.names.lookup y≠_;rw[k];decide)]at q
   exact q
 ·exact e0.aO.fresh (BE (x.above y c (PySem.mem_of_lookup h)))
 ·unfold start
  show _=N.length
  rw[dU,bt,p9]
  omega
theorem GU{CX:fh}{P:Program}{w:World}{K:PySem.W.Frag}{mg:Str->Option Value}{base:Heap}{k:Nat}{f:Addr}{name qual:Str}{params:Arguments}{body:List Stmt}{scope:Scope}{dV kV doc pm aI ct oc:Value}{an od:Option Addr}
  {mK:Array (Option Value)} {N ps:List Str} {sp:Sp} (lk:K.lookup f=some ⟨oc,od,.func (PySem.W.fnOf name qual params body scope dV kV doc pm an aI ct),mK⟩) (de:PySem.W.codeIn K aI qual=true) (S:bu N ps scope)
  (len:∀vs H Q E,sp vs H Q E->vs.length=ps.length)
  (iP:∀(A:Around) (outer:List Env) (s:Shared) (H:Hp) (vs:List V) (Q:VK) (E:XK),cM k (A.deeper (envOfC qual scope s.heap.objs.size f aI))->sp vs H Q E ->
   ∃t,PSs (jv CX P w K mg base N qual scope f aI A outer s H E) body t/\t { nx:=λ_ H'=>Q .ay H',rt:=Q } (start N vs) H) :
  aQ P w K mg base CX (k+1) f (PySem.W.fnOf name qual params body scope dV kV doc pm an aI ct) ps sp:=by
 refine⟨len,λA outer s H args us vs Q E hr e0 hb r jw=>?_⟩
 have hl:=len _ _ _ _ jw
 have KX:K.In s.heap:=e0.mod.nW.keeps λb o e=>(e0.bs b o e).1
 have lim:s.heap.NoLimit:=e0.mod.nolimit.keeps λb o e=>(e0.bs b o e).1
 have jx:∀y∈ps.zip us,scope.names.lookup y.1=some .local\/(scope.names.lookup y.1=some .cell/\((cellsFrom (s.heap.objs.size+1) scope.names []).lookup y.1).isSome=true):=λ⟨n,v⟩ hy=>by
  rcases S.par n (sW hy).1 with q | q
  ·exact .inl q
  ·exact .inr ⟨q,PySem.W.cellsFrom_some _ _ _ (.inl q)⟩
 refine codeAny_call_function hr.depth (KX _ _ lk) rfl S.co S.gen rfl (PySem.W.codeRec_of KX de) (hb _ _ _ _ ?_)
 refine wpAny_newFunctionEnv_cells S.kind jx λenv he s1 x=>?_
 subst he
 refine⟨lim.keeps x.toInCall.keep,codeAny_func ?_⟩
 obtain⟨t,ht,hq⟩:=iP A outer s H vs Q E (hr.deeper _) jw
 have I:Inv (jv CX P w K mg base N qual scope f aI A outer s H E) [] (start N vs) H s1:=b84 S hr.hd e0 hl r x
 refine wpAny_mono (ht [] s1 (start N vs) H _ I hq) (λfl s' hs=>?_) λe s' hs=>hs
 have fin:∀{aN:St} {H':Hp} {v:V} {u:Value},Inv (jv CX P w K mg base N qual scope f aI A outer s H E) [] aN H' s'->RelV v u->Q v H'->CE outer P w H s Q u s' :=
  λ{aN H' v u} J rv q=>⟨v,H',J.os,J.bare,J.base,J.aO,rv,q⟩
 cases fl with
 | ret u =>
  obtain⟨v,aN,H',J,rv,q⟩:=hs
  exact fin J rv q
 | next =>
  obtain⟨aN,H',J,q⟩:=hs
  exact fin (v:=V.ay) (u:=sU) J rfl q
 | brk =>
  obtain⟨_,_,_,q⟩:=hs
  exact gg q
 | cont =>
  obtain⟨_,_,_,q⟩:=hs
  exact gg q
end L2
namespace L2
open PySem PySem.Spec PyProof.Rows
section
variable{X:Cx}{x:Str}{p pos:Pos}{e:Expr}{es:List Expr}{t:TA}{id T:String}{r:List V->Hp->VK->Prop}
def GV(r:List V->Hp->VK->Prop)(t:TA):TE:=λσ H Q=>t σ H λvs H1=>r vs H1 Q
theorem S0(hc:g5 X (.builtin id) r)(hg:Gl X x)(hm:X.mg x=none)(hv:bootBuiltins x=some (.builtin id))(ha:PA X (e::es) t)(hn:x≠"__name__":=by decide)(fi:(x==("__debug__":Str))=false:=by decide)
  (he:starEach (e::es) X.env=(false,eval e X.env)::starEach es X.env:=by rfl) (bS:(backTo pos (starEach es X.env)).any (·.1)=false:=by rfl):PE X (.Call (.Name x p) (e::es) [] pos) (GV r t):=by
 intro pins s σ H Q I h
 refine wpAny_Call_Name_kw (by4 I hg hm hv ?_ hn fi)
 exact PyProof.Rows.callWith_builtin1 (bc (ha pos pins s σ H _ I h) λus s1 ⟨vs,H1,I1,r1,q1⟩=>hc pins s1 σ H1 vs us Q I1 r1 q1) he bS
theorem ca4(hc:g5 X (.type T) r)(hg:Gl X x)(hm:X.mg x=none)(hv:bootBuiltins x=some (.type T))(ha:PA X (e::es) t)(hn:x≠"__name__":=by decide)(fi:(x==("__debug__":Str))=false:=by decide)
  (he:starEach (e::es) X.env=(false,eval e X.env)::starEach es X.env:=by rfl) (bS:(backTo pos (starEach es X.env)).any (·.1)=false:=by rfl):PE X (.Call (.Name x p) (e::es) [] pos) (GV r t):=by
 intro pins s σ H Q I h
 refine wpAny_Call_Name_kw (by4 I hg hm hv ?_ hn fi)
 exact BH (bc (ha pos pins s σ H _ I h) λus s1 ⟨vs,H1,I1,r1,q1⟩=>hc pins s1 σ H1 vs us Q I1 r1 q1) he bS
end
end L2
namespace HT
open PySem PyProof.Rows
section
open PySem.SeqAt
open PySem.AutoSeq1 (wpAny_loadPart')
open PySem.MeetsSeq PySem.MeetsSeq2 PySem.MeetsSeq3
end
section
variable{prog:Program}{w:World}{A:Around}{E:Value->Shared->Prop}{s:Shared}
def dq(n d:Nat):Option Int->Nat
 | none=>d
 | some v=>if v<0 then(v+(n:Int)).toNat else min v.toNat n
theorem GW(n d k:Nat):dq n d (some (k:Int))=min k n:=by
 show(if(k:Int)<0 then((k:Int)+(n:Int)).toNat else min (k:Int).toNat n)=min k n
 rw[if_neg (by omega),fP]
end
end HT
namespace L2
open PySem PySem.Spec PyProof.Rows
abbrev TO:=St->Hp->(Option Int->Hp->Prop)->Prop
def PO(X:Cx)(e:Option Expr)(t:TO):Prop :=
 ∀(pins:List (Addr × Obj)) (s:Shared) (σ:St) (H:Hp) (Q:Option Int->Hp->Prop),Inv X pins σ H s->t σ H Q ->
  wpAny (model X.prog X.w) X.A (evalPart e X.env) (λu s'=>∃o H',Inv X pins σ H' s'/\IsPart u o/\Q o H') X.xe s
def cC7:TO:=λ_ H Q=>Q none H
def cV5(t:TE):TO:=λσ H Q=>t σ H λx H1=>∃i,x=.int i/\Q (some i) H1
theorem bU8{ns:List Int}:∀{us:List Value},Vals (ns.map V.int) us->IntsAre us ns:=by
 induction ns with
 | nil=>intro us r;rw[jN]at r;cases r;exact .nil
 | cons n ns ih =>
  intro us r
  rw[dF]at r
  cases r with
  | cons r1 r2 =>
   obtain⟨t,e⟩:=r1
   subst e
   exact .cons n t (ih r2)
section
variable{X:Cx}{e:Expr}{te:TE}{lo hi:Option Expr}{tl th:TO}{pos p2:Pos}
theorem cC4:PO X none cC7:=by
 intro pins s σ H Q I h
 rw[evalPart_none]
 exact wpAny_pure ⟨none,H,I,.none,h⟩
theorem cF4(h:PE X e te):PO X (some e) (cV5 te):=by
 intro pins s σ H Q I hw
 rw[evalPart_some]
 refine bc (h pins s σ H _ I hw) λu s1 ⟨x,H1,I1,r1,q1⟩=>?_
 obtain⟨i,rfl,q⟩:=q1
 obtain⟨t,rfl⟩:=r1
 exact⟨some i,H1,I1,.int i t,q⟩
def tY(X:Cx)(r:V->Option Int->Option Int->Hp->VK->Prop):Prop :=
 ∀(pins:List (Addr × Obj)) (s:Shared) (σ:St) (H:Hp) (x:V) (v vl vu:Value) (lo hi:Option Int) (sl:Addr) (Q:VK),Inv X pins σ H s->RelV x v->s.heap.IsSliceOf sl vl vu .none->IsPart vl lo->IsPart vu hi->r x lo hi H Q ->
  ∃T id,typeLookup (.type T) "__getitem__"=pure (some (.builtin id))/\s.TypeIs v T/\wpAny (model X.prog X.w) X.A (getItem v (.ref sl)) (EP X pins σ Q) X.xe s
theorem tY.or{r r':V->Option Int->Option Int->Hp->VK->Prop}(h:tY X r)(h':tY X r'):tY X (λx lo hi H Q=>r x lo hi H Q\/r' x lo hi H Q):=by
 intro pins s σ H x v vl vu lo hi sl Q I rx hs pl pu q
 rcases q with q | q
 ·exact h pins s σ H x v vl vu lo hi sl Q I rx hs pl pu q
 ·exact h' pins s σ H x v vl vu lo hi sl Q I rx hs pl pu q
def tSl(r:V->Option Int->Option Int->Hp->VK->Prop)(te:TE)(tl th:TO):TE:=λσ H Q=>te σ H λx H1=>tl σ H1 λl H2=>th σ H2 λu H3=>r x l u H3 Q
theorem cn7{r:V->Option Int->Option Int->Hp->VK->Prop}(hr:tY X r)(he:PE X e te)(hl:PO X lo tl)(hu:PO X hi th):PE X (.Subscript e (.Slice lo hi none p2) pos) (tSl r te tl th):=by
 intro pins s σ H Q I h
 refine Subscript_ (bc (he pins s σ H _ I h) λv s1 ⟨x,H1,I1,r1,q1⟩=>?_)
 refine wpAny_Slice (bc (hl pins s1 σ H1 _ I1 q1) λvl s2 ⟨l,H2,I2,pl,q2⟩=>bc (hu pins s2 σ H2 _ I2 q2) λvu s3 ⟨u,H3,I3,pu,q3⟩=>?_)
 rw[evalPart_none]
 refine wpAny_pure ?_
 have I4:Inv X pins σ H3 { s3 with heap:=s3.heap.push { cls:=.type "slice",data:=.fields #[vl,vu,.none] } }:=I3.kept (t':=s3.toks) λb ob q=>fO _ q
 obtain⟨T,id,hT,ht,hg⟩:=hr pins { s3 with heap:=s3.heap.push { cls:=.type "slice",data:=.fields #[vl,vu,.none] } } σ H3 x v vl vu l u s3.heap.objs.size Q I4 r1 (Heap.IsSliceOf.new ..) pl pu q3
 show wpAny (model X.prog X.w) X.A (subscriptTail e (.Slice lo hi none p2) v (.ref s3.heap.objs.size)) (EP X pins σ Q) X.xe { s3 with heap:=s3.heap.push { cls:=.type "slice",data:=.fields #[vl,vu,.none] } }
 exact tail_any (ops:=[.ref s3.heap.objs.size,v]) ht hT hg (by with_unfolding_all rfl)
def vO(xs:List V)(lo hi:Option Int):List V:=(xs.drop (HT.dq xs.length 0 lo)).take (HT.dq xs.length xs.length hi-HT.dq xs.length 0 lo)
theorem bP4(xs:List V)(lo hi:Option Int):(vO xs lo hi).length<=xs.length:=by
 unfold vO
 rw[ij,jl]
 omega
end
end L2
namespace L2
open PySem PySem.Spec PyProof.Rows
def iQ(n:Nat)(i:Int):Option Nat:=if 0<=i then(if i<n then some i.toNat else none)else if -(n:Int)<=i then some (i+n).toNat else none
def eM{α:Type}(xs:List α)(i:Int):Option α:=(iQ xs.length i).bind λj=>xs[j]?
theorem S1{n:Nat}{i:Int}{j:Nat}(h:iQ n i=some j):seqIndex? i n=some j/\j<n/\-(n:Int)<=i/\i<n:=by
 unfold iQ at h
 by_cases h0:0<=i
 ·rw[if_pos h0]at h
  by_cases h1:i<n
  ·rw[if_pos h1]at h
   have e:i.toNat=j:=cU h
   exact⟨by rw[seqIndex_of h0 h1,e],by omega,by omega,h1⟩
  ·rw[if_neg h1]at h;cases h
 ·rw[if_neg h0]at h
  by_cases h1:-(n:Int)<=i
  ·rw[if_pos h1]at h
   have e:(i+n).toNat=j:=cU h
   exact⟨by rw[seqIndex_neg (by omega) h1,e],by omega,h1,by omega⟩
  ·rw[if_neg h1]at h;cases h
theorem qv{α:Type}{xs:List α}{i:Int}{v:α}(h:eM xs i=some v):∃j,seqIndex? i xs.length=some j/\xs[j]?=some v/\j<xs.length/\-(xs.length:Int)<=i/\i<xs.length:=by
 unfold eM at h
 cases e:iQ xs.length i with
 | none=>rw[e]at h;cases h
 | some j =>
  rw[e]at h
  obtain⟨h1,h2,h3,h4⟩:=S1 e
  exact⟨j,h1,h,h2,h3,h4⟩
def S2(b:Expr):Prop:=∀o i,subscripted b false o i=operate [o,i] (getItem o i)
def nY(X:Cx)(r:R2):Prop :=
 ∀(value slice:Expr) (pins:List (Addr × Obj)) (s:Shared) (σ:St) (H:Hp) (x y:V) (v u:Value) (Q:VK),Inv X pins σ H s->RelV x v->RelV y u->r x y H Q ->
  subscripted slice false v u=operate [v,u] (getItem v u)->wpAny (model X.prog X.w) X.A (subscriptTail value slice v u) (EP X pins σ Q) X.xe s
def Co(X:Cx)(id:String)(r:V->List V->Hp->VK->Prop):Prop :=
 ∀(pins:List (Addr × Obj)) (s:Shared) (σ:St) (H:Hp) (x:V) (xs:List V) (v:Value) (us:List Value) (Q:VK),Inv X pins σ H s->RelV x v->Vals xs us->r x xs H Q ->
  wpAny (model X.prog X.w) X.A (call (.builtin id) (v::us)) (EP X pins σ Q) X.xe s
section
variable{X:Cx}{a b:Expr}{ta tb:TE}{pos:Pos}
theorem nY.or{r r':R2}(h:nY X r)(h':nY X r'):nY X (λx y H Q=>r x y H Q\/r' x y H Q):=by
 intro value slice pins s σ H x y v u Q I rx ry q hs
 rcases q with q | q
 ·exact h value slice pins s σ H x y v u Q I rx ry q hs
 ·exact h' value slice pins s σ H x y v u Q I rx ry q hs
theorem cV8{r:R2}(hr:nY X r)(ha:PE X a ta)(hb:PE X b tb)(hs:S2 b):PE X (.Subscript a b pos) (zw r ta tb):=by
 intro pins s σ H Q I h
 exact Subscript_ (GN ha hb I h λv u s2 x y H2 I2 rx ry q=>hr a b pins s2 σ H2 x y v u Q I2 rx ry q (hs _ _))
def S3(K:PySem.W.Frag):R2:=λx y H Q=>∃p xs i v,x=.ref p/\y=.int i/\bR K H p xs/\eM xs i=some v/\Q v H
def S4(K:PySem.W.Frag):R2:=λx y H Q=>∃p xs i v,x=.ref p/\y=.int i/\ir K H p xs/\eM xs i=some v/\Q v H
def S5:R2:=λx y H Q=>∃z i c,x=.str z/\y=.int i/\z.length<=sizeLine/\eM z.cps.toList i=some c/\Q (.str ⟨#[c]⟩) H
theorem dt0:nY X (S3 X.K):=by
 intro value slice pins s σ H x y v u Q I rx ry h hs
 obtain⟨p,xs,i,z,rfl,rfl,hq,he,q⟩:=h
 cases rx
 obtain⟨t,rfl⟩:=ry
 obtain⟨its,r,pl,hz⟩:=I.list hq
 obtain⟨j,h1,h2,h3,h4,h5⟩:=qv he
 obtain⟨w,ew,gB⟩:=r.get h2
 have hl:=r.length
 have hn:=vN
 have fin:EP X pins σ Q w s:=⟨z,H,I,gB,q⟩
 by_cases h0:0<=i
 ·have hj:i.toNat=j:=by
   rw[seqIndex_of h0 h5]at h1
   exact cU h1
  exact item_listR pl.isList h0 (by omega) (by rw[hj];simpa using ew) fin hs
 ·have hj:(i+(its.toArray.size:Int)).toNat=j:=by
   rw[seqIndex_neg (by omega) h4]at h1
   rw[dP,<- hl]
   exact cU h1
  exact subscriptTail_builtinR (x:=w) pl.isList.typeIs slot_list_getitem.lookup
   (wpAny_getItem_list_neg (Q:=λr s'=>r=w/\EP X pins σ Q r s') pl.isList (by omega) (by rw[dP]<;>omega) (by omega) (by rw[hj];simpa using ew) ⟨rfl,fin⟩) hs
theorem dt1:nY X (S4 X.K):=by
 intro value slice pins s σ H x y v u Q I rx ry h hs
 obtain⟨p,xs,i,z,rfl,rfl,hq,he,q⟩:=h
 cases rx
 obtain⟨t,rfl⟩:=ry
 obtain⟨its,r,pl,hz⟩:=I.tuple hq
 obtain⟨j,h1,h2,h3,h4,h5⟩:=qv he
 obtain⟨w,ew,gB⟩:=r.get h2
 have hl:=r.length
 have hn:=vN
 have fin:EP X pins σ Q w s:=⟨z,H,I,gB,q⟩
 exact subscriptTail_builtinR (x:=w) pl.typeIs slot_tuple_getitem.lookup
  (getItem_tuple (j:=j) (Q:=λr s'=>r=w/\EP X pins σ Q r s') pl (by omega) (by omega) (by rw[dP,<- hl];exact h1) (by simpa using ew) ⟨rfl,fin⟩) hs
theorem cQ1:nY X S5:=by
 intro value slice pins s σ H x y v u Q I rx ry h hs
 obtain⟨z,i,c,rfl,rfl,hz,he,q⟩:=h
 obtain⟨t,rfl⟩:=rx
 obtain⟨t',rfl⟩:=ry
 obtain⟨j,h1,h2,h3,h4,h5⟩:=qv he
 have hl:z.cps.toList.length=z.length:=by simp[Str.length]
 rw[hl]at h1 h4 h5
 have hn:=vN
 exact tail_any (typeIs_str s z t) slot_str_getitem.lookup (getItem_str (c:=c) (by
  have e1:decide (i < -(2 ^ 63:Int))=false:=decide_eq_false (by omega)
  have e2:decide (i ≥ 2 ^ 63)=false:=decide_eq_false (by omega)
  rw[e1,e2,sZ]) (by rw[h1];simpa using h2) ⟨.str ⟨#[c]⟩,H,I.tok _,⟨_,rfl⟩,q⟩) hs
def rIx(K:PySem.W.Frag):R2:=λx y H Q=>S3 K x y H Q\/S4 K x y H Q\/S5 x y H Q
theorem cM6:nY X (rIx X.K):=dt0.or (dt1.or cQ1)
theorem bX1(its:List Value)(n j:Nat)(u:Value):BM (·.setIfInBounds j u) { cls:=.type "list",data:=.seq its.toArray n }={ cls:=.type "list",data:=.seq (its.set j u).toArray n }:=by
 simp[BM]
theorem Inv.lst{pins:List (Addr × Obj)}{σ:St}{H:Hp}{s:Shared}{p:Addr}{xs:List V}(I:Inv X pins σ H s)(h:H p=some (.lst xs)) :
  ∃(its:List Value) (n:Nat),Vals xs its/\s.heap.get? p=some { cls:=.type "list",data:=.seq its.toArray n }/\xs.length<=sizeLine:=by
 obtain⟨z,its,n,r,e⟩:=I.aO p _ h
 exact⟨its,n,r,e,z⟩
theorem Inv.dt6{pins:List (Addr × Obj)}{σ:St}{H:Hp}{s:Shared}{p:Addr}{xs ys:List V}{its its':List Value}{n n':Nat}{f:Obj->Obj}(I:Inv X pins σ H s)(h:H p=some (.lst xs))
  (ho:s.heap.get? p=some { cls:=.type "list",data:=.seq its.toArray n }) (hf:f { cls:=.type "list",data:=.seq its.toArray n }={ cls:=.type "list",data:=.seq its'.toArray n' }) (r:Vals ys its') (hz:ys.length<=sizeLine) (t:Nat) :
  Inv X pins σ (upd H p (.lst ys)) { s with heap:=s.heap.update p f,toks:=t }:=by
 have e:(s.heap.update p f).get? p=some { cls:=.type "list",data:=.seq its'.toArray n' }:=by
  rw[FC f ho (by rw[hf]<;>rfl),hf]
 refine I.write (x:=p) (e:=p) (by rw[h];trivial) (.inl rfl) (λb u hb q=>(s8 _ _ (fB hb)).trans q) ⟨_,e⟩ ?_
 exact⟨hz,its',n',r,e⟩
def cW1:V->V->V->Hp->(Hp->Prop)->Prop:=λo i v H Q=>∃p xs k j,o=.ref p/\i=.int k/\H p=some (.lst xs)/\iQ xs.length k=some j/\Q (upd H p (.lst (xs.set j v)))
theorem ci7:Sy X cW1:=by
 intro pins s σ H o i v ov iv u Q I ro ri rv h
 obtain⟨p,xs,k,j,rfl,rfl,hp,hj,q⟩:=h
 cases ro
 obtain⟨t,rfl⟩:=ri
 obtain⟨its,n,r,ho,hz⟩:=I.lst hp
 obtain⟨h1,h2,h3,h4⟩:=S1 hj
 have hl:=r.length
 have hn:=vN
 have I':Inv X pins σ (upd H p (.lst (xs.set j v))) { s with heap:=s.heap.update p (BM (·.setIfInBounds j u)) } :=
  I.dt6 hp ho (bX1 its n j u) (r.set rv j) (by rw[nI];exact hz) s.toks
 by_cases h0:0<=k
 ·have hk:k.toNat=j:=by
   rw[seqIndex_of h0 h4]at h1
   exact cU h1
  exact PySem.W.ki_setAt ho h0 (by omega) (by rw[dP,<- hl];exact h4) (by rw[hk];exact⟨_,I',q⟩)
 ·have hk:(k+(its.toArray.size:Int)).toNat=j:=by
   rw[seqIndex_neg (by omega) h3]at h1
   rw[dP,<- hl]
   exact cU h1
  exact PySem.W.ki_setBack ho (by omega) (by rw[dP,<- hl];exact h3) (by omega) (by rw[hk];exact⟨_,I',q⟩)
theorem GX(lo hi:Option Int)(n:Nat):(sliceBounds lo hi none n).1=((HT.dq n 0 lo:Nat):Int)/\(sliceBounds lo hi none n).2.1=((HT.dq n n hi:Nat):Int)/\(sliceBounds lo hi none n).2.2=1:=by
 refine⟨?_,?_,rfl⟩
 ·cases lo with
  | none=>simp[sliceBounds,HT.dq]
  | some i =>
   simp only[sliceBounds,HT.dq,qa,show(1:Int)>0 by decide,if_true]
   by_cases h:i<0
   ·simp only[h,if_true]<;>omega
   ·simp only[h,if_false]<;>omega
 ·cases hi with
  | none=>simp[sliceBounds,HT.dq]
  | some i =>
   simp only[sliceBounds,HT.dq,qa,show(1:Int)>0 by decide,if_true]
   by_cases h:i<0
   ·simp only[h,if_true]<;>omega
   ·simp only[h,if_false]<;>omega
theorem bG3(its:List Value)(lo hi:Option Int):slicePick its.toArray lo hi none=((its.drop (HT.dq its.length 0 lo)).take (HT.dq its.length its.length hi-HT.dq its.length 0 lo)).toArray:=by
 obtain⟨h1,h2,h3⟩:=GX lo hi its.toArray.size
 unfold slicePick
 rw[h1,h2,h3]
 simp only[sliceRange_one,pick_run,dP]<;>rfl
def cY8(K:PySem.W.Frag):V->Option Int->Option Int->Hp->VK->Prop:=λx lo hi H Q=>∃a xs,x=.ref a/\bR K H a xs/\∀p,H p=none->Q (.ref p) (upd H p (.lst (vO xs lo hi)))
theorem du1:tY X (cY8 X.K):=by
 intro pins s σ H x v vl vu lo hi sl Q I rx hs pl pu h
 obtain⟨a,xs,rfl,hx,q⟩:=h
 cases rx
 obtain⟨its,r,ht,hz⟩:=I.list hx
 have hlen:=r.length
 refine⟨"list",_,slot_list_getitem.lookup,ht.isList.typeIs,?_⟩
 refine wpAny_getItem_list_slice ht.isList hs pl pu .none (by simp) ?_ (by rw[dP]<;>omega)
 rw[bG3,<- hlen]
 refine⟨.ref s.heap.objs.size,_,I.laid (t':=s.toks) (o:=.lst (vO xs lo hi)) (λb ob q=>fO _ q) (bN _) ?_,rfl,q _ (I.aO.fresh (bN _))⟩
 exact⟨eH (bP4 xs lo hi) hz,_,0,(r.drop (HT.dq xs.length 0 lo)).take (HT.dq xs.length xs.length hi-HT.dq xs.length 0 lo),gR _ rfl⟩
def mL:V->Bool
 | .ay=>true
 | .bl _=>true
 | .int _=>true
 | .str _=>true
 | _=>false
def kB:V->V->Bool
 | .ay,.ay=>true
 | .bl a,.bl b=>a==b
 | .bl a,.int b=>(if a then 1 else 0)==b
 | .int a,.bl b=>a==(if b then 1 else 0)
 | .int a,.int b=>a==b
 | .str a,.str b=>a==b
 | _,_=>false
theorem cP2{A:Around}{s:Shared}{y x:V}{u v:Value}(ry:RelV y u)(rx:RelV x v)(fy:mL y=true)(fx:mL x=true):FD A s u v (kB y x):=by
 cases y with
 | ay =>
  cases ry
  cases x with
  | ay=>cases rx;exact SeqAt.EqAt.same _
  | bl b=>cases rx;exact SeqAt.EqAt.none_bool b
  | int b=>obtain⟨t,rfl⟩:=rx;exact SeqAt.EqAt.none_int b t
  | str b=>obtain⟨t,rfl⟩:=rx;exact SeqAt.EqAt.none_str b t
  | _=>exact absurd (show false=true from fx) gh
 | bl a =>
  cases ry
  cases x with
  | ay=>cases rx;exact SeqAt.EqAt.bool_none a
  | bl b=>cases rx;exact SeqAt.EqAt.bool_bool a b
  | int b=>obtain⟨t,rfl⟩:=rx;exact SeqAt.EqAt.bool_int a b t
  | str b=>obtain⟨t,rfl⟩:=rx;exact SeqAt.EqAt.bool_str a b t
  | _=>exact absurd (show false=true from fx) gh
 | int a =>
  obtain⟨t',rfl⟩:=ry
  cases x with
  | ay=>cases rx;exact SeqAt.EqAt.int_none a t'
  | bl b=>cases rx;exact SeqAt.EqAt.int_bool a t' b
  | int b=>obtain⟨t,rfl⟩:=rx;exact SeqAt.EqAt.int_int a t' b t
  | str b=>obtain⟨t,rfl⟩:=rx;exact SeqAt.EqAt.int_str a t' b t
  | _=>exact absurd (show false=true from fx) gh
 | str a =>
  obtain⟨t',rfl⟩:=ry
  cases x with
  | ay=>cases rx;exact SeqAt.EqAt.str_none a t'
  | bl b=>cases rx;exact SeqAt.EqAt.str_bool a t' b
  | int b=>obtain⟨t,rfl⟩:=rx;exact SeqAt.EqAt.str_int a t' b t
  | str b=>obtain⟨t,rfl⟩:=rx;exact SeqAt.EqAt.str_str a t' b t
  | _=>exact absurd (show false=true from fx) gh
 | _=>exact absurd (show false=true from fy) gh
def iS(x:V)(u:Value):Bool:=match u with
 | .none=>kB .ay x
 | .bool b=>kB (.bl b) x
 | .int i _=>kB (.int i) x
 | .str z _=>kB (.str z) x
 | _=>false
theorem S6{x y:V}{u:Value}(r:RelV y u)(f:mL y=true):iS x u=kB y x:=by
 cases y with
 | ay=>cases r;rfl
 | bl b=>cases r;rfl
 | int i=>obtain⟨t,rfl⟩:=r;rfl
 | str z=>obtain⟨t,rfl⟩:=r;rfl
 | _=>exact absurd (show false=true from f) gh
theorem zC{x:V}:∀{xs:List V} {us:List Value},Vals xs us->xs.all mL=true->us.any (iS x)=xs.any λy=>kB y x
 | _,_,.nil,_=>rfl
 | y::xs,u::us,.cons r t,f=>by
  rw[dW,eR]at f
  rw[List.any_cons,List.any_cons,S6 r f.1,zC t f.2]
theorem zD{A:Around}{s:Shared}{x:V}{v:Value}(rx:RelV x v)(fx:mL x=true):∀{xs:List V} {us:List Value},Vals xs us->xs.all mL=true->∀u∈us,FD A s u v (iS x u)
 | _,_,.nil,_=>λu hu=>by cases hu
 | y::xs,u::us,.cons r t,f=>λu' hu=>by
  rw[dW,eR]at f
  rcases cB.mp hu with rfl | hu
  ·rw[S6 r f.1];exact cP2 r rx f.1 fx
  ·exact zD rx fx t f.2 u' hu
def tZ(x:V)(xs:List V):Bool:=xs.any λy=>kB y x
def S7(K:PySem.W.Frag)(neg:Bool):R2:=λx y H Q=>∃p xs,y=.ref p/\(bR K H p xs\/ir K H p xs)/\mL x=true/\xs.all mL=true/\Q (.bl (if neg then !tZ x xs else tZ x xs)) H
theorem b86:cL X (compareOp .In) (S7 X.K false):=by
 intro pins s σ H x y v u Q I rx ry h
 obtain⟨p,xs,rfl,hq,fx,fs,q⟩:=h
 cases ry
 rcases hq with hq | hq
 ·obtain⟨its,r,pl,hz⟩:=I.list hq
  refine SeqAt.in_listAt (iS x) pl.isList (λw hw=>zD rx fx r fs w (by simpa using hw)) ⟨.bl _,H,I,rfl,?_⟩
  rw[show its.toArray.any (iS x)=its.any (iS x) by simp,zC r fs]
  exact q
 ·obtain⟨its,r,pl,hz⟩:=I.tuple hq
  refine SeqAt.in_tupleAt (iS x) pl (λw hw=>zD rx fx r fs w (by simpa using hw)) ⟨.bl _,H,I,rfl,?_⟩
  rw[show its.toArray.any (iS x)=its.any (iS x) by simp,zC r fs]
  exact q
theorem bJ8:cL X (compareOp .NotIn) (S7 X.K true):=by
 intro pins s σ H x y v u Q I rx ry h
 obtain⟨p,xs,rfl,hq,fx,fs,q⟩:=h
 cases ry
 rcases hq with hq | hq
 ·obtain⟨its,r,pl,hz⟩:=I.list hq
  refine SeqAt.notIn_listAt (iS x) pl.isList (λw hw=>zD rx fx r fs w (by simpa using hw)) ⟨.bl _,H,I,rfl,?_⟩
  rw[show its.toArray.any (iS x)=its.any (iS x) by simp,zC r fs]
  exact q
 ·obtain⟨its,r,pl,hz⟩:=I.tuple hq
  refine SeqAt.notIn_tupleAt (iS x) pl (λw hw=>zD rx fx r fs w (by simpa using hw)) ⟨.bl _,H,I,rfl,?_⟩
  rw[show its.toArray.any (iS x)=its.any (iS x) by simp,zC r fs]
  exact q
theorem du5:g5 X (.builtin "len") (λxs H Q=>∃p ys,xs=[.ref p]/\(bR X.K H p ys\/ir X.K H p ys)/\Q (.int ys.length) H):=by
 intro pins s σ H xs us Q I r h
 obtain⟨p,ys,rfl,hq,q⟩:=h
 obtain⟨u,rfl,rx⟩:=GP r
 cases rx
 have hn:=vN
 rcases hq with hq | hq
 ·obtain⟨its,r',pl,hz⟩:=I.list hq
  have hlen:=r'.length
  exact Calls.call_len_list pl.isList (by simp only[dP]<;>omega) ⟨.int ys.length,H,I.tok _,⟨s.toks+1,by rw[dP,hlen]⟩,q⟩
 ·obtain⟨its,r',pl,hz⟩:=I.tuple hq
  have hlen:=r'.length
  exact len_tuple pl (by simp only[dP]<;>omega) ⟨.int ys.length,H,I.tok _,⟨s.toks+1,by rw[dP,hlen]⟩,q⟩
theorem bH8:g5 X (.builtin "len") (λxs H Q=>∃z,xs=[.str z]/\z.length<=sizeLine/\Q (.int z.length) H):=by
 intro pins s σ H xs us Q I r h
 obtain⟨z,rfl,hz,q⟩:=h
 obtain⟨u,rfl,t,rfl⟩:=GP r
 have hn:=vN
 exact len_str (by omega) ⟨.int z.length,H,I.tok _,⟨_,rfl⟩,q⟩
theorem g5.or{f:Value}{r r':List V->Hp->VK->Prop}(h:g5 X f r)(h':g5 X f r'):g5 X f (λxs H Q=>r xs H Q\/r' xs H Q):=by
 intro pins s σ H xs us Q I rs q
 rcases q with q | q
 ·exact h pins s σ H xs us Q I rs q
 ·exact h' pins s σ H xs us Q I rs q
theorem bI2:g5 X (.type "list") (λxs H Q=>∃p ys,xs=[.ref p]/\(bR X.K H p ys\/ir X.K H p ys)/\∀l,H l=none->Q (.ref l) (upd H l (.lst ys))):=by
 intro pins s σ H xs us Q I r h
 obtain⟨p,ys,rfl,hq,q⟩:=h
 obtain⟨u,rfl,rx⟩:=GP r
 cases rx
 have fin:∀(its:List Value),Vals ys its->ys.length<=sizeLine->∀(h':Heap) (c':Nat),(∀b o',s.heap.get? b=some o'->h'.get? b=some o') ->
   h'.get? s.heap.objs.size=some { cls:=.type "list",dict:=none,data:=.seq its.toArray c',slots:=#[] }->EP X pins σ Q (.ref s.heap.objs.size) { s with heap:=h' }:=λits r' hz h' c' kp e =>
  ⟨.ref s.heap.objs.size,_,I.laid (t':=s.toks) kp (bN _) (show eI X.prog X.w _ h' _ (.lst ys) from⟨hz,its,c',r',e⟩),rfl,q _ (I.aO.fresh (bN _))⟩
 rcases hq with hq | hq
 ·obtain⟨its,r',pl,hz⟩:=I.list hq
  have hlen:=r'.length
  obtain⟨o,ho,hc,n,hd⟩:=pl.isList
  exact call_list_seq p (.inl rfl) ho hc hd (λh' c' kp e=>fin its r' hz h' c' kp e) (by simp only[dP]<;>omega)
 ·obtain⟨its,r',pl,hz⟩:=I.tuple hq
  have hlen:=r'.length
  obtain⟨o,ho,hc,n,hd⟩:=pl
  exact call_list_seq p (.inr rfl) ho hc hd (λh' c' kp e=>fin its r' hz h' c' kp e) (by simp only[dP]<;>omega)
def GY(K:PySem.W.Frag)(T:String)(x:V)(H:Hp):Prop:=match x with
 | .str _=>T="str"
 | .int _=>T="int"
 | .ref p=>(T="list"/\∃xs,bR K H p xs)\/(T="tuple"/\∃o,K.lookup p=some o/\o.cls=.type "tuple"/\o.dict=none) \/
   (T="dict"/\((∃dQ,H p=some (.dK dQ))\/∃dQ,H p=some (.dT dQ)))\/(T="set"/\∃S n,H p=some (.set S n))
 | _=>False
theorem S8{pins:List (Addr × Obj)}{σ:St}{H:Hp}{s:Shared}{T:String}{x:V}{v:Value}(I:Inv X pins σ H s)(r:RelV x v)(ty:GY X.K T x H) :
  s.TypeIs v T/\∀a,v=.ref a->∃ob,s.heap.get? a=some ob/\ob.dict=none:=by
 cases x with
 | str z =>
  obtain⟨t,rfl⟩:=r
  cases(show T="str" from ty)
  exact⟨typeIs_str s z t,λ_ e=>nomatch e⟩
 | int i =>
  obtain⟨t,rfl⟩:=r
  cases(show T="int" from ty)
  exact⟨typeIs_int s i t,λ_ e=>nomatch e⟩
 | ref p =>
  cases r
  rcases ty with⟨rfl,xs,hq⟩ | ⟨rfl,o,hk,hc,hd⟩ | ⟨rfl,hk⟩ | ⟨rfl,S,n,hk⟩
  ·obtain⟨its,_,pl,_⟩:=I.list hq
   refine⟨pl.isList.typeIs,λa e=>?_⟩
   cases e
   obtain⟨o,n,e,c,hd,_⟩:=pl
   exact⟨o,e,hd⟩
  ·refine⟨⟨o,I.dG p o hk,hc⟩,λa e=>?_⟩
   cases e
   exact⟨o,I.dG _ o hk,hd⟩
  ·have z:∃o,s.heap.get? p=some o/\o.ExactDict:=by
    rcases hk with⟨dQ,hk⟩ | ⟨dQ,hk⟩
    ·obtain⟨_,_,_,_,o,_,_,e,ex,_⟩:=I.aO p _ hk
     exact⟨o,e,ex⟩
    ·obtain⟨_,_,_,_,o,_,_,e,ex,_⟩:=I.aO p _ hk
     exact⟨o,e,ex⟩
   obtain⟨o,e,ex⟩:=z
   refine⟨⟨o,e,ex.1⟩,λa e2=>?_⟩
   cases e2
   exact⟨o,e,ex.2.1⟩
  ·obtain⟨o,_,_,_,e,ex,_⟩:=I.aO p _ hk
   refine⟨⟨o,e,ex.1⟩,λa e2=>?_⟩
   cases e2
   exact⟨o,e,ex.2.1⟩
 | _=>exact gg ty
def S9(K:PySem.W.Frag)(T:String)(r:V->List V->Hp->VK->Prop)(to:TE):TE:=λσ H Q=>to σ H λx H1=>GY K T x H1/\r x [] H1 Q
def tBM(K:PySem.W.Frag)(T:String)(r:V->List V->Hp->VK->Prop)(to:TE)(t:TA):TE:=λσ H Q=>to σ H λx H1=>GY K T x H1/\t σ H1 λxs H2=>r x xs H2 Q
variable{o e:Expr}{es:List Expr}{to:TE}{t:TA}{name:Str}{apos cm:Pos}{T id:String}{r:V->List V->Hp->VK->Prop}
theorem Ta(pa:PlainAttrs T)(slot:Slot T name id)(GZ:typeOf (.builtin id)=pure (.type "method_descriptor"))(hm:Co X id r)(ho:PE X o to)
  (kX:attributeBase o name X.env (eval o X.env)=eval o X.env:=by rfl) (kY:(apos.endLine==cm.line)=true:=by rfl):PE X (.Call (.Attribute o name apos) [] [] cm) (S9 X.K T r to):=by
 intro pins s σ H Q I h
 refine wpAny_Call_method0_late kX kY (bc (ho pins s σ H _ I h) λv s1 ⟨x,H1,I1,r1,ty,q1⟩=>?_)
 obtain⟨h1,h2⟩:=S8 I1 r1 ty
 exact⟨T,id,pa,slot,GZ,h1,h2,Calls.callWith_builtin rfl (PySem.evalArgs_none (hm pins s1 σ H1 x [] v [] Q I1 r1 .nil q1))⟩
theorem cS6(pa:PlainAttrs T)(slot:Slot T name id)(GZ:typeOf (.builtin id)=pure (.type "method_descriptor"))(hm:Co X id r)(ho:PE X o to)(ha:PA X (e::es) t)
  (kX:attributeBase o name X.env (eval o X.env)=eval o X.env:=by rfl)
  (G0:((backTo cm (starEach (e::es) X.env)).all (λx=>!x.1)&&(backToKw cm (keywordEach [] X.env)).all (λx=>x.1.isSome)
   && decide ((e::es).length+([]:List Keyword).length+(if([]:List Keyword).isEmpty then 0 else 1)<30))=true:=by rfl)
  (kY:(apos.endLine==cm.line)=true:=by rfl) (hs:starEach (e::es) X.env=(false,eval e X.env)::starEach es X.env:=by rfl) (G1:(backTo cm (starEach es X.env)).any (·.1)=false:=by rfl) :
  PE X (.Call (.Attribute o name apos) (e::es) [] cm) (tBM X.K T r to t):=by
 intro pins s σ H Q I h
 refine wpAny_Call_method_late kX G0 kY rfl (bc (ho pins s σ H _ I h) λv s1 ⟨x,H1,I1,r1,ty,q1⟩=>?_)
 obtain⟨h1,h2⟩:=S8 I1 r1 ty
 refine⟨T,id,pa,slot,GZ,h1,h2,?_⟩
 have hA:=ha cm pins s1 σ H1 _ I1 q1
 rw[hs]at hA ⊢
 refine Calls.callWith_builtin (by show(false||(backTo cm (starEach es X.env)).any (·.1))=false;rw[G1]<;>rfl) (Calls.evalArgs_plain ?_)
 exact bc hA λus s2 ⟨vs,H2,I2,r2,q2⟩=>hm pins s2 σ H2 x vs v us Q I2 r1 r2 q2
/- xs.append(e),list.index on a fr9 tuple .. are Co facts of 06m -/
end
end L2
namespace L2
open PySem PySem.Spec PyProof.Rows
def Tc(X:Cx)(id:String)(r:V->List V->Hp->VK->Prop):Prop :=
 ∀(pins:List (Addr × Obj)) (s:Shared) (σ:St) (H:Hp) (x:V) (xs:List V) (v:Value) (us:List Value) (Q:VK),Inv X pins σ H s->RelV x v->Vals xs us->r x xs H Q ->
  wpAny (model X.prog X.w) X.A (call (.builtin id) (v::us)) (EP X pins σ Q) X.xe s
theorem Vals.one:∀{x:V} {us:List Value},Vals [x] us->∃u,us=[u]/\RelV x u
 | _,_,.cons r .nil=>⟨_,rfl,r⟩
theorem Vals.two:∀{x y:V} {us:List Value},Vals [x,y] us->∃u v,us=[u,v]/\RelV x u/\RelV y v
 | _,_,_,.cons r (.cons q .nil)=>⟨_,_,rfl,r,q⟩
theorem Vals.zero:∀{us:List Value},Vals [] us->us=[]
 | _,.nil=>rfl
theorem Vals.reverse{xs:List V}{us:List Value}(h:Vals xs us):Vals xs.reverse us.reverse:=by
 induction h with
 | nil=>exact .nil
 | cons r t ih=>rw[FE,FE];exact Vals.append ih (.cons r .nil)
theorem Vals.rep{xs:List V}{us:List Value}(h:Vals xs us):∀k:Nat,Vals (bG k xs).flatten (bG k us).flatten
 | 0=>.nil
 | k+1=>by
  rw[s9,s9,vt,vt]
  exact Vals.append h (Vals.rep h k)
theorem Td(its:List Value):∀(k:Nat) (acc:List Value),
  List.foldl (λx1 x2=>x1++x2) acc.toArray (bG k its.toArray)=(acc++(bG k its).flatten).toArray
 | 0,acc=>by simp
 | k+1,acc=>by
  have e:acc.toArray++its.toArray=(acc++its).toArray:=by simp
  have e2:(acc++its)++(bG k its).flatten=acc++(bG (k+1) its).flatten:=by
   rw[s9,vt,eX]
  rw[<-e2,<- Td its k (acc++its),<- e,s9,tf]
section
variable{X:Cx}{pins:List (Addr × Obj)}{σ:St}{H:Hp}{s:Shared}{l b:Addr}{xs ys zs:List V}
theorem Inv.Te{its its':List Value}{n:Nat}{f:Array Value->Array Value}{t':Nat}(I:Inv X pins σ H s)(hH:H l=some (.lst xs))
  (e:s.heap.get? l=some { cls:=.type "list",data:=.seq its.toArray n }) (hf:f its.toArray=its'.toArray) (hv:Vals ys its') (hz:ys.length<=sizeLine) :
  Inv X pins σ (upd H l (.lst ys)) { s with heap:=s.heap.update l (BM f),toks:=t' }:=by
 have q:=PySem.IsL.update e f
 rw[hf]at q
 refine I.write (x:=l) (e:=l) (by rw[hH];exact trivial) (.inl rfl) (λb' u hb hu=>(s8 s.heap (BM f) (fB hb)).trans hu) ⟨_,q⟩ ?_
 exact⟨hz,its',_,hv,q⟩
theorem Inv.Tf{its:List Value}{t':Nat}(I:Inv X pins σ H s)(hv:Vals ys its)(hz:ys.length<=sizeLine) :
  Inv X pins σ (upd H s.heap.objs.size (.lst ys)) { s with heap:=s.heap.push { cls:=.type "list",data:=.seq its.toArray },toks:=t' } :=
 I.laid (λ_ _ q=>fO _ q) (bN _) ⟨hz,its,0,hv,gR _ rfl⟩
theorem Inv.fresh(I:Inv X pins σ H s):H s.heap.objs.size=none:=I.aO.fresh (bN _)
theorem Inv.zE(I:Inv X pins σ H s)(hH:H l=some (.lst xs)):xs.length<=sizeLine/\∃(its:List Value) (n:Nat),Vals xs its/\xs.length=its.length/\s.heap.get? l=some { cls:=.type "list",data:=.seq its.toArray n }:=by
 obtain⟨z,its,n,r,e⟩:=I.aO l _ hH
 exact⟨z,its,n,r,r.length,e⟩
theorem cl4{n:Nat}(h:n<=sizeLine):RI n=false:=by
 unfold RI
 exact decide_eq_false (by omega)
end
section
variable{X:Cx}
def cy8:V->List V->Hp->VK->Prop:=λx vs H Q=>∃l xs y,x=.ref l/\vs=[y]/\H l=some (.lst xs)/\xs.length<sizeLine/\Q .ay (upd H l (.lst (xs++[y])))
theorem Tg:Tc X "list.append" cy8:=by
 intro pins s σ H x vs v us Q I rx rv h
 obtain⟨l,xs,y,rfl,rfl,hH,hz,q⟩:=h
 cases rx
 obtain⟨u,rfl,ru⟩:=rv.one
 obtain⟨z,its,n,r,hl,e⟩:=I.zE hH
 refine call_meets F.slot_list_append ⟨_,e,rfl⟩ F.entry_list_append (F.args_list_append_2 _ _) (PySem.list_append l its.toArray n u (by rw[dP];omega)) ⟨e,?_⟩
 refine⟨.ay,_,I.Te (its':=its++[u]) hH e (by simp) (r.append (.cons ru .nil)) ?_,rfl,q⟩
 rw[dU,FF]
 omega
def cm9:V->List V->Hp->VK->Prop:=λx vs H Q=>∃l xs,x=.ref l/\vs=[]/\H l=some (.lst xs)/\Q .ay (upd H l (.lst xs.reverse))
theorem bV1:Tc X "list.reverse" cm9:=by
 intro pins s σ H x vs v us Q I rx rv h
 obtain⟨l,xs,rfl,rfl,hH,q⟩:=h
 cases rx
 have hus:=rv.zero
 subst hus
 obtain⟨z,its,n,r,hl,e⟩:=I.zE hH
 refine call_meets F.slot_list_reverse ⟨_,e,rfl⟩ F.entry_list_reverse (F.args_list_reverse_1 _) (AutoSeq1.list_reverse_list_0 l its.toArray n (by rw[dP];omega)) ⟨e,?_⟩
 refine⟨.ay,_,I.Te (its':=its.reverse) hH e (by simp) r.reverse ?_,rfl,q⟩
 rw[db7]
 omega
def c01:R2:=λx y H Q=>∃l b xs zs,x=.ref l/\y=.ref b/\H l=some (.lst xs)/\H b=some (.lst zs)/\xs.length+zs.length<=sizeLine/\∀p,H p=none->Q (.ref p) (upd H p (.lst (xs++zs)))
theorem Th:cL X (binaryOp .Add) c01:=by
 intro pins s σ H x y v u Q I rx ry h
 obtain⟨l,b,xs,zs,rfl,rfl,hH,hB,hz,q⟩:=h
 cases rx
 cases ry
 obtain⟨z,its,n,r,hl,e⟩:=I.zE hH
 obtain⟨z2,Ti,n2,r2,vP,e2⟩:=I.zE hB
 refine PySem.P.add_list e e2 ?_ (by rw[dP,dP];omega)
 have ea:its.toArray++Ti.toArray=(its++Ti).toArray:=by simp
 rw[ea]
 exact⟨.ref _,_,I.Tf (t':=s.toks) (r.append r2) (by rw[dU];omega),rfl,q _ I.fresh⟩
def c03:R2:=λx y H Q=>∃l k xs,x=.ref l/\y=.int k/\H l=some (.lst xs)/\-(2 ^ 63)<=k/\k<2 ^ 63/\xs.length*k.toNat<=sizeLine /\
 ∀p,H p=none->Q (.ref p) (upd H p (.lst (bG k.toNat xs).flatten))
theorem cF7{α:Type}(xs:List α)(k:Nat):(bG k xs).flatten.length=k*xs.length:=by
 induction k with
 | zero=>simp
 | succ k ih=>rw[s9,vt,dU,ih,Nat.succ_mul,BN]
theorem cN1:cL X (binaryOp .Mult) c03:=by
 intro pins s σ H x y v u Q I rx ry h
 obtain⟨l,k,xs,rfl,rfl,hH,h1,h2,hz,q⟩:=h
 cases rx
 obtain⟨t,rfl⟩:=ry
 obtain⟨z,its,n,r,hl,e⟩:=I.zE hH
 have hlen:its.toArray.size*k.toNat<=sizeLine:=by rw[dP,<- hl];exact hz
 have dv9:¬ its.toArray.size*k.toNat>(2 ^ 63-1)/8:=by
  have:(sizeLine:Nat)<=(2 ^ 63-1)/8:=by decide
  omega
 have dw0:¬ (!Builtin.List.listFitsIndex k)=true:=by
  rw[fitsIndex_both h1 h2]
  exact gh
 have dw1:¬ RI (its.toArray.size*k.toNat)=true:=by
  rw[cl4 hlen]
  exact gh
 have dw2:List.foldl (λx1 x2=>x1++x2) #[] (bG (if its.toArray.isEmpty=true then 0 else k.toNat) its.toArray)=(bG k.toNat its).flatten.toArray:=by
  have f0:∀m:Nat,List.foldl (λx1 x2=>x1++x2) #[] (bG m its.toArray)=(bG m its).flatten.toArray:=λm=>by
   have:=Td its m []
   rw[nJ]at this
   exact this
  rw[f0]
  cases its with
  | nil=>simp
  | cons a r'=>rw[if_neg (by simp)]
 refine wpAny_binaryOp_repeat_ref (T:="list") (U:="int") (by decide) ⟨_,e,rfl⟩ (λs'=>typeIs_int s' k t) noFill_list_mul F.fills_int_mul F.slot_int_rmul repeat_list F.slot_int_index.lookup
  (call_meets F.slot_int_rmul (typeIs_int s k t) F.entry_int_rmul (F.args_int_rmul_2 _ _) (int___rmul___int_list k t l its.toArray n)
   ⟨e,rfl,⟨_,e,rfl⟩,call_meets F.slot_list_mul ⟨_,e,rfl⟩ F.entry_list_mul (F.args_list_mul_2 _ _) (AutoListH.list___mul___list_int_3 l its.toArray n k t dw0 dv9 dw1) ⟨e,?_⟩⟩)
 rw[dw2]
 exact⟨.ref _,_,I.Tf (t':=s.toks) (r.rep k.toNat) (by rw[cF7,nK];exact hz),rfl,q _ I.fresh⟩
end
section
variable{prog:Program}{w:World}{A:Around}{E:Value->Shared->Prop}{s:Shared}
end
section
variable{X:Cx}
end
end L2
namespace Att
open PySem PySem.W PySem.Calls PyProof.Rows
theorem bz5{P:Params}{h:Heap}:∀(ns:List Int) (vs:List Value),WellAll P h vs (ns.map WData.int)->IntsAre vs ns:=by
 intro ns
 induction ns with
 | nil =>
  intro vs w
  rw[jN]at w
  cases w
  exact .nil
 | cons n ns ih =>
  intro vs w
  rw[dF]at w
  cases w with
  | cons a b =>
   cases a
   exact .cons _ _ (ih _ b)
theorem bY0{l:OpenLaw}{n:Nat}(hn:l.most=some n){P:Params}{h:Heap}{args:List WData}{vals:List Value}
  (Cp:l.row.toRowW.claim.pre args=true) (G2:WellAll P h vals args) :
  ∃a vs ns,vals=[fM a]/\args=[WData.list (ns.map WData.int)]/\h.get? a=some { cls:=.type "list",data:=.seq vs.toArray }/\IntsAre vs ns/\ns.length<=n:=by
 have zF:WShape.hasAll [] args [.list .int]=true:=(pre_splitW Cp).1
 have hc:l.pre.holds [] { args:=args }=true:=(pre_splitW Cp).2
 obtain⟨d,r,rfl,h1,h2⟩:=hasAllW_cons zF
 obtain rfl:=hasAllW_nil h2
 obtain⟨xs,rfl,h3⟩:=hasW_list h1
 obtain⟨ns,rfl⟩:=items_int h3
 have hlen:ns.length<=n:=by
  unfold OpenLaw.pre at hc
  have h4:(WTm.not (.lt (.lit (.int (n:Int))) (.len (.arg 0)))).holds [] { args:=[.list (ns.map .int)] }=true:=by
   have h4:=(holds_andW hc).1
   rw[hn]at h4
   exact h4
  have h5:=condW_of h4 (w_not (w_lt w_lit (w_len_list (w_arg rfl))))
  rw[bt]at h5
  refine Nat.le_of_not_lt λq=>?_
  have q':(n:Int)<((ns.length:Nat):Int):=by omega
  first
   | (rw[decide_eq_true q']at h5;exact absurd h5 (by decide))
   | (simp at h5;omega)
 cases G2 with
 | cons w1 w2 =>
  cases w2
  cases w1 with
  | list ho dw5=>exact⟨_,_,ns,rfl,rfl,ho,bz5 ns _ dw5,hlen⟩
theorem bY8(l:OpenLaw)(args:List WData):l.row.toRowW.claim.post args (.bool true) args=true :=
 postW_of (r:=l.row.toRowW) (X:=(true==true))
  (show WShape.has [] (.bool true) .bool=true by first | rfl | decide | simp[WShape.has,WShape.arms,WShape.armsAll])
  (show(WTm.eq .res (.lit (.bool true))).value [] { args:=args,res:=some (.bool true),after:=args }=some (.bool (true==true)) from w_eq_bool (w_res rfl) w_lit) rfl
theorem dw7{l:OpenLaw}{n:Nat}{q:Program}{loose:List Str}{XP:(Str->Option Value)->Heap->Prop}{YP:World->Heap->Prop}{d:DefRec}
  (hn:l.most=some n) (zG:d.params.defaults=[])
  (call:∀(w:World) (cW bL:Shared) (mg mb:Str->Option Value) (fa:Addr) (o:Obj) (pm cd doc:Value) (a:Addr) (vs:List Value) (ns:List Int),
   Ground q loose [] XP w cW mg mb bL.heap->YP w bL.heap ->
   bL.heap.get? fa=some o->o.data=.func (docDef d.name d.params d.body d.scope pm cd doc)->bL.heap.CodeRec cd d.name->mg d.name=some (.ref fa) ->
   bL.heap.get? a=some { cls:=.type "list",data:=.seq vs.toArray }->IntsAre vs ns->ns.length<=n->bL.gens=#[] ->
   codeAny (model l.prog w) callerA (.call (.ref fa) ⟨[.ref a],[]⟩) (λr s'=>r=.ok (.ret (.bool true))/\OldK bL.heap s'.heap/\s'.os=bL.os/\AllBare s'.gens) bL) :
  WalkO q loose XP YP l.row.toRowW d [] (λf vs=>PySem.call f vs):=by
 intro w cW bL mg mb G Y fa o pm cd doc dV kV ho hd de hD zH hg args vals as Cp fs0 hrd G2 dr
 obtain rfl:dV=.none:=Dflts.none hD zG
 obtain rfl:kV=.none:=Dflts.noKw hD
 obtain⟨a,vs,ns,rfl,rfl,G3,hints,hlen⟩:=bY0 hn Cp G2
 refine enter_call (codeAny_mono (call w cW bL mg mb fa o pm cd doc a vs ns G Y ho (fd_plain hd) de zH G3 hints hlen hg) λr s' hq=>?_)
 obtain⟨rfl,h2,h3,h4⟩:=hq
 exact⟨.inl ⟨.bool true,.bool true,[],rfl,λ_=>rfl,.bool true,bY8 l _,λ_=>⟨RJ,λ_ hm=>(nomatch hm)⟩⟩,h2,h3,h4⟩
section
variable{prog:Program}{w:World}{A:Around}{E:Value->Shared->Prop}{s:Shared}{K:Frag}
end
end Att
namespace L2
open PySem PySem.Spec PyProof.Rows
theorem Tj:∀{vs:List Value} {ns:List Int},IntsAre vs ns->Vals (ns.map V.int) vs
 | _,_,.nil=>.nil
 | _,_,.cons n t h=>.cons ⟨t,rfl⟩ (Tj h)
end L2
namespace L2
open PySem PySem.Spec PyProof.Rows
end L2
/- THE fs3 fs4 (shape;LID,My.* are fs6):
   My.gC: a structure of Tn addresses fs7 fs8 fs9 names (classes,ft0);My.Txt K t: a structure (Prop) of Tn equations over K;
   My.ft1:{K} {implicit addresses ..} (e1:nsIn K mainGlobals "law"=some (some (.ref f))) (e2:K.lookup f=some ⟨oc,od,.func (fnOf "law" "law" params body scope dV kV doc pm an aI ct),sl⟩) (e3:codeIn K aI "law"=true) ..:∃t,My.Txt K t
(Tn tactic k_is has no namespace: write k_is) -/
namespace L2
open PySem PySem.Spec PyProof.Rows
def iT(s:Stmt)(j:Nat):Stmt:=match s with
 | .ClassDef _ _ _ body _ _ _ _ _ _ _=>body.getD j (.Pass ⟨0,0,0,0⟩)
 | _=>.Pass ⟨0,0,0,0⟩
def bw(s:Stmt):Arguments:=match s with
 | .FunctionDef _ a _ _ _ _ _ _ _ _=>a
 | _=>{ posonlyargs:=[],args:=[],vararg:=none,kwonlyargs:=[],kw_defaults:=[],kwarg:=none,defaults:=[] }
def bq(s:Stmt):List Stmt:=match s with
 | .FunctionDef _ _ b _ _ _ _ _ _ _=>b
 | _=>[]
def az(s:Stmt):Scope:=match s with
 | .FunctionDef _ _ _ _ _ _ sc _ _ _=>sc
 | _=>{ kind:=.function,names:=[],isGenerator:=false,isCoroutine:=false }
abbrev bf:fh:=λ_ _ _ _ _ _=>False
abbrev E0:XK:=λ_ _ _=>False
theorem aP{X:Cx}:mJ bf X E0:=λ_ _ _ _ _ _ _ h=>h.elim
structure br(K:PySem.W.Frag)(x qual:Str)(st:Stmt)(f:Addr)(fd:FuncData):Prop where
 ex:∃(oc:Value) (od:Option Addr) (kV doc pm:Value) (an:Option Addr) (aI ct:Value) (mK:Array (Option Value)),
  fd=PySem.W.fnOf x qual (bw st) (bq st) (az st) .none kV doc pm an aI ct/\K.lookup f=some ⟨oc,od,.func fd,mK⟩/\PySem.W.codeIn K aI qual=true
 kp:PySem.W.keepIn K (.ref f)=true
section
variable{P:Program}{w:World}{K:PySem.W.Frag}{mg:Str->Option Value}{base:Heap}
theorem br.ok{x qual:Str}{st:Stmt}{f:Addr}{fd:FuncData}{N ps:List Str}{k:Nat}{sp:Sp}(F:br K x qual st f fd)(S:bu N ps (az st))(len:∀vs H Q E,sp vs H Q E->vs.length=ps.length)
  (iP:∀(aI:Value) (A:Around) (outer:List Env) (s:Shared) (H:Hp) (vs:List V) (Q:VK) (E:XK),cM k (A.deeper (envOfC qual (az st) s.heap.objs.size f aI))->sp vs H Q E ->
   ∃t,PSs (jv bf P w K mg base N qual (az st) f aI A outer s H E).gY (bq st) t/\t { nx:=λ_ H'=>Q .ay H',rt:=Q } (start N vs) H):aQ P w K mg base bf (k+1) f fd ps sp:=by
 obtain⟨oc,od,kV,doc,pm,an,aI,ct,mK,rfl,lk,de⟩:=F.ex
 refine GU lk de S len λA outer s H vs Q E hr jw=>?_
 obtain⟨t,h,q⟩:=iP aI A outer s H vs Q E hr jw
 exact⟨t,h.gY,q⟩
theorem br.binds{x qual:Str}{st:Stmt}{f:Addr}{fd:FuncData}{ps:List Str}(F:br K x qual st f fd)
  (h:∀(kV doc pm:Value) (an:Option Addr) (aI ct:Value) (us:List Value),us.length=ps.length->bindArgs (PySem.W.fnOf x qual (bw st) (bq st) (az st) .none kV doc pm an aI ct) ⟨us,[]⟩=pure (ps.zip us)):Binds K fd ps []:=by
 obtain⟨oc,od,kV,doc,pm,an,aI,ct,mK,rfl,lk,de⟩:=F.ex
 exact .all (h kV doc pm an aI ct)
theorem bE{x qual:Str}{st:Stmt}{f:Addr}{oc:Value}{od an:Option Addr}{mK:Array (Option Value)}{kV doc pm aI ct:Value}(l:K.lookup f=some ⟨oc,od,.func (PySem.W.fnOf x qual (bw st) (bq st) (az st) .none kV doc pm an aI ct),mK⟩)
  (c:PySem.W.codeIn K aI qual=true) (k:PySem.W.keepIn K (.ref f)=true):br K x qual st f (PySem.W.fnOf x qual (bw st) (bq st) (az st) .none kV doc pm an aI ct):=⟨⟨oc,od,kV,doc,pm,an,aI,ct,mK,rfl,l,c⟩,k⟩
end
section
variable{X:Cx}
theorem pv(i:Nat){x:Str}{pos:Pos}(hN:X.N[i]?=some x:=by rfl)(hv:mE X.env.scope x:=by first | exact ao rfl | exact aX (ao rfl) | exact aX (aX rfl))(hd:(x==("__debug__":Str))=false:=by decide)
  (de:(x==("__classdict__":Str))=false:=by decide):PE X (.Name x pos) (Sv i):=tP hN hv hd de
end
theorem mM{A B:Prop}(h:B):if false=true then A else B:=by
 rw[if_neg gh]
 exact h
theorem qw{A B:Prop}(h:A):if true=true then A else B:=by
 rw[if_pos rfl]
 exact h
end L2
namespace Mf
def bl(n:Nat):Nat:=if n=0 then 0 else n.log2+1
theorem eZ{n m:Nat}:bl n<=m↔n<2 ^ m:=by
 unfold bl
 by_cases h:n=0
 ·simp[h,yT]
 ·rw[if_neg h]
  rw[<-Nat.log2_lt h]
  omega
theorem G4{n m:Nat}:m<bl n↔2 ^ m<=n:=by
 have:=@eZ n m
 omega
theorem jy(n:Nat):n<2 ^ bl n:=eZ.mp (bN _)
theorem To{n:Nat}(h:n≠0):2 ^ (bl n-1)<=n:=by
 have:0<bl n:=by unfold bl;rw[if_neg h];omega
 exact G4.mp (by omega)
theorem iu{n:Nat}(h:n≠0):0<bl n:=by
 unfold bl;rw[if_neg h];omega
theorem nZ:bl 0=0:=rfl
theorem vQ{n:Nat}(h:n≠0):n.testBit (bl n-1)=true:=by
 have h1:=To h
 have h2:=jy n
 have hp:=iu h
 have e:bl n=(bl n-1)+1:=by omega
 rw[e,nL]at h2
 rw[db8]
 have:n/2 ^ (bl n-1)=1:=by
  apply Nat.div_eq_of_lt_le
  ·omega
  ·omega
 rw[this];rfl
theorem bV3{x n:Nat}(h:∀i,n<=i->x.testBit i=false):x<2 ^ n:=by
 apply Nat.lt_pow_two_of_testBit
 intro i hi
 exact h i hi
theorem Tp{x y n:Nat}(hx:x<2 ^ (n+1))(hy:y<2 ^ (n+1))(tx:x.testBit n=true)(ty:y.testBit n=true):x ^^^ y<2 ^ n:=by
 apply bV3
 intro i hi
 rw[nM]
 by_cases e:i=n
 ·rw[e,tx,ty];rfl
 ·have ix:n+1<=i:=by omega
  have p:2 ^ (n+1)<=2 ^ i:=yU (by decide) ix
  rw[FG (dB hx p),FG (dB hy p)]
  rfl
theorem Tq(x y z:Nat):(x ^^^ y) ^^^ (z ^^^ y)=x ^^^ z:=by
 apply BO;intro i;simp only[nM]
 cases x.testBit i<;>cases y.testBit i<;>cases z.testBit i<;>rfl
theorem Tr(x y z t:Nat):(x ^^^ y) ^^^ (z ^^^ t)=(x ^^^ z) ^^^ (y ^^^ t):=by
 apply BO;intro i;simp only[nM]
 cases x.testBit i<;>cases y.testBit i<;>cases z.testBit i<;>cases t.testBit i<;>rfl
def P(a b:Nat):Nat->Nat
 | 0=>0
 | k+1=>P a b k ^^^ (if b.testBit k then a <<< k else 0)
def cl(a b:Nat):Nat:=P a b (bl b)
theorem Ts{a b k:Nat}(h:b<2 ^ k):∀j,P a b (k+j)=P a b k
 | 0=>rfl
 | j+1=>by
  show P a b (k+j) ^^^ (if b.testBit (k+j)then a <<< (k+j)else 0)=_
  rw[Ts h j]
  have p:2 ^ k<=2 ^ (k+j):=yU (by decide) (by omega)
  rw[FG (dB h p)]
  simp
theorem vR{a b k:Nat}(h:b<2 ^ k):P a b k=cl a b:=by
 have h1:=eZ.mpr h
 have e:k=bl b+(k-bl b):=by omega
 rw[e,Ts (jy b)]
 rfl
theorem Tt(a a' b:Nat):∀k,P (a ^^^ a') b k=P a b k ^^^ P a' b k
 | 0=>(mv 0).symm
 | k+1=>by
  show P (a ^^^ a') b k ^^^ _=(P a b k ^^^ _) ^^^ (P a' b k ^^^ _)
  rw[Tt a a' b k]
  by_cases t:b.testBit k=true
  ·rw[if_pos t,if_pos t,if_pos t,db9]
   ac_rfl
  ·rw[if_neg t,if_neg t,if_neg t]
   simp
theorem Tu(a b b':Nat):∀k,P a (b ^^^ b') k=P a b k ^^^ P a b' k
 | 0=>(mv 0).symm
 | k+1=>by
  show P a (b ^^^ b') k ^^^ _=(P a b k ^^^ _) ^^^ (P a b' k ^^^ _)
  rw[Tu a b b' k,nM]
  cases b.testBit k<;>cases b'.testBit k<;>simp
  ·ac_rfl
  ·ac_rfl
  ·exact(Tq _ _ _).symm
theorem qy(a a' b:Nat):cl (a ^^^ a') b=cl a b ^^^ cl a' b:=Tt a a' b _
theorem vS{x y n:Nat}(hx:x<2 ^ n)(hy:y<2 ^ n):x ^^^ y<2 ^ n:=Nat.xor_lt_two_pow hx hy
theorem bK7(a b b':Nat):cl a (b ^^^ b')=cl a b ^^^ cl a b':=by
 let k:=bl b+bl b'
 have h1:b<2 ^ k:=eZ.mp (by omega)
 have h2:b'<2 ^ k:=eZ.mp (by omega)
 rw[<-vR (vS h1 h2),<- vR h1,<- vR h2,Tu]
theorem cB0(a:Nat):cl a 0=0:=rfl
theorem Tv(b:Nat):∀k,P 0 b k=0
 | 0=>rfl
 | k+1=>by
  show P 0 b k ^^^ _=0
  rw[Tv b k];simp
theorem qA(b:Nat):cl 0 b=0:=Tv b _
theorem bL2(b k:Nat):(b/2).testBit k=b.testBit (k+1):=by
 rw[FH]
theorem Tw(a b:Nat):∀k,P a b (k+1)=(if b%2=1 then a else 0) ^^^ P (2*a) (b/2) k
 | 0=>by
  show 0 ^^^ _=_ ^^^ 0
  rw[qe,mv,BP]
  simp
 | k+1=>by
  show P a b (k+1) ^^^ _=_ ^^^ (P (2*a) (b/2) k ^^^ _)
  rw[Tw a b k,bL2,tu]
  have e:a <<< (k+1)=(2*a) <<< k:=by
   rw[kO,kO,nL]
   rw[nK 2 a,vv,nK 2]
  rw[e]
theorem Tx{b k:Nat}(h:b<2 ^ (k+1)):b/2<2 ^ k:=by
 rw[nL]at h;omega
theorem Tz(a b:Nat):cl a b=(if b%2=1 then a else 0) ^^^ cl (2*a) (b/2):=by
 have h:b<2 ^ (bl b+1):=FI (jy b) (by rw[nL];have:=yT (bl b);omega)
 rw[<-vR h,Tw,vR (Tx h)]
theorem TB(a b:Nat):∀k,P (2*a) b k=2*P a b k
 | 0=>rfl
 | k+1=>by
  show P (2*a) b k ^^^ _=2*(P a b k ^^^ _)
  rw[TB a b k]
  have d:∀x y:Nat,2*(x ^^^ y)=2*x ^^^ 2*y:=by
   intro x y
   have h:=@db9 1 x y
   rw[kO,kO,kO,Nat.pow_one]at h
   rw[nK 2 (x ^^^ y),nK 2 x,nK 2 y]
   exact h
  rw[d]
  by_cases t:b.testBit k=true
  ·rw[if_pos t,if_pos t,kO,kO,vv]
  ·rw[if_neg t,if_neg t]
theorem G5(a b:Nat):cl (2*a) b=2*cl a b:=TB a b _
theorem zI(a c t:Nat)(ht:t<2):cl a (2*c+t)=2*cl a c ^^^ (if t=1 then a else 0):=by
 rw[Tz,G5,RK]
 have e1:(2*c+t)/2=c:=by omega
 have e2:(2*c+t)%2=t:=by omega
 rw[e1,e2]
theorem cM4(a c:Nat):cl a (2*c)=2*cl a c:=by
 have h:=zI a c 0 (by decide)
 simpa using h
theorem TC(c t:Nat)(ht:t<2):2*c ^^^ t=2*c+t:=by
 apply BO
 intro i
 cases i with
 | zero =>
  rw[nM,BP,BP,BP]
  have:t=0\/t=1:=by omega
  rcases this with h | h<;>subst h<;>simp<;>omega
 | succ i =>
  rw[nM,FH,FH,FH]
  have e1:2*c/2=c:=by omega
  have e2:t/2=0:=by omega
  have e3:(2*c+t)/2=c:=by omega
  rw[e1,e2,e3];simp
theorem G6:∀b:Nat,cl 1 b=b:=by
 intro b
 induction b using BQ with
 | ind b ih =>
  by_cases h:b=0
  ·subst h;rfl
  ·have e:b=2*(b/2)+b%2:=by omega
   rw[e,zI 1 (b/2) (b%2) (by omega),ih (b/2) (by omega)]
   have:b%2=0\/b%2=1:=by omega
   rcases this with h | h
   ·rw[h];simp
   ·rw[h];rw[if_pos rfl];exact TC _ _ (by decide)
theorem zJ:∀b a:Nat,cl a b=cl b a:=by
 intro b
 induction b using BQ with
 | ind b ih =>
  intro a
  by_cases h:b=0
  ·subst h;rw[qA];rfl
  ·have e:b=2*(b/2)+b%2:=by omega
   have lt:b%2<2:=by omega
   have e':cl b a=cl (2*(b/2) ^^^ b%2) a:=by rw[TC _ _ lt,<- e]
   rw[e',qy,G5,<- ih (b/2) (by omega) a]
   have e'':cl a b=cl a (2*(b/2)+b%2):=by rw[<-e]
   rw[e'',zI _ _ _ lt]
   have:b%2=0\/b%2=1:=by omega
   rcases this with h | h
   ·rw[h,qA];rfl
   ·rw[h,G6];rfl
theorem G7{a m:Nat}(h:a<2 ^ m)(b:Nat):∀k,P a b (k+1)<2 ^ (m+k)
 | 0=>by
  show 0 ^^^ _<_
  rw[qe,Nat.add_zero]
  by_cases t:b.testBit 0=true
  ·rw[if_pos t];simpa using h
  ·rw[if_neg t];exact yT m
 | k+1=>by
  show P a b (k+1) ^^^ _<_
  have i:=G7 h b k
  have p:2 ^ (m+k)<=2 ^ (m+(k+1)):=yU (by decide) (by omega)
  apply vS (dB i p)
  by_cases t:b.testBit (k+1)=true
  ·rw[if_pos t,kO,Nat.pow_add 2 m]
   exact(dd0 (yT _)).mpr h
  ·rw[if_neg t];exact yT _
theorem cU8{a b m n:Nat}(h:a<2 ^ m)(h':b<2 ^ (n+1)):cl a b<2 ^ (m+n):=by
 rw[<-vR h'];exact G7 h b n
theorem cQ8{a b:Nat}(ha:a≠0)(hb:b≠0):2 ^ (bl a-1+(bl b-1))<=cl a b:=by
 have e:bl b=(bl b-1)+1:=by have:=iu hb;omega
 have ta:=vQ ha
 have tb:=vQ hb
 apply Nat.ge_two_pow_of_testBit
 unfold cl
 rw[e]
 show(P a b (bl b-1) ^^^ _).testBit _=true
 have e2:bl b-1+1-1=bl b-1:=by omega
 rw[e2,nM,if_pos tb]
 have f:(P a b (bl b-1)).testBit (bl a-1+(bl b-1))=false:=by
  cases q:bl b-1 with
  | zero=>show Nat.testBit 0 _=false;exact Nat.zero_testBit _
  | succ k =>
   apply FG
   have l:=G7 (jy a) b k
   have p:=iu ha
   have e3:bl a-1+(k+1)=bl a+k:=by omega
   rw[e3];exact l
 rw[f,dd1]
 have e4:bl a-1+(bl b-1)-(bl b-1)=bl a-1:=by omega
 rw[e4,ta]
 simp
theorem TF{a b:Nat}(ha:a≠0)(hb:b≠0):bl (cl a b)=bl a+bl b-1:=by
 have p1:=iu ha
 have p2:=iu hb
 have h1:bl (cl a b)<=bl a+(bl b-1):=eZ.mpr (cU8 (jy a) (by
  have e:bl b-1+1=bl b:=by omega
  rw[e];exact jy b))
 have h2:=G4.mpr (cQ8 ha hb)
 omega
theorem TH(s b:Nat):cl (2 ^ s) b=b <<< s:=by
 induction s with
 | zero=>rw[Nat.pow_zero,G6];rfl
 | succ s ih =>
  rw[nL,nK,G5,ih,kO,kO,nL]
  rw[<-vv,nK 2,vv,nK 2,<- vv,vv]
theorem ch3{a q b r s:Nat}(h:a=cl q b ^^^ r):a=cl (q ^^^ 2 ^ s) b ^^^ (r ^^^ b <<< s):=by
 rw[qy,TH,h,Tq]
theorem TJ{b r:Nat}(hb:b≠0)(h:bl b<=bl r):bl (r ^^^ b <<< (bl r-bl b))<bl r:=by
 have p:=iu hb
 have hr:r≠0:=by
  intro z;rw[z,nZ]at h;omega
 have:r ^^^ b <<< (bl r-bl b)<2 ^ (bl r-1):=by
  apply Tp
  ·have e:bl r-1+1=bl r:=by omega
   rw[e];exact jy r
  ·have e:bl r-1+1=bl b+(bl r-bl b):=by omega
   rw[e,kO,Nat.pow_add]
   exact(dd0 (yT _)).mpr (jy b)
  ·exact vQ hr
  ·rw[dd1]
   have e:bl r-1-(bl r-bl b)=bl b-1:=by omega
   rw[e,vQ hb]
   simp;omega
 have:=eZ.mpr this
 omega
theorem bW8{x y z:Nat}(h:x ^^^ y=z):x=z ^^^ y:=by
 rw[<-h,tu,BR,mv]
theorem G8{x y:Nat}(h:x ^^^ y=0):x=y:=by
 have:=bW8 h
 rwa [qe]at this
theorem bV5{b q r q' r':Nat}(h:cl q b ^^^ r=cl q' b ^^^ r')(hr:bl r<bl b)(bg:bl r'<bl b):q=q'/\r=r':=by
 have hb:b≠0:=by intro z;rw[z,nZ]at hr;omega
 have e:cl (q ^^^ q') b=r ^^^ r':=by
  rw[qy]
  have z:(cl q b ^^^ r) ^^^ (cl q' b ^^^ r')=0:=by rw[h,BR]
  rw[Tr]at z
  exact G8 z
 have lt:bl (r ^^^ r')<bl b:=by
  have h1:r<2 ^ (bl b-1):=eZ.mp (by omega)
  have h2:r'<2 ^ (bl b-1):=eZ.mp (by omega)
  have:=eZ.mpr (vS h1 h2)
  have:=iu hb
  omega
 have z:q ^^^ q'=0:=by
  apply FJ
  intro hq
  have h1:=TF hq hb
  have h2:=iu hq
  rw[e]at h1
  omega
 have zq:=G8 z
 subst zq
 rw[z,qA]at e
 exact⟨rfl,G8 e.symm⟩
end Mf
namespace Mf
open PySem PySem.Builtin.Int
theorem cD4(x y:Nat):(x ^^^ y)+2*(x &&& y)=x+y:=by
 induction x using BQ generalizing y with
 | ind x ih =>
  by_cases h:x=0
  ·subst h;simp
  ·have h1:=ih (x/2) (by omega) (y/2)
   have e1:(x ^^^ y)/2=x/2 ^^^ y/2:=Nat.xor_div_two
   have e2:(x &&& y)/2=x/2 &&& y/2:=Nat.and_div_two
   have t:∀n:Nat,n%2=if n.testBit 0=true then 1 else 0:=by
    intro n
    rw[BP]
    by_cases h:n%2=1
    ·simp[h]
    ·simp[h];omega
   have m1:(x ^^^ y)%2=(x%2+y%2)%2:=by
    rw[t (x ^^^ y),t x,t y,nM]
    cases x.testBit 0<;>cases y.testBit 0<;>rfl
   have m2:(x &&& y)%2=x%2*(y%2):=by
    rw[t (x &&& y),t x,t y,RL]
    cases x.testBit 0<;>cases y.testBit 0<;>rfl
   have d1:=Nat.div_add_mod (x ^^^ y) 2
   have d2:=Nat.div_add_mod (x &&& y) 2
   rw[e1]at d1
   rw[e2]at d2
   have hx:x%2=0\/x%2=1:=by omega
   have hy:y%2=0\/y%2=1:=by omega
   rcases hx with hx | hx<;>rcases hy with hy | hy<;>rw[hx,hy]at m1 m2<;>omega
theorem TK{x y:Int}(hx:0<=x)(hy:0<=y):p7 x y=((x.toNat &&& y.toNat:Nat):Int):=by
 unfold p7
 rw[decide_eq_true hx,decide_eq_true hy]
theorem ci6{x y:Int}(hx:0<=x)(hy:0<=y):Builtin.bitOr x y=((x.toNat ||| y.toNat:Nat):Int):=by
 unfold Builtin.bitOr p7 Builtin.bitNot
 rw[decide_eq_false (by omega),decide_eq_false (by omega)]
 show-(-((((- (-x-1)-1).toNat ||| (-(-y-1)-1).toNat:Nat):Int))-1)-1=_
 have e1:(- (-x-1)-1).toNat=x.toNat:=by omega
 have e2:(- (-y-1)-1).toNat=y.toNat:=by omega
 rw[e1,e2]
 omega
theorem cK6(x y:Nat):(x ||| y)=(x ^^^ y)+(x &&& y):=by
 have d:(x ^^^ y) &&& (x &&& y)=0:=by
  apply BO;intro i
  simp only[nM,RL,Nat.zero_testBit]
  cases x.testBit i<;>cases y.testBit i<;>rfl
 have e:(x ||| y)=(x ^^^ y) ^^^ (x &&& y):=by
  apply BO;intro i
  simp only[nM,RL,Nat.testBit_or]
  cases x.testBit i<;>cases y.testBit i<;>rfl
 have h:=cD4 (x ^^^ y) (x &&& y)
 rw[d]at h
 rw[e];omega
theorem ce4{x y:Int}(hx:0<=x)(hy:0<=y):p8 x y=((x.toNat ^^^ y.toNat:Nat):Int):=by
 unfold p8
 rw[ci6 hx hy,TK hx hy,cK6]
 omega
theorem n5(x y:Nat):p8 (x:Int) (y:Int)=((x ^^^ y:Nat):Int):=by
 rw[ce4 (by omega) (by omega)];rfl
theorem TL(x y:Nat):p7 (x:Int) (y:Int)=((x &&& y:Nat):Int):=by
 rw[TK (by omega) (by omega)];rfl
theorem vT(x k:Nat):(x:Int)*2 ^ ((k:Int)).toNat=((x <<< k:Nat):Int):=by
 rw[kO]
 simp
theorem cE1(x k:Nat):(x:Int)/2 ^ ((k:Int)).toNat=((x >>> k:Nat):Int):=by
 rw[dd2]
 simp
theorem cy9(x k:Nat):((x >>> k) &&& 1=1)↔x.testBit k=true:=by
 rw[db8,dd2]
 have:(x/2 ^ k) &&& 1=(x/2 ^ k)%2:=Nat.and_two_pow_sub_one_eq_mod _ 1
 rw[this]
 simp
end Mf
namespace Mf
end Mf
namespace Mf
theorem TM(a b:Nat):∀c,cl (cl a b) c=cl a (cl b c):=by
 intro c
 induction c using BQ with
 | ind c ih =>
  by_cases h:c=0
  ·subst h;rfl
  ·have e:c=2*(c/2)+c%2:=by omega
   have lt:c%2<2:=by omega
   have i:=ih (c/2) (by omega)
   rw[e,zI _ _ _ lt,zI _ _ _ lt,i,bK7,cM4]
   have:c%2=0\/c%2=1:=by omega
   rcases this with h | h
   ·rw[h];rfl
   ·rw[h];rfl
def vU:Nat->Nat->Nat->Nat
 | 0,a,_=>a
 | n+1,a,b=>if bl a<bl b then a else vU n (a ^^^ b <<< (bl a-bl b)) b
def md(a b:Nat):Nat:=vU (bl a+1) a b
theorem TN{b:Nat}(hb:b≠0):∀n a,bl a<n->(∃q,a=cl q b ^^^ vU n a b)/\bl (vU n a b)<bl b
 | 0,_,h=>absurd h (by omega)
 | n+1,a,h=>by
  unfold vU
  by_cases l:bl a<bl b
  ·rw[if_pos l]
   exact⟨⟨0,by rw[qA,qe]⟩,l⟩
  ·rw[if_neg l]
   have less:=TJ hb (show bl b<=bl a by omega)
   obtain⟨⟨q,e⟩,l2⟩:=TN hb n (a ^^^ b <<< (bl a-bl b)) (by omega)
   refine⟨⟨q ^^^ 2 ^ (bl a-bl b),?_⟩,l2⟩
   rw[qy,TH]
   have e2:a=(a ^^^ b <<< (bl a-bl b)) ^^^ b <<< (bl a-bl b):=by rw[tu,BR,mv]
   rw[e]at e2
   refine e2.trans ?_
   generalize vU n _ b=r
   rw[tu,RK r,<- tu]
theorem zK{b:Nat}(hb:b≠0)(a:Nat):(∃q,a=cl q b ^^^ md a b)/\bl (md a b)<bl b:=TN hb _ a (by omega)
theorem zL{a b q r:Nat}(h:a=cl q b ^^^ r)(hr:bl r<bl b):md a b=r:=by
 have hb:b≠0:=by intro z;rw[z,nZ]at hr;omega
 obtain⟨⟨q',e⟩,l⟩:=zK hb a
 exact(bV5 (e.symm.trans h) l hr).2
theorem cQ7(q:Nat){b:Nat}(hb:b≠0):md (cl q b) b=0 :=
 zL (q:=q) (by rw[mv]) (by rw[nZ];exact iu hb)
end Mf
namespace Mf
theorem cG1(y:Nat):bl (y/2)=bl y-1:=by
 by_cases h:y=0
 ·subst h;rfl
 ·have p:=iu h
  have h1:bl (y/2)<=bl y-1:=eZ.mpr (Tx (by
   have e:bl y-1+1=bl y:=by omega
   rw[e];exact jy y))
  have h2:bl y<=bl (y/2)+1:=eZ.mpr (by
   have:=jy (y/2)
   rw[nL];omega)
  omega
theorem cM1(x:Nat):bl (2*x)<=bl x+1:=eZ.mpr (by
 have:=jy x
 rw[nL];omega)
theorem G9{x y:Nat}(h:x<=y):bl x<=bl y:=eZ.mpr (nN h (jy y))
end Mf
namespace Mf
def al(a:Nat):Bool:=decide (2<=a)&&(aZ (2 ^ ((bl a-1)/2+1)-2)).all λi=>md a (2+i) != 0
theorem cg1{a:Nat}(h:a<2):al a=false:=by
 unfold al;rw[decide_eq_false (by omega)];rfl
theorem cE0{a:Nat}(h:2<=a)(k:∀i,i<2 ^ ((bl a-1)/2+1)-2->md a (2+i)≠0):al a=true:=by
 unfold al
 rw[decide_eq_true h,kh,dw]
 intro i hi
 have:=k i (cT.mp hi)
 simpa using this
theorem ch0{a i:Nat}(k:i<2 ^ ((bl a-1)/2+1)-2)(z:md a (2+i)=0):al a=false:=by
 unfold al
 rw[Bool.and_eq_false_iff]
 right
 rw[List.all_eq_false]
 exact⟨i,cT.mpr k,by simp[z]⟩
theorem co7{a:Nat}(h:2<=a){b:Nat}(hb:b<2 ^ ((bl a-1)/2+1)):b<a/\2*bl b<=bl a+1:=by
 have h2:2<=bl a:=by
  have:=G4.mpr (show 2 ^ 1<=a by omega)
  omega
 have l:=eZ.mpr hb
 refine⟨dB hb (eH (yU (by decide) ?_) (To (by omega))),by omega⟩
 omega
end Mf
namespace L2
open PySem PySem.Spec PyProof.Rows Mf
theorem fR:bootBuiltins "len"=some (.builtin "len"):=by decide +kernel
theorem bF4:bootBuiltins "isinstance"=some (.builtin "isinstance"):=by decide +kernel
theorem cL0:bootBuiltins "min"=some (.builtin "min"):=by decide +kernel
theorem Cq:bootBuiltins "all"=some (.builtin "all"):=by decide +kernel
theorem TQ:bootBuiltins "any"=some (.builtin "any"):=by decide +kernel
theorem cI4:bootBuiltins "sum"=some (.builtin "sum"):=by decide +kernel
theorem cK7:bootBuiltins "int"=some (.type "int"):=by decide +kernel
theorem cz9:bootBuiltins "bool"=some (.type "bool"):=by decide +kernel
theorem qB:bootBuiltins "list"=some (.type "list"):=by decide +kernel
section
variable{X:Cx}{a b o:Expr}{ta tb to:TE}{pos apos cm:Pos}
theorem TR(i:Int):Builtin.Int.intBits i=bl i.natAbs:=by
 unfold Builtin.Int.intBits bl
 by_cases h:i=0
 ·subst h;rfl
 ·have h':¬ i.natAbs=0:=by omega
  rw[if_neg h',if_neg (by simpa using h)]
def TU:V->List V->Hp->VK->Prop:=λx vs H Q=>∃i,x=.int i/\vs=[]/\Q (.int (bl i.natAbs:Nat)) H
theorem b72:Co X "int.bit_length" TU:=by
 intro pins s σ H x xs v us Q I rx rs h
 obtain⟨i,rfl,rfl,q⟩:=h
 obtain⟨t,rfl⟩:=rx
 cases rs
 refine call_int_bit_length ?_
 rw[TR]
 exact⟨.int _,H,I.tok _,⟨_,rfl⟩,q⟩
theorem Ha(ho:PE X o to)(kX:attributeBase o "bit_length" X.env (eval o X.env)=eval o X.env:=by rfl)(kY:(apos.endLine==cm.line)=true:=by rfl) :
  PE X (.Call (.Attribute o "bit_length" apos) [] [] cm) (S9 X.K "int" TU to) :=
 Ta PySem.F.plainAttrs_int PySem.F.slot_int_bit_length PySem.F.type_int_bit_length b72 ho kX kY
def TV(i j:Int):Prop:=0<=j/\((bl i.natAbs:Nat):Int)+j<=134217728
theorem TX:cL X (binaryOp .LShift) (rI TV λi j=>.int (i*2 ^ j.toNat)):=zy λi j _ _ _ _ _ hc q =>
 lshift_int hc.1 (by rw[TR];exact Int.le_trans hc.2 (by decide)) q
theorem cT0{x:Str}{n:String}(hg:Gl X x)(hm:X.mg x=none)(hv:bootBuiltins x=some (.type n))(hn:x≠"__name__":=by decide)(hd:(x==("__debug__":Str))=false:=by decide):PE X (.Name x pos) (tC (.ty n)) :=
 cD8 hg hm hv rfl hn hd
def cY9(K:PySem.W.Frag):List V->Hp->VK->Prop:=λxs H Q=>∃x n t b,xs=[x,.ty n]/\iO K H x t/\PySem.W.kitOne K t (.type n)=some b/\Q (.bl b) H
theorem bz2:g5 X (.builtin "isinstance") (cY9 X.K):=by
 intro pins s σ H xs us Q I r h
 obtain⟨x,n,t,b,rfl,ty,e,q⟩:=h
 obtain⟨u,v,rfl,ru,rv⟩:=r.two
 cases(show v=Value.type n from rv)
 exact cb2 I ru ty e λtk=>⟨.bl b,H,I.tok _,rfl,q⟩
end
theorem cG5(b i:Nat):decide (V.int (p7 ((b:Int)/2 ^ ((0:Int)+(i:Int)).toNat) 1)=V.int 1)=b.testBit i:=by
 have e:((0:Int)+(i:Int)).toNat=((i:Int)).toNat:=by omega
 rw[e,cE1,show(1:Int)=((1:Nat):Int) from rfl,TL,tw,decide_eq_true_iff,<- cy9]
 constructor
 ·intro h;injection h with h;omega
 ·intro h;rw[h]
theorem cl2{a b i:Nat}(h:b.testBit i=true):p8 ((P a b i:Nat):Int) ((a:Int)*2 ^ ((0:Int)+(i:Int)).toNat)=((P a b (i+1):Nat):Int):=by
 have e:((0:Int)+(i:Int)).toNat=((i:Int)).toNat:=by omega
 rw[e,vT,n5]
 show _=((P a b i ^^^ (if b.testBit i then a <<< i else 0):Nat):Int)
 rw[if_pos h]
theorem bW1{a b i:Nat}(h:¬ b.testBit i=true):P a b (i+1)=P a b i:=by
 show P a b i ^^^ (if b.testBit i then a <<< i else 0)=_
 rw[if_neg h,mv]
theorem dI{i j:Int}:decide (V.int i=V.int j)=true↔i=j:=by
 rw[decide_eq_true_iff]
 exact⟨λh=>by injection h,λh=>by rw[h]⟩
end L2
namespace L2
open PySem PySem.Spec PyProof.Rows
section
variable{X:Cx}
end
end L2
namespace L2
open PySem PySem.Spec PyProof.Rows
def Cr(X:Cx)(scope:Scope)(N:List Str)(cl:List (Str × Addr))(C:Addr)(s:Shared)(H:Hp)(fp:List Addr):Cx where
 prog:=X.prog
 w:=X.w
 K:=X.K
 mg:=X.mg
 base:=X.base
 A:=X.A
 N:=N
 cW:=s
 kQ:=H
 env:=compEnvC scope cl C X.env
 outer:=X.stack
 stack:=X.stack
 ex:=fp
 fn:=λ_=>false
 calm:=X.calm
 pn:=[]
 xe:=λ_ _=>False
def n6(X:Cx)(scope:Scope)(cl:List (Str × Addr)):List (Str × Nat)->Prop
 | []=>True
 | (y,i)::r=>(X.N[i]?=some y/\(X.env.scope.names.lookup y=some .cell\/X.env.scope.names.lookup y=some .free)/\((relabel scope X.env).names.lookup y=some .cell\/(relabel scope X.env).names.lookup y=some .free)/\∃c,cl.lookup y=some c/\X.env.cells.lookup y=some c)/\n6 X scope cl r
theorem n6.at{X:Cx}{scope:Scope}{cl:List (Str × Addr)}:∀{aH:List (Str × Nat)},n6 X scope cl aH->∀p∈aH,X.N[p.2]?=some p.1/\(X.env.scope.names.lookup p.1=some .cell\/X.env.scope.names.lookup p.1=some .free)/\((relabel scope X.env).names.lookup p.1=some .cell\/(relabel scope X.env).names.lookup p.1=some .free)/\∃c,cl.lookup p.1=some c/\X.env.cells.lookup p.1=some c
 | [],_,p,hp=>absurd hp (by simp)
 | (y,i)::r,h,p,hp=>by
  rcases cB.mp hp with e | e
  ·subst e;exact h.1
  ·exact n6.at h.2 p e
def n8(Y:Cx)(ifs:List Expr)(t:TT):Prop :=
 ∀(pins:List (Addr × Obj)) (s:Shared) (σ:St) (H:Hp) (Q:Bool->Hp->Prop),Inv Y pins σ H s->t σ H Q ->
  wpAny (model Y.prog Y.w) Y.A (forIn ifs true λc r=>if r=true then do let ok<-isTrue c Y.env (eval c Y.env);pure (FK ok)else pure (FK r)) (TP Y pins σ Q) Y.xe s
def cY5:TT:=λ_ H Q=>Q true H
theorem cG0{Y:Cx}:n8 Y [] cY5:=λ_ _ _ H _ I h=>wpAny_tests_nil ⟨H,I,h⟩
theorem cG7{Y:Cx}{c:Expr}{t:TT}(h:PT Y c t):n8 Y [c] t:=λpins s σ H Q I q=>wpAny_tests_one (h pins s σ H Q I q)
section
variable{X:Cx}{elt iter:Expr}{x:Str}{px pos:Pos}{ifs:List Expr}{scope:Scope}{cl:List (Str × Addr)}{aH:List (Str × Nat)}{wi:TI}{tt:TT}{te:TE}
end
section
variable{prog:Program}{w:World}{A:Around}{R:Result->Shared->Prop}{s:Shared}
theorem bI9{elt target iter:Expr}{ifs:List Expr}{scope:Scope}{pos:Pos}{it acc:Value}{env:Env}(Iv:Nat->Shared->Prop)
  (turn:∀n s,Iv n s->wpAny (model prog w) A (pyNext it) (λr s1=>match r with
   | none=>R (.ok .next) s1
   | some v=>wpAny (model prog w) A (letOwnedTupleGo target it v) (λ_ t1=>wpAny (model prog w) A (assign target env v) (λ_ s2 =>
     wpAny (model prog w) A (forIn ifs true λc r=>if r=true then do let ok<-isTrue c env (eval c env);pure (FK ok)else pure (FK r)) (λok s3 =>
      if ok=true then wpAny (model prog w) A (eval elt env) (λy s4=>wpAny (model prog w) A (call (.builtin "list.append") [acc,y]) (λ_ s5=>∃m,m<n/\Iv m s5) (λ_ _=>False) s4) (λ_ _=>False) s3
      else ∃m,m<n/\Iv m s3) (λ_ _=>False) s2) (λ_ _=>False) t1) (λ_ _=>False) s1) (λ_ _=>False) s)
  (n:Nat) (h:Iv n s):codeAny (model prog w) A (.compLoop (.ListComp elt [⟨target,iter,ifs,0⟩] scope pos) 0 it acc env) R s:=by
 refine codeAny_loop rfl Iv (λn s hI=>?_) n h
 change wpAny _ A (Sem.onRaise (compTurn (.ListComp elt [⟨target,iter,ifs,0⟩] scope pos) 0 it acc env) λx=>do noteFrame x env;theTreesLotGoes x) _ _ s
 refine wpAny_noted (wpAny_mono (E:=λ_ _=>False) ?_ (λ_ _ q=>q) λ_ _ z=>z.elim)
 rw[compTurn_list]
 refine wpAny_bind (wpAny_standAt (wpAny_bind (bc (turn n s hI) λr s1 h1=>?_)))
 cases r with
 | none=>exact wpAny_pure h1
 | some v =>
  refine wpAny_bind (bc h1 λ_ t1 k1=>wpAny_bind (bc k1 λ_ s2 h2=>wpAny_bind (bc h2 λok s3 h3=>?_)))
  cases ok with
  | false=>exact wpAny_pure ⟨rfl,h3⟩
  | true=>exact wpAny_bind (wpAny_bind (bc h3 λy s4 h4=>wpAny_bind (bc h4 λ_ s5 h5=>wpAny_pure (wpAny_pure ⟨rfl,h5⟩))))
end
section
variable{X:Cx}{elt iter:Expr}{x:Str}{px pos:Pos}{ifs:List Expr}{scope:Scope}{cl:List (Str × Addr)}{aH:List (Str × Nat)}{wi:TI}{tt:TT}{te:TE}
end
end L2
namespace L2
open PySem PySem.Spec PyProof.Rows
section
variable{X:Cx}
theorem cj2{bs:List Bool}{us:List Value}(r:Vals (bs.map V.bl) us):bs.length=us.length/\∀(i:Nat) (v:Value),us[i]?=some v->∃b,bs[i]?=some b/\v=.bool b:=by
 have l:=r.length
 rw[bt]at l
 refine⟨l,λi v e=>?_⟩
 have hi:i<us.length:=(jj.mp e).1
 have hb:i<bs.length:=by omega
 obtain⟨u,e2,q⟩:=r.get (i:=i) (x:=V.bl bs[i]) (by rw[bQ,aJ hb];rfl)
 rw[e]at e2
 cases e2
 exact⟨bs[i],aJ hb,q⟩
theorem Hb{s:Shared}{h':Heap}{o:Obj}(hk:∀b x,b ∉ [s.heap.objs.size]->(s.heap.push o).get? b=some x->h'.get? b=some x)(b:Addr)(x:Obj)(e:s.heap.get? b=some x):h'.get? b=some x :=
 hk b x (λhm=>fN _ (by have:=bV e;rw[dX.mp hm]at this;exact this)) (fO _ e)
theorem cl6(bs:List Bool):((aZ bs.length).all λi=>(bs[i]?).getD true)=bs.all id:=by
 rw[tw,dw,dw]
 constructor
 ·intro h b hb
  obtain⟨i,hi,rfl⟩:=gy hb
  have:=h i (cT.mpr hi)
  rwa [aJ hi]at this
 ·intro h i hi
  have ix:=cT.mp hi
  rw[aJ ix]
  exact h _ (cC ix)
theorem ck0(bs:List Bool):((aZ bs.length).any λi=>(bs[i]?).getD false)=bs.any id:=by
 rw[tw,FL,FL]
 constructor
 ·rintro⟨i,hi,h⟩
  have ix:=cT.mp hi
  rw[aJ ix]at h
  exact⟨_,cC ix,h⟩
 ·rintro⟨b,hb,h⟩
  obtain⟨i,hi,rfl⟩:=gy hb
  exact⟨i,cT.mpr hi,by rw[aJ hi];exact h⟩
theorem ck2(hc:X.calm=true):g5 X (.builtin "all") (λxs H Q=>∃(p:Addr) (bs:List Bool),xs=[.ref p]/\bR X.K H p (bs.map V.bl)/\Q (.bl (bs.all id)) H):=by
 intro pins s σ H xs us Q I r h
 obtain⟨p,bs,rfl,hS,q⟩:=h
 obtain⟨u,rfl,ru⟩:=r.one
 cases ru
 obtain⟨its,rv,pl,hz⟩:=I.list hS
 obtain⟨hlen,Hc⟩:=cj2 rv
 have hl:=pl.isList
 have gD:p<s.heap.objs.size:=by obtain⟨_,e,_⟩:=hl;exact bV e
 refine call_all_walk (wpAny_pyIter_list hl ?_)
 refine⟨s.heap.objs.size,[s.heap.objs.size,p],[s.heap.objs.size],its.toArray.size,_,_,λi=>(bs[i]?).getD true,rfl,Walks.list (A:=X.A.in1) (I.ok.hd hc) _ p (fA gD) its.toArray,
  ⟨⟨_,gR _ rfl,rfl,rfl⟩,hl.push _⟩,λi v s' Q' E' hP hQ=>?_,λh' tk hk=>?_⟩
 ·obtain⟨b,e,rfl⟩:=Hc i v (by simpa using hP)
  simp only[e,qf]at hQ
  exact wpAny_truthy_bool hQ
 ·have e:((aZ its.toArray.size).all λi=>(bs[i]?).getD true)=bs.all id:=by
   rw[dP,<- hlen];exact cl6 bs
  rw[e]
  exact⟨.bl _,H,I.kept (h':=h') (t':=tk) (Hb hk),rfl,q⟩
end
def n9(X:Cx):List (Str × Addr)->Prop
 | []=>True
 | (y,c)::r=>X.env.cells.lookup y=some c/\n9 X r
theorem n9.all{X:Cx}:∀{cl:List (Str × Addr)},n9 X cl->∀y c,cl.lookup y=some c->X.env.cells.lookup y=some c
 | [],_,y,c,h=>by simp at h
 | (z,d)::r,h,y,c,e=>by
  rw[gH]at e
  cases q:y==z with
  | true =>
   rw[q]at e
   cases e
   rw[eq_of_beq q]
   exact h.1
  | false =>
   rw[q]at e
   exact n9.all h.2 y c e
def og(cl:List (Str × Addr)):List (Str × NameKind)->Prop
 | []=>True
 | (y,k)::r=>(k=.local\/k=.globalImplicit\/∃c,cl.lookup y=some c)/\og cl r
theorem og.all{cl:List (Str × Addr)}:∀{ns:List (Str × NameKind)},og cl ns->∀y,(ns.lookup y=some .cell\/ns.lookup y=some .free)->∃c,cl.lookup y=some c
 | [],_,y,h=>by simp at h
 | (z,k)::r,h,y,e=>by
  rw[gH]at e
  cases q:y==z with
  | true =>
   rw[q]at e
   rw[eq_of_beq q]
   rcases h.1 with g | g | g
   ·rw[g]at e;rcases e with e | e<;>cases e
   ·rw[g]at e;rcases e with e | e<;>cases e
   ·exact g
  | false =>
   rw[q]at e
   exact og.all h.2 y e
section
variable{X:Cx}{elt iter:Expr}{x:Str}{px pos:Pos}{ifs:List Expr}{scope:Scope}{cl:List (Str × Addr)}{wi:TI}{tt:TT}{te:TE}
end
end L2
namespace L2
open PySem PySem.Spec PyProof.Rows Mf
end L2
namespace L2
end L2
namespace L2
open PySem PySem.Spec PyProof.Rows
def iy(aH:List (Str × Nat))(n:Nat)(σ:L2.St):St:=(aH.map λp=>(σ[p.2]?).getD none)++bG n none
def TY(J:It)(aH:List (Str × Nat))(n:Nat)(g:TG)(tt:TT)(te:TE)(σ:L2.St)(H1:Hp)(Q:VK):Prop:=∀D,H1 D=none->∃W:Nat->Nat->List V->Hp->Prop,(∃m,W 0 m [] (upd H1 D (.lst []))) /\
 ∀i m acc H2,W i m acc H2->H2 D=some (.lst acc)/\((J.stop i H2/\Q (.ref D) H2)\/(J.go i H2/\∀x H3,J.ky i H2 x H3->H3 D=some (.lst acc)/\g x (iy aH n σ) H3 λgZ H4 =>
  (gZ.length=(iy aH n σ).length/\∀j,j<aH.length->gZ[j]?=(iy aH n σ)[j]?)/\tt gZ H4 λb H5=>H5 D=some (.lst acc) /\
  if b=true then te gZ H5 λy H6=>H6 D=some (.lst acc)/\acc.length<sizeLine/\∃m',m'<m/\W (i+1) m' (acc++[y]) (upd H6 D (.lst (acc++[y])))else ∃m',m'<m/\W (i+1) m' acc H5))
def Ct(wi:TI)(aH:List (Str × Nat))(n:Nat)(g:TG)(tt:TT)(te:TE):TE:=λσ H Q=>wi σ H λJ H1=>TY J aH n g tt te σ H1 Q
section
variable{X:Cx}{elt iter tg:Expr}{pos:Pos}{ifs:List Expr}{scope:Scope}{cl:List (Str × Addr)}{wi:TI}{tt:TT}{te:TE}{g:TG}
end
end L2
namespace L2
open PySem PySem.Spec PyProof.Rows
section
variable{X:Cx}{tg:Expr}
end
end L2
namespace L2
open PySem PySem.Spec PyProof.Rows
def He(h:Heap)(a T:Addr)(cls fl:Value):Prop :=
 ∃oe vs oT ts,h.get? a=some oe/\oe.cls=cls/\oe.dict=none/\oe.data=.fields vs/\vs[1]?=some (.ref T)/\T≠a/\h.get? T=some oT/\oT.data=.fields ts/\ts[3]?=some fl
abbrev t7(h:Heap)(a T:Addr)(cls:Value):Prop:=He h a T cls .none
theorem bA3(o:Obj)(f:Array Value->Array Value):(o.mapFields f).dict=o.dict:=by
 obtain⟨c,d,dt,sl⟩:=o
 cases dt<;>rfl
section
variable{M:Model}{A:Around}{E:Value->Shared->Prop}{s:Shared}{base:Heap}{env:Env}{outer:List Env}{L a T:Addr}{cls:Value}{oe:Obj}{vs:Array Value}{Q:Unit->Shared->Prop}
structure Ent(fs:List Addr)(h h':Heap)(a T:Addr)(oe:Obj)(L:Addr):Prop where
 new:h.get? T=none
 ne:T≠a
 keep:∀b o,b≠a->b ∉ fs->h.get? b=some o->h'.get? b=some o
 slot:∀b o,b≠a->h.get? b=some o->∃sl,h'.get? b=some { o with slots:=sl }
 exc:h'.get? a=some (oe.mapFields λz=>z.setIfInBounds 1 (.ref T))
 ent:∃oT ts,h'.get? T=some oT/\oT.data=.fields ts/\ts[3]?=some (rawInt L)
theorem TZ{head:Value}{dB3:Bool}(e5:A.frames=some (env::outer))(hl:s.heap.FunFrames base (env::outer))(hf:env.frame=some L)(he:s.heap.get? a=some oe)(hd:oe.data=.fields vs)(mI:1<vs.size)
  (na:a ∉ (env::outer).filterMap (·.frame)) (k:∀h' T',Ent ((env::outer).filterMap (·.frame)) s.heap h' a T' oe L->Q () { s with heap:=h' }) :
  wpAny M A (do let x<-frameOf env;let pl<-entryPlaceOf L dB3;let b<-EntryCells.newEntry head x .none (rawInt L) .none pl;setField (.ref a) 1 b) Q E s:=by
 refine wpAny_bind (wpAny_frameOf_fun e5 hl hf λg1 so=>wpAny_bind (wpAny_entryPlaceOf λpl ip=>?_))
 unfold EntryCells.newEntry newFields
 have e1:g1.get? a=some oe:=(so.2.1 a na).trans he
 refine wpAny_bind (wpAny_newObj_type ?_ (ip.sizeOk5 _ _ _ _ _))
 generalize T1:({ cls:=.type "traceback",dict:=none,data:=.fields ([head,fM L,.none,rawInt L,.none]++(if pl.isEmpty then bG 6 sU else pl)).toArray }:Obj)=te
 have e2:(g1.push te).get? a=some oe:=fO te e1
 have hda:te.data=.fields ([head,fM L,.none,rawInt L,.none]++(if pl.isEmpty then bG 6 sU else pl)).toArray:=by rw[<-T1]
 have nf:te.isFreed=false:=by rw[<-T1];rfl
 refine wpAny_setField e2 hd mI ?_
 have d3:=FN hd λz=>z.setIfInBounds 1 (fM g1.objs.size)
 have nT:g1.objs.size≠a:=RF (bV e1)
 refine k _ g1.objs.size ⟨?_,nT,λb o hb hz q=>?_,λb o hb q=>?_,FC _ e2 (RM d3),⟨te,_,?_,hda,?_⟩⟩
 ·cases q:s.heap.get? g1.objs.size with
  | none=>rfl
  | some o=>obtain⟨sl,z⟩:=so.2.2 _ _ q;exact absurd (bV z) (fN _)
 ·rw[s8 _ _ (fB hb)]
  exact fO te ((so.2.1 b hz).trans q)
 ·obtain⟨sl,z⟩:=so.2.2 b o q
  refine⟨sl,?_⟩
  rw[s8 _ _ (fB hb)]
  exact fO te z
 ·rw[s8 _ _ (fB nT)]
  exact gR g1 nf
 ·first | (simp;done) | (rcases ip with rfl | ⟨_,_,_,_,_,_,_,rfl⟩<;>simp)
structure T2(fs Z:List Addr)(h h':Heap)(a T:Addr)(cls:Value):Prop where
 new:h.get? T=none
 keep:∀b o,b ∉ Z->b ∉ fs->h.get? b=some o->h'.get? b=some o
 slot:∀b o,b ∉ Z->h.get? b=some o->∃sl,h'.get? b=some { o with slots:=sl }
 zM:t7 h' a T cls
theorem T3{fl:Value}(tr:He s.heap a T cls fl)(k:∀h',(∀b o,b≠T->s.heap.get? b=some o->h'.get? b=some o)->t7 h' a T cls->Q () { s with heap:=h' }):wpAny M A (setFlight (.ref a) none) Q E s:=by
 obtain⟨oe,vs,oT,ts,h1,h2,h3,h4,h5,h6,h7,h8,h9⟩:=tr
 have sz:3<ts.size:=(RN.mp h9).1
 unfold setFlight
 refine wpAny_bind (wpAny_field h1 h4 h5 ?_)
 rw[if_pos (by simp)]
 refine wpAny_setField h7 h8 sz (k _ (λb o hb q=>(s8 _ _ (fB hb)).trans q) ?_)
 have d:=FN h8 λz=>z.setIfInBounds 3 ((none:Option Addr).elim sU λf=>rawInt f)
 exact⟨oe,vs,_,_,(s8 _ _ h6).trans h1,h2,h3,h4,h5,h6,FC _ h7 (RM d),d,by simp[sz]⟩
theorem Ent.fin{fs:List Addr}{h h':Heap}{a T L:Addr}{oe:Obj}{vs:Array Value}(e:Ent fs h h' a T oe L)(hd:oe.data=.fields vs)(mI:1<vs.size)(hdi:oe.dict=none):He h' a T oe.cls (rawInt L):=by
 obtain⟨oT,ts,e1,e2,e3⟩:=e.ent
 exact⟨_,_,oT,ts,e.exc,Obj.cls_mapFields _ _,by rw[bA3];exact hdi,FN hd _,by simp[mI],e.ne,e1,e2,e3⟩
theorem bN2(e5:A.frames=some (env::outer))(hl:s.heap.FunFrames base (env::outer))(hf:env.frame=some L)(na:a ∉ (env::outer).filterMap (·.frame))(tr:t7 s.heap a T cls)
  (k:∀h' T',T2 ((env::outer).filterMap (·.frame)) [a,T] s.heap h' a T' cls->Q () { s with heap:=h' }):wpAny M A (noteFrame (.ref a) env) (λ_ kT=>wpAny M A (setFlight (.ref a) none) Q E kT) E s:=by
 obtain⟨oe,vs,oT,ts,h1,h2,h3,h4,h5,h6,h7,h8,h9⟩:=tr
 have s1:1<vs.size:=(RN.mp h5).1
 have s3:3<ts.size:=(RN.mp h9).1
 unfold noteFrame
 simp only[hf]
 refine wpAny_bind (wpAny_field h1 h4 h5 ?_)
 rw[if_pos (by simp)]
 refine wpAny_bind (wpAny_field h7 h8 h9 ?_)
 rw[if_neg (by simp[rawInt])]
 refine wpAny_bind (wpAny_setField h7 h8 s3 ?_)
 generalize hg:s.heap.update T (Obj.mapFields λz=>z.setIfInBounds 3 sU)=g
 have cN:∀b,b≠T->g.get? b=s.heap.get? b:=λb hb=>by rw[<-hg];exact s8 _ _ (fB hb)
 have bT:∀b o,s.heap.get? b=some o->(∀ws,o.data≠.fields ws)->b≠T:=λb o q hn z=>by subst z;rw[h7]at q;cases q;exact hn ts h8
 have gT:∃oT',g.get? T=some oT':=⟨_,by rw[<-hg];exact FC _ h7 (RM (FN h8 _))⟩
 refine TZ (s:={ s with heap:=g }) e5 (hl.of_keeps λb o q hn=>⟨o,(cN b (bT b o q hn)).trans q,rfl⟩) hf ((cN a (fB h6)).trans h1) h4 s1 na λh' T' en=>?_
 have nT':T'≠T:=λz=>by subst z;obtain⟨o,q⟩:=gT;rw[en.new]at q;cases q
 refine T3 (s:={ s with heap:=h' }) (h2 ▸ en.fin h4 s1 h3) λHf kp Hg=>?_
 refine k Hf T' ⟨(cN T' nT').symm.trans en.new,λb o hz hb q=>?_,λb o hz q=>?_,Hg⟩
 ·have z1:b≠a:=λz=>hz (by simp[z])
  have z2:b≠T:=λz=>hz (by simp[z])
  have z3:b≠T':=λz=>by have:=en.new;rw[<-z,cN b z2,q]at this;cases this
  exact kp b o z3 (en.keep b o z1 hb ((cN b z2).trans q))
 ·have z1:b≠a:=λz=>hz (by simp[z])
  have z2:b≠T:=λz=>hz (by simp[z])
  have z3:b≠T':=λz=>by have:=en.new;rw[<-z,cN b z2,q]at this;cases this
  obtain⟨sl,r⟩:=en.slot b o z1 ((cN b z2).trans q)
  exact⟨sl,kp b _ z3 r⟩
theorem bO1{h1:Heap}{args:List Value}(e5:A.frames=some (env::outer))(hl:s.heap.FunFrames base (env::outer))(hf:env.frame=some L)(hx:RP s.heap h1 a cls args)
  (k:∀h' T',T2 ((env::outer).filterMap (·.frame)) [] s.heap h' a T' cls->Q () { s with heap:=h' }):wpAny M A (noteFrame (.ref a) env) (λ_ kT=>wpAny M A (setFlight (.ref a) none) Q E kT) E { s with heap:=h1 }:=by
 obtain⟨t,e1,_,_⟩:=hx.there
 have na:a ∉ (env::outer).filterMap (·.frame):=λhb=>by obtain⟨_,o,ho,_⟩:=hl.mem hb;rw[hx.new]at ho;cases ho
 unfold noteFrame
 simp only[hf]
 refine wpAny_bind (wpAny_field (s:={ s with heap:=h1 }) e1 rfl (x:=.none) (by rfl) ?_)
 rw[if_neg (by decide)]
 refine TZ (s:={ s with heap:=h1 }) e5 (hl.of_keeps λb o q _=>⟨o,hx.keeps b o q,rfl⟩) hf e1 rfl (by simp) na λh' T' en=>?_
 refine T3 (s:={ s with heap:=h' }) (en.fin rfl (by simp) rfl) λHf kp Hg=>?_
 have ba:∀b o,s.heap.get? b=some o->b≠a:=λb o q z=>by rw[z,hx.new]at q;cases q
 have bT:∀b o,s.heap.get? b=some o->b≠T':=λb o q z=>by have:=hx.keeps b o q;rw[z,en.new]at this;cases this
 refine k Hf T' ⟨?_,λb o _ hb q=>kp b o (bT b o q) (en.keep b o (ba b o q) hb (hx.keeps b o q)),λb o _ q=>?_,Hg⟩
 ·cases q:s.heap.get? T' with
  | none=>rfl
  | some o=>exact absurd rfl (bT T' o q)
 ·obtain⟨sl,r⟩:=en.slot b o (ba b o q) (hx.keeps b o q)
  exact⟨sl,kp b _ (bT b o q) r⟩
end
end L2
namespace L2
open PySem PySem.Spec PyProof.Rows
theorem eI.there{P:Program}{w:World}{H:Hp}{h:Heap}{a:Addr}{o:HO}(x:eI P w H h a o):∃u,h.get? a=some u:=by
 cases o with
 | lst xs=>obtain⟨_,_,_,_,e⟩:=x;exact⟨_,e⟩
 | tup xs=>obtain⟨_,_,_,o,e,_⟩:=x;exact⟨o,e⟩
 | dK dQ=>obtain⟨_,_,_,_,o,_,_,e,_⟩:=x;exact⟨_,e⟩
 | dT dQ=>obtain⟨_,_,_,_,o,_,_,e,_⟩:=x;exact⟨_,e⟩
 | set S n=>obtain⟨o,_,_,_,e,_⟩:=x;exact⟨_,e⟩
 | ins C dx fs=>obtain⟨_,_,_,e,_⟩:=x;exact⟨_,e⟩
 | own y=>exact x
 | xd fs=>obtain⟨_,⟨_,_,_,e,_⟩,_⟩:=x;exact⟨_,e⟩
 | zb lo hi=>obtain⟨_,_,_,e⟩:=x;exact⟨_,e⟩
 | cu ob u=>obtain⟨e,_⟩:=x;exact⟨_,e⟩
 | dN ps=>exact⟨_,show h.get? a=some _ from x.1⟩
 | met f y=>exact⟨_,show h.get? a=some _ from x⟩
 | ext φ=>obtain⟨_,e,_⟩:=x;exact e
theorem cV.none{P:Program}{w:World}{H:Hp}{h:Heap}{a:Addr}(x:cV P w H h)(e:h.get? a=.none):H a=.none:=by
 cases q:H a with
 | none=>rfl
 | some u=>obtain⟨o,z⟩:=(x a u q).there;rw[e]at z;cases z
structure Apart(X:Cx)(pins:List (Addr × Obj))(H:Hp)(b:Addr):Prop where
 old:X.cW.heap.get? b=none
 free:H b=none
 loc:b≠X.env.locals
 cell:∀x c,X.env.cells.lookup x=some c->c≠b
 pin:∀p∈X.pn++pins,p.1≠b
 fr:b ∉ eJ X.stack
section
variable{X:Cx}{pins:List (Addr × Obj)}{σ:St}{H H':Hp}{s:Shared}{a T b:Addr}{cls:Value}{M:Model}{Q:Unit->Shared->Prop}{E:Value->Shared->Prop}{h':Heap}
theorem Inv.old(I:Inv X pins σ H s)(hex:X.ex=[])(e:s.heap.get? b=none):X.cW.heap.get? b=none:=by
 cases q:X.cW.heap.get? b with
 | none=>rfl
 | some o=>obtain⟨o',z⟩:=I.base.there b o q (by rw[hex];simp);rw[e]at z;cases z
theorem T4(I:Inv X pins σ H s)(dH:X.stack=X.env::X.outer)(hex:X.ex=[])(hf:X.env.frame=some X.env.locals)(Z:List Addr)(hZ:∀b∈Z,X.cW.heap.get? b=none/\H b=none)
  (keep:∀b o,b ∉ Z->b ∉ eJ X.stack->s.heap.get? b=some o->h'.get? b=some o) (slots:∀b o,b ∉ Z->s.heap.get? b=some o->∃sl,h'.get? b=some { o with slots:=sl }) :
  Un (eJ X.outer) [] X.kQ H X.cW.heap h'/\cV X.prog X.w H h':=by
 have Hh:∀b o,X.cW.heap.get? b=some o->b ∉ Z:=λb o e z=>by rw[(hZ b z).1]at e;cases e
 have sub:∀b,b∈eJ X.stack->b=X.env.locals\/b∈eJ X.outer:=λb hb=>by
  rw[dH]at hb
  unfold eJ at hb
  rw[BF,hf]at hb
  exact cB.mp hb
 have sup:∀b,b∈eJ X.outer->b∈eJ X.stack:=λb hb=>by
  rw[dH]
  unfold eJ
  rw[BF,hf]
  exact dZ _ hb
 have B6:∀b o,X.cW.heap.get? b=some o->b≠X.env.locals:=λb o e=>fA (dB (bV e) I.ok.above)
 have nx:∀b:Addr,b ∉ X.ex:=λb=>by rw[hex];simp
 refine⟨⟨λb o e n hb _=>?_,λb o e n hb _=>?_,λb o e n _=>I.base.free b o e n (nx b),λb o e _=>?_,I.base.km,I.base.jO,I.base.iN⟩,λb ob e=>?_⟩
 ·exact keep b o (Hh b o e) (λz=>(sub b z).elim (B6 b o e) hb) (I.base.keep b o e n hb (nx b))
 ·obtain⟨sl,e1⟩:=I.base.slot b o e n hb (nx b)
  exact(slots b _ (Hh b o e) e1).imp λsl h=>h
 ·obtain⟨o',e1⟩:=I.base.there b o e (nx b)
  exact(slots b o' (Hh b o e) e1).elim λsl q=>⟨_,q⟩
 ·refine(I.aO b ob e).kP (λc u hc q=>keep c u (λz=>?_) (λz=>?_) q) (λ_ q=>q) (λ_ _ q=>q) λ_ _ q=>q
  ·have n:=(hZ c z).2
   rcases hc with rfl | hc
   ·rw[n]at e;cases e
   ·rw[n]at hc;cases hc
  ·have n:=I.Gp c z
   rcases hc with rfl | hc
   ·rw[n]at e;cases e
   ·rw[n]at hc;cases hc
structure T5(X:Cx)(H:Hp)(h':Heap)(a T:Addr)(cls:Value):Prop where
 un:Un (eJ X.outer) [] X.kQ H X.cW.heap h'
 aO:cV X.prog X.w H h'
 zM:t7 h' a T cls
 a0:X.cW.heap.get? a=none
 a1:H a=none
 t0:X.cW.heap.get? T=none
 t1:H T=none
theorem bX7(I:Inv X pins σ H s)(dH:X.stack=X.env::X.outer)(hex:X.ex=[])(hf:X.env.frame=some X.env.locals)(tr:t7 s.heap a T cls)(pa:Apart X pins H a)(pT:Apart X pins H T)
  (hQ:∀h' T',T5 X H h' a T' cls->Q () { s with heap:=h' }):wpAny M X.A (leaving X.env (.ref a)) Q E s:=by
 have hZ:∀b∈[a,T],X.cW.heap.get? b=none/\H b=none:=λb hb=>by
  rcases cB.mp hb with rfl | hb
  ·exact⟨pa.old,pa.free⟩
  ·rw[dX.mp hb];exact⟨pT.old,pT.free⟩
 have na:a ∉ (X.env::X.outer).filterMap (·.frame):=by have:=pa.fr;rw[dH]at this;exact this
 refine wpAny_bind (bN2 (base:=X.base) (by rw[I.ok.frames,dH]) (dH ▸ I.stack) hf na tr λh' T' st=>?_)
 have kp:∀b o,b ∉ [a,T]->b ∉ eJ X.stack->s.heap.get? b=some o->h'.get? b=some o:=λb o hz hb q=>st.keep b o hz (by rw[dH]at hb;exact hb) q
 obtain⟨un,aO⟩:=T4 (h':=h') I dH hex hf [a,T] hZ kp st.slot
 exact hQ h' T' ⟨un,aO,st.zM,pa.old,pa.free,I.old hex st.new,I.aO.none st.new⟩
theorem b75{h1:Heap}{args:List Value}(I:Inv X pins σ H s)(dH:X.stack=X.env::X.outer)(hex:X.ex=[])(hf:X.env.frame=some X.env.locals)(hx:RP s.heap h1 a cls args)
  (hQ:∀h' T',T5 X H h' a T' cls->Q () { s with heap:=h' }):wpAny M X.A (leaving X.env (.ref a)) Q E { s with heap:=h1 }:=by
 refine wpAny_bind (bO1 (base:=X.base) (by rw[I.ok.frames,dH]) (dH ▸ I.stack) hf hx λh' T' st=>?_)
 have kp:∀b o,b ∉ ([]:List Addr)->b ∉ eJ X.stack->s.heap.get? b=some o->h'.get? b=some o:=λb o hz hb q=>st.keep b o hz (by rw[dH]at hb;exact hb) q
 obtain⟨un,aO⟩:=T4 (h':=h') I dH hex hf [] (λb hb=>absurd hb (by simp)) kp st.slot
 exact hQ h' T' ⟨un,aO,st.zM,I.old hex hx.new,I.aO.none hx.new,I.old hex st.new,I.aO.none st.new⟩
end
def oh(P:Program)(w:World):fh:=λouter H s E e s'=>∃a T cls H',e=.ref a/\s'.os=s.os/\AllBare s'.gens/\Un (eJ outer) [] H H' s.heap s'.heap/\cV P w H' s'.heap/\t7 s'.heap a T cls /\
 s.heap.get? a=none/\H' a=none/\s.heap.get? T=none/\H' T=none/\E cls none H'
section
variable{X:Cx}{pins:List (Addr × Obj)}{σ:St}{H H':Hp}{s:Shared}{a T b:Addr}{cls:Value}{M:Model}{Q:Unit->Shared->Prop}{E:Value->Shared->Prop}{h':Heap}
end
end L2
namespace L2
open PySem PySem.W PySem.Spec PySem.Calls PyProof.Rows
section
variable{prog:Program}{w:World}{A:Around}{E:Value->Shared->Prop}{s:Shared}{K:Frag}{x D:Addr}{ox:Obj}{odo:Option Obj}
end
end L2
namespace L2
open PySem PySem.W PySem.Spec PySem.Calls PyProof.Rows
section
variable{prog:Program}{w:World}{A:Around}{E:Value->Shared->Prop}{s:Shared}{K:Frag}{x D:Addr}{ox:Obj}{odo:Option Obj}
structure dC3(K:Frag)(C:Addr):Prop where
 cls:(clsIn K C).isSome=true
 ga:findIn K (.ref C) "__getattribute__"=some (some (.builtin "BaseException.__getattribute__"))
 gt:findIn K (.ref C) "__getattr__"=some none
 ca:findIn K (.ref C) "__class__"=some (some (.builtin "object.__class__"))
 hn:specialIn K (.builtin "object.__class__") "__get__"=some (some (.builtin "getset_descriptor.__get__"))
 tk:takesIn K (.builtin "object.__class__")=some true
 mo:mroIn K C (.type "object")=some true
 mb:mroIn K C (.type "BaseException")=some true
end
end L2
namespace L2
open PySem PySem.Spec PyProof.Rows
section
variable{X:Cx}{pins:List (Addr × Obj)}{σ:St}{H:Hp}{s:Shared}{h':Heap}{its:List Addr}{T:Addr}{o:HO}{t':Nat}
theorem Inv.Cu(I:Inv X pins σ H s)(k:∀b o,b ∉ its->s.heap.get? b=some o->h'.get? b=some o)(hf:∀b∈its,jr X pins H b):Inv X pins σ H { s with heap:=h',toks:=t' }:=by
 have qp:∀b u,H b=some u->b ∉ its:=λb u e z=>by have:=(hf b z).1;rw[this]at e;cases e
 refine I.step (g':=s.gens) (d':=s.drawn) (ch:=its) (λb hb=>?_) (λb o _ _ hc e _=>k b o hc e) (λb o _ _ hc e _=>⟨o.slots,k b o hc e⟩) (λ_ _ _ _ n=>n)
  (λb o hc e=>⟨o,k b o hc e⟩) (λ_ _ e=>e) (λ_ _ _ e=>e) (λb ps e=>⟨#[],by rw[e];simp⟩) (λm hm=>?_) (λb u e=>?_) I.bare
 ·obtain⟨_,h1,_,h2,h3,h4⟩:=hf b hb
  exact⟨h2,h1,h3,h4⟩
 ·obtain⟨o,es,ep,ho,r⟩:=hm
  exact⟨o,es,ep,k _ o (λz=>(hf _ z).2.1 rfl) ho,r⟩
 ·refine(I.aO b u e).kP (λc v hc q=>k c v ?_ q) (λ_ q=>q) (λ_ _ q=>q) λ_ _ q=>q
  rcases hc with z | z
  ·rw[z];exact qp b u e
  ·exact qp c _ z
theorem Inv.T6(I:Inv X pins σ H s)(k:∀b o,b ∉ its->s.heap.get? b=some o->h'.get? b=some o)(hf:∀b∈its,jr X pins H b)(hT:s.heap.objs.size<=T)(new:eI X.prog X.w (upd H T o) h' T o) :
  Inv X pins σ (upd H T o) { s with heap:=h',toks:=t' }:=by
 have qp:∀b u,H b=some u->b ∉ its:=λb u e z=>by have:=(hf b z).1;rw[this]at e;cases e
 have fT:H T=none:=I.aO.fresh hT
 have neT:∀b u,H b=some u->b≠T:=λb u e z=>by rw[z,fT]at e;cases e
 have neS:∀b u,s.heap.get? b=some u->b≠T:=λb u e z=>absurd (dB (bV e) hT) (by rw[z];exact fN _)
 refine I.step (g':=s.gens) (d':=s.drawn) (ch:=its) (λb hb=>?_) (λb o _ _ hc e _=>k b o hc e) (λb o _ _ hc e _=>⟨o.slots,k b o hc e⟩) (λb u _ e n=>by rw[bA (neS b u e)];exact n)
  (λb o hc e=>⟨o,k b o hc e⟩) (λb _ e=>by rw[bA (neT b _ e)];exact e) (λb _ _ e=>by rw[bA (neT b _ e)];exact e) (λb ps e=>⟨#[],by rw[bA (neT b _ e),e];simp⟩) (λm hm=>?_) (λb u e=>?_) I.bare
 ·obtain⟨_,h1,_,h2,h3,h4⟩:=hf b hb
  exact⟨h2,h1,h3,h4⟩
 ·obtain⟨o,es,ep,ho,r⟩:=hm
  exact⟨o,es,ep,k _ o (λz=>(hf _ z).2.1 rfl) ho,r⟩
 ·by_cases hb:b=T
  ·subst hb;rw[cI]at e;cases e;exact new
  ·rw[bA hb]at e
   refine(I.aO b u e).kP (λc v hc q=>k c v ?_ q) (λc q=>by rw[bA (neT c _ q)];exact q) (λc _ q=>by rw[bA (neT c _ q)];exact q) λc _ q=>by rw[bA (neT c _ q)];exact q
   rcases hc with z | z
   ·rw[z];exact qp b u e
   ·exact qp c _ z
def Hi(K:PySem.W.Frag)(a b:Addr):It :=
 ⟨λi H=>∃xs ys x y,bR K H a xs/\bR K H b ys/\xs[i]?=some x/\ys[i]?=some y,
  λi H v H'=>∃T x y,v=.ref T/\H T=none/\H'=upd H T (.tup [x,y])/\(∀xs,bR K H a xs->xs[i]?=some x)/\∀ys,bR K H b ys->ys[i]?=some y,
  λi H=>∃xs ys,bR K H a xs/\bR K H b ys/\(xs.length<=i\/ys.length<=i)⟩
theorem qC{K:PySem.W.Frag}{a c:Addr}{xs:List V}(hk:X.K=K)(I:Inv X pins σ H s)(h:bR K H a xs)(hf:jr X pins H c)(ho:∃o,s.heap.get? c=some o/\o.cls≠.type "list"):a≠c:=by
 subst hk
 obtain⟨its,rv,p,hz⟩:=I.list h
 obtain⟨o,e,d⟩:=ho
 obtain⟨o',e',c',_⟩:=p.isList
 intro z
 subst z
 rw[e]at e';cases e'
 exact d c'
theorem cn8{P:Program}{w:World}{K:PySem.W.Frag}{elts:List Expr}{k:Nat}{pos:Pos}(a b z TI TO i1 i2:Addr)(D5:[z,TI,TO,i1,i2].Nodup) :
  Turn P w K (.Tuple elts k pos) (Hi K a b) [z,TI,TO,i1,i2] z (λi h=>IsZip h z TI TO .none/\IsPair h TI (.ref i1) (.ref i2)/\(∃u v,IsPair h TO u v)/\h.IsListIter i1 a i/\h.IsListIter i2 b i):=by
 have ap:∀(X:Cx) (pins:List (Addr × Obj)) (s:Shared) (σ:St) (H:Hp) (i:Nat) (xs ys:List V),X.K=K->Inv X pins σ H s->(∀b∈[z,TI,TO,i1,i2],jr X pins H b)->IsZip s.heap z TI TO .none->(∃u v,IsPair s.heap TO u v)->s.heap.IsListIter i1 a i->s.heap.IsListIter i2 b i ->
   bR K H a xs->bR K H b ys->ZipApart z TI TO i1 i2 a b:=by
  intro X pins s σ H i xs ys hK I hf hz jz h1 h2 hx hy
  simp only[jk,cB,not_or,ik,not_false_eq_true,and_true]at D5
  obtain⟨⟨d1,d2,d3,d4⟩,⟨d5,d6,d7⟩,⟨d8,d9⟩,d10,_⟩:=D5
  have oz:∃o,s.heap.get? z=some o/\o.cls≠.type "list":=⟨_,hz,by intro q;exact absurd (FP q) (by decide)⟩
  have T7:∃o,s.heap.get? TO=some o/\o.cls≠.type "list":=by obtain⟨u,v,e⟩:=jz;exact⟨_,e,by intro q;exact absurd (FP q) (by decide)⟩
  have o1:∃o,s.heap.get? i1=some o/\o.cls≠.type "list":=by obtain⟨o,e,c,d⟩:=h1;exact⟨_,e,by rw[c];intro q;exact absurd (FP q) (by decide)⟩
  have o2:∃o,s.heap.get? i2=some o/\o.cls≠.type "list":=by obtain⟨o,e,c,d⟩:=h2;exact⟨_,e,by rw[c];intro q;exact absurd (FP q) (by decide)⟩
  exact⟨fB d1,fB d2,fB d3,fB d4,d5,d6,d7,d8,d9,d10,
   qC hK I hx (hf z (by simp)) oz,qC hK I hx (hf TO (by simp)) T7,qC hK I hx (hf i1 (by simp)) o1,qC hK I hx (hf i2 (by simp)) o2,
   qC hK I hy (hf z (by simp)) oz,qC hK I hy (hf TO (by simp)) T7,qC hK I hy (hf i1 (by simp)) o1,qC hK I hy (hf i2 (by simp)) o2⟩
 refine⟨by simp,λi h st c hc=>?_,λi h h' st kk=>?_,?_,?_,λ_ _ _ _ _ st h=>wpAny_pyIter_zip st.1 h⟩
 ·obtain⟨hz,kZ,⟨u,v,jz⟩,⟨o1,e1,c1,d1⟩,⟨o2,e2,c2,d2⟩⟩:=st
  simp only[cB,ik,or_false]at hc
  rcases hc with rfl | rfl | rfl | rfl | rfl
  ·exact⟨_,hz,λv q=>by cases q⟩
  ·exact⟨_,kZ,λv q=>by cases q⟩
  ·exact⟨_,jz,λv q=>by cases q⟩
  ·exact⟨_,e1,λv q=>by rw[d1]at q;cases q⟩
  ·exact⟨_,e2,λv q=>by rw[d2]at q;cases q⟩
 ·obtain⟨hz,kZ,⟨u,v,jz⟩,h1,h2⟩:=st
  exact⟨kk _ (by simp) _ hz,kk _ (by simp) _ kZ,⟨u,v,kk _ (by simp) _ jz⟩,h1.at λo e=>kk _ (by simp) o e,h2.at λo e=>kk _ (by simp) o e⟩
 ·intro X hP hw hK hc i pins s σ H E I hf st hg
  obtain⟨xs,ys,x,y,hx,hy,ex,ey⟩:=hg
  obtain⟨hz,kZ,⟨u,v,jz⟩,h1,h2⟩:=st
  have D:=ap X pins s σ H i xs ys hK I hf hz ⟨u,v,jz⟩ h1 h2 hx hy
  subst hP hw hK
  obtain⟨as,ra,pa,_⟩:=I.list hx
  obtain⟨bs,rb,pb,_⟩:=I.list hy
  obtain⟨ux,Hj,rx⟩:=ra.get ex
  obtain⟨uy,euy,ry⟩:=rb.get ey
  refine wpAny_pyNext_zip_item D hz kZ jz h1 h2 pa.isList pb.isList (x:=ux) (y:=uy) (by simpa using Hj) (by simpa using euy) λh' z' TO' kC jR T' sz kk=>?_
  have fT:H s.heap.objs.size=none:=I.aO.fresh (bN _)
  have I1:Inv X pins σ (upd H s.heap.objs.size (.tup [x,y])) { s with heap:=h',toks:=s.toks }:=I.T6 (its:=[z,TO,i1,i2]) (λc o hc e=>kk c o (λq=>hc (by simp[q])) (λq=>hc (by simp[q])) (λq=>hc (by simp[q])) (λq=>hc (by simp[q])) e)
   (λc hc=>hf c (by simp only[cB,ik,or_false]at hc ⊢;rcases hc with rfl | rfl | rfl | rfl<;>simp)) (bN _) ⟨by show 2<=sizeLine;decide,[ux,uy],.cons rx (.cons ry .nil),⟨_,T',rfl,_,rfl⟩⟩
  have nT:∀c∈[z,TI,TO,i1,i2],c≠s.heap.objs.size:=λc hc q=>by
   have:∃o,s.heap.get? c=some o:=by
    simp only[cB,ik,or_false]at hc
    rcases hc with rfl | rfl | rfl | rfl | rfl
    ·exact⟨_,hz⟩
    ·exact⟨_,kZ⟩
    ·exact⟨_,jz⟩
    ·obtain⟨o,e,_⟩:=h1;exact⟨o,e⟩
    ·obtain⟨o,e,_⟩:=h2;exact⟨o,e⟩
   obtain⟨o,e⟩:=this
   exact absurd (bV e) (by rw[q];exact fN _)
  refine⟨_,rfl,wpAny_letOwnedTupleGo_zip z' λHk Hl sb=>?_⟩
  have Hm:∀c∈[z],jr X pins (upd H s.heap.objs.size (.tup [x,y])) c:=λc hc=>by
   have e:c=z:=by simpa using hc
   subst e
   obtain⟨f0,fr⟩:=hf c (by simp)
   exact⟨by rw[bA (nT c (by simp))];exact f0,fr⟩
  have I2:=Inv.Cu (h':=Hk) (its:=[z]) (t':=s.toks) I1 (λc o hc e=>sb.extBut _ _ (λq=>hc (by simp[q])) e) Hm
  refine⟨.ref s.heap.objs.size,_,I2,rfl,⟨_,x,y,rfl,fT,rfl,λxs' eo=>by rw[I.Ca eo hx];exact ex,λT8 hy'=>by rw[I.Ca hy' hy];exact ey⟩,⟨Hl,sb.extBut _ _ D.TIz (kk _ _ D.TIz D.TITO D.TIi1 D.TIi2 kZ),⟨ux,uy,sb.extBut _ _ D.TOz TO'⟩,kC.extBut sb.extBut D.i1z,jR.extBut sb.extBut D.i2z⟩,λc hc=>?_⟩
  rw[bA (nT c hc)]
  exact(hf c hc).1
 ·intro X hP hw hK hc i pins s σ H E I hf st hg
  obtain⟨xs,ys,hx,hy,hl⟩:=hg
  obtain⟨hz,kZ,⟨u,v,jz⟩,h1,h2⟩:=st
  have D:=ap X pins s σ H i xs ys hK I hf hz ⟨u,v,jz⟩ h1 h2 hx hy
  subst hP hw hK
  obtain⟨as,ra,pa,_⟩:=I.list hx
  obtain⟨bs,rb,pb,_⟩:=I.list hy
  have la:=ra.length
  have lb:=rb.length
  refine wpAny_pyNext_zip_end (I.ok.hd hc) D hz kZ jz h1 h2 pa.isList pb.isList (hl.imp (λq=>by simp;omega) λq=>by simp;omega) λh' kk=>⟨rfl,?_⟩
  exact I.Cu (its:=[z,TO,i1,i2]) (t':=s.toks) (λc o hc e=>kk c o (λq=>hc (by simp[q])) (λq=>hc (by simp[q])) (λq=>hc (by simp[q])) (λq=>hc (by simp[q])) e)
   (λc hc=>hf c (by simp only[cB,ik,or_false]at hc ⊢;rcases hc with rfl | rfl | rfl | rfl<;>simp))
def Ho(K:PySem.W.Frag)(a:Addr):It :=
 ⟨λi H=>∃xs x,bR K H a xs/\xs[i]?=some x,
  λi H v H'=>∃T x,v=.ref T/\H T=none/\H'=upd H T (.tup [.int i,x])/\∀xs,bR K H a xs->xs[i]?=some x,
  λi H=>∃xs,bR K H a xs/\xs.length<=i⟩
theorem b00{P:Program}{w:World}{K:PySem.W.Frag}{elts:List Expr}{k:Nat}{pos:Pos}(a z it:Addr)(t8:z≠it) :
  Turn P w K (.Tuple elts k pos) (Ho K a) [z,it] z (λi h=>(∃old,IsEnum h z it i old)/\h.IsListIter it a i):=by
 refine⟨by simp,λi h st c hc=>?_,λi h h' st kk=>?_,?_,?_,λ_ _ _ _ _ st h=>by obtain⟨⟨old,e⟩,_⟩:=st;exact wpAny_pyIter_enum e h⟩
 ·obtain⟨⟨old,hz⟩,⟨o1,e1,c1,d1⟩⟩:=st
  simp only[cB,ik,or_false]at hc
  rcases hc with rfl | rfl
  ·exact⟨_,hz,λv q=>by cases q⟩
  ·exact⟨_,e1,λv q=>by rw[d1]at q;cases q⟩
 ·obtain⟨⟨old,hz⟩,h1⟩:=st
  exact⟨⟨old,kk _ (by simp) _ hz⟩,h1.at λo e=>kk _ (by simp) o e⟩
 ·intro X hP hw hK hc i pins s σ H E I hf st hg
  subst hP hw hK
  obtain⟨xs,x,hx,ex⟩:=hg
  obtain⟨⟨old,hz⟩,h1⟩:=st
  obtain⟨as,ra,pa,_⟩:=I.list hx
  obtain⟨ux,Hj,rx⟩:=ra.get ex
  refine wpAny_pyNext_enum_item hz h1 pa.isList (x:=ux) (by simpa using Hj) t8 λh' z' kC T' sz kk=>?_
  have fT:H s.heap.objs.size=none:=I.aO.fresh (bN _)
  have I1:Inv X pins σ (upd H s.heap.objs.size (.tup [.int i,x])) { s with heap:=h',toks:=s.toks+1 }:=I.T6 (its:=[z,it]) (λc o hc e=>kk c o (λq=>hc (by simp[q])) (λq=>hc (by simp[q])) e)
   (λc hc=>hf c hc) (bN _) ⟨by show 2<=sizeLine;decide,[.int i s.toks,ux],.cons ⟨_,rfl⟩ (.cons rx .nil),⟨_,T',rfl,_,rfl⟩⟩
  have nT:∀c∈[z,it],c≠s.heap.objs.size:=λc hc q=>by
   have:∃o,s.heap.get? c=some o:=by
    simp only[cB,ik,or_false]at hc
    rcases hc with rfl | rfl
    ·exact⟨_,hz⟩
    ·obtain⟨o,e,_⟩:=h1;exact⟨o,e⟩
   obtain⟨o,e⟩:=this
   exact absurd (bV e) (by rw[q];exact fN _)
  refine⟨_,rfl,wpAny_letOwnedTupleGo_enum z' λHk Hl sb=>?_⟩
  have Hm:∀c∈[z],jr X pins (upd H s.heap.objs.size (.tup [.int i,x])) c:=λc hc=>by
   have e:c=z:=by simpa using hc
   subst e
   obtain⟨f0,fr⟩:=hf c (by simp)
   exact⟨by rw[bA (nT c (by simp))];exact f0,fr⟩
  have I2:=Inv.Cu (h':=Hk) (its:=[z]) (t':=s.toks+1) I1 (λc o hc e=>sb.extBut _ _ (λq=>hc (by simp[q])) e) Hm
  refine⟨.ref s.heap.objs.size,_,I2,rfl,⟨_,x,rfl,fT,rfl,λxs' eo=>by rw[I.Ca eo hx];exact ex⟩,⟨⟨ux,by simpa using Hl⟩,kC.extBut sb.extBut (fB t8)⟩,λc hc=>?_⟩
  rw[bA (nT c hc)]
  exact(hf c hc).1
 ·intro X hP hw hK hc i pins s σ H E I hf st hg
  subst hP hw hK
  obtain⟨xs,hx,hl⟩:=hg
  obtain⟨⟨old,hz⟩,h1⟩:=st
  obtain⟨as,ra,pa,_⟩:=I.list hx
  have la:=ra.length
  refine wpAny_pyNext_enum_end (I.ok.hd hc) hz h1 pa.isList (by simp;omega) λh' kk=>⟨rfl,?_⟩
  exact I.Cu (its:=[it]) (t':=s.toks) (λc o hc e=>kk c o (λq=>hc (by simp[q])) e) (λc hc=>hf c (by simp at hc ⊢;simp[hc]))
end
section
variable{X:Cx}{a b:Expr}{ta:TA}{p pos tV:Pos}{elts:List Expr}{x1:Nat}
def c00(K:PySem.W.Frag)(ta:TA):TI:=λσ H R=>ta σ H λvs H1=>∃a b,vs=[.ref a,.ref b]/\(∃xs,bR K H1 a xs)/\(∃ys,bR K H1 b ys)/\R (Hi K a b) H1
theorem cl7:bootBuiltins "zip"=some (.type "zip"):=by decide +kernel
theorem cN5(hg:Gl X "zip")(hm:X.mg "zip"=none)(ha:PA X [a,b] ta)(hs:starEach [a,b] X.env=[(false,eval a X.env),(false,eval b X.env)]:=by rfl)(js:starEach [b] X.env=[(false,eval b X.env)]:=by rfl) :
  PI X (.Tuple elts x1 tV) (.Call (.Name "zip" p) [a,b] [] pos) (c00 X.K ta):=by
 intro pins s σ H R I h
 refine Call_ (by4 I hg hm cl7 (BH (bc (ha pos pins s σ H _ I h) λus s1 ⟨vs,H1,I1,r1,q1⟩=>?_) (by rw[hs,js]) (by rw[js];rfl)))
 obtain⟨a,b,e,⟨xs,hx⟩,⟨ys,hy⟩,q⟩:=q1
 subst e
 cases r1 with
 | cons r rr =>
  cases rr with
  | cons r2 rr =>
   cases rr
   cases r
   cases r2
   obtain⟨as,ra,pa,_⟩:=I1.list hx
   obtain⟨bs,rb,pb,_⟩:=I1.list hy
   refine call_zip_2 pa.isList pb.isList λh' hz kZ jz h1 h2 sz kk=>wpAny_pyIter_zip hz ?_
   refine⟨_,[s1.heap.objs.size+4,s1.heap.objs.size+2,s1.heap.objs.size+3,s1.heap.objs.size,s1.heap.objs.size+1],_,_,H1,rfl,I1.kept (t':=s1.toks) kk,cn8 a b _ _ _ _ _ (by simp),⟨hz,kZ,⟨_,_,jz⟩,h1,h2⟩,λc hc=>?_,q⟩
   have hle:s1.heap.objs.size<=c:=by
    simp only[cB,ik,or_false]at hc
    rcases hc with rfl | rfl | rfl | rfl | rfl<;>omega
   exact I1.Cf hle (I1.aO.fresh hle)
def cR8(K:PySem.W.Frag)(ta:TA):TI:=λσ H R=>ta σ H λvs H1=>∃a,vs=[.ref a]/\(∃xs,bR K H1 a xs)/\R (Ho K a) H1
theorem bB1:bootBuiltins "enumerate"=some (.type "enumerate"):=by decide +kernel
theorem cA1(hg:Gl X "enumerate")(hm:X.mg "enumerate"=none)(ha:PA X [a] ta)(hs:starEach [a] X.env=[(false,eval a X.env)]:=by rfl) :
  PI X (.Tuple elts x1 tV) (.Call (.Name "enumerate" p) [a] [] pos) (cR8 X.K ta):=by
 intro pins s σ H R I h
 refine Call_ (by4 I hg hm bB1 (BH (bc (ha pos pins s σ H _ I h) λus s1 ⟨vs,H1,I1,r1,q1⟩=>?_) hs rfl))
 obtain⟨a,e,⟨xs,hx⟩,q⟩:=q1
 subst e
 cases r1 with
 | cons r rr =>
  cases rr
  cases r
  obtain⟨as,ra,pa,_⟩:=I1.list hx
  refine call_enumerate_list pa.isList λh' hz h1 sz kk=>wpAny_pyIter_enum hz ?_
  refine⟨_,[s1.heap.objs.size+1,s1.heap.objs.size],_,_,H1,rfl,I1.kept (t':=s1.toks) kk,b00 a (s1.heap.objs.size+1) s1.heap.objs.size (Nat.succ_ne_self _),⟨⟨_,hz⟩,h1⟩,λc hc=>?_,q⟩
  have hle:s1.heap.objs.size<=c:=by
   simp only[cB,ik,or_false]at hc
   rcases hc with rfl | rfl<;>omega
  exact I1.Cf hle (I1.aO.fresh hle)
end
end L2
namespace L2
open PySem PySem.Spec PyProof.Rows PySem.W PySem.Calls
section
variable{X:Cx}
def vV{α:Type}(xs:List α)(lo hi:Option Int):List α:=(xs.drop (HT.dq xs.length 0 lo)).take (HT.dq xs.length xs.length hi-HT.dq xs.length 0 lo)
theorem b87(x:Str)(lo hi:Option Int):Txt.slice x lo hi=⟨(vV x.cps.toList lo hi).toArray⟩:=by
 have hx:x.length=x.cps.size:=rfl
 have e:(FQ lo hi 1 x.length).filterMap (x.cps[·]?)=vV x.cps.toList lo hi:=by
  obtain⟨h1,h2,h3⟩:=GX lo hi x.length
  have e0:FQ lo hi 1 x.length=sliceRange (sliceBounds lo hi none x.length).1 (sliceBounds lo hi none x.length).2.1 1:=by
   cases lo<;>cases hi<;>rfl
  rw[e0,h1,h2]
  simp only[sliceRange_one,pick_run]
  unfold vV
  rw[hx,yS]
 unfold Txt.slice
 split
 ·rename_i h
  have hl:(FQ lo hi 1 x.length).length=x.length:=by
   rw[eR]at h;exact eq_of_beq h.2
  have hs:(vV x.cps.toList lo hi)=x.cps.toList:=by
   have e2:HT.dq x.cps.toList.length x.cps.toList.length hi-HT.dq x.cps.toList.length 0 lo=x.length:=by
    obtain⟨h1,h2,h3⟩:=GX lo hi x.length
    have e0:FQ lo hi 1 x.length=sliceRange (sliceBounds lo hi none x.length).1 (sliceBounds lo hi none x.length).2.1 1:=by
     cases lo<;>cases hi<;>rfl
    rw[e0,h1,h2]at hl
    simp only[sliceRange_one,bt,dD]at hl
    rw[yS,<- hx]
    omega
   unfold vV
   have le:HT.dq x.cps.toList.length x.cps.toList.length hi<=x.cps.toList.length:=by
    cases hi with
    | none=>simp[HT.dq]
    | some i=>simp only[HT.dq];split<;>omega
   have le2:HT.dq x.cps.toList.length 0 lo<=x.cps.toList.length:=by
    cases lo with
    | none=>simp[HT.dq]
    | some i=>simp only[HT.dq];split<;>omega
   rw[yS,<- hx]at e2 le le2 ⊢
   have z:HT.dq x.length 0 lo=0:=by omega
   have z2:HT.dq x.length x.length hi=x.length:=by omega
   rw[z,z2,List.drop_zero,Nat.sub_zero,hx,<- yS,tD]
  rw[hs]
 ·rw[e]
theorem cK0:tY X (λx lo hi H Q=>∃z,x=.str z/\z.length<=sizeLine/\Q (.str ⟨(vV z.cps.toList lo hi).toArray⟩) H):=by
 intro pins s σ H x v vl vu lo hi sl Q I rx hs pl pu h
 obtain⟨z,rfl,hz,q⟩:=h
 obtain⟨t,rfl⟩:=rx
 refine⟨"str",_,F.slot_str_getitem.lookup,typeIs_str _ _ _,?_⟩
 have fin:∀(l u:Option (Int × Tok)),l.map (·.1)=lo->u.map (·.1)=hi->partValue l=vl->partValue u=vu->wpAny (model X.prog X.w) X.A (getItem (.str z t) (.ref sl)) (EP X pins σ Q) X.xe s:=by
  intro l u h1 h2 h3 h4
  obtain⟨o,e1,e2,e3⟩:=hs
  refine wpAny_getItem_str_slice (l:=l) (u:=u) (st:=none) ⟨o,e1,e2,by rw[e3,h3,h4];rfl⟩ rfl ?_
  have e:Txt.slice z lo hi=(if(((none:Option (Int × Tok)).map (·.1)).getD 1==1&&(slicePicked z l u none).length==z.length)=true then z else⟨((slicePicked z l u none).filterMap (z.cps[·]?)).toArray⟩):=by
   unfold Txt.slice slicePicked;rw[h1,h2];rfl
  refine post_val_or_str ⟨?_,λt' k=>?_⟩
  ·rw[<-e];exact eH (Txt.slice_le z _ _) hz
  ·rw[<-e,b87];exact⟨.str _,H,I.tok _,⟨_,rfl⟩,q⟩
 cases pl with
 | none =>
  cases pu with
  | none=>exact fin none none rfl rfl rfl rfl
  | int j tj=>exact fin none (some (j,tj)) rfl rfl rfl rfl
 | int i ti =>
  cases pu with
  | none=>exact fin (some (i,ti)) none rfl rfl rfl rfl
  | int j tj=>exact fin (some (i,ti)) (some (j,tj)) rfl rfl rfl rfl
end
end L2
namespace L3
open PySem L2
def jA:HO->Bool
 | .dN _=>false
 | _=>true
structure ah(H H':Hp):Prop where
 get:∀b o,H b=some o->(h:jA o=true:=by rfl)->H' b=some o
 tb:∀b ps,H b=some (.dN ps)->∃more,H' b=some (.dN (ps++more))
instance {H H':Hp}:CoeFun (ah H H') λ_=>∀b o,H b=some o->(h:jA o=true:=by rfl)->H' b=some o:=⟨λs=>@ah.get _ _ s⟩
theorem Hq{o:HO}(h:jA o=false):∃ps,o=.dN ps:=by
 cases o with
 | dN ps=>exact⟨ps,rfl⟩
 | _=>cases h
theorem ah.of{H H':Hp}(h:∀b o,H b=some o->H' b=some o):ah H H':=⟨λb o e _=>h b o e,λb ps e=>⟨#[],by rw[h b _ e];simp⟩⟩
theorem ah.refl(H:Hp):ah H H:=.of λ_ _ h=>h
theorem ah.trans{H H1 H2:Hp}(a:ah H H1)(b:ah H1 H2):ah H H2 :=
 ⟨λc o h n=>b.get c o (a.get c o h n) n,λc ps h=>by
  obtain⟨m1,e1⟩:=a.tb c ps h
  obtain⟨m2,e2⟩:=b.tb c _ e1
  exact⟨m1++m2,by rw[e2,BG]⟩⟩
theorem ah.any{H H':Hp}(e:ah H H'){l:Addr}{o:HO}(h:H l=some o):∃o',H' l=some o':=by
 cases n:jA o with
 | true=>exact⟨o,e.get l o h n⟩
 | false =>
  obtain⟨ps,rfl⟩:=Hq n
  obtain⟨m,q⟩:=e.tb l ps h
  exact⟨_,q⟩
theorem ah.free{H H':Hp}(e:ah H H'){l:Addr}(h:H' l=Option.none):H l=Option.none:=by
 cases q:H l with
 | none=>rfl
 | some o =>
  obtain⟨o',z⟩:=e.any q
  rw[z]at h
  cases h
inductive vW where
 | ext (φ:Addr->Heap->Prop)
 | lam (of oc:Obj) (c k:Addr)
instance:Coe (Addr->Heap->Prop) vW:=⟨.ext⟩
def Hr(H:Hp)(k:Addr):Prop:=∃ψ,H k=some (.ext ψ)/\∀h,ψ h->∃q,h.CodeRec (.ref k) q
def jS(of oc:Obj)(c p:Addr):Heap->Prop:=λh=>h.get? p=some of/\h.get? c=some oc
structure kD(H:Hp)(p:Addr)(of oc:Obj)(c k:Addr):Prop where
 fn:H p=some (.ext (jS of oc c p))
 cell:H c=some (.own p)
 Hs:Hr H k
def t9(H:Hp)(p:Addr):vW->Prop
 | .ext φ=>H p=some (.ext (φ p))
 | .lam of oc c k=>kD H p of oc c k
theorem t9.mono{H H':Hp}{p:Addr}:∀{z:vW},t9 H p z->(∀a o,H a=some o->(∀ws,o≠.lst ws)->jA o=true->H' a=some o)->t9 H' p z
 | .ext φ,x,k=>k _ _ x (λws q=>by cases q) rfl
 | .lam of oc c k',x,k=>⟨k _ _ x.fn (λws q=>by cases q) rfl,k _ _ x.cell (λws q=>by cases q) rfl,let⟨ψ,e,h⟩:=x.Hs;⟨ψ,k _ _ e (λws q=>by cases q) rfl,h⟩⟩
inductive D where
 | ay | bl (b:Bool) | int (i:Int) | str (x:Str)
 | lst (o:Bool) (xs:List D)
 | tup (xs:List D)
 | obj (C:Addr) (ns:List Str) (xs:List D)
 | fz (xs:List D)
 | bO (z:vW)
 deriving Inhabited
def D.pl:D->Bool
 | .lst o xs=>!o&&zN xs
 | .tup xs=>zN xs
 | _=>true
where zN:List D->Bool
 | []=>true
 | d::ds=>d.pl&&zN ds
def D.fr:D->Bool
 | .lst o xs=>o&&zO xs
 | .tup xs=>zO xs
 | .obj _ _ _=>false
 | .fz _=>false
 | _=>true
where zO:List D->Bool
 | []=>true
 | d::ds=>d.fr&&zO ds
def D.sh:D->D
 | .lst _ xs=>.lst false (zP xs)
 | .tup xs=>.tup (zP xs)
 | d=>d
where zP:List D->List D
 | []=>[]
 | d::ds=>d.sh::zP ds
theorem T9(ds:List D):D.pl.zN ds=ds.all D.pl:=by induction ds with | nil=>rfl | cons d ds ih=>simp[D.pl.zN,ih]
theorem Ua(ds:List D):D.fr.zO ds=ds.all D.fr:=by induction ds with | nil=>rfl | cons d ds ih=>simp[D.fr.zO,ih]
theorem Ub(ds:List D):D.sh.zP ds=ds.map D.sh:=by induction ds with | nil=>rfl | cons d ds ih=>simp[D.sh.zP,ih]
theorem fj(o:Bool)(xs:List D):(D.lst o xs).pl=(!o&&xs.all D.pl):=by simp[D.pl,T9]
theorem jT(xs:List D):(D.tup xs).pl=xs.all D.pl:=by simp[D.pl,T9]
theorem eT(o:Bool)(xs:List D):(D.lst o xs).fr=(o&&xs.all D.fr):=by simp[D.fr,Ua]
theorem oi(xs:List D):(D.tup xs).fr=xs.all D.fr:=by simp[D.fr,Ua]
theorem df(o:Bool)(xs:List D):(D.lst o xs).sh=.lst false (xs.map D.sh):=by simp[D.sh,Ub]
theorem jU(xs:List D):(D.tup xs).sh=.tup (xs.map D.sh):=by simp[D.sh,Ub]
inductive R(F H:Hp):List D->List V->List Addr->Prop
 | nil:R F H [] [] []
 | ay {ds vs B}:R F H ds vs B->R F H (.ay::ds) (.ay::vs) B
 | bl {b ds vs B}:R F H ds vs B->R F H (.bl b::ds) (.bl b::vs) B
 | int {i ds vs B}:R F H ds vs B->R F H (.int i::ds) (.int i::vs) B
 | str {x ds vs B}:R F H ds vs B->R F H (.str x::ds) (.str x::vs) B
 | shr {p ws xs ds vs B}:F p=some (.lst ws)->R F H xs ws []->R F H ds vs B->R F H (.lst false xs::ds) (.ref p::vs) B
 | own {p ws xs A ds vs B}:H p=some (.lst ws)->F p=none->R F H xs ws A->R F H ds vs B->R F H (.lst true xs::ds) (.ref p::vs) (p::(A++B))
 | tup {p ws xs A ds vs B}:H p=some (.tup ws)->R F H xs ws A->R F H ds vs B->R F H (.tup xs::ds) (.ref p::vs) (A++B)
 | obj {p C dx ns ws xs ds vs B}:H p=some (.ins C dx (ns.zip ws))->ns.length=ws.length->R F H xs ws []->R F H ds vs B->R F H (.obj C ns xs::ds) (.ref p::vs) B
 | fz {p o ws xs ds vs B}:F p=some (.cu o (.lst ws))->R F H xs ws []->R F H ds vs B->R F H (.fz xs::ds) (.ref p::vs) B
 | bO {p z ds vs B}:t9 H p z->R F H ds vs B->R F H (.bO z::ds) (.ref p::vs) B
inductive S(F H:Hp):List D->List V->Prop
 | nil:S F H [] []
 | ay {ds vs}:S F H ds vs->S F H (.ay::ds) (.ay::vs)
 | bl {b ds vs}:S F H ds vs->S F H (.bl b::ds) (.bl b::vs)
 | int {i ds vs}:S F H ds vs->S F H (.int i::ds) (.int i::vs)
 | str {x ds vs}:S F H ds vs->S F H (.str x::ds) (.str x::vs)
 | shr {p ws xs ds vs}:F p=some (.lst ws)->R F H xs ws []->S F H ds vs->S F H (.lst false xs::ds) (.ref p::vs)
 | own {p ws xs ds vs}:H p=some (.lst ws)->S F H xs ws->S F H ds vs->S F H (.lst true xs::ds) (.ref p::vs)
 | tup {p ws xs ds vs}:H p=some (.tup ws)->S F H xs ws->S F H ds vs->S F H (.tup xs::ds) (.ref p::vs)
 | obj {p C dx ns ws xs ds vs}:H p=some (.ins C dx (ns.zip ws))->ns.length=ws.length->R F H xs ws []->S F H ds vs->S F H (.obj C ns xs::ds) (.ref p::vs)
 | fz {p o ws xs ds vs}:F p=some (.cu o (.lst ws))->R F H xs ws []->S F H ds vs->S F H (.fz xs::ds) (.ref p::vs)
 | bO {p z ds vs}:t9 H p z->S F H ds vs->S F H (.bO z::ds) (.ref p::vs)
section
variable{F F' H H':Hp}{d:D}{ds es:List D}{v:V}{vs ws:List V}{A B:List Addr}
theorem R.length(r:R F H ds vs A):ds.length=vs.length:=by
 induction r<;>simp_all
theorem S.length(r:S F H ds vs):ds.length=vs.length:=by
 induction r<;>simp_all
theorem R.cons(r:R F H [d] [v] A)(q:R F H ds vs B):R F H (d::ds) (v::vs) (A++B):=by
 cases r with
 | ay r=>cases r;exact .ay q
 | bl r=>cases r;exact .bl q
 | int r=>cases r;exact .int q
 | str r=>cases r;exact .str q
 | shr h x r=>cases r;exact .shr h x q
 | own h f x r=>cases r;simpa using R.own h f x q
 | tup h x r=>cases r;simpa using R.tup h x q
 | obj h l x r=>cases r;exact .obj h l x q
 | fz h x r=>cases r;exact .fz h x q
 | bO h r=>cases r;exact .bO h q
theorem R.dE(r:R F H (d::ds) vs A):∃v cP A1 A2,vs=v::cP/\A=A1++A2/\R F H [d] [v] A1/\R F H ds cP A2:=by
 cases r with
 | ay r=>exact⟨_,_,[],_,rfl,rfl,.ay .nil,r⟩
 | bl r=>exact⟨_,_,[],_,rfl,rfl,.bl .nil,r⟩
 | int r=>exact⟨_,_,[],_,rfl,rfl,.int .nil,r⟩
 | str r=>exact⟨_,_,[],_,rfl,rfl,.str .nil,r⟩
 | shr h x r=>exact⟨_,_,[],_,rfl,rfl,.shr h x .nil,r⟩
 | @own p _ _ A1 _ _ B1 h f x r=>exact⟨_,_,p::A1,B1,rfl,rfl,by simpa using R.own h f x .nil,r⟩
 | @tup p _ _ A1 _ _ B1 h x r=>exact⟨_,_,A1,B1,rfl,rfl,by simpa using R.tup h x .nil,r⟩
 | obj h l x r=>exact⟨_,_,[],_,rfl,rfl,.obj h l x .nil,r⟩
 | fz h x r=>exact⟨_,_,[],_,rfl,rfl,.fz h x .nil,r⟩
 | bO h r=>exact⟨_,_,[],_,rfl,rfl,.bO h .nil,r⟩
theorem S.cons(r:S F H [d] [v])(q:S F H ds vs):S F H (d::ds) (v::vs):=by
 cases r with
 | ay r=>exact .ay q
 | bl r=>exact .bl q
 | int r=>exact .int q
 | str r=>exact .str q
 | shr h x r=>exact .shr h x q
 | own h x r=>exact .own h x q
 | tup h x r=>exact .tup h x q
 | obj h l x r=>exact .obj h l x q
 | fz h x r=>exact .fz h x q
 | bO h r=>exact .bO h q
theorem S.dE(r:S F H (d::ds) vs):∃v cP,vs=v::cP/\S F H [d] [v]/\S F H ds cP:=by
 cases r with
 | ay r=>exact⟨_,_,rfl,.ay .nil,r⟩
 | bl r=>exact⟨_,_,rfl,.bl .nil,r⟩
 | int r=>exact⟨_,_,rfl,.int .nil,r⟩
 | str r=>exact⟨_,_,rfl,.str .nil,r⟩
 | shr h x r=>exact⟨_,_,rfl,.shr h x .nil,r⟩
 | own h x r=>exact⟨_,_,rfl,.own h x .nil,r⟩
 | tup h x r=>exact⟨_,_,rfl,.tup h x .nil,r⟩
 | obj h l x r=>exact⟨_,_,rfl,.obj h l x .nil,r⟩
 | fz h x r=>exact⟨_,_,rfl,.fz h x .nil,r⟩
 | bO h r=>exact⟨_,_,rfl,.bO h .nil,r⟩
theorem R.append:∀{ds:List D} {vs:List V} {A:List Addr},R F H ds vs A->R F H es ws B->R F H (ds++es) (vs++ws) (A++B)
 | [],_,_,r,q=>by cases r;exact q
 | d::ds,_,_,r,q=>by
  obtain⟨v,cP,A1,A2,rfl,rfl,h1,h2⟩:=r.dE
  simpa using h1.cons (R.append h2 q)
theorem S.append:∀{ds:List D} {vs:List V},S F H ds vs->S F H es ws->S F H (ds++es) (vs++ws)
 | [],_,r,q=>by cases r;exact q
 | d::ds,_,r,q=>by
  obtain⟨v,cP,rfl,h1,h2⟩:=r.dE
  exact h1.cons (S.append h2 q)
theorem R.split:∀{ds:List D} {vs:List V} {A:List Addr},R F H (ds++es) vs A->∃v1 v2 A1 A2,vs=v1++v2/\A=A1++A2/\R F H ds v1 A1/\R F H es v2 A2
 | [],vs,A,r=>⟨[],vs,[],A,rfl,rfl,.nil,r⟩
 | d::ds,_,_,r=>by
  obtain⟨v,cP,A1,A2,rfl,rfl,h1,h2⟩:=R.dE (ds:=ds++es) r
  obtain⟨v1,v2,B1,B2,rfl,rfl,h3,h4⟩:=R.split (ds:=ds) h2
  exact⟨v::v1,v2,A1++B1,B2,rfl,by simp,h1.cons h3,h4⟩
theorem R.get:∀{ds:List D} {vs:List V} {A:List Addr} {i:Nat},R F H ds vs A->ds[i]?=some d->∃v A1,vs[i]?=some v/\R F H [d] [v] A1/\A1 ⊆ A
 | [],_,_,_,_,e=>by simp at e
 | d'::ds,_,_,i,r,e=>by
  obtain⟨v,cP,A1,A2,rfl,rfl,h1,h2⟩:=r.dE
  cases i with
  | zero=>simp at e;subst e;exact⟨v,A1,rfl,h1,by simp⟩
  | succ i =>
   obtain⟨w,B1,e2,q,sb⟩:=R.get (ds:=ds) (i:=i) h2 (by simpa using e)
   exact⟨w,B1,by simpa using e2,q,λx hx=>fg _ (sb hx)⟩
theorem S.get:∀{ds:List D} {vs:List V} {i:Nat},S F H ds vs->ds[i]?=some d->∃v,vs[i]?=some v/\S F H [d] [v]
 | [],_,_,_,e=>by simp at e
 | d'::ds,_,i,r,e=>by
  obtain⟨v,cP,rfl,h1,h2⟩:=r.dE
  cases i with
  | zero=>simp at e;subst e;exact⟨v,rfl,h1⟩
  | succ i =>
   obtain⟨w,e2,q⟩:=S.get (ds:=ds) (i:=i) h2 (by simpa using e)
   exact⟨w,by simpa using e2,q⟩
theorem S.get':∀{ds:List D} {vs:List V} {i:Nat},S F H ds vs->vs[i]?=some v->∃d,ds[i]?=some d/\S F H [d] [v]
 | [],_,_,r,e=>by cases r;simp at e
 | d'::ds,_,i,r,e=>by
  obtain⟨v,cP,rfl,h1,h2⟩:=r.dE
  cases i with
  | zero=>simp at e;subst e;exact⟨d',rfl,h1⟩
  | succ i =>
   obtain⟨w,e2,q⟩:=S.get' (ds:=ds) (i:=i) h2 (by simpa using e)
   exact⟨w,by simpa using e2,q⟩
theorem S.take:∀{ds:List D} {vs:List V} (n:Nat),S F H ds vs->S F H (ds.take n) (vs.take n)
 | _,_,0,r=>by simpa using S.nil
 | [],_,n+1,r=>by cases r;exact .nil
 | d::ds,_,n+1,r=>by
  obtain⟨v,cP,rfl,h1,h2⟩:=r.dE
  exact h1.cons (S.take n h2)
theorem S.drop:∀{ds:List D} {vs:List V} (n:Nat),S F H ds vs->S F H (ds.drop n) (vs.drop n)
 | _,_,0,r=>by simpa using r
 | [],_,n+1,r=>by cases r;exact .nil
 | d::ds,_,n+1,r=>by
  obtain⟨v,cP,rfl,h1,h2⟩:=r.dE
  exact S.drop n h2
theorem iU{p:Addr}{o:HO}(h:Rd F p o)(s:ah F F')(n:jA o=true:=by rfl):Rd F' p o:=by
 rcases h with h | ⟨u,h⟩
 ·exact .inl (s.get _ _ h n)
 ·exact .inr ⟨u,s _ _ h⟩
theorem R.s(r:R F H ds vs A):S F H ds vs:=by
 induction r with
 | nil=>exact .nil
 | ay _ ih=>exact .ay ih
 | bl _ ih=>exact .bl ih
 | int _ ih=>exact .int ih
 | str _ ih=>exact .str ih
 | shr h x _ _ ih=>exact .shr h x ih
 | own h f _ _ i1 i2=>exact .own h i1 i2
 | tup h _ _ i1 i2=>exact .tup h i1 i2
 | obj h l x _ _ ih=>exact .obj h l x ih
 | fz h x _ _ ih=>exact .fz h x ih
 | bO h _ ih=>exact .bO h ih
structure iz(W:List Addr)(H H':Hp):Prop where
 get:∀a o,H a=some o->a ∉ W->(h:jA o=true:=by rfl)->H' a=some o
instance {W:List Addr} {H H':Hp}:CoeFun (iz W H H') λ_=>∀a o,H a=some o->a ∉ W->(h:jA o=true:=by rfl)->H' a=some o:=⟨λs=>@iz.get _ _ _ s⟩
def jB(W:List Addr)(H:Hp):Prop:=∀a∈W,∃ws,H a=some (.lst ws)
theorem R.keep{W:List Addr}(hf:ah F F')(hb:iz W H H')(hl:jB W H)(r:R F H ds vs A)(hn:∀a∈A,F' a=none)(hd:∀a∈A,a ∉ W):R F' H' ds vs A:=by
 induction r with
 | nil=>exact .nil
 | ay _ ih=>exact .ay (ih hn hd)
 | bl _ ih=>exact .bl (ih hn hd)
 | int _ ih=>exact .int (ih hn hd)
 | str _ ih=>exact .str (ih hn hd)
 | shr h x _ i1 ih=>exact .shr (hf _ _ h) (i1 (by simp) (by simp)) (ih hn hd)
 | own h f _ _ i1 i2 =>
  refine .own (hb _ _ h (hd _ (by simp))) (hn _ (by simp)) (i1 (λa ha=>hn a ?_) λa ha=>hd a ?_) (i2 (λa ha=>hn a ?_) λa ha=>hd a ?_)<;>simp[ha]
 | @tup p ws _ _ _ _ _ h _ _ i1 i2 =>
  refine .tup (hb _ _ h λz=>?_) (i1 (λa ha=>hn a ?_) λa ha=>hd a ?_) (i2 (λa ha=>hn a ?_) λa ha=>hd a ?_)<;>try simp[ha]
  obtain⟨q,e⟩:=hl _ z
  rw[h]at e;cases e
 | obj h l x _ i1 ih =>
  refine .obj (hb _ _ h λz=>?_) l (i1 (by simp) (by simp)) (ih hn hd)
  obtain⟨q,e⟩:=hl _ z
  rw[h]at e;cases e
 | fz h x _ i1 ih=>exact .fz (hf _ _ h) (i1 (by simp) (by simp)) (ih hn hd)
 | bO h _ ih =>
  exact .bO (h.mono λa o e n t=>hb.get a o e (λz=>by
   obtain⟨q,e'⟩:=hl _ z
   rw[e]at e';cases e';exact n _ rfl) t) (ih hn hd)
theorem iz.same(h:ah H H'):iz [] H H':=⟨λa o e _ n=>h.get a o e n⟩
theorem jB.nil:jB [] H:=λa h=>absurd h (by simp)
theorem R.grow(hf:ah F F')(hb:ah H H')(r:R F H ds vs A)(hn:∀a∈A,F' a=none):R F' H' ds vs A :=
 r.keep hf (iz.same hb) jB.nil hn (by simp)
theorem R.shared(hf:ah F F')(hb:ah H H')(r:R F H ds vs []):R F' H' ds vs []:=r.grow hf hb (by simp)
theorem S.mono(hf:ah F F')(hb:ah H H')(r:S F H ds vs):S F' H' ds vs:=by
 induction r with
 | nil=>exact .nil
 | ay _ ih=>exact .ay ih
 | bl _ ih=>exact .bl ih
 | int _ ih=>exact .int ih
 | str _ ih=>exact .str ih
 | shr h x _ ih=>exact .shr (hf _ _ h) (x.shared hf hb) ih
 | own h _ _ i1 i2=>exact .own (hb _ _ h) i1 i2
 | tup h _ _ i1 i2=>exact .tup (hb _ _ h) i1 i2
 | obj h l x _ ih=>exact .obj (hb _ _ h) l (x.shared hf hb) ih
 | fz h x _ ih=>exact .fz (hf _ _ h) (x.shared hf hb) ih
 | bO h _ ih=>exact .bO (h.mono λa o e _ t=>hb.get a o e t) ih
theorem S.r(s:S F H ds vs)(p:ds.all D.pl=true):R F H ds vs []:=by
 induction s with
 | nil=>exact .nil
 | ay _ ih=>exact .ay (ih (by simpa[D.pl]using p))
 | bl _ ih=>exact .bl (ih (by simpa[D.pl]using p))
 | int _ ih=>exact .int (ih (by simpa[D.pl]using p))
 | str _ ih=>exact .str (ih (by simpa[D.pl]using p))
 | shr h x _ ih=>exact .shr h x (ih (by simp[fj]at p;simpa using p.2))
 | own h _ _ i1 i2=>simp[fj]at p
 | tup h _ _ i1 i2 =>
  rw[dW,jT,eR]at p
  simpa using R.tup h (i1 p.1) (i2 p.2)
 | obj h l x _ ih=>exact .obj h l x (ih (by simpa[D.pl]using p))
 | fz h x _ ih=>exact .fz h x (ih (by simpa[D.pl]using p))
 | bO h _ ih=>exact .bO h (ih (by simpa[D.pl]using p))
theorem R.pl(r:R F H ds vs []):ds.all D.pl=true:=by
 generalize e:([]:List Addr)=A at r
 induction r with
 | nil=>rfl
 | ay _ ih=>simp[D.pl];simpa using ih e
 | bl _ ih=>simp[D.pl];simpa using ih e
 | int _ ih=>simp[D.pl];simpa using ih e
 | str _ ih=>simp[D.pl];simpa using ih e
 | shr h x _ i1 ih=>simp only[dW,fj,i1 rfl,ih e];rfl
 | own h f _ _ i1 i2=>cases e
 | tup h _ _ i1 i2 =>
  obtain⟨e1,e2⟩:=FR.mp e.symm
  simp only[dW,jT,i1 e1.symm,i2 e2.symm];rfl
 | obj h l x _ i1 ih=>simp[D.pl];simpa using ih e
 | fz h x _ i1 ih=>simp[D.pl];simpa using ih e
 | bO h _ ih=>simp[D.pl];simpa using ih e
theorem D.Cv:∀{d:D},d.pl=true->d.sh=d
 | .ay,_=>rfl
 | .bl _,_=>rfl
 | .int _,_=>rfl
 | .str _,_=>rfl
 | .obj _ _ _,_=>rfl
 | .fz _,_=>rfl
 | .bO _,_=>rfl
 | .lst o xs,h=>by
  rw[fj,eR]at h
  have:∀(l:List D),(∀x∈l,x∈xs)->l.all D.pl=true->l.map D.sh=l:=by
   intro l hl hp
   induction l with
   | nil=>rfl
   | cons x l ih =>
    simp only[dW,eR]at hp
    have hx:x∈xs:=hl x (by simp)
    rw[dF,D.Cv hp.1,ih (λy hy=>hl y (by simp[hy])) hp.2]
  rw[df,this xs (λ_ h=>h) h.2]
  cases o<;>simp_all
 | .tup xs,h=>by
  rw[jT]at h
  have:∀(l:List D),(∀x∈l,x∈xs)->l.all D.pl=true->l.map D.sh=l:=by
   intro l hl hp
   induction l with
   | nil=>rfl
   | cons x l ih =>
    simp only[dW,eR]at hp
    have hx:x∈xs:=hl x (by simp)
    rw[dF,D.Cv hp.1,ih (λy hy=>hl y (by simp[hy])) hp.2]
  rw[jU,this xs (λ_ h=>h) h]
termination_by d=>sizeOf d
theorem mO{l:List D}(h:l.all D.pl=true):l.map D.sh=l:=by
 induction l with
 | nil=>rfl
 | cons x l ih =>
  simp only[dW,eR]at h
  rw[dF,D.Cv h.1,ih h.2]
theorem S.frozen(e:ah F H)(s:S F H ds vs):R H H (ds.map D.sh) vs []:=by
 induction s with
 | nil=>exact .nil
 | ay _ ih=>exact .ay ih
 | bl _ ih=>exact .bl ih
 | int _ ih=>exact .int ih
 | str _ ih=>exact .str ih
 | shr h x _ ih =>
  rw[dF,df,mO x.pl]
  exact .shr (e _ _ h) (x.shared e (ah.refl _)) ih
 | own h _ _ i1 i2=>rw[dF,df];exact .shr h i1 i2
 | tup h _ _ i1 i2=>rw[dF,jU];simpa using R.tup h i1 i2
 | obj h l x _ ih=>exact .obj h l (x.shared e (ah.refl _)) ih
 | fz h x _ ih=>exact .fz (e _ _ h) (x.shared e (ah.refl _)) ih
 | bO h _ ih=>exact .bO h ih
def cu(F H:Hp)(A:List Addr):Hp:=λa=>if a∈A then H a else F a
theorem mP(e:ah F H):ah F (cu F H A):=⟨λa o h n=>by unfold cu;split;exact e.get _ _ h n;exact h,λa ps h=>by unfold cu;split;exact e.tb _ _ h;exact⟨#[],by rw[h];simp⟩⟩
theorem Uc(e:ah F H):ah (cu F H A) H:=⟨λa o h n=>by unfold cu at h;split at h;exact h;exact e.get _ _ h n,λa ps h=>by unfold cu at h;split at h;exact⟨#[],by rw[h];simp⟩;exact e.tb _ _ h⟩
theorem Cw{a:Addr}(h:a ∉ A):cu F H A a=F a:=by unfold cu;rw[if_neg h]
theorem cM8{a:Addr}(h:a∈A):cu F H A a=H a:=by unfold cu;rw[if_pos h]
theorem R.cu(e:ah F H)(r:R F H ds vs A):∀A',A ⊆ A'->R (L3.cu F H A') H (ds.map D.sh) vs []:=by
 induction r with
 | nil=>exact λ_ _=>.nil
 | ay _ ih=>exact λA' h=>.ay (ih A' h)
 | bl _ ih=>exact λA' h=>.bl (ih A' h)
 | int _ ih=>exact λA' h=>.int (ih A' h)
 | str _ ih=>exact λA' h=>.str (ih A' h)
 | shr h x _ i1 ih =>
  intro A' hA
  rw[dF,df,mO x.pl]
  exact .shr (mP e _ _ h) (x.shared (mP e) (ah.refl _)) (ih A' hA)
 | own h f _ _ i1 i2 =>
  intro A' hA
  rw[dF,df]
  exact .shr ((cM8 (hA (by simp))).trans h) (i1 A' λa ha=>hA (by simp[ha])) (i2 A' λa ha=>hA (by simp[ha]))
 | tup h _ _ i1 i2 =>
  intro A' hA
  rw[dF,jU]
  simpa using R.tup h (i1 A' λa ha=>hA (by simp[ha])) (i2 A' λa ha=>hA (by simp[ha]))
 | obj h l x _ i1 ih=>exact λA' hA=>.obj h l (x.shared (mP e) (ah.refl _)) (ih A' hA)
 | fz h x _ i1 ih=>exact λA' hA=>.fz (mP e _ _ h) (x.shared (mP e) (ah.refl _)) (ih A' hA)
 | bO h _ ih=>exact λA' hA=>.bO h (ih A' hA)
theorem R.lists(r:R F H ds vs A):∀a∈A,(∃ws,H a=some (.lst ws))/\F a=none:=by
 induction r with
 | nil=>simp
 | ay _ ih=>exact ih
 | bl _ ih=>exact ih
 | int _ ih=>exact ih
 | str _ ih=>exact ih
 | shr h x _ i1 ih=>exact ih
 | own h f _ _ i1 i2 =>
  intro a ha
  rcases cB.mp ha with rfl | ha
  ·exact⟨⟨_,h⟩,f⟩
  ·exact(bZ.mp ha).elim (i1 a) (i2 a)
 | tup h _ _ i1 i2=>exact λa ha=>(bZ.mp ha).elim (i1 a) (i2 a)
 | obj h l x _ i1 ih=>exact ih
 | fz h x _ i1 ih=>exact ih
 | bO h _ ih=>exact ih
theorem R.Ht(r:R F H ds vs A)(hd:ds.all D.fr=true)(e:ah F' F):R F' H ds vs A:=by
 induction r with
 | nil=>exact .nil
 | ay _ ih=>exact .ay (ih (by simpa[D.fr]using hd))
 | bl _ ih=>exact .bl (ih (by simpa[D.fr]using hd))
 | int _ ih=>exact .int (ih (by simpa[D.fr]using hd))
 | str _ ih=>exact .str (ih (by simpa[D.fr]using hd))
 | shr h x _ i1 ih=>simp[eT]at hd
 | own h f _ _ i1 i2 =>
  rw[dW,eT,eR,kh]at hd
  exact .own h (e.free f) (i1 hd.1) (i2 hd.2)
 | tup h _ _ i1 i2 =>
  rw[dW,oi,eR]at hd
  exact .tup h (i1 hd.1) (i2 hd.2)
 | obj h l x _ i1 ih=>simp[D.fr]at hd
 | fz h x _ i1 ih=>simp[D.fr]at hd
 | bO h _ ih=>exact .bO h (ih (by simpa[D.fr]using hd))
theorem R.inj(r:R F H ds vs A):∀{B:List Addr},R F H ds vs B->A=B:=by
 induction r with
 | nil=>intro B q;cases q;rfl
 | ay _ ih=>intro B q;cases q with | ay q=>exact ih q
 | bl _ ih=>intro B q;cases q with | bl q=>exact ih q
 | int _ ih=>intro B q;cases q with | int q=>exact ih q
 | str _ ih=>intro B q;cases q with | str q=>exact ih q
 | shr h x _ i1 ih=>intro B q;cases q with | shr _ _ q=>exact ih q
 | own h f _ _ i1 i2 =>
  intro B q
  cases q with
  | own h' f' x' q =>
   rw[h]at h';cases h'
   rw[i1 x',i2 q]
 | tup h _ _ i1 i2 =>
  intro B q
  cases q with
  | tup h' x' q =>
   rw[h]at h';cases h'
   rw[i1 x',i2 q]
 | obj h l x _ i1 ih=>intro B q;cases q with | obj _ _ _ q=>exact ih q
 | fz h x _ i1 ih=>intro B q;cases q with | fz _ _ q=>exact ih q
 | bO h _ ih=>intro B q;cases q with | bO _ q=>exact ih q
theorem R.perm{ps qs:List (D × V)}(hp:ps.Perm qs):∀{A:List Addr},R F H (ps.map (·.1)) (ps.map (·.2)) A->∃A',R F H (qs.map (·.1)) (qs.map (·.2)) A'/\A.Perm A':=by
 induction hp with
 | nil=>exact λr=>⟨_,r,.refl _⟩
 | cons x _ ih =>
  intro A r
  obtain⟨v,cP,A1,A2,e,rfl,h1,h2⟩:=R.dE r
  obtain⟨rfl,rfl⟩:=nO e
  obtain⟨A',r',p⟩:=ih h2
  exact⟨A1++A',h1.cons r',p.append_left _⟩
 | swap x y l =>
  intro A r
  obtain⟨v,cP,A1,A2,e,rfl,h1,h2⟩:=R.dE r
  obtain⟨rfl,rfl⟩:=nO e
  obtain⟨v2,Ud,B1,B2,e,rfl,h3,h4⟩:=R.dE h2
  obtain⟨rfl,rfl⟩:=nO e
  exact⟨B1++(A1++B2),h3.cons (h1.cons h4),by rw[<-eX,<- eX];exact qg.append_right _⟩
 | trans _ _ i1 i2 =>
  intro A r
  obtain⟨A',r',p⟩:=i1 r
  obtain⟨A2,r2,p2⟩:=i2 r'
  exact⟨A2,r2,p.trans p2⟩
def Full(F H:Hp):Prop:=∀a o,H a=some o->(∀ws,o≠.lst ws)->F a=some o
theorem Full.refl(H:Hp):Full H H:=λ_ _ h _=>h
theorem R.full(hF:Full F H)(hs:ah F H')(r:R F H ds vs A)(e:A=[]):R F H' ds vs []:=by
 induction r with
 | nil=>exact .nil
 | ay _ ih=>exact .ay (ih e)
 | bl _ ih=>exact .bl (ih e)
 | int _ ih=>exact .int (ih e)
 | str _ ih=>exact .str (ih e)
 | shr h x _ i1 ih=>exact .shr h (i1 rfl) (ih e)
 | own h f _ _ i1 i2=>cases e
 | tup h _ _ i1 i2 =>
  obtain⟨e1,e2⟩:=FR.mp e
  exact R.tup (A:=[]) (B:=[]) (hs _ _ (hF _ _ h (by intro ws z;cases z))) (i1 e1) (i2 e2)
 | obj h l x _ i1 ih=>exact .obj (hs _ _ (hF _ _ h (by intro ws z;cases z))) l (i1 rfl) (ih e)
 | fz h x _ i1 ih=>exact .fz h (i1 rfl) (ih e)
 | bO h _ ih=>exact .bO (h.mono λa o e n t=>hs.get a o (hF a o e n) t) (ih e)
open Classical in
def snap(F H:Hp):Hp:=λa=>if(∃o,H a=some o/\∀ws,o≠.lst ws)then H a else F a
theorem vX:Full (snap F H) H:=λa o h n=>by unfold snap;rw[if_pos ⟨o,h,n⟩];exact h
theorem ua(e:ah F H):ah F (snap F H):=⟨λa o h n=>by
 unfold snap;split
 ·exact e.get a o h n
 ·exact h,λa ps h=>by
 unfold snap;split
 ·exact e.tb a ps h
 ·exact⟨#[],by rw[h];simp⟩⟩
theorem ch5(e:ah F H):ah (snap F H) H:=⟨λa o h n=>by
 unfold snap at h;split at h
 ·exact h
 ·exact e.get a o h n,λa ps h=>by
 unfold snap at h;split at h
 ·exact⟨#[],by rw[h];simp⟩
 ·exact e.tb a ps h⟩
theorem b83(e:ah F H){a:Addr}{ws:List V}(h:snap F H a=some (.lst ws)):F a=some (.lst ws):=by
 unfold snap at h;split at h
 ·rename_i z
  obtain⟨o,h1,h2⟩:=z
  rw[h]at h1;exact absurd (cU h1).symm (h2 ws)
 ·exact h
theorem cc0{a:Addr}{ws:List V}(h:H a=some (.lst ws))(n:F a=none):snap F H a=none:=by
 unfold snap;split
 ·rename_i z
  obtain⟨o,h1,h2⟩:=z
  rw[h]at h1;exact absurd (cU h1).symm (h2 ws)
 ·exact n
end
end L3
namespace L3
open PySem L2
abbrev Dl:=List (Option D)
inductive RS(F H:Hp):Dl->St->List Addr->Prop
 | nil:RS F H [] [] []
 | ay {δ σ o C}:RS F H δ σ C->RS F H (none::δ) (o::σ) C
 | g7 {d v A δ σ C}:R F H [d] [v] A->RS F H δ σ C->RS F H (some d::δ) (some v::σ) (A++C)
theorem iA{A B:List Addr}:(A++B).Nodup↔A.Nodup/\B.Nodup/\∀a∈A,a ∉ B:=by
 rw[List.nodup_append]
 constructor
 ·rintro⟨h1,h2,h3⟩;exact⟨h1,h2,λa ha hb=>h3 a ha a hb rfl⟩
 ·rintro⟨h1,h2,h3⟩;exact⟨h1,h2,λa ha b hb e=>h3 a ha (e ▸ hb)⟩
section
variable{F F' H H':Hp}{d:D}{v:V}{δ:Dl}{σ:St}{A C:List Addr}{i:Nat}
theorem RS.length(r:RS F H δ σ C):δ.length=σ.length:=by induction r<;>simp_all
theorem RS.pick:∀{δ:Dl} {σ:St} {C:List Addr} {i:Nat},RS F H δ σ C->δ[i]?=some (some d)->∃v A C',σ[i]?=some (some v)/\R F H [d] [v] A/\RS F H (δ.set i none) σ C'/\C.Perm (A++C')
 | _,_,_,_,.nil,e=>by simp at e
 | _,_,_,i,.ay r,e=>by
  cases i with
  | zero=>simp at e
  | succ i =>
   obtain⟨v,A,C',e1,h1,h2,p⟩:=RS.pick r (by simpa using e)
   exact⟨v,A,C',by simpa using e1,h1,.ay h2,p⟩
 | _,_,_,i,.g7 (A:=A0) (C:=C0) h r,e=>by
  cases i with
  | zero =>
   simp at e;subst e
   exact⟨_,A0,C0,rfl,h,.ay r,.refl _⟩
  | succ i =>
   obtain⟨v,A,C',e1,h1,h2,p⟩:=RS.pick r (by simpa using e)
   refine⟨v,A,A0++C',by simpa using e1,h1,.g7 h h2,(p.append_left A0).trans ?_⟩
   rw[<-eX,<- eX]
   exact qg.append_right _
theorem RS.fill:∀{δ:Dl} {σ:St} {C:List Addr} {i:Nat},RS F H δ σ C->δ[i]?=some none->σ[i]?=some (some v)->R F H [d] [v] A->∃C',RS F H (δ.set i (some d)) σ C'/\C'.Perm (A++C)
 | _,_,_,_,.nil,e,_,_=>by simp at e
 | _,_,_,i,.ay r,e,e2,h=>by
  cases i with
  | zero=>simp at e2;subst e2;exact⟨_,.g7 h r,.refl _⟩
  | succ i =>
   obtain⟨C',h1,p⟩:=RS.fill r (by simpa using e) (by simpa using e2) h
   exact⟨C',.ay h1,p⟩
 | _,_,_,i,.g7 (A:=A0) (C:=C0) h0 r,e,e2,h=>by
  cases i with
  | zero=>simp at e
  | succ i =>
   obtain⟨C',h1,p⟩:=RS.fill r (by simpa using e) (by simpa using e2) h
   refine⟨A0++C',.g7 h0 h1,(p.append_left A0).trans ?_⟩
   rw[<-eX,<- eX]
   exact qg.append_right _
theorem RS.drop:∀{δ:Dl} {σ:St} {C:List Addr} (i:Nat),RS F H δ σ C->∃C',RS F H (δ.set i none) σ C'/\C'.Sublist C
 | _,_,_,_,.nil=>⟨_,.nil,.refl _⟩
 | _,_,_,i,.ay r=>by
  cases i with
  | zero=>exact⟨_,.ay r,.refl _⟩
  | succ i=>obtain⟨C',h,s⟩:=RS.drop i r;exact⟨C',.ay h,s⟩
 | _,_,_,i,.g7 (A:=A0) h0 r=>by
  cases i with
  | zero=>exact⟨_,.ay r,List.sublist_append_right _ _⟩
  | succ i=>obtain⟨C',h,s⟩:=RS.drop i r;exact⟨_,.g7 h0 h,(RQ A0).append s⟩
theorem RS.zQ:∀{δ:Dl} {σ:St} {C:List Addr} {i:Nat} (o:Option V),RS F H δ σ C->(δ[i]?=some none\/δ[i]?=none)->RS F H δ (σ.set i o) C
 | _,_,_,_,_,.nil,_=>.nil
 | _,_,_,i,_,.ay r,e=>by
  cases i with
  | zero=>exact .ay r
  | succ i=>exact .ay (RS.zQ _ r (by simpa using e))
 | _,_,_,i,_,.g7 h0 r,e=>by
  cases i with
  | zero=>simp at e
  | succ i=>exact .g7 h0 (RS.zQ _ r (by simpa using e))
theorem RS.keep{W:List Addr}(hf:ah F F')(hb:iz W H H')(hl:jB W H)(r:RS F H δ σ C)(hn:∀a∈C,F' a=none)(hd:∀a∈C,a ∉ W):RS F' H' δ σ C:=by
 induction r with
 | nil=>exact .nil
 | ay _ ih=>exact .ay (ih hn hd)
 | g7 h _ ih=>exact .g7 (h.keep hf hb hl (λa ha=>hn a (by simp[ha])) λa ha=>hd a (by simp[ha])) (ih (λa ha=>hn a (by simp[ha])) λa ha=>hd a (by simp[ha]))
theorem RS.lists(r:RS F H δ σ C):∀a∈C,(∃ws,H a=some (.lst ws))/\F a=none:=by
 induction r with
 | nil=>simp
 | ay _ ih=>exact ih
 | g7 h _ ih=>exact λa ha=>(bZ.mp ha).elim (h.lists a) (ih a)
end
structure Bs where
 H0:Hp
 F0:Hp
structure ax(B:Bs)(F H:Hp)(σ:St)(δ:Dl)(ts:List (D × V)):Prop where
 ext:ah F H
 b1:ah B.H0 H
 b2:ah B.F0 F
 b3:∀a ws,F a=some (.lst ws)->B.F0 a=some (.lst ws)\/B.H0 a=none
 own:∃A C,R F H (ts.map (·.1)) (ts.map (·.2)) A/\RS F H δ σ C/\(A++C).Nodup/\∀a∈A++C,B.H0 a=none
section
variable{B:Bs}{F F' H H':Hp}{d:D}{v:V}{δ:Dl}{σ:St}{ts ps:List (D × V)}{A C W:List Addr}{i:Nat}{p:Addr}{xs ys:List D}{vs ws:List V}
theorem ax.look(c:ax B F H σ δ ts)(e:δ[i]?=some (some d)):∃v,σ[i]?=some (some v)/\S F H [d] [v]:=by
 obtain⟨A,C,r,s,nd,fr⟩:=c.own
 obtain⟨v,A',C',e1,h1,h2,p⟩:=s.pick e
 exact⟨v,e1,h1.s⟩
theorem ax.len(c:ax B F H σ δ ts):δ.length=σ.length:=let⟨_,_,_,s,_⟩:=c.own;s.length
theorem ax.grow(c:ax B F H σ δ ts)(h:ah H H'):ax B F H' σ δ ts:=by
 obtain⟨A,C,r,s,nd,fr⟩:=c.own
 exact⟨c.ext.trans h,c.b1.trans h,c.b2,c.b3,A,C,r.grow (ah.refl _) h λa ha=>(r.lists a ha).2,s.keep (ah.refl _) (iz.same h) jB.nil (λa ha=>(s.lists a ha).2) (by simp),nd,fr⟩
theorem ax.pop(c:ax B F H σ δ ((d,v)::ts)):ax B F H σ δ ts:=by
 obtain⟨A,C,r,s,nd,fr⟩:=c.own
 obtain⟨w,cP,A1,A2,e,rfl,h1,h2⟩:=R.dE r
 obtain⟨rfl,rfl⟩:=nO e
 refine⟨c.ext,c.b1,c.b2,c.b3,A2,C,h2,s,?_,λa ha=>fr a (by simp at ha ⊢;exact .inr ha)⟩
 rw[eX]at nd
 exact(iA.mp nd).2.1
theorem ax.top(c:ax B F H σ δ ((d,v)::ts)):S F H [d] [v]:=by
 obtain⟨A,C,r,s,nd,fr⟩:=c.own
 obtain⟨w,cP,A1,A2,e,rfl,h1,h2⟩:=R.dE r
 obtain⟨rfl,rfl⟩:=nO e
 exact h1.s
theorem ax.pushS(c:ax B F H σ δ ts)(s:S F H [d] [v])(pl:d.pl=true):ax B F H σ δ ((d,v)::ts):=by
 obtain⟨A,C,r,q,nd,fr⟩:=c.own
 exact⟨c.ext,c.b1,c.b2,c.b3,A,C,(s.r (by simp[pl])).cons r,q,nd,fr⟩
theorem ah.upd{o:HO}(h:H p=none):ah H (upd H p o):=.of λb u e=>by rw[bA (fC e h)];exact e
theorem ax.pack(c:ax B F H σ δ (ps++ts))(hs:ah H H')(k:∀A1,R F H' (ps.map (·.1)) (ps.map (·.2)) A1->A1.Nodup->∃A',R F H' [d] [v] A'/\A'.Nodup/\∀a∈A',a∈A1\/H a=none):ax B F H' σ δ ((d,v)::ts):=by
 obtain⟨A,C,r,s,nd,fr⟩:=c.own
 rw[gi,gi]at r
 obtain⟨v1,v2,A1,A2,e,rfl,h1,h2⟩:=R.split r
 have l1:(ps.map (·.2)).length=v1.length:=by rw[<-h1.length];simp
 obtain⟨rfl,rfl⟩:=FT e l1
 rw[eX]at nd fr
 obtain⟨n1,n2,n3⟩:=iA.mp nd
 have g1:=h1.grow (ah.refl F) hs λa ha=>(h1.lists a ha).2
 have g2:=h2.grow (ah.refl F) hs λa ha=>(h2.lists a ha).2
 have gs:=s.keep (ah.refl F) (iz.same hs) jB.nil (λa ha=>(s.lists a ha).2) (by simp)
 obtain⟨A',r',mQ,sub⟩:=k A1 g1 n1
 refine⟨c.ext.trans hs,c.b1.trans hs,c.b2,c.b3,A'++A2,C,r'.cons g2,gs,?_,?_⟩
 ·rw[eX]
  refine iA.mpr ⟨mQ,n2,λa ha hb=>?_⟩
  rcases sub a ha with z | z
  ·exact n3 a z hb
  ·rcases bZ.mp hb with y | y
   ·obtain⟨⟨_,q⟩,_⟩:=h2.lists a y;rw[z]at q;cases q
   ·obtain⟨⟨_,q⟩,_⟩:=s.lists a y;rw[z]at q;cases q
 ·intro a ha
  rw[eX]at ha
  rcases bZ.mp ha with y | y
  ·rcases sub a y with z | z
   ·exact fr a (by simp[z])
   ·exact c.b1.free z
  ·exact fr a (fg _ y)
theorem ax.Hu(c:ax B F H σ δ ts)(hs:ah H H')(r:R F H' [d] [v] A)(nd:A.Nodup)(fr:∀a∈A,H a=none):ax B F H' σ δ ((d,v)::ts) :=
 ax.pack (ps:=[]) c hs λ_ _ _=>⟨A,r,nd,λa ha=>.inr (fr a ha)⟩
theorem ax.qD(c:ax B F H σ δ ts)(hp:H p=none)(s:S F H xs vs)(pl:xs.all D.pl=true):ax B F (upd H p (.lst vs)) σ δ ((.lst true xs,.ref p)::ts) :=
 c.Hu (ah.upd hp) (A:=[p]) (by simpa using R.own cI (c.ext.free hp) ((s.r pl).shared (ah.refl _) (ah.upd hp)) .nil) (by simp) (by simp[hp])
theorem ax.dE5(c:ax B F H σ δ (ps++ts))(hp:H p=none):ax B F (upd H p (.lst (ps.map (·.2)))) σ δ ((.lst true (ps.map (·.1)),.ref p)::ts):=by
 refine c.pack (ah.upd hp) λA1 r nd=>⟨p::A1,by simpa using R.own cI (c.ext.free hp) r .nil,jk.mpr ⟨λh=>?_,nd⟩,λa ha=>?_⟩
 ·obtain⟨A,C,r0,_,_,_⟩:=c.own
  rw[gi,gi]at r0
  obtain⟨v1,v2,B1,B2,e,rfl,h1,h2⟩:=R.split r0
  have l1:(ps.map (·.2)).length=v1.length:=by rw[<-h1.length];simp
  obtain⟨rfl,rfl⟩:=FT e l1
  have g1:=h1.grow (ah.refl F) (ah.upd (o:=.lst (ps.map (·.2))) hp) λa ha=>(h1.lists a ha).2
  have:A1=B1:=R.inj r g1
  subst this
  obtain⟨⟨_,q⟩,_⟩:=h1.lists p h
  rw[hp]at q;cases q
 ·rcases cB.mp ha with rfl | h
  ·exact .inr hp
  ·exact .inl h
theorem ax.dE6(c:ax B F H σ δ (ps++ts))(hp:H p=none):ax B F (upd H p (.tup (ps.map (·.2)))) σ δ ((.tup (ps.map (·.1)),.ref p)::ts) :=
 c.pack (ah.upd hp) λA1 r nd=>⟨A1,by simpa using R.tup (F:=F) cI r .nil,nd,λa ha=>.inl ha⟩
theorem ax.perm(c:ax B F H σ δ ps)(h:ps.Perm ts):ax B F H σ δ ts:=by
 obtain⟨A,C,r,s,nd,fr⟩:=c.own
 obtain⟨A',r',p⟩:=r.perm h
 have pp:=p.append_right C
 exact⟨c.ext,c.b1,c.b2,c.b3,A',C,r',s,pp.nodup_iff.mp nd,λa ha=>fr a (pp.mem_iff.mpr ha)⟩
theorem ax.move(c:ax B F H σ δ ts)(e:δ[i]?=some (some d)):∃v,σ[i]?=some (some v)/\ax B F H σ (δ.set i none) ((d,v)::ts):=by
 obtain⟨A,C,r,s,nd,fr⟩:=c.own
 obtain⟨v,A',C',e1,h1,h2,p⟩:=s.pick e
 have pp:(A++C).Perm ((A'++A)++C'):=by
  refine(p.append_left A).trans ?_
  rw[<-eX]
  exact qg.append_right _
 exact⟨v,e1,c.ext,c.b1,c.b2,c.b3,A'++A,C',h1.cons r,h2,pp.nodup_iff.mp nd,λa ha=>fr a (pp.mem_iff.mpr ha)⟩
theorem ax.forget(c:ax B F H σ δ ts)(i:Nat):ax B F H σ (δ.set i none) ts:=by
 obtain⟨A,C,r,s,nd,fr⟩:=c.own
 obtain⟨C',h,sb⟩:=s.drop i
 exact⟨c.ext,c.b1,c.b2,c.b3,A,C',r,h,nd.sublist ((RQ A).append sb),λa ha=>fr a (((RQ A).append sb).subset ha)⟩
theorem ax.fill(c:ax B F H σ δ ((d,v)::ts))(e:δ[i]?=some none)(e2:σ[i]?=some (some v)):ax B F H σ (δ.set i (some d)) ts:=by
 obtain⟨A,C,r,s,nd,fr⟩:=c.own
 obtain⟨w,cP,A1,A2,e',rfl,h1,h2⟩:=R.dE r
 obtain⟨rfl,rfl⟩:=nO e'
 obtain⟨C',s',p⟩:=s.fill e e2 h1
 have pp:((A1++A2)++C).Perm (A2++C'):=by
  refine((qg (l₁:=A1) (l₂:=A2)).append_right C).trans ?_
  rw[eX]
  exact(p.symm).append_left A2
 exact⟨c.ext,c.b1,c.b2,c.b3,A2,C',h2,s',pp.nodup_iff.mp nd,λa ha=>fr a (pp.mem_iff.mpr ha)⟩
theorem ax.zQ(c:ax B F H σ δ ts)(o:Option V)(e:δ[i]?=some none\/δ[i]?=none):ax B F H (σ.set i o) δ ts:=by
 obtain⟨A,C,r,s,nd,fr⟩:=c.own
 exact⟨c.ext,c.b1,c.b2,c.b3,A,C,r,s.zQ o e,nd,fr⟩
theorem ax.store(c:ax B F H σ δ ((d,v)::ts))(i:Nat):ax B F H (σ.set i (some v)) (δ.set i (some d)) ts:=by
 by_cases hi:i<δ.length
 ·have c1:=c.forget i
  have hs:i<σ.length:=by rw[<-c.len];exact hi
  have e:(δ.set i none)[i]?=some none:=by simp[hi]
  have c2:=(c1.zQ (some v) (.inl e)).fill (i:=i) e (by simp[hs])
  rwa [RU]at c2
 ·have hs:¬ i<σ.length:=by rw[<-c.len];exact hi
  rw[dd3 (by omega),dd3 (by omega)]
  exact c.pop
theorem ax.mut(c:ax B F H σ δ (ps++ts))(e:δ[i]?=some (some (.lst true xs)))(e2:σ[i]?=some (some (.ref p)))
  (k:∀ws A1 A2,H p=some (.lst ws)->R F H xs ws A1->R F H (ps.map (·.1)) (ps.map (·.2)) A2->(A1++A2).Nodup->∃A',R F H ys vs A'/\A'.Nodup/\∀a∈A',a∈A1++A2) :
  ax B F (upd H p (.lst vs)) σ (δ.set i (some (.lst true ys))) ts:=by
 have hi:i<δ.length:=(jj.mp e).1
 obtain⟨v,e3,c1⟩:=c.move e
 rw[e2]at e3;cases e3
 obtain⟨A,C,r,s,nd,fr⟩:=c1.own
 have r':R F H (([.lst true xs]++ps.map (·.1))++ts.map (·.1)) ((.ref p::ps.map (·.2))++ts.map (·.2)) A:=by simpa using r
 obtain⟨v1,v2,A1,A2,e4,rfl,h1,h2⟩:=R.split r'
 have l1:(V.ref p::ps.map (·.2)).length=v1.length:=by rw[<-h1.length];simp
 obtain⟨rfl,rfl⟩:=FT e4 l1
 cases h1 with
 | @own _ zR _ B1 _ _ B2 hH hF hx hr =>
  rw[eX]at nd fr
  obtain⟨n1,n2,n3⟩:=iA.mp nd
  obtain⟨m1,m2⟩:=jk.mp n1
  obtain⟨A',ra,nda,sub⟩:=k zR B1 B2 hH hx hr m2
  have pA:p ∉ A':=λz=>m1 (sub _ z)
  have pR:p ∉ A2++C:=λz=>n3 p (by simp) z
  have but:iz [p] H (upd H p (.lst vs)):=⟨λa o q z _=>by rw[bA (by simpa using z)];exact q⟩
  have hl:jB [p] H:=λa ha=>by rw[dX.mp ha];exact⟨_,hH⟩
  have g1:=ra.keep (ah.refl F) but hl (λa ha=>(ra.lists a ha).2) λa ha z=>pA (by rw[<-dX.mp z];exact ha)
  have g2:=h2.keep (ah.refl F) but hl (λa ha=>(h2.lists a ha).2) λa ha z=>pR (by rw[<-dX.mp z];exact gQ _ ha)
  have gs:=s.keep (ah.refl F) but hl (λa ha=>(s.lists a ha).2) λa ha z=>pR (by rw[<-dX.mp z];exact fg _ ha)
  have fp:B.H0 p=none:=fr p (by simp)
  have b1:ah B.H0 (upd H p (.lst vs)):=⟨λa o q n=>by
   rw[bA (λz=>by rw[z,fp]at q;cases q)]
   exact c1.b1.get a o q n,λa ps q=>by
   rw[bA (λz=>by rw[z,fp]at q;cases q)]
   exact c1.b1.tb a ps q⟩
  have ext:ah F (upd H p (.lst vs)):=⟨λa o q n=>by
   rw[bA (λz=>by rw[z,hF]at q;cases q)]
   exact c1.ext.get a o q n,λa ps q=>by
   rw[bA (λz=>by rw[z,hF]at q;cases q)]
   exact c1.ext.tb a ps q⟩
  have c2:ax B F (upd H p (.lst vs)) σ (δ.set i none) ((.lst true ys,.ref p)::ts):=by
   refine⟨ext,b1,c1.b2,c1.b3,(p::A')++A2,C,R.cons (by simpa using R.own cI hF g1 .nil) g2,gs,?_,?_⟩
   ·rw[eX]
    refine iA.mpr ⟨jk.mpr ⟨pA,nda⟩,n2,λa ha hb=>?_⟩
    rcases cB.mp ha with rfl | ha
    ·exact pR hb
    ·exact n3 a (dZ _ (sub a ha)) hb
   ·intro a ha
    rw[eX]at ha
    rcases bZ.mp ha with z | z
    ·rcases cB.mp z with rfl | z
     ·exact fp
     ·exact fr a (gQ _ (dZ _ (sub a z)))
    ·exact fr a (fg _ z)
  have c3:=c2.fill (i:=i) (by simp[hi]) e2
  rwa [RU]at c3
theorem ax.Hv(c:ax B F H σ δ ((d,v)::ts)):∃F',ah F F'/\ax B F' H σ δ ((d.sh,v)::ts):=by
 obtain⟨A,C,r,s,nd,fr⟩:=c.own
 obtain⟨w,cP,A1,A2,e',rfl,h1,h2⟩:=R.dE r
 obtain⟨rfl,rfl⟩:=nO e'
 rw[eX]at nd fr
 obtain⟨n1,n2,n3⟩:=iA.mp nd
 have out:∀a∈A2++C,cu F H A1 a=F a:=λa ha=>Cw λz=>n3 a z ha
 have b3:∀a o,cu F H A1 a=some (.lst o)->B.F0 a=some (.lst o)\/B.H0 a=none:=λa o q=>by
  by_cases z:a∈A1
  ·exact .inr (fr a (gQ _ z))
  ·rw[Cw z]at q;exact c.b3 a o q
 refine⟨cu F H A1,mP c.ext,Uc c.ext,c.b1,c.b2.trans (mP c.ext),b3,A2,C,?_,?_,n2,λa ha=>fr a (fg _ ha)⟩
 ·have g1:=h1.cu c.ext A1 (λ_ h=>h)
  exact R.cons (A:=[]) g1 (h2.keep (mP c.ext) (iz.same (ah.refl H)) jB.nil (λa ha=>by rw[out a (gQ _ ha)];exact(h2.lists a ha).2) (by simp))
 ·exact s.keep (mP c.ext) (iz.same (ah.refl H)) jB.nil (λa ha=>by rw[out a (fg _ ha)];exact(s.lists a ha).2) (by simp)
theorem ax.freeze(c:ax B F H σ δ ts)(e:δ[i]?=some (some d)):∃F',ah F F'/\ax B F' H σ (δ.set i (some d.sh)) ts:=by
 have hi:i<δ.length:=(jj.mp e).1
 obtain⟨v,e2,c1⟩:=c.move e
 obtain⟨F',s,c2⟩:=c1.Hv
 refine⟨F',s,?_⟩
 have c3:=c2.fill (i:=i) (by simp[hi]) e2
 rwa [RU]at c3
theorem ax.rebase(c:ax B F H σ δ ts):ax ⟨B.H0,F⟩ F H σ δ ts:=⟨c.ext,c.b1,ah.refl _,λ_ _ q=>.inl q,c.own⟩
theorem ax.dE8{F1:Hp}(c:ax ⟨B.H0,F1⟩ F H σ δ ts)(h:ah B.F0 F1)(h3:∀a ws,F1 a=some (.lst ws)->B.F0 a=some (.lst ws)\/B.H0 a=none):ax B F H σ δ ts :=
 ⟨c.ext,c.b1,h.trans c.b2,λa o q=>(c.b3 a o q).elim (h3 a o) .inr,c.own⟩
theorem ax.call(c:ax B F H σ δ ts)(hs:ah H H')(hf:ah F F')(he:ah F' H')(h3:∀a ws,F' a=some (.lst ws)->F a=some (.lst ws)\/H a=none)(r:R F' H' [d] [v] A)(nd:A.Nodup)(fr:∀a∈A,H a=none) :
  ax B F' H' σ δ ((d,v)::ts):=by
 obtain⟨A0,C,r0,s,nd0,fr0⟩:=c.own
 have no:∀a,(∃ws,H a=some (.lst ws))/\F a=none->F' a=none:=λa zz=>by
  obtain⟨⟨ws,e⟩,n⟩:=zz
  cases q:F' a with
  | none=>rfl
  | some o =>
   have q2:H' a=some o:=by
    cases n:jA o with
    | true=>exact he.get a o q n
    | false =>
     obtain⟨ps,rfl⟩:=Hq n
     obtain⟨m,z⟩:=he.tb a ps q
     rw[hs a _ e]at z
     cases z
   rw[hs a _ e]at q2
   cases q2
   rcases h3 a ws q with z | z
   ·rw[n]at z;cases z
   ·rw[e]at z;cases z
 refine⟨he,c.b1.trans hs,c.b2.trans hf,λa o q=>(h3 a o q).elim (c.b3 a o) λz=>.inr (c.b1.free z),A++A0,C,R.cons r (r0.grow hf hs λa ha=>no a (r0.lists a ha)),
  s.keep hf (iz.same hs) jB.nil (λa ha=>no a (s.lists a ha)) (by simp),?_,?_⟩
 ·rw[eX]
  refine iA.mpr ⟨nd,nd0,λa ha hb=>?_⟩
  have z:=fr a ha
  rcases bZ.mp hb with y | y
  ·obtain⟨⟨_,q⟩,_⟩:=r0.lists a y;rw[z]at q;cases q
  ·obtain⟨⟨_,q⟩,_⟩:=s.lists a y;rw[z]at q;cases q
 ·intro a ha
  rw[eX]at ha
  rcases bZ.mp ha with y | y
  ·exact c.b1.free (fr a y)
  ·exact fr0 a y
theorem ax.inS(c:ax B F H σ δ ((d,v)::ts)):ax B F H (some v::σ) (some d::δ) ts:=by
 obtain⟨A,C,r,s,nd,fr⟩:=c.own
 obtain⟨w,cP,A1,A2,e',rfl,h1,h2⟩:=R.dE r
 obtain⟨rfl,rfl⟩:=nO e'
 have pp:((A1++A2)++C).Perm (A2++(A1++C)):=by
  rw[<-eX];exact qg.append_right C
 exact⟨c.ext,c.b1,c.b2,c.b3,A2,A1++C,h2,.g7 h1 s,pp.nodup_iff.mp nd,λa ha=>fr a (pp.mem_iff.mpr ha)⟩
theorem ax.dF2{w:V}(c:ax B F H (some w::σ) (some d::δ) ts):ax B F H σ δ ((d,w)::ts):=by
 obtain⟨A,C,r,s,nd,fr⟩:=c.own
 cases s with
 | @g7 _ _ A1 _ _ C1 h1 s =>
  have pp:(A++(A1++C1)).Perm ((A1++A)++C1):=by
   rw[<-eX];exact qg.append_right C1
  exact⟨c.ext,c.b1,c.b2,c.b3,A1++A,C1,R.cons h1 r,s,pp.nodup_iff.mp nd,λa ha=>fr a (pp.mem_iff.mpr ha)⟩
theorem ax.dF3(c:ax B F H σ δ ((d,v)::(.lst true xs,.ref p)::ts))(hp:H p=some (.lst ws)):ax B F (upd H p (.lst (ws++[v]))) σ δ ((.lst true (xs++[d]),.ref p)::ts):=by
 have c1:=(c.perm (List.Perm.swap _ _ _)).inS
 refine(ax.mut (ps:=[(d,v)]) (i:=0) (ys:=xs++[d]) (vs:=ws++[v]) c1 rfl rfl λgr A1 A2 h r1 r2 nd=>?_).dF2
 rw[hp]at h;cases h
 exact⟨A1++A2,r1.append r2,nd,λa ha=>ha⟩
theorem ax.app(c:ax B F H σ δ ((d,v)::ts))(e:δ[i]?=some (some (.lst true xs)))(e2:σ[i]?=some (some (.ref p)))(hp:H p=some (.lst ws)) :
  ax B F (upd H p (.lst (ws++[v]))) σ (δ.set i (some (.lst true (xs++[d])))) ts :=
 ax.mut (ps:=[(d,v)]) c e e2 λgr A1 A2 h r1 r2 nd=>by
  rw[hp]at h;cases h
  exact⟨A1++A2,r1.append r2,nd,λa ha=>ha⟩
theorem R.Ue:∀{xs:List D} {ws:List V} {A1 A2:List Addr} (j:Nat),R F H xs ws A1->R F H [d] [v] A2->(A1++A2).Nodup->∃A',R F H (xs.set j d) (ws.set j v) A'/\A'.Nodup/\∀a∈A',a∈A1++A2
 | [],_,A1,A2,j,r,q,nd=>by cases r;exact⟨[],.nil,by simp,by simp⟩
 | x::xs,_,A1,A2,j,r,q,nd=>by
  obtain⟨w,gr,B1,B2,rfl,rfl,h1,h2⟩:=r.dE
  rw[eX]at nd
  obtain⟨n1,n2,n3⟩:=iA.mp nd
  cases j with
  | zero =>
   refine⟨A2++B2,q.cons h2,(qg (l₁:=B2) (l₂:=A2)).nodup_iff.mp n2,λa ha=>?_⟩
   simp only[bZ]at ha ⊢
   rcases ha with z | z
   ·exact .inr z
   ·exact .inl (.inr z)
  | succ j =>
   obtain⟨A',r',mQ,sub⟩:=R.Ue j h2 q n2
   refine⟨B1++A',h1.cons r',iA.mpr ⟨n1,mQ,λa ha hb=>n3 a ha (sub a hb)⟩,λa ha=>?_⟩
   rcases bZ.mp ha with z | z
   ·simp[z]
   ·have:=sub a z
    simp only[bZ]at this ⊢
    rcases this with z | z
    ·exact .inl (.inr z)
    ·exact .inr z
theorem ax.dF4(c:ax B F H σ δ ((d,v)::ts))(e:δ[i]?=some (some (.lst true xs)))(e2:σ[i]?=some (some (.ref p)))(hp:H p=some (.lst ws))(j:Nat) :
  ax B F (upd H p (.lst (ws.set j v))) σ (δ.set i (some (.lst true (xs.set j d)))) ts :=
 ax.mut (ps:=[(d,v)]) c e e2 λgr A1 A2 h r1 r2 nd=>by
  rw[hp]at h;cases h
  exact r1.Ue j r2 nd
theorem ax.ownAt(c:ax B F H σ δ ts)(e:δ[i]?=some (some (.lst true xs))):∃p ws,σ[i]?=some (some (.ref p))/\H p=some (.lst ws)/\xs.length=ws.length:=by
 obtain⟨v,e1,s⟩:=c.look e
 cases s with
 | own h x _=>exact⟨_,_,e1,h,x.length⟩
theorem RS.start{ds:List D}{vs:List V}(r:R F H ds vs [])(n:Nat):RS F H (ds.map some++bG n none) (vs.map some++bG n none) []:=by
 have z:∀n,RS F H (bG n none) (bG n none) []:=λn=>by
  induction n with
  | zero=>exact .nil
  | succ n ih=>exact .ay ih
 have:∀(ds:List D) (vs:List V),R F H ds vs []->RS F H (ds.map some++bG n none) (vs.map some++bG n none) []:=by
  intro ds
  induction ds with
  | nil=>intro vs r;cases r;exact z n
  | cons d ds ih =>
   intro vs r
   obtain⟨v,cP,A1,A2,rfl,e,h1,h2⟩:=r.dE
   obtain⟨rfl,rfl⟩:=FR.mp e.symm
   exact .g7 (A:=[]) h1 (ih _ h2)
 exact this ds vs r
theorem ax.start{ds:List D}{vs:List V}(e:ah F H)(r:R F H ds vs [])(n:Nat):ax ⟨H,F⟩ F H (vs.map some++bG n none) (ds.map some++bG n none) [] :=
 ⟨e,ah.refl _,ah.refl _,λ_ _ q=>.inl q,[],[],.nil,RS.start r n,by simp,by simp⟩
theorem ax.snap(c:ax B F H σ δ ts):ax B (L3.snap F H) H σ δ ts:=by
 obtain⟨A,C,r,s,nd,fr⟩:=c.own
 have no:∀a,(∃ws,H a=some (.lst ws))/\F a=none->L3.snap F H a=none:=λa ⟨⟨ws,e⟩,n⟩=>cc0 e n
 exact⟨ch5 c.ext,c.b1,c.b2.trans (ua c.ext),λa ws q=>c.b3 a ws (b83 c.ext q),A,C,r.grow (ua c.ext) (ah.refl _) λa ha=>no a (r.lists a ha),
  s.keep (ua c.ext) (iz.same (ah.refl _)) jB.nil (λa ha=>no a (s.lists a ha)) (by simp),nd,fr⟩
end
end L3
namespace L3
open PySem L2 PySem.Spec PyProof.Rows
abbrev aY:=Dl->(D->Dl->Prop)->Prop
abbrev fS:=Dl->(Bool->Dl->Prop)->Prop
abbrev dh:=Dl->(List D->Dl->Prop)->Prop
structure ub where
 nx:Dl->Prop
 rt:D->Prop
 bk:Dl->Prop:=λ_=>False
 ct:Dl->Prop:=λ_=>False
 xc:Addr->Dl->Prop:=λ_ _=>False
 xr:Addr->Dl->Prop:=λ_ _=>False
abbrev cX:=ub->Dl->Prop
def lE(t:aY):TE:=λσ H Q=>∃B F δ ts Qd,ax B F H σ δ ts/\t δ Qd/\∀d ak v F' H',Qd d ak->ah F F'->ah H H'->ax B F' H' σ ak ((d,v)::ts)->Q v H'
def lB(t:aY):TE:=λσ H Q=>∃B F δ ts Qd,ax B F H σ δ ts/\t δ Qd/\∀d ak v F' H',Qd d ak->ah F F'->ah H H'->ax B F' H' σ ak ts->S F' H' [d] [v]->Q v H'
def lT(t:fS):TT:=λσ H Q=>∃B F δ ts Qd,ax B F H σ δ ts/\t δ Qd/\∀b ak F' H',Qd b ak->ah F F'->ah H H'->ax B F' H' σ ak ts->Q b H'
def lA(t:dh):TA:=λσ H Q=>∃B F δ ts Qd,ax B F H σ δ ts/\t δ Qd/\∀ds ak vs F' H',Qd ds ak->ah F F'->ah H H'->ax B F' H' σ ak ts->S F' H' ds vs->Q vs H'
def lO(t:dh):TA:=λσ H Q=>∃B F δ ts Qd,ax B F H σ δ ts/\t δ Qd/\∀(ps:List (D × V)) ak F' H',Qd (ps.map (·.1)) ak->ah F F'->ah H H'->ax B F' H' σ ak (ps++ts)->Q (ps.map (·.2)) H'
def XL(X:Cx)(B:Bs)(Dd:ub):Prop :=
 (∀C ak pins aN F' H' s' a T,Dd.xc C ak->ax B F' H' aN ak []->Inv X pins aN H' s'->t7 s'.heap a T (.ref C)->Apart X pins H' a->Apart X pins H' T->X.xe (.ref a) s') /\
 (∀C ak pins aN F' H' s' h' e vs,Dd.xr C ak->ax B F' H' aN ak []->Inv X pins aN H' s'->RP s'.heap h' e (.ref C) vs->X.xe (.ref e) { s' with heap:=h' })
theorem XL.none{X:Cx}{B:Bs}{Dd:ub}(h1:∀C δ,¬ Dd.xc C δ)(h2:∀C δ,¬ Dd.xr C δ):XL X B Dd:=⟨λC δ _ _ _ _ _ _ _ h=>absurd h (h1 C δ),λC δ _ _ _ _ _ _ _ _ h=>absurd h (h2 C δ)⟩
def lS(X:Cx)(t:cX):TS:=λD σ H=>∃B F δ Dd,ax B F H σ δ []/\t Dd δ/\(∀ak aN F' H',Dd.nx ak->ax B F' H' aN ak []->D.nx aN H')/\(∀d v ak aN F' H',Dd.rt d->ax B F' H' aN ak [(d,v)]->D.rt v H') /\
 (∀ak aN F' H',Dd.bk ak->ax B F' H' aN ak []->D.bk aN H')/\(∀ak aN F' H',Dd.ct ak->ax B F' H' aN ak []->D.ct aN H')/\XL X B Dd
section
variable{X:Cx}{e a b c:Expr}{es:List Expr}{pos:Pos}{st:Stmt}{zS:List Stmt}
theorem dO{t t':TE}(h:PE X e t)(m:∀σ H Q,t' σ H Q->t σ H Q):PE X e t':=λpins s σ H Q I q=>h pins s σ H Q I (m σ H Q q)
theorem Hw{t t':TT}(h:PT X e t)(m:∀σ H Q,t' σ H Q->t σ H Q):PT X e t':=λpins s σ H Q I q=>h pins s σ H Q I (m σ H Q q)
theorem Ug{t t':TT}(h:PW X e t)(m:∀σ H Q,t' σ H Q->t σ H Q):PW X e t':=λwh pins s σ H Q I q=>h wh pins s σ H Q I (m σ H Q q)
theorem zT{t t':TA}(h:PA X es t)(m:∀σ H Q,t' σ H Q->t σ H Q):PA X es t':=λp pins s σ H Q I q=>h p pins s σ H Q I (m σ H Q q)
theorem mR{t t':TS}(h:PS X st t)(m:∀D σ H,t' D σ H->t D σ H):PS X st t':=λpins s σ H D I q=>h pins s σ H D I (m D σ H q)
theorem Hx{t t':TS}(h:PSs X zS t)(m:∀D σ H,t' D σ H->t D σ H):PSs X zS t':=λpins s σ H D I q=>h pins s σ H D I (m D σ H q)
variable{t u ta tb tc:aY}
theorem ae(h:PE X e (lE t)):PE X e (lB t):=dO h λσ H Q ⟨B,F,δ,ts,Qd,c,q,k⟩=>⟨B,F,δ,ts,Qd,c,q,λd ak v F' H' hd sf sh c'=>k d ak v F' H' hd sf sh c'.pop c'.top⟩
def oj(t:aY):aY:=λδ Q=>t δ λd ak=>d.pl=true/\Q d ak
theorem cO(h:PE X e (lB t)):PE X e (lE (oj t)):=dO h λσ H Q ⟨B,F,δ,ts,Qd,c,q,k⟩=>⟨B,F,δ,ts,_,c,q,λd ak v F' H' hd sf sh c' s=>k d ak v F' H' hd.2 sf sh (c'.pushS s hd.1)⟩
def kE(i:Nat):aY:=λδ Q=>match δ[i]? with
 | some (some d)=>Q d δ
 | _=>False
def mS(i:Nat):aY:=λδ Q=>match δ[i]? with
 | some (some d)=>Q d (δ.set i none)
 | _=>False
theorem cF0{i:Nat}{δ:Dl}{Q:D->Dl->Prop}(h:kE i δ Q):∃d,δ[i]?=some (some d)/\Q d δ:=by
 unfold kE at h
 split at h
 ·rename_i d e;exact⟨d,e,h⟩
 ·exact h.elim
theorem cl9{i:Nat}{δ:Dl}{Q:D->Dl->Prop}(h:mS i δ Q):∃d,δ[i]?=some (some d)/\Q d (δ.set i none):=by
 unfold mS at h
 split at h
 ·rename_i d e;exact⟨d,e,h⟩
 ·exact h.elim
def dC(d:D):aY:=λδ Q=>Q d δ
theorem bv(i:Nat){x:Str}(hN:X.N[i]?=some x:=by rfl)(hv:mE X.env.scope x:=by first | exact ao rfl | exact aX (ao rfl) | exact aX (aX rfl))(hd:(x==("__debug__":Str))=false:=by decide)
  (de:(x==("__classdict__":Str))=false:=by decide):PE X (.Name x pos) (lB (kE i)):=dO (tP hN hv hd de) λσ H Q ⟨B,F,δ,ts,Qd,c,q,k⟩=>by
 obtain⟨d,e,q⟩:=cF0 q
 obtain⟨v,e1,s⟩:=c.look e
 exact⟨v,e1,k d δ v F H q (ah.refl _) (ah.refl _) c s⟩
theorem em(i:Nat){x:Str}(hN:X.N[i]?=some x:=by rfl)(hv:mE X.env.scope x:=by first | exact ao rfl | exact aX (ao rfl) | exact aX (aX rfl))(hd:(x==("__debug__":Str))=false:=by decide)
  (de:(x==("__classdict__":Str))=false:=by decide):PE X (.Name x pos) (lE (mS i)):=dO (tP hN hv hd de) λσ H Q ⟨B,F,δ,ts,Qd,c,q,k⟩=>by
 obtain⟨d,e,q⟩:=cl9 q
 obtain⟨v,e1,c'⟩:=c.move e
 exact⟨v,e1,k d _ v F H q (ah.refl _) (ah.refl _) c'⟩
theorem Cy{B:Bs}{F H:Hp}{σ:L2.St}{δ:Dl}{ts:List (D × V)}{Qd:D->Dl->Prop}{Q:VK}{d:D}{v:V}(c:ax B F H σ δ ts)(q:Qd d δ)(s:S F H [d] [v])(p:d.pl=true)
  (k:∀d ak v F' H',Qd d ak->ah F F'->ah H H'->ax B F' H' σ ak ((d,v)::ts)->Q v H'):Q v H:=k d δ v F H q (ah.refl _) (ah.refl _) (c.pushS s p)
theorem aw{i j}:PE X (.Constant (.int i) j pos) (lE (dC (.int i))):=dO zj λσ H Q ⟨B,F,δ,ts,Qd,c,q,k⟩=>Cy c q (.int .nil) rfl k
theorem kF{i j}:PE X (.Constant (.bool i) j pos) (lE (dC (.bl i))):=dO cV2 λσ H Q ⟨B,F,δ,ts,Qd,c,q,k⟩=>Cy c q (.bl .nil) rfl k
theorem fE{j}:PE X (.Constant .none j pos) (lE (dC .ay)):=dO cN9 λσ H Q ⟨B,F,δ,ts,Qd,c,q,k⟩=>Cy c q (.ay .nil) rfl k
theorem Uh{x j}:PE X (.Constant (.str x) j pos) (lE (dC (.str x))):=dO cJ9 λσ H Q ⟨B,F,δ,ts,Qd,c,q,k⟩=>Cy c q (.str .nil) rfl k
abbrev cQ:=D->D->(D->Prop)->Prop
def Cz(r:R2)(rd:cQ):Prop:=∀{B:Bs} {F H:Hp} {σ:L2.St} {δ:Dl} {ts:List (D × V)} {x y:D} {v w:V} {Q:VK} {Qd:D->Prop},ax B F H σ δ ts->S F H [x] [v]->S F H [y] [w]->rd x y Qd ->
 (∀d z H',Qd d->ah H H'->ax B F H' σ δ ((d,z)::ts)->Q z H')->r v w H Q
def bU(X:Cx)(f:Value->Value->Sem Value)(rd:cQ):Prop:=∃r,cL X f r/\Cz r rd
theorem bU.or{f:Value->Value->Sem Value}{r1 r2:cQ}(h1:bU X f r1)(h2:bU X f r2):bU X f λx y Q=>r1 x y Q\/r2 x y Q:=by
 obtain⟨q1,a1,b1⟩:=h1
 obtain⟨q2,a2,b2⟩:=h2
 refine⟨_,a1.or a2,λ{B F H σ δ ts x y v w Q Qd} c sx sy h k=>?_⟩
 rcases h with h | h
 ·exact .inl (b1 c sx sy h k)
 ·exact .inr (b2 c sx sy h k)
theorem bU.imp{f:Value->Value->Sem Value}{r1 r2:cQ}(h1:bU X f r1)(h:∀x y Q,r2 x y Q->r1 x y Q):bU X f r2:=by
 obtain⟨q1,a1,b1⟩:=h1
 exact⟨q1,a1,λ{B F H σ δ ts x y v w Q Qd} c sx sy h2 k=>b1 c sx sy (h _ _ _ h2) k⟩
def lh(rd:cQ)(ta tb:aY):aY:=λδ Q=>ta δ λx av=>tb av λy bh=>rd x y λd=>Q d bh
theorem Hy{r:R2}{rd:cQ}(hl:Cz r rd):∀σ H Q,lE (lh rd ta tb) σ H Q->zw r (lB ta) (lB tb) σ H Q:=λσ H Q ⟨B,F,δ,ts,Qd,c,q,k⟩ =>
 ⟨B,F,δ,ts,_,c,q,λx av v F1 H1 q1 f1 h1 c1 s1=>⟨B,F1,av,ts,_,c1,q1,λy bh w F2 H2 q2 f2 h2 c2 s2 =>
  hl c2 (s1.mono f2 h2) s2 q2 λd z H' hd hs c3=>k d bh z F2 H' hd (f1.trans f2) ((h1.trans h2).trans hs) c3⟩⟩
theorem aG{op:Operator}{rd:cQ}(ho:bU X (binaryOp op) rd)(ha:PE X a (lB ta))(hb:PE X b (lB tb)):PE X (.BinOp a op b pos) (lE (lh rd ta tb)):=by
 obtain⟨r,h1,h2⟩:=ho
 exact dO (zx h1 ha hb) (Hy h2)
theorem vY{op:CmpOp}{rd:cQ}(ho:bU X (compareOp op) rd)(ha:PE X a (lB ta))(hb:PE X b (lB tb))(hm:behindInMarks op b=false):PE X (.Compare a [op] [b] pos) (lE (lh rd ta tb)):=by
 obtain⟨r,h1,h2⟩:=ho
 exact dO (cA2 h1 ha hb hm) (Hy h2)
def dT(t:aY):fS:=λδ Q=>t δ λd ak=>∃k,d=.bl k/\Q k ak
theorem co6{te:TE}(h:∀σ H Q,lE t σ H Q->te σ H Q):∀σ H Q,lT (dT t) σ H Q->SK te σ H Q:=λσ H Q zz=>by
 obtain⟨B,F,δ,ts,Qd,c,q,k⟩:=zz
 refine h σ H _ ⟨B,F,δ,ts,_,c,q,λd ak v F' H' hd sf sh c'=>?_⟩
 obtain⟨b,rfl,qb⟩:=hd
 have s:=c'.top
 cases s with
 | bl _=>exact⟨b,rfl,k b ak F' H' qb sf sh c'.pop⟩
theorem bP{op:CmpOp}{rd:cQ}(ho:bU X (compareOp op) rd)(ha:PE X a (lB ta))(hb:PE X b (lB tb))(hm:behindInMarks op b=false):PT X (.Compare a [op] [b] pos) (lT (dT (lh rd ta tb))):=by
 obtain⟨r,h1,h2⟩:=ho
 exact Hw (cB2 h1 ha hb hm) (co6 (Hy h2))
def om(r r':cQ)(ta tb tc:aY):aY:=λδ Q=>ta δ λx av=>tb av λy bh=>r x y λd=>∃k,d=.bl k/\if k=true then tc bh λz iV=>r' y z λd'=>Q d' iV else Q (.bl false) bh
theorem gu(h:PE X e (lB t))(he:∀whole,isTrue e X.env whole=(do let v<-whole;standAt e.pos;holding [v] (truthy v)):=by intro _;rfl):PT X e (lT (dT t)) :=
 Hw (Gw h he) λσ H Q ⟨B,F,δ,ts,Qd,c,q,k⟩=>⟨B,F,δ,ts,_,c,q,λd ak v F' H' hd sf sh c' s=>by
  obtain⟨b,rfl,qb⟩:=hd
  cases s with
  | bl _=>exact⟨b,rfl,k b ak F' H' qb sf sh c'⟩⟩
variable{tA tB:fS}{rest:List Expr}
def qE(t u:fS):fS:=λδ Q=>t δ λc av=>if c=true then u av Q else Q false av
def qF(t u:fS):fS:=λδ Q=>t δ λc av=>if c=true then Q true av else u av Q
def qG(t:fS):fS:=λδ Q=>t δ λc av=>Q (!c) av
theorem Hz(ha:PT X a (lT tA))(hb:PW X (.BoolOp .And (b::rest) pos) (lT tB)):PW X (.BoolOp .And (a::b::rest) pos) (lT (qE tA tB)) :=
 Ug (cJ0 ha hb) λσ H Q ⟨B,F,δ,ts,Qd,c,q,k⟩=>⟨B,F,δ,ts,_,c,q,λb av F1 H1 q1 f1 h1 c1=>by
  cases b with
  | true=>exact qw ⟨B,F1,av,ts,Qd,c1,by simpa using q1,λb ak F' H' hd sf sh c'=>k b ak F' H' hd (f1.trans sf) (h1.trans sh) c'⟩
  | false=>exact mM (k false av F1 H1 (by simpa using q1) f1 h1 c1)⟩
theorem ud(ha:PT X a (lT tA))(hb:PW X (.BoolOp .Or (b::rest) pos) (lT tB)):PW X (.BoolOp .Or (a::b::rest) pos) (lT (qF tA tB)) :=
 Ug (cR1 ha hb) λσ H Q ⟨B,F,δ,ts,Qd,c,q,k⟩=>⟨B,F,δ,ts,_,c,q,λb av F1 H1 q1 f1 h1 c1=>by
  cases b with
  | true=>exact qw (k true av F1 H1 (by simpa using q1) f1 h1 c1)
  | false=>exact mM ⟨B,F1,av,ts,Qd,c1,by simpa using q1,λb ak F' H' hd sf sh c'=>k b ak F' H' hd (f1.trans sf) (h1.trans sh) c'⟩⟩
theorem mT(ha:PT X a (lT tA)):PT X (.UnaryOp .Not a pos) (lT (qG tA)) :=
 Hw (Gx ha) λσ H Q ⟨B,F,δ,ts,Qd,c,q,k⟩=>⟨B,F,δ,ts,_,c,q,λb av F1 H1 q1 f1 h1 c1=>k _ av F1 H1 q1 f1 h1 c1⟩
def qH(ta tb:aY):aY:=λδ Q=>ta δ λx av=>∃c,x=.bl c/\if c=true then tb av Q else Q (.bl false) av
def qI(ta:aY):aY:=λδ Q=>ta δ λx av=>∃c,x=.bl c/\Q (.bl (!c)) av
theorem zU(ha:PE X a (lB ta))(hb:PE X (.BoolOp .And (b::rest) pos) (lE tb)):PE X (.BoolOp .And (a::b::rest) pos) (lE (qH ta tb)) :=
 dO (cN8 ha hb) λσ H Q ⟨B,F,δ,ts,Qd,c,q,k⟩=>⟨B,F,δ,ts,_,c,q,λd av v F1 H1 q1 f1 h1 c1 s1=>by
  obtain⟨b,rfl,qb⟩:=q1
  cases s1 with
  | bl _ =>
   refine⟨b,rfl,?_⟩
   cases b with
   | true=>exact qw ⟨B,F1,av,ts,Qd,c1,by simpa using qb,λd ak v F' H' hd sf sh c'=>k d ak v F' H' hd (f1.trans sf) (h1.trans sh) c'⟩
   | false=>exact mM (k _ av _ F1 H1 (by simpa using qb) f1 h1 (c1.pushS (.bl .nil) rfl))⟩
theorem cV1(ha:PE X a (lB ta)):PE X (.UnaryOp .Not a pos) (lE (qI ta)) :=
 dO (cP0 ha) λσ H Q ⟨B,F,δ,ts,Qd,c,q,k⟩=>⟨B,F,δ,ts,_,c,q,λd av v F1 H1 q1 f1 h1 c1 s1=>by
  obtain⟨b,rfl,qb⟩:=q1
  cases s1 with
  | bl _=>exact⟨b,rfl,k _ av _ F1 H1 qb f1 h1 (c1.pushS (.bl .nil) rfl)⟩⟩
def qJ(t:fS)(ta tb:aY):aY:=λδ Q=>t δ λc av=>if c=true then ta av Q else tb av Q
theorem CA(hc:PT X c (lT tA))(ha:PE X a (lE ta))(hb:PE X b (lE tb)):PE X (.IfExp c a b pos) (lE (qJ tA ta tb)) :=
 dO (ck7 hc ha hb) λσ H Q ⟨B,F,δ,ts,Qd,c,q,k⟩=>⟨B,F,δ,ts,_,c,q,λb av F1 H1 q1 f1 h1 c1=>by
  cases b with
  | true=>exact qw ⟨B,F1,av,ts,Qd,c1,by simpa using q1,λd ak v F' H' hd sf sh c'=>k d ak v F' H' hd (f1.trans sf) (h1.trans sh) c'⟩
  | false=>exact mM ⟨B,F1,av,ts,Qd,c1,by simpa using q1,λd ak v F' H' hd sf sh c'=>k d ak v F' H' hd (f1.trans sf) (h1.trans sh) c'⟩⟩
def mU:dh:=λδ Q=>Q [] δ
def mV(t:aY)(r:dh):dh:=λδ Q=>t δ λd av=>r av λds bh=>Q (d::ds) bh
theorem au:PA X [] (lA mU):=zT kA λσ H Q ⟨B,F,δ,ts,Qd,c,q,k⟩=>k [] δ [] F H q (ah.refl _) (ah.refl _) c .nil
variable{tr:dh}
theorem af(ha:PE X e (lB t))(hr:PA X es (lA tr))(hs:starEach (e::es) X.env=(false,eval e X.env)::starEach es X.env:=by rfl):PA X (e::es) (lA (mV t tr)) :=
 zT (gA ha hr hs) λσ H Q ⟨B,F,δ,ts,Qd,c,q,k⟩=>⟨B,F,δ,ts,_,c,q,λd av v F1 H1 q1 f1 h1 c1 s1=>⟨B,F1,av,ts,_,c1,q1,λds bh vs F2 H2 q2 f2 h2 c2 s2 =>
  k (d::ds) bh (v::vs) F2 H2 q2 (f1.trans f2) (h1.trans h2) c2 ((s1.mono f2 h2).cons s2)⟩⟩
theorem dJ:PA X [] (lO mU):=zT kA λσ H Q ⟨B,F,δ,ts,Qd,c,q,k⟩=>k [] δ F H q (ah.refl _) (ah.refl _) c
theorem e7(ha:PE X e (lE t))(hr:PA X es (lO tr))(hs:starEach (e::es) X.env=(false,eval e X.env)::starEach es X.env:=by rfl):PA X (e::es) (lO (mV t tr)) :=
 zT (gA ha hr hs) λσ H Q ⟨B,F,δ,ts,Qd,c,q,k⟩=>⟨B,F,δ,ts,_,c,q,λd av v F1 H1 q1 f1 h1 c1=>⟨B,F1,av,(d,v)::ts,_,c1,q1,λps bh F2 H2 q2 f2 h2 c2 =>
  k ((d,v)::ps) bh F2 H2 q2 (f1.trans f2) (h1.trans h2) (c2.perm (List.perm_middle))⟩⟩
def oo(t:dh):aY:=λδ Q=>t δ λds ak=>ds.length<=sizeLine/\Q (.lst true ds) ak
def qK(t:dh):aY:=λδ Q=>t δ λds ak=>ds.length<=sizeLine/\Q (.tup ds) ak
theorem eN(h:PA X es (lO tr)):PE X (.List es pos) (lE (oo tr)) :=
 dO (SQ h) λσ H Q ⟨B,F,δ,ts,Qd,c,q,k⟩=>⟨B,F,δ,ts,_,c,q,λps av F1 H1 q1 f1 h1 c1=>⟨by simpa using q1.1,λp hp=>k _ av _ F1 _ q1.2 f1 (h1.trans (ah.upd hp)) (c1.dE5 hp)⟩⟩
theorem zV{x1}(h:PA X es (lO tr)):PE X (.Tuple es x1 pos) (lE (qK tr)) :=
 dO (cI1 h) λσ H Q ⟨B,F,δ,ts,Qd,c,q,k⟩=>⟨B,F,δ,ts,_,c,q,λps av F1 H1 q1 f1 h1 c1=>⟨by simpa using q1.1,λp hp=>k _ av _ F1 _ q1.2 f1 (h1.trans (ah.upd hp)) (c1.dE6 hp)⟩⟩
end
end L3
namespace L3
open PySem L2 PySem.Spec PyProof.Rows
abbrev bB:=List D->(D->Prop)->Prop
def bx(sp:bB):Sp:=λvs H Q _=>∃F ds Qd,ah F H/\R F H ds vs []/\sp ds Qd/\∀d v F' H' A,Qd d->ah H H'->ah F F'->ah F' H'->(∀a ws,F' a=some (.lst ws)->F a=some (.lst ws)\/H a=none)->R F' H' [d] [v] A->A.Nodup->(∀a∈A,H a=none)->Q v H'
def mW(sp:bB)(t:dh):aY:=λδ Q=>t δ λds ak=>sp (ds.map D.sh) λd=>(ds.all D.pl||d.fr)=true/\Q d ak
theorem CB{B:Bs}{F H:Hp}{σ:L2.St}{δ:Dl}{ts:List (D × V)}{Qd:D->Prop}{Q:VK}{E:XK}{ds:List D}{vs:List V}{sp:bB}(c:ax B F H σ δ ts)(s:S F H ds vs)(q:sp (ds.map D.sh) λd=>(ds.all D.pl||d.fr)=true/\Qd d)
  (k:∀d v F' H',Qd d->ah F F'->ah H H'->ax B F' H' σ δ ((d,v)::ts)->Q v H'):bx sp vs H Q E:=by
 by_cases hp:ds.all D.pl=true
 ·rw[mO hp]at q
  exact⟨F,ds,_,c.ext,s.r hp,q,λd v F' H' A hd hs hf he h3 r nd fr=>k d v F' H' hd.2 hf hs (c.call hs hf he h3 r nd fr)⟩
 ·refine⟨H,ds.map D.sh,_,ah.refl _,s.frozen c.ext,q,λd v F' H' A hd hs hf he h3 r nd fr=>?_⟩
  have e5:d.fr=true:=by
   have:=hd.1
   rw[Bool.or_eq_true]at this
   exact this.resolve_left hp
  exact k d v F H' hd.2 (ah.refl _) hs (c.Hu hs (r.Ht (by simp[e5]) (c.ext.trans hf)) nd fr)
section
variable{X:Cx}{CX:fh}{n:Nat}{f:Addr}{fd:FuncData}{ps:List Str}{sp:bB}{E:XK}{x:Str}{p pos:Pos}{e:Expr}{es:List Expr}{t:dh}
theorem aT(F:aQ X.prog X.w X.K X.mg X.base CX n f fd ps (bx sp))(hr:cM n X.A)(hg:Gl X x)(hm:X.mg x=some (.ref f))(hk:PySem.W.keepIn X.K (.ref f)=true)(hb:Binds X.K fd ps [])(hx:mJ CX X E)
  (ha:PA X (e::es) (lA t)) (fi:(x==("__debug__":Str))=false:=by decide) (he:starEach (e::es) X.env=(false,eval e X.env)::starEach es X.env:=by rfl) (bS:(backTo pos (starEach es X.env)).any (·.1)=false:=by rfl) :
  PE X (.Call (.Name x p) (e::es) [] pos) (lE (mW sp t)) :=
 dO (tW F hr hg hm hk hb .nil hx ha fi he bS) λσ H Q ⟨B,F,δ,ts,Qd,c,q,k⟩=>⟨B,F,δ,ts,_,c,q,λds av vs F1 H1 q1 f1 h1 c1 s1=>by
  show bx sp (vs++[]) H1 Q E
  rw[mr]
  exact CB c1 s1 q1 λd v F' H' hd hf hs c'=>k d av v F' H' hd (f1.trans hf) (h1.trans hs) c'⟩
end
def jV(N:List Str)(ds:List D):Dl:=ds.map some++bG (N.length-ds.length) none
section
variable{P:Program}{w:World}{K:PySem.W.Frag}{mg:Str->Option Value}{base:Heap}
theorem bI{x qual:Str}{st:Stmt}{f:Addr}{fd:FuncData}{N ps:List Str}{k:Nat}{sp:bB}(F:br K x qual st f fd)(S:bu N ps (az st))(len:∀ds Q,sp ds Q->ds.length=ps.length)
  (iP:∀(aI:Value) (A:Around) (outer:List Env) (s:Shared) (H:Hp) (E:XK),cM k (A.deeper (envOfC qual (az st) s.heap.objs.size f aI)) ->
   ∃t:cX,PSs (jv bf P w K mg base N qual (az st) f aI A outer s H E).gY (bq st) (lS (jv bf P w K mg base N qual (az st) f aI A outer s H E).gY t)/\∀ds Q,sp ds Q->t { nx:=λ_=>Q .ay,rt:=Q } (jV N ds)):aQ P w K mg base bf (k+1) f fd ps (bx sp):=by
 refine F.ok S (λvs H Q E ⟨F,ds,Qd,e,r,h,_⟩=>by rw[<-r.length];exact len ds Qd h) λaI A outer s H vs Q E hr zz=>?_
 obtain⟨F,ds,Qd,e,r,h,k⟩:=zz
 obtain⟨t,ht,hq⟩:=iP aI A outer s H E hr
 have fin:∀d v ak aN F' H',Qd d->ax ⟨H,F⟩ F' H' aN ak [(d,v)]->Q v H':=λd v ak aN F' H' hd c=>by
  obtain⟨A,C,r',s',nd,fr⟩:=c.own
  exact k d v F' H' A hd c.b1 c.b2 c.ext c.b3 r' (iA.mp nd).1 λa ha=>fr a (gQ _ ha)
 have e1:L2.start N vs=vs.map some++bG (N.length-ds.length) none:=by unfold L2.start;rw[r.length]
 refine⟨_,ht,⟨H,F⟩,F,jV N ds,_,?_,hq ds Qd h,λak aN F' H' hd c=>fin .ay .ay ak aN F' H' hd (c.pushS (.ay .nil) rfl),fin,λ_ _ _ _ z=>z.elim,λ_ _ _ _ z=>z.elim,XL.none (λ_ _ z=>z) λ_ _ z=>z⟩
 rw[e1]
 exact ax.start e r _
end
section
variable{X:Cx}{e a b c:Expr}{es:List Expr}{pos:Pos}{st:Stmt}{zS rest:List Stmt}{t u:cX}{te:aY}{tt:fS}
def qL:cX:=λD δ=>D.nx δ
def Ui(t u:cX):cX:=λD δ=>t { D with nx:=u D } δ
theorem aA{t u:cX}{En:ub}{δ:Dl}(h:∀U:Dl->Prop,(∀ak,u En ak->U ak)->t { En with nx:=U } δ):Ui t u En δ:=h (u En) λ_ z=>z
theorem cw:PSs X [] (lS X qL):=Hx Gz λD σ H ⟨B,F,δ,Dd,c,q,k1,_⟩=>k1 δ σ F H q c
theorem aB(h1:PS X st (lS X t))(h2:PSs X rest (lS X u)):PSs X (st::rest) (lS X (Ui t u)) :=
 Hx (kS h1 h2) λD σ H ⟨B,F,δ,Dd,c,q,k1,k2,k3,k4⟩=>⟨B,F,δ,{ Dd with nx:=u Dd },c,q,λak aN F' H' hq c'=>⟨B,F',ak,Dd,c',hq,k1,k2,k3,k4⟩,k2,k3,k4⟩
theorem aF(h1:PS X st (lS X t)):PSs X [st] (lS X t):=vL h1
def oq(i:Nat)(t:cX):cX:=λD δ=>∃d,δ[i]?=some (some d)/\t D (δ.set i (some d.sh))
theorem ot(i:Nat)(h:PSs X zS (lS X t)):PSs X zS (lS X (oq i t)):=Hx h λD σ H zz=>by
 obtain⟨B,F,δ,Dd,c,⟨d,e,q⟩,k⟩:=zz
 obtain⟨F',s,c'⟩:=c.freeze e
 exact⟨B,F',_,Dd,c',q,k⟩
def mX(i:Nat)(t:aY):cX:=λD δ=>t δ λd ak=>D.nx (ak.set i (some d))
theorem aV{i:Nat}{x:Str}{pos':Pos}(hN:X.N.Nodup)(hi:X.N[i]?=some x)(hx:Loc X.env.scope x)(he:PE X e (lE te))(hs:swapsWith e (some (.Name x pos')) pos.line X.env=pure false:=by rfl)
  (hf:X.fn x=true\/X.env.scope.names.lookup x=some .local:=by first | exact .inl rfl | exact .inr rfl | assumption):PS X (.Assign [.Name x pos'] e pos) (lS X (mX i te)) :=
 mR (SA hN hi hx he hs hf) λD σ H ⟨B,F,δ,Dd,c,q,k1,k2,k3,k4⟩=>⟨B,F,δ,[],_,c,q,λd ak v F' H' hd sf sh c'=>k1 _ _ F' H' hd (c'.store i)⟩
def qM(t:aY):cX:=λD δ=>t δ λd _=>D.rt d
theorem aU(he:PE X e (lE te)):PS X (.Return (some e) pos) (lS X (qM te)) :=
 mR (cH7 he) λD σ H ⟨B,F,δ,Dd,c,q,k1,k2,k3,k4⟩=>⟨B,F,δ,[],_,c,q,λd ak v F' H' hd sf sh c'=>k2 d v ak σ F' H' hd c'⟩
def ou(tc:fS)(t u:cX):cX:=λD δ=>tc δ λb ak=>if b=true then t D ak else u D ak
theorem bW{l r:List Stmt}(hc:PT X c (lT tt))(ha:PSs X l (lS X t))(hb:PSs X r (lS X u)):PS X (.If c l r pos) (lS X (ou tt t u)) :=
 mR (GA hc ha hb) λD σ H ⟨B,F,δ,Dd,c,q,k⟩=>⟨B,F,δ,[],_,c,q,λb ak F' H' hq sf sh c'=>by
  cases b with
  | true=>exact qw ⟨B,F',ak,Dd,c',by simpa using hq,k⟩
  | false=>exact mM ⟨B,F',ak,Dd,c',by simpa using hq,k⟩⟩
def qN(i:Nat)(rd:cQ)(t:aY):cX:=λD δ=>∃x,δ[i]?=some (some x)/\t δ λy av=>rd x y λz=>D.nx (av.set i (some z))
theorem zW{i:Nat}{x:Str}{op:Operator}{rd:cQ}{pos':Pos}(hN:X.N.Nodup)(hi:X.N[i]?=some x)(hx:Loc X.env.scope x)(he:PE X e (lB te))(ho:bU X (inplaceOp op) rd)
  (hf:X.fn x=true\/X.env.scope.names.lookup x=some .local:=by first | exact .inl rfl | exact .inr rfl | assumption):PS X (.AugAssign (.Name x pos') op e pos) (lS X (qN i rd te)):=by
 obtain⟨r,h1,h2⟩:=ho
 refine mR (cJ7 hN hi hx he (ti:=r) h1 hf) λD σ H zz=>?_
 obtain⟨B,F,δ,Dd,c,⟨d0,e0,q⟩,k1,k2,k3,k4⟩:=zz
 obtain⟨v0,e1,s0⟩:=c.look e0
 exact⟨v0,e1,B,F,δ,[],_,c,q,λd ak v F' H' hd sf sh c' s=>h2 c' (s0.mono sf sh) s hd λz w H2 hz h3 c3=>k1 _ _ F' H2 hz (c3.store i)⟩
def qO(tc:fS)(tb:cX):cX:=λD δ=>∃W:Nat->Dl->Prop,(∃m,W m δ)/\∀m δ,W m δ->tc δ λb ak=>if b=true then tb { D with nx:=λak=>∃m',m'<m/\W m' ak,ct:=λak=>∃m',m'<m/\W m' ak,bk:=D.nx } ak else D.nx ak
theorem zX{body:List Stmt}(hp:PassesOwn (model X.prog X.w) X.A X.env X.xe)(hc:PT X c (lT tt))(hb:PSs X body (lS X t)):PS X (.While c body [] pos) (lS X (qO tt t)) :=
 mR (co3 hp hc hb) λD σ H zz=>by
  obtain⟨B,F,δ,Dd,c,⟨W,⟨m0,w0⟩,hw⟩,k1,k2,k3,k4⟩:=zz
  refine⟨λm σ H=>∃F δ,ax B F H σ δ []/\W m δ,⟨m0,F,δ,c,w0⟩,λm σ H ⟨F,δ,c,w⟩=>⟨B,F,δ,[],_,c,hw m δ w,λb ak F' H' hq sf sh c'=>?_⟩⟩
  cases b with
  | true =>
   refine qw ⟨λaN H'=>∃m',m'<m/\∃F δ,ax B F H' aN δ []/\W m' δ,λaN H' z=>z,B,F',ak,{ Dd with nx:=λak=>∃m',m'<m/\W m' ak,ct:=λak=>∃m',m'<m/\W m' ak,bk:=Dd.nx },c',by simpa using hq,λbh mH F2 H2 ⟨m',hm,w2⟩ c2=>⟨m',hm,F2,bh,c2,w2⟩,k2,λbh mH F2 H2 z c2=>k1 bh mH F2 H2 z c2,λbh mH F2 H2 ⟨m',hm,w2⟩ c2=>⟨m',hm,F2,bh,c2,w2⟩,k4.2⟩
  | false=>exact mM (k1 ak σ F' H' (by simpa using hq) c')
end
structure JD(J:It)(F:Hp)(xs:List D):Prop where
 go:∀i H,ah F H->i<xs.length->J.go i H
 ky:∀i H x H',ah F H->i<xs.length->J.ky i H x H'->∃d,xs[i]?=some d/\ah H H'/\R F H' [d] [x] []
 stop:∀i H,ah F H->xs.length<=i->J.stop i H
abbrev jW:=Dl->(Bool->List D->Dl->Prop)->Prop
def lI(t:jW):TI:=λσ H Rr=>∃B F δ ts Qd,ax B F H σ δ ts/\t δ Qd/\∀g xs ak J F' H',Qd g xs ak->ah F F'->ah H H'->ax B F' H' σ ak ts->JD J H' (xs.map D.sh)->(g=true->xs.all D.pl=true/\JD J F' xs)->Rr J H'
abbrev iW:=D->Dl->(Dl->Prop)->Prop
def lG(m:Nat)(t:iW):TG:=λv σ H Q=>∃B F δ ts d Qd,ax B F H σ δ ((d,v)::ts)/\t d δ Qd/\∀ak aN,Qd ak->aN.length=σ.length->(∀j,j<m->aN[j]?=σ[j]?)->ax B F H aN ak ts->Q aN H
def iX:D->Option (List D)
 | .lst _ xs=>some xs
 | .fz xs=>some xs
 | _=>none
section
variable{B:Bs}{F H F1:Hp}{σ:L2.St}{δ:Dl}{ts:List (D × V)}
end
section
variable{X:Cx}{e a b c tg l iter:Expr}{es:List Expr}{pos:Pos}{t u:cX}{te:aY}{tt:fS}{ta:dh}{m:Nat}
theorem vZ{w w':TI}(h:PI X tg iter w)(m:∀σ H Q,w' σ H Q->w σ H Q):PI X tg iter w':=λpins s σ H Q I q=>h pins s σ H Q I (m σ H Q q)
theorem Uj{w w':TG}(h:PG X tg w)(m:∀v σ H Q,w' v σ H Q->w v σ H Q):PG X tg w':=λpins s σ H v u Q I r q=>h pins s σ H v u Q I r (m v σ H Q q)
def gN(i:Nat):iW:=λd δ Q=>Q (δ.set i (some d))
theorem cE{i:Nat}{x:Str}(hN:X.N.Nodup)(hi:X.N[i]?=some x)(hx:Loc X.env.scope x)(hm:m<=i:=by decide)(hf:X.fn x=true\/X.env.scope.names.lookup x=some .local:=by first | exact .inl rfl | exact .inr rfl | assumption):PG X (.Name x pos) (lG m (gN i)) :=
 Uj (Ce hN hi hx hf) λv σ H Q ⟨B,F,δ,ts,d,Qd,c,q,k⟩=>k _ _ q (by simp) (λj hj=>by rw[vn (by omega)]) (c.store i)
theorem ow{K:PySem.W.Frag}{F H:Hp}{p:Addr}{xs:List D}{ws:List V}(hp:Rd F p (.lst ws))(r:R F H xs ws [])(hF:Full F H):JD (GG K p) F xs where
 go:=λi H' hs hi=>by
  have l:=r.length
  have ix:i<ws.length:=by omega
  exact⟨ws,ws[i],.inl (iU hp hs),aJ ix⟩
 ky:=λi H' x H2 hs hi zz=>by
  obtain⟨e,y⟩:=zz
  subst e
  have hx:=y ws (.inl (iU hp hs))
  obtain⟨v,A1,e2,r1,sub⟩:=(r.full hF hs rfl).get (aJ hi)
  rw[hx]at e2;cases e2
  have:A1=[]:=dd4.mpr λa ha=>by simpa using sub ha
  subst this
  exact⟨_,aJ hi,ah.refl _,r1⟩
 stop:=λi H' hs hi=>⟨ws,.inl (iU hp hs),by have:=r.length;omega⟩
theorem CC{F:Hp}(lo:Int)(n:Nat):JD (zo lo n) F ((aZ n).map λ(k:Nat)=>D.int (lo+(k:Int))) where
 go:=λi H' hs hi=>by
  have ix:i<n:=by simpa using hi
  exact ix
 ky:=λi H' x H2 hs hi zz=>by
  obtain⟨e,y⟩:=zz
  subst e y
  have ix:i<n:=by simpa using hi
  exact⟨.int (lo+i),by simp[ki ix],ah.refl _,.int .nil⟩
 stop:=λi H' hs hi=>by
  have ix:n<=i:=by simpa using hi
  exact ix
def qP(t:aY):jW:=λδ Q=>t δ λd ak=>∃xs,iX d=some xs/\Q true (xs.map D.sh) ak
theorem cZ3(xs:List D){F H:Hp}{ws:List V}(r:R F H (xs.map D.sh) ws []):(xs.map D.sh).map D.sh=xs.map D.sh:=mO r.pl
theorem CD(h:PE X l (lE te)):PI X tg l (lI (qP te)) :=
 vZ (SF h) λσ H Q ⟨B,F,δ,ts,Qd,c,q,k⟩=>⟨B,F,δ,ts,_,c,q,λd av v F1 H1 hd f1 h1 c1=>by
  obtain⟨xs,e,hq⟩:=hd
  obtain⟨F2,f2,c2⟩:=c1.Hv
  have tp:=c2.top
  have c3:=c2.pop.snap
  have e2:=c2.ext
  have sn:=ua e2
  cases d with
  | lst o ys =>
   obtain rfl:=cU e
   rw[df]at tp
   cases tp with
   | @shr p ws _ _ _ hp r _ =>
    have r3:=r.shared sn (ah.refl _)
    refine⟨p,rfl,⟨ws,bR.of (e2 _ _ hp)⟩,k true _ av _ _ H1 hq ((f1.trans f2).trans sn) h1 c3 ?_ λ_=>⟨r.pl,ow (.inl (sn _ _ hp)) r3 vX⟩⟩
    rw[cZ3 _ r]
    exact ow (.inl (e2 _ _ hp)) (r.shared e2 (ah.refl _)) (Full.refl _)
  | fz ys =>
   obtain rfl:=cU e
   cases tp with
   | @fz p o ws _ _ _ hp r _ =>
    have r3:=r.shared sn (ah.refl _)
    have es:=mO r.pl
    rw[es]at hq
    refine⟨p,rfl,⟨ws,.inl (.inr ⟨o,e2 _ _ hp⟩)⟩,k true _ av _ _ H1 hq ((f1.trans f2).trans sn) h1 c3 ?_ λ_=>⟨r.pl,ow (.inr ⟨o,sn _ _ hp⟩) r3 vX⟩⟩
    rw[es]
    exact ow (.inr ⟨o,e2 _ _ hp⟩) (r.shared e2 (ah.refl _)) (Full.refl _)
  | ay=>cases e
  | bl _=>cases e
  | int _=>cases e
  | str _=>cases e
  | tup _=>cases e
  | obj _ _ _=>cases e
  | bO _=>cases e⟩
def oy(t:aY):jW:=λδ Q=>t δ λd ak=>∃xs,iX d=some xs/\Q d.pl xs ak
theorem fU(h:PE X l (lB te)):PI X tg l (lI (oy te)) :=
 vZ (SF h) λσ H Q ⟨B,F,δ,ts,Qd,c,q,k⟩=>⟨B,F,δ,ts,_,c,q,λd av v F1 H1 hd f1 h1 c1 s=>by
  obtain⟨xs,e,hq⟩:=hd
  have c3:=c1.snap
  have e2:=c1.ext
  have sn:=ua e2
  cases s with
  | @shr p ws ys _ _ hp r _ =>
   obtain rfl:=cU e
   refine⟨p,rfl,⟨ws,bR.of (e2 _ _ hp)⟩,k _ _ av _ _ H1 hq (f1.trans sn) h1 c3 ?_ λ_=>⟨r.pl,ow (.inl (sn _ _ hp)) (r.shared sn (ah.refl _)) vX⟩⟩
   rw[mO r.pl]
   exact ow (.inl (e2 _ _ hp)) (r.shared e2 (ah.refl _)) (Full.refl _)
  | @own p ws ys _ _ hp r _ =>
   obtain rfl:=cU e
   refine⟨p,rfl,⟨ws,bR.of hp⟩,k _ _ av _ _ H1 hq (f1.trans sn) h1 c3 (ow (.inl hp) (r.frozen e2) (Full.refl _)) λz=>by simp[fj]at z⟩
  | @fz p o ws ys _ _ hp r _ =>
   obtain rfl:=cU e
   refine⟨p,rfl,⟨ws,.inl (.inr ⟨o,e2 _ _ hp⟩)⟩,k _ _ av _ _ H1 hq (f1.trans sn) h1 c3 ?_ λ_=>⟨r.pl,ow (.inr ⟨o,sn _ _ hp⟩) (r.shared sn (ah.refl _)) vX⟩⟩
   rw[mO r.pl]
   exact ow (.inr ⟨o,e2 _ _ hp⟩) (r.shared e2 (ah.refl _)) (Full.refl _)
  | ay _=>cases e
  | bl _=>cases e
  | int _=>cases e
  | str _=>cases e
  | tup _ _ _=>cases e
  | obj _ _ _ _=>cases e
  | bO _ _=>cases e⟩
theorem zY(f:Nat->Int)(l:List Nat):(l.map λk=>D.int (f k)).map D.sh=l.map λk=>D.int (f k):=by simp[D.sh]
theorem Uk(f:Nat->Int)(l:List Nat):(l.map λk=>D.int (f k)).all D.pl=true:=by simp[D.pl]
def qQ(t:dh):jW:=λδ Q=>t δ λds ak=>∃j:Int,ds=[.int j]/\(-(2 ^ 62)<=j/\j<2 ^ 62)/\Q true ((aZ j.toNat).map λ(k:Nat)=>D.int (0+(k:Int))) ak
theorem kG{p:Pos}(hg:Gl X "range")(hm:X.mg "range"=none)(ha:PA X [a] (lA ta))(hs:starEach [a] X.env=[(false,eval a X.env)]:=by rfl):PI X tg (.Call (.Name "range" p) [a] [] pos) (lI (qQ ta)) :=
 vZ (b77 hg hm ha hs) λσ H Q ⟨B,F,δ,ts,Qd,c,q,k⟩=>⟨B,F,δ,ts,_,c,q,λds av vs F1 H1 hd f1 h1 c1 s=>by
  obtain⟨j,rfl,⟨b1,b2⟩,hq⟩:=hd
  cases s with
  | int s =>
   cases s
   refine⟨j,rfl,b1,b2,k true _ av _ _ H1 hq f1 h1 c1 ?_ λ_=>⟨Uk _ _,CC 0 _⟩⟩
   rw[zY]
   exact CC 0 _⟩
def qR(t:dh):jW:=λδ Q=>t δ λds ak=>∃i j:Int,ds=[.int i,.int j]/\(-(2 ^ 62)<=i/\i<2 ^ 62/\-(2 ^ 62)<=j/\j<2 ^ 62)/\Q true ((aZ (j-i).toNat).map λ(k:Nat)=>D.int (i+(k:Int))) ak
theorem CF{p:Pos}(hg:Gl X "range")(hm:X.mg "range"=none)(ha:PA X [a,b] (lA ta))(hs:starEach [a,b] X.env=[(false,eval a X.env),(false,eval b X.env)]:=by rfl)(js:starEach [b] X.env=[(false,eval b X.env)]:=by rfl) :
  PI X tg (.Call (.Name "range" p) [a,b] [] pos) (lI (qR ta)) :=
 vZ (b81 hg hm ha hs js) λσ H Q ⟨B,F,δ,ts,Qd,c,q,k⟩=>⟨B,F,δ,ts,_,c,q,λds av vs F1 H1 hd f1 h1 c1 s=>by
  obtain⟨i,j,rfl,bd,hq⟩:=hd
  cases s with
  | int s =>
   cases s with
   | int s =>
    cases s
    refine⟨i,j,rfl,bd,k true _ av _ _ H1 hq f1 h1 c1 ?_ λ_=>⟨Uk _ _,CC i _⟩⟩
    rw[zY]
    exact CC i _⟩
def fF(xs:List D)(g:iW)(tb:cX):cX:=λEn av=>∃Iv:Nat->Dl->Prop,Iv 0 av /\
 (∀i d ak,xs[i]?=some d->Iv i ak->g d ak λbh=>tb { En with nx:=Iv (i+1),ct:=Iv (i+1),bk:=En.nx } bh)/\∀ak,Iv xs.length ak->En.nx ak
theorem fF.mk{xs:List D}{g:iW}{tb:cX}{En:ub}{δ:Dl}(Iv:Nat->Dl->Prop)(h0:Iv 0 δ)(ht:∀i d ak,xs[i]?=some d->Iv i ak->g d ak λbh=>tb { En with nx:=Iv (i+1),ct:=Iv (i+1),bk:=En.nx } bh)
  (hf:∀ak,Iv xs.length ak->En.nx ak):fF xs g tb En δ:=⟨Iv,h0,ht,hf⟩
def qS(ti:jW)(g:iW)(tb:cX):cX:=λEn δ=>ti δ λsh xs av=>sh=true/\fF xs g tb En av
theorem gv{ti:jW}{g:iW}{body:List Stmt}(hp:PassesOwn (model X.prog X.w) X.A X.env X.xe)(hc:X.calm=true)(hi:PI X tg iter (lI ti))(hg:PG X tg (lG 0 g))(hb:PSs X body (lS X t))
  (hs:∀x,foldedSetIterable iter X.env x=pure x:=by intro _;rfl):PS X (.For tg iter body [] pos) (lS X (qS ti g t)) :=
 mR (cL1 hp hc hi hg hb hs) λEn σ H ⟨B,F,δ,Dd,c,q,k1,k2,k3,k4⟩=>⟨B,F,δ,[],_,c,q,λsh xs av J F1 H1 hq f1 h1 c1 _ jd=>by
  obtain⟨zF,Iv,i0,turn,fin⟩:=hq
  obtain⟨bS,jd⟩:=jd zF
  have un:∀{F' H':Hp} {aN:L2.St} {ak:Dl} {ts:List (D × V)},ax ⟨B.H0,F1⟩ F' H' aN ak ts->ax B F' H' aN ak ts:=λc'=>c'.dE8 c1.b2 c1.b3
  refine⟨λi m σ H=>m=xs.length-i/\i<=xs.length/\∃F δ,ax ⟨B.H0,F1⟩ F H σ δ []/\Iv i δ,⟨_,rfl,jM _,F1,av,c1.rebase,i0⟩,?_⟩
  rintro i m mH H2 ⟨rfl,hi,F2,bh,c2,iv⟩
  have s2:ah F1 H2:=c2.b2.trans c2.ext
  by_cases gD:i<xs.length
  ·refine .inr ⟨jd.go i H2 s2 gD,λaN H'=>∃F δ,ax ⟨B.H0,F1⟩ F H' aN δ []/\Iv (i+1) δ,λaN H' z=>⟨xs.length-(i+1),by omega,rfl,gD,z⟩,λx H3 y=>?_⟩
   obtain⟨d,e,s3,r⟩:=jd.ky i H2 x H3 s2 gD y
   have c3:=(c2.grow s3).pushS (d:=d) (v:=x) ((r.s).mono c2.b2 (ah.refl _)) (by have:=r.pl;simpa using this)
   refine⟨⟨B.H0,F1⟩,F2,bh,[],d,_,c3,turn i d bh e iv,λak aN hq _ _ c4=>?_⟩
   exact⟨⟨B.H0,F1⟩,F2,ak,_,c4,hq,λjX oA F5 H5 h5 c5=>⟨F5,jX,c5,h5⟩,λd5 v5 jX oA F5 H5 h5 c5=>k2 d5 v5 jX oA F5 H5 h5 (un c5),λjX oA F5 H5 h5 c5=>k1 jX oA F5 H5 h5 (un c5),λjX oA F5 H5 h5 c5=>⟨F5,jX,c5,h5⟩,⟨λC jX pins oA F5 H5 s5 a T h5 c5=>k4.2.1 C jX pins oA F5 H5 s5 a T h5 (un c5),λC jX pins oA F5 H5 s5 h' e vs h5 c5=>k4.2.2 C jX pins oA F5 H5 s5 h' e vs h5 (un c5)⟩⟩
  ·have e:i=xs.length:=by omega
   subst e
   exact .inl ⟨jd.stop _ H2 s2 (bN _),k1 bh mH F2 H2 (fin bh iv) (un c2)⟩⟩
end
end L3
namespace L3
open PySem L2 PySem.Spec PyProof.Rows
def iY(δ:Dl)(q:Str × Nat):Option D:=(δ[q.2]?).getD none
def iB(δ:Dl)(q:Str × Nat):Bool:=match iY δ q with
 | some d=>d.pl
 | none=>true
def fV(aH:List (Str × Nat))(n:Nat)(δ:Dl):Dl:=(aH.map λq=>(iY δ q).map D.sh)++bG n none
def v3(sh:Bool)(xs:List D)(aH:List (Str × Nat))(n:Nat)(g:iW)(tt:fS)(te:aY)(av:Dl)(Q:D->Dl->Prop):Prop:=∃(p:D->Bool) (f:D->D),
 (∀x∈xs.map D.sh,g x (fV aH n av) λbh=>tt bh λb iV=>b=p x/\(p x=true->te iV λd _=>d=f x)) /\
 ((sh&&aH.all (iB av))=true\/∀x∈xs.map D.sh,p x=true->(f x).fr=true)/\xs.length<=sizeLine/\Q (.lst true (((xs.map D.sh).filter p).map f)) av
def mY(ti:jW)(aH:List (Str × Nat))(n:Nat)(g:iW)(tt:fS)(te:aY):aY:=λδ Q=>ti δ λsh xs av=>v3 sh xs aH n g tt te av Q
def kH:fS:=λδ Q=>Q true δ
theorem cj1{sh:Bool}{xs:List D}{aH:List (Str × Nat)}{n m:Nat}{te:aY}{av:Dl}{Q:D->Dl->Prop}(f:D->D)(hx:∀x∈xs.map D.sh,te ((fV aH n av).set m (some x)) λd _=>d=f x)
  (e5:(sh&&aH.all (iB av))=true\/∀x∈xs.map D.sh,(f x).fr=true) (hl:xs.length<=sizeLine) (hq:Q (.lst true ((xs.map D.sh).map f)) av):v3 sh xs aH n (gN m) kH te av Q :=
 ⟨λ_=>true,f,λx h=>⟨rfl,λ_=>hx x h⟩,e5.imp id λh x hx _=>h x hx,hl,by rw[dd5.mpr (λ_ _=>rfl)];exact hq⟩
section
variable{B:Bs}{F H:Hp}{σ:L2.St}{δ:Dl}{ts:List (D × V)}
theorem Ul(c:ax B F H σ δ ts)(n:Nat):∀(aH:List (Str × Nat)),aH.all (iB δ)=true->RS F H (fV aH n δ) (iy aH n σ) []
 | [],_=>by
  have z:∀n,RS F H (bG n none) (bG n none) []:=λn=>by
   induction n with
   | zero=>exact .nil
   | succ n ih=>exact .ay ih
  exact z n
 | q::r,h=>by
  rw[dW,eR]at h
  have ih:=Ul c n r h.2
  show RS F H ((iY δ q).map D.sh::fV r n δ) ((σ[q.2]?).getD none::iy r n σ) []
  cases e:iY δ q with
  | none=>exact .ay ih
  | some d =>
   have e2:δ[q.2]?=some (some d):=by
    unfold iY at e
    cases z:δ[q.2]? with
    | none=>rw[z]at e;cases e
    | some o=>rw[z]at e;exact congrArg some e
   have hp:d.pl=true:=by have:=h.1;unfold iB at this;rw[e]at this;exact this
   obtain⟨v,e3,s⟩:=c.look e2
   rw[e3]
   show RS F H (some d.sh::_) (some v::_) []
   rw[D.Cv hp]
   exact .g7 (A:=[]) (s.r (by simp[hp])) ih
theorem Um(c:ax B F H σ δ ts)(n:Nat):∀(aH:List (Str × Nat)),RS H H (fV aH n δ) (iy aH n σ) []
 | []=>by
  have z:∀n,RS H H (bG n none) (bG n none) []:=λn=>by
   induction n with
   | zero=>exact .nil
   | succ n ih=>exact .ay ih
  exact z n
 | q::r=>by
  have ih:=Um c n r
  show RS H H ((iY δ q).map D.sh::fV r n δ) ((σ[q.2]?).getD none::iy r n σ) []
  cases e:iY δ q with
  | none=>exact .ay ih
  | some d =>
   have e2:δ[q.2]?=some (some d):=by
    unfold iY at e
    cases z:δ[q.2]? with
    | none=>rw[z]at e;cases e
    | some o=>rw[z]at e;exact congrArg some e
   obtain⟨v,e3,s⟩:=c.look e2
   rw[e3]
   exact .g7 (A:=[]) (s.frozen c.ext) ih
theorem Uo{α:Type}(xs:List α)(p:α->Bool)(i:Nat)(x:α)(h:xs[i]?=some x):(xs.take (i+1)).filter p=(xs.take i).filter p++(if p x=true then [x]else []):=by
 rw[mw,h,List.filter_append]
 simp only[RV]
 by_cases hp:p x=true<;>simp[hp]
end
section
variable{X:Cx}{elt iter tg:Expr}{pos:Pos}{ifs:List Expr}{scope:Scope}{cl:List (Str × Addr)}{ti:jW}{tt:fS}{te:aY}{g:iW}
theorem Up{B:Bs}{F1 H1:Hp}{σ:L2.St}{av:Dl}{ts:List (D × V)}{J:It}{Qd:D->Dl->Prop}{Q:VK}{xs:List D}{sh:Bool}{aH:List (Str × Nat)}{n:Nat}(c1:ax B F1 H1 σ av ts)
  (ue:JD J H1 (xs.map D.sh)) (zZ:sh=true->xs.all D.pl=true/\JD J F1 xs) (p:D->Bool) (f:D->D)
  (hx:∀x∈xs.map D.sh,g x (fV aH n av) λbh=>tt bh λb iV=>b=p x/\(p x=true->te iV λd _=>d=f x))
  (e5:(sh&&aH.all (iB av))=true\/∀x∈xs.map D.sh,p x=true->(f x).fr=true) (hlen:xs.length<=sizeLine) (hq:Qd (.lst true (((xs.map D.sh).filter p).map f)) av)
  (k:∀d ak v F' H',Qd d ak->ah F1 F'->ah H1 H'->ax B F' H' σ ak ((d,v)::ts)->Q v H'):TY J aH n (lG aH.length g) (lT tt) (lE te) σ H1 Q:=by
 intro Dp hD
 have cD:ax B F1 (upd H1 Dp (.lst [])) σ av ((.lst true [],.ref Dp)::ts):=c1.qD hD .nil rfl
 refine⟨λi m acc H2=>m=xs.length-i/\i<=xs.length/\H2 Dp=some (.lst acc)/\ah H1 H2/\acc.length<=i/\∃F2,ah F1 F2 /\
  ax B F2 H2 σ av ((.lst true ((((xs.map D.sh).take i).filter p).map f),.ref Dp)::ts),⟨xs.length,rfl,jM _,cI,ah.upd hD,bN _,F1,ah.refl _,by simpa using cD⟩,?_⟩
 rintro i m acc H2 ⟨rfl,hi,HA,z4,hal,F2,mZ,c2⟩
 refine⟨HA,?_⟩
 by_cases gD:i<xs.length
 case neg =>
  have e:i=xs.length:=by omega
  subst e
  refine .inl ⟨ue.stop _ H2 z4 (by simp),k _ av _ F2 H2 ?_ mZ z4 c2⟩
  have:(xs.map D.sh).take xs.length=xs.map D.sh:=by rw[tE (by simp)]
  rw[this]
  exact hq
 case pos =>
  refine .inr ⟨ue.go i H2 z4 (by simpa using gD),λx H3 y=>?_⟩
  obtain⟨d0,e0,HB,r0⟩:=ue.ky i H2 x H3 z4 (by simpa using gD) y
  have Uq:d0∈xs.map D.sh:=vq e0
  have Ur:H3 Dp=some (.lst acc):=HB _ _ HA
  have c3:=c2.grow HB
  have HC:=z4.trans HB
  refine⟨Ur,?_⟩
  have HD:=hx d0 Uq
  have turn:∀Fi,ah Fi H3->RS Fi H3 (fV aH n av) (iy aH n σ) []->S Fi H3 [d0] [x]->d0.pl=true ->
    (∀d v F' H' A,d=f d0->p d0=true->ah H3 H'->ah Fi F'->ah F' H'->(∀a ws,F' a=some (.lst ws)->Fi a=some (.lst ws)\/H3 a=none)->R F' H' [d] [v] A->A.Nodup->(∀a∈A,H3 a=none) ->
     ∃F4,ah F2 F4/\ax B F4 H' σ av ((d,v)::(.lst true ((((xs.map D.sh).take i).filter p).map f),.ref Dp)::ts)) ->
    lG aH.length g x (iy aH n σ) H3 λgZ H4 =>
     (gZ.length=(iy aH n σ).length/\∀j,j<aH.length->gZ[j]?=(iy aH n σ)[j]?)/\lT tt gZ H4 λb H5=>H5 Dp=some (.lst acc) /\
     if b=true then lE te gZ H5 λy H6=>H6 Dp=some (.lst acc)/\acc.length<sizeLine/\∃m',m'<xs.length-i /\
      (m'=xs.length-(i+1)/\i+1<=xs.length/\upd H6 Dp (.lst (acc++[y])) Dp=some (.lst (acc++[y]))/\ah H1 (upd H6 Dp (.lst (acc++[y])))/\(acc++[y]).length<=i+1/\∃F2,ah F1 F2 /\
       ax B F2 (upd H6 Dp (.lst (acc++[y]))) σ av ((.lst true ((((xs.map D.sh).take (i+1)).filter p).map f),.ref Dp)::ts))
     else ∃m',m'<xs.length-i/\(m'=xs.length-(i+1)/\i+1<=xs.length/\H5 Dp=some (.lst acc)/\ah H1 H5/\acc.length<=i+1/\∃F2,ah F1 F2 /\
       ax B F2 H5 σ av ((.lst true ((((xs.map D.sh).take (i+1)).filter p).map f),.ref Dp)::ts)):=by
   intro Fi hFi hRS hS bS back
   have ci:ax ⟨H3,Fi⟩ Fi H3 (iy aH n σ) (fV aH n av) []:=⟨hFi,ah.refl _,ah.refl _,λ_ _ q=>.inl q,[],[],.nil,hRS,by simp,by simp⟩
   refine⟨⟨H3,Fi⟩,Fi,fV aH n av,[],d0,_,ci.pushS hS bS,HD,λak gZ hq1 l1 k1 c4=>⟨⟨l1,k1⟩,⟨H3,Fi⟩,Fi,ak,[],_,c4,hq1,λb jX F5 H5 hb f5 h5 c5=>?_⟩⟩
   obtain⟨hb,ht⟩:=hb
   have CG:H5 Dp=some (.lst acc):=h5 _ _ Ur
   refine⟨CG,?_⟩
   by_cases hp:p d0=true
   ·rw[hb,hp]
    refine qw ⟨⟨H3,Fi⟩,F5,jX,[],_,c5,ht hp,λd δ6 v F6 H6 hd f6 h6 c6=>?_⟩
    have Us:H6 Dp=some (.lst acc):=h6 _ _ CG
    obtain⟨A,C,r,s,nd,fr⟩:=c6.own
    obtain⟨F4,qT,c7⟩:=back d v F6 H6 A hd hp c6.b1 c6.b2 c6.ext c6.b3 r (iA.mp nd).1 λa ha=>fr a (gQ _ ha)
    have c8:=c7.dF3 Us
    refine⟨Us,by omega,xs.length-(i+1),by omega,rfl,gD,cI,?_,by simpa using hal,F4,mZ.trans qT,?_⟩
    ·have Ut:=HC.trans c6.b1
     exact⟨λa o q n=>by rw[bA (fC q hD)];exact Ut.get a o q n,λa ps q=>by rw[bA (fC q hD)];exact Ut.tb a ps q⟩
    ·have e9:(((xs.map D.sh).take (i+1)).filter p).map f=(((xs.map D.sh).take i).filter p).map f++[d]:=by
      rw[Uo _ p i d0 e0,hp,hd];simp
     rw[e9]
     exact c8
   ·have Uu:p d0=false:=by simpa using hp
    rw[hb,Uu]
    refine mM ⟨xs.length-(i+1),by omega,rfl,gD,CG,HC.trans h5,by omega,F2,mZ,?_⟩
    have e9:(((xs.map D.sh).take (i+1)).filter p).map f=(((xs.map D.sh).take i).filter p).map f:=by
     rw[Uo _ p i d0 e0,Uu];simp
    rw[e9]
    exact c3.grow h5
  by_cases hA:(sh&&aH.all (iB av))=true
  ·rw[eR]at hA
   obtain⟨bS,jd⟩:=zZ hA.1
   have zF:=mO bS
   rw[zF]at e0
   obtain⟨d1,e1,_,r1⟩:=jd.ky i H2 x H3 (mZ.trans c2.ext) gD y
   rw[e0]at e1;cases e1
   have dG5:d0.pl=true:=by have:=r1.pl;simpa using this
   refine turn F2 c3.ext (Ul c3 n aH hA.2) ((r1.s).mono mZ (ah.refl _)) dG5 λd v F' H' A hd hp hs hf he h3 r nd fr=>⟨F',hf,c3.call hs hf he h3 r nd fr⟩
  ·have dG6:=e5.resolve_left hA
   refine turn H3 (ah.refl _) (Um c3 n aH) ((r0.shared HC (ah.refl _)).s) (by have:=r0.pl;simpa using this) λd v F' H' A hd hp hs hf he h3 r nd fr=>⟨F2,ah.refl _,?_⟩
   exact c3.Hu hs (r.Ht (by rw[hd];simp[dG6 d0 Uq hp]) (c3.ext.trans hf)) nd fr
theorem dy{Y:Cx}:n8 Y [] (lT kH):=λ_ _ _ H _ I ⟨B,F,δ,ts,Qd,c,q,k⟩=>cG0 _ _ _ H _ I (k true δ F H q (ah.refl _) (ah.refl _) c)
theorem uf{Y:Cx}{c:Expr}(h:PT Y c (lT tt)):n8 Y [c] (lT tt):=cG7 h
end
end L3
namespace L3
open PySem L2 PySem.Spec PyProof.Rows
section
variable{X:Cx}{F H:Hp}{v w:V}
def l2(rd:cQ):R2:=λv w H Q=>∃B F σ δ ts x y Qd,ax B F H σ δ ts/\S F H [x] [v]/\S F H [y] [w]/\rd x y Qd/\∀d z H',Qd d->ah H H'->ax B F H' σ δ ((d,z)::ts)->Q z H'
theorem bU.of{f:Value->Value->Sem Value}{rd:cQ}(h:cL X f (l2 rd)):bU X f rd:=⟨_,h,λ{B F H σ δ ts x y v w Q Qd} c sx sy q k=>⟨B,F,σ,δ,ts,x,y,Qd,c,sx,sy,q,k⟩⟩
theorem z5{f:Value->Value->Sem Value}{C:Int->Int->Prop}{g:Int->Int->V}{gd:Int->Int->D}(ho:cL X f (rI C g))(hg:∀i j F H,S F H [gd i j] [g i j])(hp:∀i j,(gd i j).pl=true):bU X f λx y Q=>∃i j,x=.int i/\y=.int j/\C i j/\Q (gd i j) :=
 ⟨_,ho,λ{B F H σ δ ts x y v w Q Qd} c sx sy h k=>by
  obtain⟨i,j,rfl,rfl,hc,q⟩:=h
  cases sx;cases sy
  exact⟨i,j,rfl,rfl,hc,k _ _ _ q (ah.refl _) (c.pushS (hg i j F H) (hp i j))⟩⟩
theorem m3{f:Value->Value->Sem Value}{g:Int->Int->V}{gd:Int->Int->D}(ho:cL X f (jQ g))(hg:∀i j F H,S F H [gd i j] [g i j])(hp:∀i j,(gd i j).pl=true):bU X f λx y Q=>∃i j,x=.int i/\y=.int j/\Q (gd i j) :=
 ⟨_,ho,λ{B F H σ δ ts x y v w Q Qd} c sx sy h k=>by
  obtain⟨i,j,rfl,rfl,q⟩:=h
  cases sx;cases sy
  exact⟨i,j,rfl,rfl,k _ _ _ q (ah.refl _) (c.pushS (hg i j F H) (hp i j))⟩⟩
theorem iZ{o:Bool}{xs:List D}(s:S F H [.lst o xs] [v])(e:ah F H):∃p ws,v=.ref p/\H p=some (.lst ws)/\S F H xs ws:=by
 cases s with
 | shr h r _=>exact⟨_,_,rfl,e _ _ h,r.s⟩
 | own h r _=>exact⟨_,_,rfl,h,r⟩
theorem lj{xs:List D}(s:S F H [.tup xs] [v]):∃p ws,v=.ref p/\H p=some (.tup ws)/\S F H xs ws:=by
 cases s with
 | tup h r _=>exact⟨_,_,rfl,h,r⟩
theorem m4{d:D}{xs:List D}(s:S F H [d] [v])(e:ah F H)(h:iX d=some xs):∃p ws,v=.ref p/\Rd H p (.lst ws)/\S F H xs ws:=by
 cases s with
 | shr h' r _=>cases h;exact⟨_,_,rfl,.inl (e _ _ h'),r.s⟩
 | own h' r _=>cases h;exact⟨_,_,rfl,.inl h',r⟩
 | fz h' r _=>cases h;exact⟨_,_,rfl,.inr ⟨_,e _ _ h'⟩,r.s⟩
 | ay _=>cases h
 | bl _=>cases h
 | int _=>cases h
 | str _=>cases h
 | tup _ _ _=>cases h
 | obj _ _ _ _=>cases h
 | bO _ _=>cases h
theorem S.rep{xs:List D}{ws:List V}(s:S F H xs ws):∀k:Nat,S F H (bG k xs).flatten (bG k ws).flatten
 | 0=>by simpa using S.nil
 | k+1=>by
  rw[s9,s9,vt,vt]
  exact s.append (S.rep s k)
def oB:cQ:=λx y Q=>match x,y with
 | .int i,.int j=>Q (.int (i+j))
 | .str a,.str b=>a.length+b.length<=sizeLine/\Q (.str (a++b))
 | .lst _ xs,.lst _ ys=>(xs.length+ys.length<=sizeLine/\xs.all D.pl=true/\ys.all D.pl=true)/\Q (.lst true (xs++ys))
 | _,_=>False
theorem cV4:bU X (binaryOp .Add) λx y Q=>∃o xs o' ys,x=.lst o xs/\y=.lst o' ys/\(xs.length+ys.length<=sizeLine/\xs.all D.pl=true/\ys.all D.pl=true)/\Q (.lst true (xs++ys)) :=
 ⟨_,Th,λ{B F H σ δ ts x y v w Q Qd} c sx sy h k=>by
  obtain⟨o,xs,o',ys,rfl,rfl,⟨hz,h1,h2⟩,q⟩:=h
  obtain⟨p,ws,rfl,e1,s1⟩:=iZ sx c.ext
  obtain⟨p',gr,rfl,e2,s2⟩:=iZ sy c.ext
  refine⟨p,p',ws,gr,rfl,rfl,e1,e2,by rw[<-s1.length,<- s2.length];exact hz,λr hr=>?_⟩
  exact k _ _ _ q (ah.upd hr) (c.qD hr (s1.append s2) (by simp[h1,h2]))⟩
theorem dG8:bU X (binaryOp .Add) λx y Q=>∃i j,x=.str i/\y=.str j/\i.length+j.length<=sizeLine/\Q (.str (i++j)) :=
 ⟨_,bV2,λ{B F H σ δ ts x y v w Q Qd} c sx sy h k=>by
  obtain⟨i,j,rfl,rfl,hz,q⟩:=h
  cases sx;cases sy
  exact⟨i,j,rfl,rfl,hz,k _ _ _ q (ah.refl _) (c.pushS (.str .nil) rfl)⟩⟩
theorem cR:bU X (binaryOp .Add) oB:=((m3 (gd:=λi j=>.int (i+j)) cJ8 (λ_ _ _ _=>.int .nil) λ_ _=>rfl).or (dG8.or cV4)).imp λx y Q h=>by
 unfold oB at h
 split at h
 ·exact .inl ⟨_,_,rfl,rfl,h⟩
 ·exact .inr (.inl ⟨_,_,rfl,rfl,h.1,h.2⟩)
 ·exact .inr (.inr ⟨_,_,_,_,rfl,rfl,h.1,h.2⟩)
 ·exact h.elim
def iI(C:Int->Int->Prop)(g:Int->Int->D):cQ:=λx y Q=>match x,y with
 | .int i,.int j=>C i j/\Q (g i j)
 | _,_=>False
def gI(g:Int->Int->D):cQ:=λx y Q=>match x,y with
 | .int i,.int j=>Q (g i j)
 | _,_=>False
theorem CH{f:Value->Value->Sem Value}{C:Int->Int->Prop}{g:Int->Int->D}(h:bU X f λx y Q=>∃i j,x=.int i/\y=.int j/\C i j/\Q (g i j)):bU X f (iI C g):=h.imp λx y Q h=>by
 unfold iI at h
 split at h
 ·exact⟨_,_,rfl,rfl,h.1,h.2⟩
 ·exact h.elim
theorem oE{f:Value->Value->Sem Value}{g:Int->Int->D}(h:bU X f λx y Q=>∃i j,x=.int i/\y=.int j/\Q (g i j)):bU X f (gI g):=h.imp λx y Q h=>by
 unfold gI at h
 split at h
 ·exact⟨_,_,rfl,rfl,h⟩
 ·exact h.elim
def qU:cQ:=gI λi j=>.int (i-j)
theorem gE:bU X (binaryOp .Sub) qU:=oE (m3 GO (λ_ _ _ _=>.int .nil) λ_ _=>rfl)
def HE(_ j:Int):Prop:=0<j/\j.natAbs.log2<9000
theorem jC{i j:Int}(h1:0<j)(h2:j<1073741824):HE i j:=⟨h1,by
 have h:j.natAbs<2 ^ 30:=by omega
 have:=(Nat.log2_lt (show j.natAbs≠0 by omega)).mpr h
 omega⟩
theorem cg9:cL X (binaryOp .FloorDiv) (rI HE λi j=>.int (i/j)):=zy λi j _ _ _ _ _ hc q =>
 floordiv_int (show j≠0 by have:=hc.1;omega) (by rw[db4 i (by have:=hc.1;omega)];exact q) (.inl (PyProof.noPylong_of_log2 hc.2))
def qV:cQ:=iI HE λi j=>.int (i/j)
theorem jD:bU X (binaryOp .FloorDiv) qV:=CH (z5 cg9 (λ_ _ _ _=>.int .nil) λ_ _=>rfl)
def qW:cQ:=iI (λ_ j=>0<j) λi j=>.int (i%j)
theorem di:bU X (binaryOp .Mod) qW:=CH (z5 cO3 (λ_ _ _ _=>.int .nil) λ_ _=>rfl)
def qX:cQ:=iI TV λi j=>.int (i*2 ^ j.toNat)
theorem v7:bU X (binaryOp .LShift) qX:=CH (z5 TX (λ_ _ _ _=>.int .nil) λ_ _=>rfl)
def qY:cQ:=iI (λ_ j=>0<=j) λi j=>.int (i/2 ^ j.toNat)
theorem Uv:bU X (binaryOp .RShift) qY:=CH (z5 cK8 (λ_ _ _ _=>.int .nil) λ_ _=>rfl)
def qZ:cQ:=gI λi j=>.int (p7 i j)
theorem Uw:bU X (binaryOp .BitAnd) qZ:=oE (m3 cL4 (λ_ _ _ _=>.int .nil) λ_ _=>rfl)
def q0:cQ:=gI λi j=>.int (p8 i j)
theorem z6:bU X (binaryOp .BitXor) q0:=oE (m3 cM5 (λ_ _ _ _=>.int .nil) λ_ _=>rfl)
theorem cg4:cL X (binaryOp .Mult) (rI IntMulOk λi j=>.int (i*j)):=zy λ_ _ _ _ _ _ _ hc q=>mul_int q hc
def oF:cQ:=λx y Q=>match x,y with
 | .int i,.int j=>IntMulOk i j/\Q (.int (i*j))
 | .lst _ xs,.int k=>(-(2 ^ 63)<=k/\k<2 ^ 63/\xs.length*k.toNat<=sizeLine/\xs.all D.pl=true)/\Q (.lst true (bG k.toNat xs).flatten)
 | _,_=>False
theorem cU4:bU X (binaryOp .Mult) λx y Q=>∃o xs k,x=.lst o xs/\y=.int k/\(-(2 ^ 63)<=k/\k<2 ^ 63/\xs.length*k.toNat<=sizeLine/\xs.all D.pl=true)/\Q (.lst true (bG k.toNat xs).flatten) :=
 ⟨_,cN1,λ{B F H σ δ ts x y v w Q Qd} c sx sy h k=>by
  obtain⟨o,xs,n,rfl,rfl,⟨b1,b2,hz,h1⟩,q⟩:=h
  obtain⟨p,ws,rfl,e1,s1⟩:=iZ sx c.ext
  cases sy
  refine⟨p,n,ws,rfl,rfl,e1,b1,b2,by rw[<-s1.length];exact hz,λr hr=>?_⟩
  refine k _ _ _ q (ah.upd hr) (c.qD hr (s1.rep _) ?_)
  rw[dw]
  intro x hx
  obtain⟨l,hl,ug⟩:=List.mem_flatten.mp hx
  rw[(FU.mp hl).2]at ug
  exact dw.mp h1 x ug⟩
theorem iC:bU X (binaryOp .Mult) oF:=((z5 (gd:=λi j=>.int (i*j)) cg4 (λ_ _ _ _=>.int .nil) λ_ _=>rfl).or cU4).imp λx y Q h=>by
 unfold oF at h
 split at h
 ·exact .inl ⟨_,_,rfl,rfl,h.1,h.2⟩
 ·exact .inr ⟨_,_,_,rfl,rfl,h.1,h.2⟩
 ·exact h.elim
theorem cJ3:bU X (inplaceOp .Add) (gI λi j=>.int (i+j)):=oE (m3 cE3 (λ_ _ _ _=>.int .nil) λ_ _=>rfl)
theorem CI:bU X (inplaceOp .BitXor) (gI λi j=>.int (p8 i j)):=oE (m3 cB4 (λ_ _ _ _=>.int .nil) λ_ _=>rfl)
def q5:cQ:=gI λi j=>.bl (decide (i<j))
def q8:cQ:=gI λi j=>.bl (decide (i<=j))
def q9:cQ:=gI λi j=>.bl (decide (j<i))
def rf:cQ:=gI λi j=>.bl (decide (j<=i))
theorem v9:bU X (compareOp .Lt) q5:=oE (m3 cV0 (λ_ _ _ _=>.bl .nil) λ_ _=>rfl)
theorem z7:bU X (compareOp .LtE) q8:=oE (m3 cT4 (λ_ _ _ _=>.bl .nil) λ_ _=>rfl)
theorem HF:bU X (compareOp .Gt) q9:=oE (m3 cS4 (λ_ _ _ _=>.bl .nil) λ_ _=>rfl)
theorem Ux:bU X (compareOp .GtE) rf:=oE (m3 cW8 (λ_ _ _ _=>.bl .nil) λ_ _=>rfl)
def lC:D->Bool
 | .ay=>true
 | _=>false
def oG:cQ:=λx y Q=>match y with
 | .ay=>Q (.bl (lC x))
 | _=>False
def oH:cQ:=λx y Q=>match y with
 | .ay=>Q (.bl (!lC x))
 | _=>False
theorem Uy{d:D}(s:S F H [d] [v]):decide (v=.ay)=lC d:=by cases s<;>simp[lC]
theorem rh:bU X (compareOp .Is) oG:=⟨_,cI8,λ{B F H σ δ ts x y v w Q Qd} c sx sy h k=>by
 unfold oG at h
 split at h
 ·cases sy
  refine⟨rfl,?_⟩
  rw[Uy sx]
  exact k _ _ _ h (ah.refl _) (c.pushS (.bl .nil) rfl)
 ·exact h.elim⟩
theorem HG:bU X (compareOp .IsNot) oH:=⟨_,cB1,λ{B F H σ δ ts x y v w Q Qd} c sx sy h k=>by
 unfold oH at h
 split at h
 ·cases sy
  refine⟨rfl,?_⟩
  rw[Uy sx]
  exact k _ _ _ h (ah.refl _) (c.pushS (.bl .nil) rfl)
 ·exact h.elim⟩
def bK:D->D->Bool
 | .ay,.ay=>true
 | .bl a,.bl b=>a==b
 | .bl a,.int b=>(if a then 1 else 0)==b
 | .int a,.bl b=>a==(if b then 1 else 0)
 | .int a,.int b=>a==b
 | .str a,.str b=>a==b
 | .lst _ xs,.lst _ ys=>fG xs ys
 | .tup xs,.tup ys=>fG xs ys
 | _,_=>false
where fG:List D->List D->Bool
 | [],[]=>true
 | x::xs,y::ys=>bK x y&&fG xs ys
 | _,_=>false
def cY:Nat->D->Bool
 | _,.ay=>true
 | _,.bl _=>true
 | _,.int _=>true
 | _,.str _=>true
 | n+1,.lst _ xs=>xs.all (cY n)
 | n+1,.tup xs=>xs.all (cY n)
 | _,_=>false
theorem HH:∀(xs ys:List D),xs.length=ys.length->bK.fG xs ys=(aZ xs.length).all λj=>bK (xs.getD j .ay) (ys.getD j .ay)
 | [],[],_=>rfl
 | x::xs,y::ys,h=>by
  rw[gU,dd6,dW,mx]
  show(bK x y&&bK.fG xs ys)=_
  rw[HH xs ys (by simpa using h)]
  rfl
theorem HI:∀(xs ys:List D),xs.length≠ys.length->bK.fG xs ys=false
 | [],[],h=>absurd rfl h
 | [],_::_,_=>rfl
 | _::_,[],_=>rfl
 | x::xs,y::ys,h=>by
  show(bK x y&&bK.fG xs ys)=false
  rw[HI xs ys (by simpa using h),Bool.and_false]
def ofV:V->D
 | .bl b=>.bl b
 | .int i=>.int i
 | .str z=>.str z
 | _=>.ay
theorem z8{x:D}{v:V}(h:cY 0 x=true)(s:S F H [x] [v]):x=ofV v:=by
 cases s with
 | ay _=>rfl
 | bl _=>rfl
 | int _=>rfl
 | str _=>rfl
 | _=>cases h
theorem Uz{x:D}(h:cY 0 x=true):bK x x=true:=by
 cases x with
 | ay=>rfl
 | bl b=>exact beq_self_eq_true b
 | int i=>exact beq_self_eq_true i
 | str z=>exact beq_self_eq_true z
 | _=>cases h
theorem rj{n:Nat}{x:D}(h:cY (n+1) x=true):cY 0 x=true\/(∃o xs,x=.lst o xs/\xs.all (cY n)=true)\/∃xs,x=.tup xs/\xs.all (cY n)=true:=by
 cases x with
 | lst o xs=>exact .inr (.inl ⟨o,xs,rfl,h⟩)
 | tup xs=>exact .inr (.inr ⟨xs,rfl,h⟩)
 | obj _ _ _=>exact absurd h gh
 | fz _=>exact absurd h gh
 | bO _=>exact absurd h gh
 | _=>exact .inl rfl
theorem CJ{x:D}{p:Addr}(h:cY 0 x=true)(s:S F H [x] [.ref p]):False:=by
 rw[z8 h s]at s
 cases s
theorem UA:∀(n:Nat) {xs ys:List D} {vs:List V},xs.all (cY n)=true->ys.all (cY n)=true->S F H xs vs->S F H ys vs->ah F H->bK.fG xs ys=true:=by
 intro n xs
 induction n generalizing xs with
 | zero =>
  induction xs with
  | nil=>intro ys vs _ _ s1 s2 _;cases s1;cases s2;rfl
  | cons x xs ih =>
   intro ys vs h1 h2 s1 s2 e
   obtain⟨v,cP,rfl,q1,r1⟩:=s1.dE
   cases ys with
   | nil=>cases s2
   | cons y ys =>
    obtain⟨v',Ud,ee,q2,r2⟩:=s2.dE
    obtain⟨rfl,rfl⟩:=nO ee
    rw[dW,eR]at h1 h2
    show(bK x y&&bK.fG xs ys)=true
    rw[ih h1.2 h2.2 r1 r2 e,kj,z8 h2.1 q2,<- z8 h1.1 q1]
    exact Uz h1.1
 | succ n UB =>
  induction xs with
  | nil=>intro ys vs _ _ s1 s2 _;cases s1;cases s2;rfl
  | cons x xs ih =>
   intro ys vs h1 h2 s1 s2 e
   obtain⟨v,cP,rfl,q1,r1⟩:=s1.dE
   cases ys with
   | nil=>cases s2
   | cons y ys =>
    obtain⟨v',Ud,ee,q2,r2⟩:=s2.dE
    obtain⟨rfl,rfl⟩:=nO ee
    rw[dW,eR]at h1 h2
    show(bK x y&&bK.fG xs ys)=true
    rw[ih h1.2 h2.2 r1 r2 e,kj]
    have h1:=h1.1
    have h2:=h2.1
    clear ih r1 r2 s1 s2
    rcases rj h1 with k1 | ⟨o1,a1,rfl,k1⟩ | ⟨a1,rfl,k1⟩
    ·rcases rj h2 with k2 | ⟨o2,a2,rfl,k2⟩ | ⟨a2,rfl,k2⟩
     ·rw[z8 k2 q2,<- z8 k1 q1]
      exact Uz k1
     ·obtain⟨p,ws,rfl,_⟩:=iZ q2 e
      exact(CJ k1 q1).elim
     ·obtain⟨p,ws,rfl,_⟩:=lj q2
      exact(CJ k1 q1).elim
    ·obtain⟨p,ws,rfl,e1,t1⟩:=iZ q1 e
     rcases rj h2 with k2 | ⟨o2,a2,rfl,k2⟩ | ⟨a2,rfl,k2⟩
     ·exact(CJ k2 q2).elim
     ·obtain⟨p2,HJ,ev,e2,t2⟩:=iZ q2 e
      cases ev
      cases e1.symm.trans e2
      exact UB k1 k2 t1 t2 e
     ·obtain⟨p2,HJ,ev,e2,t2⟩:=lj q2
      cases ev
      cases e1.symm.trans e2
    ·obtain⟨p,ws,rfl,e1,t1⟩:=lj q1
     rcases rj h2 with k2 | ⟨o2,a2,rfl,k2⟩ | ⟨a2,rfl,k2⟩
     ·exact(CJ k2 q2).elim
     ·obtain⟨p2,HJ,ev,e2,t2⟩:=iZ q2 e
      cases ev
      cases e1.symm.trans e2
     ·obtain⟨p2,HJ,ev,e2,t2⟩:=lj q2
      cases ev
      cases e1.symm.trans e2
      exact UB k1 k2 t1 t2 e
end
end L3
namespace L3
open PySem L2 PySem.Spec PyProof.Rows
structure UC(A:Around)(s:Shared)(u w:Value)(b:Bool):Prop where
 rc:SeqAt.RcAt A s u w b
 ne:SeqAt.RcNeAt A s u w (!b)
 eq:FD A s u w b
section
variable{X:Cx}{F H:Hp}{v w:V}
theorem UD{xs:List V}{us:List Value}(r:Vals xs us){j:Nat}(h:j<us.toArray.size):∃x,xs[j]?=some x/\RelV x us.toArray[j]:=by
 have l:=r.length
 have hj:j<xs.length:=by rw[l];simpa using h
 obtain⟨u,e,q⟩:=r.get (aJ hj)
 obtain⟨_,z⟩:=jj.mp e
 refine⟨_,aJ hj,?_⟩
 have:us.toArray[j]=u:=by simpa using z
 rw[this];exact q
theorem UE{xs:List D}{j:Nat}{d:D}(h:xs[j]?=some d):xs.getD j .ay=d:=by rw[aK,h];rfl
theorem wa{x:D}{v:V}{u:Value}(h:cY 0 x=true)(s:S F H [x] [v])(r:RelV v u):(x=.ay/\u=.none)\/(∃b,x=.bl b/\u=.bool b)\/(∃i t,x=.int i/\u=.int i t)\/∃z t,x=.str z/\u=.str z t:=by
 cases s with
 | ay _=>cases r;exact .inl ⟨rfl,rfl⟩
 | bl _=>cases r;exact .inr (.inl ⟨_,rfl,rfl⟩)
 | int _=>obtain⟨t,rfl⟩:=r;exact .inr (.inr (.inl ⟨_,t,rfl,rfl⟩))
 | str _=>obtain⟨t,rfl⟩:=r;exact .inr (.inr (.inr ⟨_,t,rfl,rfl⟩))
 | _=>exact absurd h gh
theorem UG{x y:D}{u u':Value}{A:Around}{s:Shared}(h1:(x=.ay/\u=.none)\/(∃b,x=.bl b/\u=.bool b)\/(∃i t,x=.int i/\u=.int i t)\/∃z t,x=.str z/\u=.str z t)(h2:(y=.ay/\u'=.none)\/(∃b,y=.bl b/\u'=.bool b)\/(∃i t,y=.int i/\u'=.int i t)\/∃z t,y=.str z/\u'=.str z t):UC A s u u' (bK x y):=by
 rcases h1 with⟨rfl,rfl⟩ | ⟨a,rfl,rfl⟩ | ⟨a,t,rfl,rfl⟩ | ⟨a,t,rfl,rfl⟩<;>rcases h2 with⟨rfl,rfl⟩ | ⟨b,rfl,rfl⟩ | ⟨b,t',rfl,rfl⟩ | ⟨b,t',rfl,rfl⟩
 ·exact⟨.none_none,.none_none,.same _⟩
 ·exact⟨.none_bool _,.none_bool _,.none_bool _⟩
 ·exact⟨.none_int _ _,.none_int _ _,.none_int _ _⟩
 ·exact⟨.none_str _ _,.none_str _ _,.none_str _ _⟩
 ·exact⟨.bool_none _,.bool_none _,.bool_none _⟩
 ·exact⟨.bool_bool _ _,.bool_bool _ _,.bool_bool _ _⟩
 ·exact⟨.bool_int _ _ _,.bool_int _ _ _,.bool_int _ _ _⟩
 ·exact⟨.bool_str _ _ _,.bool_str _ _ _,.bool_str _ _ _⟩
 ·exact⟨.int_none _ _,.int_none _ _,.int_none _ _⟩
 ·exact⟨.int_bool _ _ _,.int_bool _ _ _,.int_bool _ _ _⟩
 ·exact⟨.int_int _ _ _ _,.int_int _ _ _ _,.int_int _ _ _ _⟩
 ·exact⟨.int_str _ _ _ _,.int_str _ _ _ _,.int_str _ _ _ _⟩
 ·exact⟨.str_none _ _,.str_none _ _,.str_none _ _⟩
 ·exact⟨.str_bool _ _ _,.str_bool _ _ _,.str_bool _ _ _⟩
 ·exact⟨.str_int _ _ _ _,.str_int _ _ _ _,.str_int _ _ _ _⟩
 ·exact⟨.str_str _ _ _ _,.str_str _ _ _ _,.str_str _ _ _ _⟩
theorem UH{pins:List (Addr × Obj)}{σ:L2.St}{s:Shared}(I:Inv X pins σ H s)(e:ah F H):∀(n:Nat) (x y:D) (v w:V) (u u':Value) (A:Around),cY n x=true->cY n y=true->S F H [x] [v]->S F H [y] [w]->RelV v u->RelV w u' ->
  A.units+n<cLine->UC A s u u' (bK x y):=by
 intro n
 induction n with
 | zero =>
  intro x y v w u u' A hx hy sx sy rv gB hu
  exact UG (wa hx sx rv) (wa hy sy gB)
 | succ n ih =>
  intro x y v w u u' A hx hy sx sy rv gB hu
  have bJ:A.units<cLine:=nN (Nat.le_add_right ..) hu
  have UI:A.in1.units+n<cLine:=by show A.units+1+n<cLine;rw[FV,BN 1];exact hu
  have items:∀{xs ys:List D} {vs ws:List V} {us wb:List Value},xs.all (cY n)=true->ys.all (cY n)=true->S F H xs vs->S F H ys ws->Vals vs us->Vals ws wb ->
    ∀j (h1:j<us.toArray.size) (h2:j<wb.toArray.size),FD A.in1 s us.toArray[j] wb.toArray[j] (bK (xs.getD j .ay) (ys.getD j .ay)):=by
   intro xs ys vs ws us wb hx hy sx sy r1 r2 j h1 h2
   obtain⟨a,e1,q1⟩:=UD r1 h1
   obtain⟨b,e2,q2⟩:=UD r2 h2
   obtain⟨d1,g1,t1⟩:=sx.get' e1
   obtain⟨d2,g2,t2⟩:=sy.get' e2
   rw[UE g1,UE g2]
   exact(ih d1 d2 a b _ _ A.in1 (dw.mp hx d1 (vq g1)) (dw.mp hy d2 (vq g2)) t1 t2 q1 q2 UI).eq
  clear ih hu UI
  rcases rj hx with k1 | ⟨o,xs,rfl,k1⟩ | ⟨xs,rfl,k1⟩
  ·have f:=wa k1 sx rv
   rcases rj hy with k2 | ⟨o',ys,rfl,k2⟩ | ⟨ys,rfl,k2⟩
   ·exact UG f (wa k2 sy gB)
   ·obtain⟨p',gr,rfl,e2,t2⟩:=iZ sy e
    cases gB
    obtain⟨lD,r2,p2,z2⟩:=I.list (bR.of (K:=X.K) e2)
    have p2:=p2.isList
    rcases f with⟨rfl,rfl⟩ | ⟨a,rfl,rfl⟩ | ⟨a,t,rfl,rfl⟩ | ⟨a,t,rfl,rfl⟩
    ·exact⟨.none_list p2 bJ,.none_list p2 bJ,.none_list p2 bJ⟩
    ·exact⟨.bool_list _ p2 bJ,.bool_list _ p2 bJ,.bool_list _ p2 bJ⟩
    ·exact⟨.int_list _ _ p2 bJ,.int_list _ _ p2 bJ,.int_list _ _ p2 bJ⟩
    ·exact⟨.str_list _ _ p2 bJ,.str_list _ _ p2 bJ,.str_list _ _ p2 bJ⟩
   ·obtain⟨p',gr,rfl,e2,t2⟩:=lj sy
    cases gB
    obtain⟨lD,r2,p2,z2⟩:=I.tuple (ir.of (K:=X.K) e2)
    rcases f with⟨rfl,rfl⟩ | ⟨a,rfl,rfl⟩ | ⟨a,t,rfl,rfl⟩ | ⟨a,t,rfl,rfl⟩
    ·exact⟨.none_tuple p2 bJ,.none_tuple p2 bJ,.none_tuple p2 bJ⟩
    ·exact⟨.bool_tuple _ p2 bJ,.bool_tuple _ p2 bJ,.bool_tuple _ p2 bJ⟩
    ·exact⟨.int_tuple _ _ p2 bJ,.int_tuple _ _ p2 bJ,.int_tuple _ _ p2 bJ⟩
    ·exact⟨.str_tuple _ _ p2 bJ,.str_tuple _ _ p2 bJ,.str_tuple _ _ p2 bJ⟩
  ·obtain⟨p,ws,rfl,e1,t1⟩:=iZ sx e
   cases rv
   obtain⟨its,r1,p1,z1⟩:=I.list (bR.of (K:=X.K) e1)
   have p1:=p1.isList
   rcases rj hy with k2 | ⟨o',ys,rfl,k2⟩ | ⟨ys,rfl,k2⟩
   ·rcases wa k2 sy gB with⟨rfl,rfl⟩ | ⟨a,rfl,rfl⟩ | ⟨a,t,rfl,rfl⟩ | ⟨a,t,rfl,rfl⟩
    ·exact⟨.list_none p1 bJ,.list_none p1 bJ,.list_none p1 bJ⟩
    ·exact⟨.list_bool _ p1 bJ,.list_bool _ p1 bJ,.list_bool _ p1 bJ⟩
    ·exact⟨.list_int _ _ p1 bJ,.list_int _ _ p1 bJ,.list_int _ _ p1 bJ⟩
    ·exact⟨.list_str _ _ p1 bJ,.list_str _ _ p1 bJ,.list_str _ _ p1 bJ⟩
   ·obtain⟨p',gr,rfl,e2,t2⟩:=iZ sy e
    cases gB
    obtain⟨lD,r2,p2,z2⟩:=I.list (bR.of (K:=X.K) e2)
    have p2:=p2.isList
    have uh:xs.length=its.length:=t1.length.trans r1.length
    have wc:ys.length=lD.length:=t2.length.trans r2.length
    by_cases hl:xs.length=ys.length
    ·have mI:its.toArray.size=lD.toArray.size:=by rw[dP,dP,<- uh,<- wc];exact hl
     have ev:(aZ its.toArray.size).all (λj=>bK (xs.getD j .ay) (ys.getD j .ay))=bK (.lst o xs) (.lst o' ys):=by
      show _=bK.fG xs ys
      rw[HH xs ys hl,dP,<- uh]
     have a:=SeqAt.RcAt.lists (e:=λj=>bK (xs.getD j .ay) (ys.getD j .ay)) p1 p2 mI bJ (items k1 k2 t1 t2 r1 r2)
     have b:=SeqAt.RcNeAt.lists (e:=λj=>bK (xs.getD j .ay) (ys.getD j .ay)) p1 p2 mI bJ (items k1 k2 t1 t2 r1 r2)
     rw[ev]at a b
     refine⟨a,b,?_⟩
     by_cases lH:p=p'
     ·subst lH
      cases e1.symm.trans e2
      rw[show bK (.lst o xs) (.lst o' ys)=true from UA n k1 k2 t1 t2 e]
      exact .same _
     ·exact .of_refs lH a
    ·have mI:(its.toArray.size != lD.toArray.size)=true:=bne_iff_ne.mpr (by rw[dP,dP,<- uh,<- wc];exact hl)
     rw[show bK (.lst o xs) (.lst o' ys)=false from HI xs ys hl]
     have a:=SeqAt.RcAt.lists_lengths p1 p2 mI bJ
     refine⟨a,SeqAt.RcNeAt.lists_lengths p1 p2 mI bJ,.of_refs (λlH=>?_) a⟩
     subst lH
     cases e1.symm.trans e2
     exact hl (t1.length.trans t2.length.symm)
   ·obtain⟨p',gr,rfl,e2,t2⟩:=lj sy
    cases gB
    obtain⟨lD,r2,p2,z2⟩:=I.tuple (ir.of (K:=X.K) e2)
    exact⟨.list_tuple p1 p2 bJ,.list_tuple p1 p2 bJ,.list_tuple p1 p2 bJ⟩
  ·obtain⟨p,ws,rfl,e1,t1⟩:=lj sx
   cases rv
   obtain⟨its,r1,p1,z1⟩:=I.tuple (ir.of (K:=X.K) e1)
   rcases rj hy with k2 | ⟨o',ys,rfl,k2⟩ | ⟨ys,rfl,k2⟩
   ·rcases wa k2 sy gB with⟨rfl,rfl⟩ | ⟨a,rfl,rfl⟩ | ⟨a,t,rfl,rfl⟩ | ⟨a,t,rfl,rfl⟩
    ·exact⟨.tuple_none p1 bJ,.tuple_none p1 bJ,.tuple_none p1 bJ⟩
    ·exact⟨.tuple_bool _ p1 bJ,.tuple_bool _ p1 bJ,.tuple_bool _ p1 bJ⟩
    ·exact⟨.tuple_int _ _ p1 bJ,.tuple_int _ _ p1 bJ,.tuple_int _ _ p1 bJ⟩
    ·exact⟨.tuple_str _ _ p1 bJ,.tuple_str _ _ p1 bJ,.tuple_str _ _ p1 bJ⟩
   ·obtain⟨p',gr,rfl,e2,t2⟩:=iZ sy e
    cases gB
    obtain⟨lD,r2,p2,z2⟩:=I.list (bR.of (K:=X.K) e2)
    have p2:=p2.isList
    exact⟨.tuple_list p1 p2 bJ,.tuple_list p1 p2 bJ,.tuple_list p1 p2 bJ⟩
   ·obtain⟨p',gr,rfl,e2,t2⟩:=lj sy
    cases gB
    obtain⟨lD,r2,p2,z2⟩:=I.tuple (ir.of (K:=X.K) e2)
    have uh:xs.length=its.length:=t1.length.trans r1.length
    have wc:ys.length=lD.length:=t2.length.trans r2.length
    have ev:((aZ (min its.toArray.size lD.toArray.size)).all (λj=>bK (xs.getD j .ay) (ys.getD j .ay))&&its.toArray.size==lD.toArray.size)=bK (.tup xs) (.tup ys):=by
     show _=bK.fG xs ys
     rw[dP,dP,<- uh,<- wc]
     by_cases hl:xs.length=ys.length
     ·rw[HH xs ys hl,<- hl,tF,beq_self_eq_true,kj]
     ·rw[HI xs ys hl,beq_false_of_ne hl,Bool.and_false]
    have a:=SeqAt.RcAt.tuples (e:=λj=>bK (xs.getD j .ay) (ys.getD j .ay)) p1 p2 bJ (items k1 k2 t1 t2 r1 r2)
    have b:=SeqAt.RcNeAt.tuples (e:=λj=>bK (xs.getD j .ay) (ys.getD j .ay)) p1 p2 bJ (items k1 k2 t1 t2 r1 r2)
    rw[ev]at a b
    refine⟨a,b,?_⟩
    by_cases lH:p=p'
    ·subst lH
     cases e1.symm.trans e2
     rw[show bK (.tup xs) (.tup ys)=true from UA n k1 k2 t1 t2 e]
     exact .same _
    ·exact .of_refs lH a
def rk:cQ:=λx y Q=>(cY 6 x=true/\cY 6 y=true)/\Q (.bl (bK x y))
def rl:cQ:=λx y Q=>(cY 6 x=true/\cY 6 y=true)/\Q (.bl (!bK x y))
theorem fW(hu:X.A.units+6<cLine):bU X (compareOp .Eq) rk:=bU.of λpins s σ H v w u u' Q I rv gB zz=>by
 obtain⟨B,F,aN,δ,ts,x,y,Qd,c,sx,sy,⟨⟨hx,hy⟩,q⟩,k⟩:=zz
 exact(UH I c.ext 6 x y v w u u' X.A hx hy sx sy rv gB hu).rc _ _ _ _ ⟨.bl _,H,I,rfl,k _ _ _ q (ah.refl _) (c.pushS (.bl .nil) rfl)⟩
theorem jY(hu:X.A.units+6<cLine):bU X (compareOp .NotEq) rl:=bU.of λpins s σ H v w u u' Q I rv gB zz=>by
 obtain⟨B,F,aN,δ,ts,x,y,Qd,c,sx,sy,⟨⟨hx,hy⟩,q⟩,k⟩:=zz
 exact(UH I c.ext 6 x y v w u u' X.A hx hy sx sy rv gB hu).ne _ _ _ _ ⟨.bl _,H,I,rfl,k _ _ _ q (ah.refl _) (c.pushS (.bl .nil) rfl)⟩
end
end L3
namespace L3
open PySem L2 PySem.Spec PyProof.Rows
section
variable{X:Cx}{F H:Hp}{v w:V}{e a b c o:Expr}{es:List Expr}{pos p p2 apos cm:Pos}{t ta tb tc te:aY}{tr:dh}{x:Str}
theorem ca1{r r':R2}{rd z9:cQ}(hl:Cz r rd)(qq:Cz r' z9):∀σ H Q,lE (om rd z9 ta tb tc) σ H Q->SM r r' (lB ta) (lB tb) (lB tc) σ H Q:=λσ H Q ⟨B,F,δ,ts,Qd,c,q,k⟩ =>
 ⟨B,F,δ,ts,_,c,q,λx av v F1 H1 q1 f1 h1 c1 s1=>⟨B,F1,av,ts,_,c1,q1,λy bh w F2 H2 q2 f2 h2 c2 s2=>by
  refine hl c2 (s1.mono f2 h2) s2 q2 λd z H' hd hs c3=>?_
  obtain⟨b,rfl,qb⟩:=hd
  have st:=c3.top
  cases st with
  | bl _ =>
   refine⟨b,rfl,?_⟩
   cases b with
   | true =>
    refine qw ⟨B,F2,bh,ts,_,c3.pop,by simpa using qb,λz iV w3 F3 H3 q3 f3 h3 c4 s3=>?_⟩
    exact qq c4 (s2.mono f3 (hs.trans h3)) s3 q3 λd z H' hd hs' c5=>k d iV z F3 H' hd ((f1.trans f2).trans f3) ((((h1.trans h2).trans hs).trans h3).trans hs') c5
   | false=>exact mM (k _ bh _ F2 H' (by simpa using qb) (f1.trans f2) ((h1.trans h2).trans hs) (c3.pop.pushS (.bl .nil) rfl))⟩⟩
theorem HK{op tT:CmpOp}{rd z9:cQ}(ho:bU X (compareOp op) rd)(kR:bU X (compareOp tT) z9)(ha:PE X a (lB ta))(hb:PE X b (lB tb))(hc:PE X c (lB tc))
  (hm:lastMarks [op,tT] [b,c]=false:=by with_unfolding_all rfl):PE X (.Compare a [op,tT] [b,c] pos) (lE (om rd z9 ta tb tc)):=by
 obtain⟨r,h1,h2⟩:=ho
 obtain⟨r',kC,jR⟩:=kR
 exact dO (cg6 h1 kC ha hb hc hm) (ca1 h2 jR)
def rm(t:aY):aY:=λδ Q=>t δ λd ak=>match d with
 | .int i=>Q (.int (-i)) ak
 | _=>False
theorem HL(ha:PE X a (lB ta)):PE X (.UnaryOp .USub a pos) (lE (rm ta)):=dO (cT7 cN2 ha) λσ H Q ⟨B,F,δ,ts,Qd,c,q,k⟩=>⟨B,F,δ,ts,_,c,q,λd av v F1 H1 q1 f1 h1 c1 s1=>by
 cases s1 with
 | int _=>exact⟨_,rfl,k _ av _ F1 H1 q1 f1 h1 (c1.pushS (.int .nil) rfl)⟩
 | _=>exact q1.elim⟩
abbrev jZ:=List D->(D->Prop)->Prop
def lc(rd:jZ):List V->Hp->VK->Prop:=λvs H Q=>∃B F σ δ ts ds Qd,ax B F H σ δ ts/\S F H ds vs/\rd ds Qd/\∀d z H',Qd d->ah H H'->ax B F H' σ δ ((d,z)::ts)->Q z H'
def g8(X:Cx)(f:Value)(rd:jZ):Prop:=g5 X f (lc rd)
theorem g8.of{f:Value}{r:List V->Hp->VK->Prop}{rd:jZ}(h:g5 X f r)(m:∀vs H Q,lc rd vs H Q->r vs H Q):g8 X f rd:=λpins s σ H xs us Q I r q=>h pins s σ H xs us Q I r (m xs H Q q)
def m5(rd:jZ)(t:dh):aY:=λδ Q=>t δ λds ak=>rd ds λd=>Q d ak
theorem UJ{rd:jZ}:∀σ H Q,lE (m5 rd tr) σ H Q->GV (lc rd) (lA tr) σ H Q:=λσ H Q ⟨B,F,δ,ts,Qd,c,q,k⟩=>⟨B,F,δ,ts,_,c,q,λds av vs F1 H1 q1 f1 h1 c1 s1 =>
 ⟨B,F1,σ,av,ts,ds,_,c1,s1,q1,λd z H' hd hs c'=>k d av z F1 H' hd f1 (h1.trans hs) c'⟩⟩
theorem dR{id:String}{rd:jZ}(hc:g8 X (.builtin id) rd)(hg:Gl X x)(hm:X.mg x=none)(hv:bootBuiltins x=some (.builtin id))(ha:PA X (e::es) (lA tr))(hn:x≠"__name__":=by decide)(fi:(x==("__debug__":Str))=false:=by decide)
  (he:starEach (e::es) X.env=(false,eval e X.env)::starEach es X.env:=by rfl) (bS:(backTo pos (starEach es X.env)).any (·.1)=false:=by rfl):PE X (.Call (.Name x p) (e::es) [] pos) (lE (m5 rd tr)) :=
 dO (S0 hc hg hm hv ha hn fi he bS) UJ
theorem CK{T:String}{rd:jZ}(hc:g8 X (.type T) rd)(hg:Gl X x)(hm:X.mg x=none)(hv:bootBuiltins x=some (.type T))(ha:PA X (e::es) (lA tr))(hn:x≠"__name__":=by decide)(fi:(x==("__debug__":Str))=false:=by decide)
  (he:starEach (e::es) X.env=(false,eval e X.env)::starEach es X.env:=by rfl) (bS:(backTo pos (starEach es X.env)).any (·.1)=false:=by rfl):PE X (.Call (.Name x p) (e::es) [] pos) (lE (m5 rd tr)) :=
 dO (ca4 hc hg hm hv ha hn fi he bS) UJ
theorem lJ{d:D}{vs:List V}(s:S F H [d] vs):∃v,vs=[v]/\S F H [d] [v]:=by
 obtain⟨v,cP,rfl,h1,h2⟩:=s.dE
 cases h2
 exact⟨v,rfl,h1⟩
theorem cR7{d d':D}{vs:List V}(s:S F H [d,d'] vs):∃v v',vs=[v,v']/\S F H [d] [v]/\S F H [d'] [v']:=by
 obtain⟨v,cP,rfl,h1,h2⟩:=s.dE
 obtain⟨v',rfl,h3⟩:=lJ h2
 exact⟨v,v',rfl,h1,h3⟩
theorem lK{K:PySem.W.Frag}{p:Addr}{ws:List V}(h:Rd H p (.lst ws)):bR K H p ws:=.inl h
def oI:jZ:=λds Q=>match ds with
 | [.lst _ xs]=>Q (.int xs.length)
 | [.fz xs]=>Q (.int xs.length)
 | [.tup xs]=>Q (.int xs.length)
 | [.str z]=>z.length<=sizeLine/\Q (.int z.length)
 | _=>False
theorem fX:g8 X (.builtin "len") oI:=g8.of (du5.or bH8) λvs H Q zz=>by
 obtain⟨B,F,σ,δ,ts,ds,Qd,c,s,q,k⟩:=zz
 unfold oI at q
 split at q
 ·obtain⟨v,rfl,s1⟩:=lJ s
  obtain⟨p,ws,rfl,h,t⟩:=m4 s1 c.ext rfl
  refine .inl ⟨p,ws,rfl,.inl (lK h),?_⟩
  rw[<-t.length]
  exact k _ _ _ q (ah.refl _) (c.pushS (.int .nil) rfl)
 ·obtain⟨v,rfl,s1⟩:=lJ s
  obtain⟨p,ws,rfl,h,t⟩:=m4 s1 c.ext rfl
  refine .inl ⟨p,ws,rfl,.inl (lK h),?_⟩
  rw[<-t.length]
  exact k _ _ _ q (ah.refl _) (c.pushS (.int .nil) rfl)
 ·obtain⟨v,rfl,s1⟩:=lJ s
  obtain⟨p,ws,rfl,h,t⟩:=lj s1
  refine .inl ⟨p,ws,rfl,.inr (ir.of h),?_⟩
  rw[<-t.length]
  exact k _ _ _ q (ah.refl _) (c.pushS (.int .nil) rfl)
 ·obtain⟨v,rfl,s1⟩:=lJ s
  cases s1
  exact .inr ⟨_,rfl,q.1,k _ _ _ q.2 (ah.refl _) (c.pushS (.int .nil) rfl)⟩
 ·exact q.elim
def oJ:jZ:=λds Q=>match ds with
 | [.lst _ xs]=>xs.all D.pl=true/\Q (.lst true xs)
 | [.fz xs]=>Q (.lst true xs)
 | [.tup xs]=>xs.all D.pl=true/\Q (.lst true xs)
 | _=>False
theorem CL:g8 X (.type "list") oJ:=g8.of bI2 λvs H Q zz=>by
 obtain⟨B,F,σ,δ,ts,ds,Qd,c,s,q,k⟩:=zz
 unfold oJ at q
 split at q
 ·obtain⟨v,rfl,s1⟩:=lJ s
  obtain⟨p,ws,rfl,h,t⟩:=m4 s1 c.ext rfl
  exact⟨p,ws,rfl,.inl (lK h),λl hl=>k _ _ _ q.2 (ah.upd hl) (c.qD hl t q.1)⟩
 ·obtain⟨v,rfl,s1⟩:=lJ s
  cases s1 with
  | fz h r _=>exact⟨_,_,rfl,.inl (lK (.inr ⟨_,c.ext _ _ h⟩)),λl hl=>k _ _ _ q (ah.upd hl) (c.qD hl r.s r.pl)⟩
 ·obtain⟨v,rfl,s1⟩:=lJ s
  obtain⟨p,ws,rfl,h,t⟩:=lj s1
  exact⟨p,ws,rfl,.inr (ir.of h),λl hl=>k _ _ _ q.2 (ah.upd hl) (c.qD hl t q.1)⟩
 ·exact q.elim
def ii(g:Int->Int->Int):jZ:=λds Q=>match ds with
 | [.int i,.int j]=>Q (.int (g i j))
 | _=>False
theorem cV7{f:Value}{g:Int->Int->Int}(h:g5 X f (λxs H Q=>∃i j,xs=[.int i,.int j]/\Q (.int (g i j)) H)):g8 X f (ii g):=g8.of h λvs H Q zz=>by
 obtain⟨B,F,σ,δ,ts,ds,Qd,c,s,q,k⟩:=zz
 unfold ii at q
 split at q
 ·obtain⟨v,v',rfl,s1,s2⟩:=cR7 s
  cases s1;cases s2
  exact⟨_,_,rfl,k _ _ _ q (ah.refl _) (c.pushS (.int .nil) rfl)⟩
 ·exact q.elim
theorem cW7(hc:X.calm=true):g8 X (.builtin "min") (ii λi j=>if j<i then j else i):=cV7 (b08 hc)
def we(bs:List Bool):List D:=bs.map D.bl
theorem UK:∀{bs:List Bool} {ws:List V},S F H (we bs) ws->ws=bs.map V.bl
 | [],_,s=>by cases s;rfl
 | b::bs,_,s=>by
  cases s with
  | bl s=>rw[UK s];rfl
def oK:jZ:=λds Q=>match ds with
 | [.lst _ xs]=>∃bs,xs=we bs/\Q (.bl (bs.all id))
 | _=>False
theorem CM(hc:X.calm=true):g8 X (.builtin "all") oK:=g8.of (ck2 hc) λvs H Q zz=>by
 obtain⟨B,F,σ,δ,ts,ds,Qd,c,s,q,k⟩:=zz
 unfold oK at q
 split at q
 ·obtain⟨v,rfl,s1⟩:=lJ s
  obtain⟨bs,rfl,q⟩:=q
  obtain⟨p,ws,rfl,h,t⟩:=m4 s1 c.ext rfl
  rw[UK t]at h
  exact⟨p,bs,rfl,lK h,k _ _ _ q (ah.refl _) (c.pushS (.bl .nil) rfl)⟩
 ·exact q.elim
def HM:D->Option String
 | .int _=>some "int"
 | .bl _=>some "bool"
 | .ay=>some "NoneType"
 | .str _=>some "str"
 | .lst _ _=>some "list"
 | .fz _=>some "list"
 | .tup _=>some "tuple"
 | _=>none
def HN(k n:String):Option Bool:=([("int","int",true),("int","bool",false),("int","list",false),("int","tuple",false),("int","str",false),("bool","int",true),("bool","bool",true),("bool","list",false),("bool","tuple",false),("bool","str",false),
 ("NoneType","int",false),("NoneType","bool",false),("NoneType","list",false),("NoneType","tuple",false),("NoneType","str",false),("str","int",false),("str","bool",false),("str","list",false),("str","tuple",false),("str","str",true),
 ("list","int",false),("list","bool",false),("list","list",true),("list","tuple",false),("list","str",false),("tuple","int",false),("tuple","bool",false),("tuple","list",false),("tuple","tuple",true),("tuple","str",false)].find? λz=>z.1==k&&z.2.1==n).map (·.2.2)
def m6(n:String)(d:D):Option Bool:=(HM d).bind λk=>HN k n
theorem cL9{K:PySem.W.Frag}{k n:String}{r:Bool}(h:HN k n=some r):PySem.W.kitOne K (.type k) (.type n)=some r:=by
 unfold HN at h
 obtain⟨z,hz,rfl⟩:=vw.mp h
 have hm:=RW hz
 have hp:=List.find?_some hz
 rw[eR,beq_iff_eq,beq_iff_eq]at hp
 obtain⟨rfl,rfl⟩:=hp
 simp only[cB,ik,or_false]at hm
 repeat' (rcases hm with hm | hm)
 all_goals rfl
theorem cG4{K:PySem.W.Frag}{d:D}(s:S F H [d] [v])(e:ah F H){k:String}(h:HM d=some k):iO K H v (.type k):=by
 cases s with
 | int _=>cases h;exact .int _
 | bl _=>cases h;exact .bl _
 | ay _=>cases h;exact .ay
 | str _=>cases h;exact .str _
 | shr h' _ _=>cases h;exact .lst (e _ _ h')
 | own h' _ _=>cases h;exact .lst h'
 | fz h' _ _=>cases h;exact .cu (e _ _ h')
 | tup h' _ _=>cases h;exact .tup h'
 | obj _ _ _ _=>cases h
 | bO _ _=>cases h
theorem cR5{K:PySem.W.Frag}{d:D}(s:S F H [d] [v])(e:ah F H){n:String}{r:Bool}(h:m6 n d=some r):∃t,iO K H v t/\PySem.W.kitOne K t (.type n)=some r:=by
 unfold m6 at h
 cases hk:HM d with
 | none=>rw[hk]at h;cases h
 | some k=>rw[hk]at h;exact⟨_,cG4 s e hk,cL9 h⟩
def rn(n:String)(t:aY):aY:=λδ Q=>t δ λd ak=>∃r,m6 n d=some r/\Q (.bl r) ak
theorem wg{n:String}{y:Str}{q:Pos}(hg:Gl X "isinstance")(hm:X.mg "isinstance"=none)(hg2:Gl X y)(UL:X.mg y=none)(hv2:bootBuiltins y=some (.type n))(ha:PE X a (lB ta))
  (hn:y≠"__name__":=by decide) (hd:(y==("__debug__":Str))=false:=by decide)
  (hs:starEach [a,.Name y q] X.env=(false,eval a X.env)::starEach [.Name y q] X.env:=by rfl) (js:starEach [.Name y q] X.env=(false,eval (.Name y q) X.env)::starEach [] X.env:=by rfl) (bS:(backTo pos (starEach [.Name y q] X.env)).any (·.1)=false:=by rfl) :
  PE X (.Call (.Name "isinstance" p) [a,.Name y q] [] pos) (lE (rn n ta)) :=
 dO (S0 bz2 hg hm bF4 (gA ha (gA (cT0 hg2 UL hv2 hn hd) kA js) hs) (by decide) (by decide) hs bS) λσ H Q ⟨B,F,δ,ts,Qd,c,q,k⟩=>⟨B,F,δ,ts,_,c,q,λd av v F1 H1 q1 f1 h1 c1 s1=>by
  obtain⟨r,e,qr⟩:=q1
  obtain⟨t,h2,h3⟩:=cR5 (K:=X.K) s1 c1.ext e
  exact⟨v,n,t,r,rfl,h2,h3,k _ av _ F1 H1 qr f1 h1 (c1.pushS (.bl .nil) rfl)⟩⟩
theorem HP{xs:List D}{ws:List V}{i:Int}{d:D}(s:S F H xs ws)(h:eM xs i=some d):∃v,eM ws i=some v/\S F H [d] [v]:=by
 unfold eM at h ⊢
 rw[<-s.length]
 cases e:iQ xs.length i with
 | none=>rw[e]at h;cases h
 | some j =>
  rw[e]at h
  exact s.get h
def oM(x y:D)(Q:D->Prop):Prop:=match x,y with
 | .lst _ xs,.int i=>∃d,eM xs i=some d/\Q d
 | .fz xs,.int i=>∃d,eM xs i=some d/\Q d
 | .tup xs,.int i=>∃d,eM xs i=some d/\Q d
 | .str z,.int i=>z.length<=sizeLine/\∃ch,eM z.cps.toList i=some ch/\Q (.str ⟨#[ch]⟩)
 | _,_=>False
def rp(ta tb:aY):aY:=λδ Q=>ta δ λx av=>tb av λy bh=>oM x y λd=>Q d bh
theorem bH(ha:PE X a (lB ta))(hb:PE X b (lB tb))(hs:S2 b):PE X (.Subscript a b pos) (lB (rp ta tb)) :=
 dO (cV8 cM6 ha hb hs) λσ H Q ⟨B,F,δ,ts,Qd,c,q,k⟩=>⟨B,F,δ,ts,_,c,q,λx av v F1 H1 q1 f1 h1 c1 s1=>⟨B,F1,av,ts,_,c1,q1,λy bh w F2 H2 q2 f2 h2 c2 s2=>by
  have oN:=s1.mono f2 h2
  have fin:∀d z,Qd d bh->S F2 H2 [d] [z]->Q z H2:=λd z hd s=>k d bh z F2 H2 hd (f1.trans f2) (h1.trans h2) c2 s
  unfold oM at q2
  split at q2
  ·obtain⟨d,ed,qd⟩:=q2
   cases s2
   obtain⟨p,ws,rfl,h,t⟩:=m4 oN c2.ext rfl
   obtain⟨z,ez,sz⟩:=HP t ed
   exact .inl ⟨p,ws,_,z,rfl,rfl,lK h,ez,fin d z qd sz⟩
  ·obtain⟨d,ed,qd⟩:=q2
   cases s2
   obtain⟨p,ws,rfl,h,t⟩:=m4 oN c2.ext rfl
   obtain⟨z,ez,sz⟩:=HP t ed
   exact .inl ⟨p,ws,_,z,rfl,rfl,lK h,ez,fin d z qd sz⟩
  ·obtain⟨d,ed,qd⟩:=q2
   cases s2
   obtain⟨p,ws,rfl,h,t⟩:=lj oN
   obtain⟨z,ez,sz⟩:=HP t ed
   exact .inr (.inl ⟨p,ws,_,z,rfl,rfl,ir.of h,ez,fin d z qd sz⟩)
  ·obtain⟨hz,ch,ec,qc⟩:=q2
   cases oN
   cases s2
   exact .inr (.inr ⟨_,_,ch,rfl,rfl,hz,ec,fin _ _ qc (.str .nil)⟩)
  ·exact q2.elim⟩⟩
abbrev wj:=Dl->(Option Int->Dl->Prop)->Prop
def lP(t:wj):TO:=λσ H Q=>∃B F δ ts Qd,ax B F H σ δ ts/\t δ Qd/\∀o ak F' H',Qd o ak->ah F F'->ah H H'->ax B F' H' σ ak ts->Q o H'
theorem UM{oe:Option Expr}{u u':TO}(h:PO X oe u)(m:∀σ H Q,u' σ H Q->u σ H Q):PO X oe u':=λpins s σ H Q I q=>h pins s σ H Q I (m σ H Q q)
def rq:wj:=λδ Q=>Q none δ
def rz(t:aY):wj:=λδ Q=>t δ λd ak=>match d with
 | .int i=>Q (some i) ak
 | _=>False
theorem ui:PO X none (lP rq):=UM cC4 λσ H Q ⟨B,F,δ,ts,Qd,c,q,k⟩=>k none δ F H q (ah.refl _) (ah.refl _) c
theorem uj(h:PE X e (lB t)):PO X (some e) (lP (rz t)):=UM (cF4 h) λσ H Q ⟨B,F,δ,ts,Qd,c,q,k⟩=>⟨B,F,δ,ts,_,c,q,λd av v F1 H1 q1 f1 h1 c1 s1=>by
 cases s1 with
 | int _=>exact⟨_,rfl,k _ av F1 H1 q1 f1 h1 c1⟩
 | _=>exact q1.elim⟩
def fk{α:Type}(xs:List α)(lo hi:Option Int):List α:=(xs.drop (HT.dq xs.length 0 lo)).take (HT.dq xs.length xs.length hi-HT.dq xs.length 0 lo)
theorem S.cut{xs:List D}{ws:List V}(s:S F H xs ws)(lo hi:Option Int):S F H (fk xs lo hi) (vO ws lo hi):=by
 unfold fk vO
 rw[<-s.length]
 exact(s.drop _).take _
theorem UN{xs:List D}{p:D->Bool}(h:xs.all p=true)(lo hi:Option Int):(fk xs lo hi).all p=true:=by
 rw[dw]at h ⊢
 intro x hx
 exact h x (qh (qi hx))
def rA(t:aY):aY:=λδ Q=>t δ λd ak=>match d with
 | .int i=>Q (.int (Mf.bl i.natAbs:Nat)) ak
 | _=>False
theorem oO(ho:PE X o (lB t))(kX:attributeBase o "bit_length" X.env (eval o X.env)=eval o X.env:=by rfl)(kY:(apos.endLine==cm.line)=true:=by rfl):PE X (.Call (.Attribute o "bit_length" apos) [] [] cm) (lE (rA t)) :=
 dO (Ha ho kX kY) λσ H Q ⟨B,F,δ,ts,Qd,c,q,k⟩=>⟨B,F,δ,ts,_,c,q,λd av v F1 H1 q1 f1 h1 c1 s1=>by
  cases s1 with
  | int _=>exact⟨rfl,_,rfl,rfl,k _ av _ F1 H1 q1 f1 h1 (c1.pushS (.int .nil) rfl)⟩
  | _=>exact q1.elim⟩
end
end L3
namespace L3
open PySem L2 PySem.Spec PyProof.Rows
section
variable{X:Cx}{F H:Hp}{v w:V}{e a b c o tg:Expr}{es:List Expr}{pos p p2 apos cm pos':Pos}{t ta tb tc te ti:aY}{tr:dh}{x:Str}{i:Nat}
def rB(i:Nat)(t:aY):cX:=λD δ=>(∃xs,δ[i]?=some (some (.lst true xs)))/\t δ λd ak=>∃xs,ak[i]?=some (some (.lst true xs))/\xs.length<sizeLine/\D.nx (ak.set i (some (.lst true (xs++[d]))))
theorem lL(hN:X.N[i]?=some x)(hv:mE X.env.scope x)(he:PE X e (lE t))(hd:(x==("__debug__":Str))=false:=by decide)(de:(x==("__classdict__":Str))=false:=by decide)
  (kX:attributeBase (.Name x p) "append" X.env (eval (.Name x p) X.env)=eval (.Name x p) X.env:=by rfl)
  (G0:((backTo cm (starEach [e] X.env)).all (λx=>!x.1)&&(backToKw cm (keywordEach [] X.env)).all (λx=>x.1.isSome)
   && decide ([e].length+([]:List Keyword).length+(if([]:List Keyword).isEmpty then 0 else 1)<30))=true:=by rfl)
  (kY:(apos.endLine==cm.line)=true:=by rfl) (hs:starEach [e] X.env=(false,eval e X.env)::starEach [] X.env:=by rfl) (G1:(backTo cm (starEach [] X.env)).any (·.1)=false:=by rfl)
  (uk:swapsWith (.Call (.Attribute (.Name x p) "append" apos) [e] [] cm) none pos.line X.env=pure false:=by rfl) :
  PS X (.Expr (.Call (.Attribute (.Name x p) "append" apos) [e] [] cm) pos) (lS X (rB i t)) :=
 mR (Cb (cS6 PySem.F.plainAttrs_list PySem.F.slot_list_append PySem.F.type_list_append Tg (tP hN hv hd de) (gA he kA hs) kX G0 kY hs G1) uk) λEn σ H zz=>by
  obtain⟨B,F,δ,Dd,c,⟨⟨ys,ey⟩,q⟩,k1,k2,k3,k4⟩:=zz
  obtain⟨p0,zR,g1,g2,g3⟩:=c.ownAt ey
  refine⟨.ref p0,g1,.inl ⟨rfl,_,bR.of g2⟩,B,F,δ,[],_,c,q,λd ak v F' H' hd sf sh c'=>?_⟩
  obtain⟨xs,ex,hl,hn⟩:=hd
  obtain⟨p1,ws,r1,r2,r3⟩:=c'.ownAt ex
  rw[g1]at r1;cases r1
  exact⟨p0,ws,v,rfl,rfl,r2,by omega,k1 _ _ F' _ hn (c'.app ex g1 r2)⟩
def rC(i:Nat)(te ti:aY):cX:=λD δ=>te δ λd av=>∃ys,av[i]?=some (some (.lst true ys))/\oj ti av λk bh=>match k with
 | .int n=>∃xs j,bh[i]?=some (some (.lst true xs))/\iQ xs.length n=some j/\D.nx (bh.set i (some (.lst true (xs.set j d))))
 | _=>False
theorem wk(hN:X.N[i]?=some x)(hv:mE X.env.scope x)(he:PE X e (lE te))(hi:PE X b (lB ti))(hd:(x==("__debug__":Str))=false:=by decide)(de:(x==("__classdict__":Str))=false:=by decide)
  (ha:∀v,assign (.Subscript (.Name x p) b pos') X.env v=(do
   let ov<-holding [v] (eval (.Name x p) X.env)
   let iv<-holding [v,ov] (eval b X.env)
   standAt pos'
   holding [v,ov,iv] (setItem ov iv v)
   release [v,ov,iv] []):=by intro _;rfl)
  (hs:swapsWithSole [.Subscript (.Name x p) b pos'] e pos.line X.env=pure false:=by rfl) (hw:swappedStores [.Subscript (.Name x p) b pos'] e X.env=pure none:=by rfl)
  (h1:(assignEach [.Subscript (.Name x p) b pos'] X.env).map (·.2)=[assign (.Subscript (.Name x p) b pos') X.env]:=by rfl) :
  PS X (.Assign [.Subscript (.Name x p) b pos'] e pos) (lS X (rC i te ti)) :=
 mR (cO9 he (cP7 (tP hN hv hd de) (cO hi) ci7 ha) hs hw h1) λEn σ H ⟨B,F,δ,Dd,c,q,k1,k2,k3,k4⟩=>⟨B,F,δ,[],_,c,q,λd av v F1 H1 hq f1 h1 c1=>by
  obtain⟨ys,ey,hq⟩:=hq
  obtain⟨p0,zR,g1,g2,g3⟩:=c1.ownAt ey
  refine⟨.ref p0,g1,B,F1,av,[(d,v)],_,c1,hq,λkd bh kv F2 H2 hk f2 h2 c2=>?_⟩
  have st:=c2.top
  split at hk
  ·obtain⟨xs,j,ex,ej,hn⟩:=hk
   cases st
   have c3:=c2.pop
   obtain⟨p1,ws,r1,r2,r3⟩:=c3.ownAt ex
   rw[g1]at r1;cases r1
   exact⟨p0,ws,_,j,rfl,rfl,r2,by rw[<-r3];exact ej,k1 _ _ F2 _ hn (c3.dF4 ex g1 r2 j)⟩
  ·exact hk.elim⟩
end
end L3
namespace L3
open PySem L2 PySem.Spec PyProof.Rows
theorem du{A:Around}{k:Nat}(hr:cM k A):A.units+6<cLine:=by have:=hr.un;omega
def aL(ns:List Int):List D:=ns.map D.int
def HQ(o:Obj):Bool:=match o.cls with
 | .type n=>n != "list"
 | _=>true
def UO:bB:=λds Q=>∃ns:List Int,ds=[.fz (aL ns)]/\ns.length<=63/\Q (.bl true)
theorem lM{F H:Hp}:∀ns:List Int,R F H (aL ns) (ns.map V.int) []
 | []=>.nil
 | n::ns=>.int (lM ns)
theorem bN6{K:PySem.W.Frag}{a:Addr}{o:Obj}(h:K.lookup a=some o):(a,o)∈K:=by
 induction K with
 | nil=>cases h
 | cons p K ih =>
  obtain⟨b,u⟩:=p
  rw[gH]at h
  split at h
  ·rename_i z
   have:a=b:=by simpa using z
   cases h;subst this;simp
  ·exact dZ _ (ih h)
end L3
namespace L3
open PySem L2 PySem.Spec PyProof.Rows
section
variable{B:Bs}{F H:Hp}{σ:L2.St}{δ:Dl}{ts ps:List (D × V)}{i k:Nat}{p q:Addr}{l1 l2 ys T8:List D}{ws wb:List V}
end
section
variable{X:Cx}{F H:Hp}{e b:Expr}{pos p pr apos cm HR:Pos}{t ti te:aY}{x y:Str}{i j:Nat}
end
end L3
namespace L3
open PySem L2 PySem.Spec PyProof.Rows
theorem um(i:Int):(D.int i).pl=true:=rfl
theorem uo(i:Bool):(D.bl i).pl=true:=rfl
theorem uq(i:Str):(D.str i).pl=true:=rfl
theorem ur:D.ay.pl=true:=rfl
theorem uu(xs:List D):(D.fz xs).pl=true:=rfl
theorem uv(C:Addr)(ns:List Str)(xs:List D):(D.obj C ns xs).pl=true:=rfl
theorem rD(i:Int):(D.int i).fr=true:=rfl
theorem uw(i:Bool):(D.bl i).fr=true:=rfl
theorem uz(i:Str):(D.str i).fr=true:=rfl
theorem uA:D.ay.fr=true:=rfl
theorem jE(i:Int):(D.int i).sh=.int i:=rfl
theorem uB(i:Bool):(D.bl i).sh=.bl i:=rfl
theorem uC(i:Str):(D.str i).sh=.str i:=rfl
theorem uD:D.ay.sh=.ay:=rfl
theorem uE(xs:List D):(D.fz xs).sh=.fz xs:=rfl
theorem uF(C:Addr)(ns:List Str)(xs:List D):(D.obj C ns xs).sh=.obj C ns xs:=rfl
theorem uG{α:Type}(n:Nat)(x:α):(bG n [x]).flatten=bG n x:=by
 induction n with
 | zero=>rfl
 | succ n ih=>rw[s9,vt,ih];rfl
theorem lN(ns:List Int):(aL ns).length=ns.length:=by simp[aL]
theorem lQ(ns:List Int):(aL ns).all D.pl=true:=by simp[aL,D.pl]
theorem oQ(ns:List Int):(aL ns).all D.fr=true:=by simp[aL,D.fr]
theorem jF(ns:List Int):(aL ns).map D.sh=aL ns:=by simp[aL,D.sh]
theorem oR(a b:List Int):aL a++aL b=aL (a++b):=by simp[aL]
theorem uH(n:Nat)(i:Int):bG n (D.int i)=aL (bG n i):=by simp[aL]
theorem oS(n:Nat)(i:Int):cY n (.int i)=true:=by cases n<;>rfl
theorem uI(n:Nat)(i:Str):cY n (.str i)=true:=by cases n<;>rfl
theorem rE(n:Nat):cY n .ay=true:=by cases n<;>rfl
theorem lR(i j:Int):bK (.int i) (.int j)=decide (i=j):=by
 show(i==j)=_
 rw[Bool.beq_eq_decide_eq]
theorem UP:∀(a b:List Int),bK.fG (aL a) (aL b)=decide (a=b)
 | [],[]=>rfl
 | [],_::_=>by simp[aL,bK.fG]
 | _::_,[]=>by simp[aL,bK.fG]
 | x::xs,y::ys=>by
  show(bK (.int x) (.int y)&&bK.fG (aL xs) (aL ys))=_
  rw[UP xs ys,lR,tw];simp
theorem rF(o o':Bool)(a b:List Int):bK (.lst o (aL a)) (.lst o' (aL b))=decide (a=b):=UP a b
theorem cl0{ns:List Int}{k:Nat}(h:k<ns.length):(aL ns)[k]?=some (.int ns[k]):=by simp[aL,h]
theorem m8{ns:List Int}{k:Int}(h0:0<=k)(h:k<ns.length):eM (aL ns) k=some (.int (ns.getD k.toNat 0)):=by
 unfold eM iQ
 rw[if_pos h0,lN,if_pos h]
 show(aL ns)[k.toNat]?=_
 have hk:k.toNat<ns.length:=by omega
 rw[cl0 hk,aK,aJ hk];rfl
theorem rG(ns:List Int)(lo hi:Option Int):fk (aL ns) lo hi=aL (fk ns lo hi):=by simp[fk,aL,RX,RY]
theorem uJ(i:Int):m6 "int" (.int i)=some true:=by rfl
theorem uK(i:Int):m6 "bool" (.int i)=some false:=by rfl
theorem uL(i:Int):m6 "list" (.int i)=some false:=by rfl
theorem uM(o:Bool)(xs:List D):m6 "list" (.lst o xs)=some true:=by rfl
theorem uN:m6 "int" .ay=some false:=by rfl
theorem uO(x:Str):m6 "str" (.str x)=some true:=by rfl
theorem uP(xs:List D):m6 "tuple" (.tup xs)=some true:=by rfl
theorem sL:sizeLine=16777216:=rfl
theorem uQ{p:Prop}[Decidable p]:(decide p=true)=p:=by simp
theorem cB9{α:Type}(xs:List α)(a b:Nat):fk xs (some (a:Int)) (some (b:Int))=(xs.drop a).take (b-a):=by
 unfold fk
 rw[HT.GW,HT.GW]
 by_cases h:a<=xs.length
 ·rw[Nat.min_eq_left h]
  apply FW
  intro i
  rw[dd7,dd7,FX]
  by_cases hi:i<b-a
  ·rw[if_pos hi]
   by_cases hb:a+i<xs.length
   ·rw[if_pos (by omega)]
   ·rw[gW (by omega)];simp
  ·rw[if_neg hi,if_neg (by omega)]
 ·rw[Nat.min_eq_right (show xs.length<=a by omega),RZ (bN _),RZ (show xs.length<=a by omega)];simp
end L3
namespace L2
open PySem PySem.Spec PyProof.Rows
section
variable{X:Cx}{e:Expr}{te:TE}{lo hi:Option Expr}{st:Expr}{tl th ts:TO}{pos p2:Pos}
theorem UQ(ns:List Int):∀k,k<=ns.length->preSum (λi=>ns.getD i 0) k=(ns.take k).sum
 | 0,_=>rfl
 | k+1,h=>by
  show preSum (λi=>ns.getD i 0) k+ns.getD k 0=_
  rw[UQ ns k (by omega),mw,aJ (by omega),List.sum_append,aK,aJ (by omega)]
  simp
theorem cb1(hc:X.calm=true):g5 X (.builtin "sum") (λxs H Q=>∃(p:Addr) (ns:List Int),xs=[.ref p]/\bR X.K H p (ns.map V.int)/\Q (.int ns.sum) H):=by
 intro pins s σ H xs us Q I r h
 obtain⟨p,ns,rfl,hS,q⟩:=h
 obtain⟨u,rfl,ru⟩:=r.one
 cases ru
 obtain⟨its,rv,pl,hz⟩:=I.list hS
 have hi:=bU8 rv
 have hlen:ns.length=its.length:=by have:=rv.length;simpa using this
 have hl:=pl.isList
 have gD:p<s.heap.objs.size:=by obtain⟨_,e,_⟩:=hl;exact bV e
 refine call_sum_walkG (wpAny_pyIter_list hl ?_)
 refine⟨s.heap.objs.size,[s.heap.objs.size,p],[s.heap.objs.size],its.toArray.size,_,_,λi=>ns.getD i 0,rfl,Walks.list (A:=X.A.in1) (I.ok.hd hc) _ p (fA gD) its.toArray,
  ⟨⟨_,gR _ rfl,rfl,rfl⟩,hl.push _⟩,λb hb=>?_,λi v hP=>?_,λh' tk t' hk=>?_⟩
 ·simp only[vp]
  rcases cB.mp hb with rfl | hb
  ·exact BK _
  ·rw[dX.mp hb];exact R0 gD
 ·have e:its[i]?=some v:=by simpa using hP
  obtain⟨x,ex,q2⟩:∃x,(ns.map V.int)[i]?=some x/\RelV x v:=by
   have ix:i<its.length:=(jj.mp e).1
   obtain⟨u,e2,q2⟩:=rv.get (i:=i) (x:=V.int ns[i]) (by rw[bQ,aJ (by omega)];rfl)
   rw[e]at e2;cases e2
   exact⟨_,by rw[bQ,aJ (by omega)];rfl,q2⟩
  rw[bQ]at ex
  obtain⟨n,en,rfl⟩:=vw.mp ex
  obtain⟨t,rfl⟩:=q2
  exact⟨t,by show p5 n t=p5 (ns.getD i 0) t;rw[aK,en];rfl⟩
 ·rw[dP,<- hlen,UQ ns _ (bN _),tD]
  exact⟨.int _,H,I.kept (h':=h') (t':=tk) (Hb hk),⟨_,rfl⟩,q⟩
end
end L2
namespace L3
open PySem L2 PySem.Spec PyProof.Rows
section
variable{X:Cx}{F H:Hp}{e:Expr}{t:aY}{lo hi:Option Expr}{st:Expr}{tl th td:wj}{pos p2:Pos}
theorem HS:∀{a:List Int} {ws:List V},S F H (aL a) ws->ws=a.map V.int
 | [],_,s=>by cases s;rfl
 | b::bs,_,s=>by
  cases s with
  | int s=>rw[HS s];rfl
def lU:jZ:=λds Q=>match ds with
 | [.lst _ xs]=>∃a,xs=aL a/\Q (.int a.sum)
 | _=>False
theorem cU0(hc:X.calm=true):g8 X (.builtin "sum") lU:=g8.of (cb1 hc) λvs H Q zz=>by
 obtain⟨B,F,σ,δ,ts,ds,Qd,c,s,q,k⟩:=zz
 unfold lU at q
 split at q
 ·obtain⟨v,rfl,s1⟩:=lJ s
  obtain⟨a,rfl,q⟩:=q
  obtain⟨p,ws,rfl,h,t⟩:=m4 s1 c.ext rfl
  rw[HS t]at h
  exact⟨p,a,rfl,lK h,k _ _ _ q (ah.refl _) (c.pushS (.int .nil) rfl)⟩
 ·exact q.elim
def HU:Expr->Option Int
 | .Constant (.int i) _ _=>some i
 | _=>none
def CN:List Expr->Option (List Int)
 | []=>some []
 | e::es=>(HU e).bind λi=>(CN es).map (i :: ·)
theorem cm3{e:Expr}{i:Int}(h:HU e=some i):∃a b,e=.Constant (.int i) a b:=by
 cases e with
 | Constant c a b =>
  cases c with
  | int j=>cases h;exact⟨_,_,rfl⟩
  | _=>cases h
 | _=>cases h
def cV6(ns:List Int):dh:=λδ Q=>Q (aL ns) δ
theorem UR:∀(es:List Expr) (ns:List Int),CN es=some ns->PA X es (lO (cV6 ns))
 | [],ns,h=>by cases h;exact dJ
 | e::es,ns,h=>by
  obtain⟨i,hi,h2⟩:=Option.bind_eq_some_iff.mp (show(HU e).bind (λi=>(CN es).map (i :: ·))=some ns from h)
  obtain⟨ms,hm,rfl⟩:=vw.mp h2
  obtain⟨a,b,rfl⟩:=cm3 hi
  exact zT (e7 (aw (i:=i)) (UR es ms hm)) λ_ _ _ q=>q
def rH(ns:List Int):aY:=λδ Q=>ns.length<=sizeLine/\Q (.lst true (aL ns)) δ
theorem US{es:List Expr}{ns:List Int}(h:CN es=some ns):PE X (.List es pos) (lE (rH ns)) :=
 dO (eN (UR es ns h)) λ_ _ _ ⟨B,F,δ,ts,Qd,c,q,k⟩=>⟨B,F,δ,ts,Qd,c,by
  show(aL ns).length<=sizeLine/\_
  rw[lN];exact q,k⟩
theorem HV{n:Nat}{g:iW}{tb:cX}{En:ub}{δ:Dl}(Iv:Nat->Dl->Prop)(h0:Iv 0 δ)(ht:∀k ak,k<n->Iv k ak->g (.int k) ak λbh=>tb { En with nx:=Iv (k+1),ct:=Iv (k+1),bk:=En.nx } bh)
  (hf:∀ak,Iv n ak->En.nx ak):fF (BS (λ(k:Nat)=>D.int (0+(k:Int))) (aZ (n:Int).toNat)) g tb En δ:=by
 rw[fP]
 refine fF.mk Iv h0 (λi d ak hd iv=>?_) λak iv=>hf ak (by simpa using iv)
 rw[bQ]at hd
 obtain⟨k,hk,rfl⟩:=vw.mp hd
 have hi:i<n:=by have:=(jj.mp hk).1;simpa using this
 rw[ki hi]at hk
 cases hk
 rw[R1]
 exact ht i ak hi iv
theorem qv{xs:List D}{k:Int}{d:D}(h0:0<=k)(h:xs[k.toNat]?=some d):eM xs k=some d:=by
 unfold eM iQ
 have hk:k.toNat<xs.length:=(jj.mp h).1
 rw[if_pos h0,if_pos (by omega)]
 exact h
end
end L3
namespace L3
open PySem L2 PySem.Spec PyProof.Rows
abbrev rJ:=List D->(D->Prop)->(Addr->Prop)->Prop
def Aa(sp:rJ):Sp:=λvs H Q E=>∃F ds Qd Ed,ah F H/\R F H ds vs []/\sp ds Qd Ed/\(∀d v F' H' A,Qd d->ah H H'->ah F F'->ah F' H'->(∀a ws,F' a=some (.lst ws)->F a=some (.lst ws)\/H a=none)->R F' H' [d] [v] A->A.Nodup->(∀a∈A,H a=none)->Q v H') /\
 ∀C H',Ed C->ah H H'->E (.ref C) none H'
section
variable{P:Program}{w:World}{K:PySem.W.Frag}{mg:Str->Option Value}{base:Heap}
theorem UT{x qual:Str}{st:Stmt}{f:Addr}{fd:FuncData}{N ps:List Str}{k:Nat}{sp:rJ}(F:br K x qual st f fd)(S:bu N ps (az st))(len:∀ds Q E,sp ds Q E->ds.length=ps.length)
  (iP:∀(aI:Value) (A:Around) (outer:List Env) (s:Shared) (H:Hp) (E:XK),cM k (A.deeper (envOfC qual (az st) s.heap.objs.size f aI)) ->
   ∃t:cX,PSs (jv (oh P w) P w K mg base N qual (az st) f aI A outer s H E) (bq st) (lS (jv (oh P w) P w K mg base N qual (az st) f aI A outer s H E) t) /\
    ∀ds Q Ex,sp ds Q Ex->t { nx:=λ_=>Q .ay,rt:=Q,xc:=λC _=>Ex C,xr:=λC _=>Ex C } (jV N ds)):aQ P w K mg base (oh P w) (k+1) f fd ps (Aa sp):=by
 obtain⟨oc,od,kV,doc,pm,an,aI,ct,mK,rfl,lk,de⟩:=F.ex
 refine GU lk de S (λvs H Q E ⟨F,ds,Qd,Ed,e,r,h,_⟩=>by rw[<-r.length];exact len ds Qd Ed h) λA outer s H vs Q E hr zz=>?_
 obtain⟨F,ds,Qd,Ed,e,r,h,k,kx⟩:=zz
 obtain⟨t,ht,hq⟩:=iP aI A outer s H E hr
 have fin:∀d v ak aN F' H',Qd d->ax ⟨H,F⟩ F' H' aN ak [(d,v)]->Q v H':=λd v ak aN F' H' hd c=>by
  obtain⟨A,C,r',s',nd,fr⟩:=c.own
  exact k d v F' H' A hd c.b1 c.b2 c.ext c.b3 r' (iA.mp nd).1 λa ha=>fr a (gQ _ ha)
 have e1:L2.start N vs=vs.map some++bG (N.length-ds.length) none:=by unfold L2.start;rw[r.length]
 refine⟨_,ht,⟨H,F⟩,F,jV N ds,_,?_,hq ds Qd Ed h,λak aN F' H' hd c=>fin .ay .ay ak aN F' H' hd (c.pushS (.ay .nil) rfl),fin,λ_ _ _ _ z=>z.elim,λ_ _ _ _ z=>z.elim,λC ak pins aN F' H' s' a T hx c I tr pa pT=>?_,λC ak pins aN F' H' s' h' e vs hx c I hm=>?_⟩
 ·rw[e1]
  exact ax.start e r _
 ·exact bX7 I rfl rfl rfl tr pa pT λh' T' g=>⟨a,T',.ref C,H',rfl,I.os,I.bare,g.un,g.aO,g.zM,g.a0,g.a1,g.t0,g.t1,kx C H' hx c.b1⟩
 ·exact b75 I rfl rfl rfl hm λh' T' g=>⟨e,T',.ref C,H',rfl,I.os,I.bare,g.un,g.aO,g.zM,g.a0,g.a1,g.t0,g.t1,kx C H' hx c.b1⟩
end
section
variable{X:Cx}{n:Nat}{f:Addr}{fd:FuncData}{ps:List Str}{sp:rJ}{x:Str}{p pos:Pos}{e:Expr}{es:List Expr}{t:dh}{tx:ft3}
def rK(t:cX):cX:=λD δ=>t { D with xc:=λ_ _=>False,xr:=λ_ _=>False } δ
theorem cT2{st:Stmt}{u:cX}(h:PS X.gY st (lS X.gY u)):PS X st (lS X (rK u)):=by
 intro pins s σ H D I zz
 obtain⟨B,F,δ,Dd,c,q,k1,k2,k3,k4,xl⟩:=zz
 exact wpAny_mono (h pins s σ H D (I.ku _) ⟨B,F,δ,_,c,q,k1,k2,k3,k4,XL.none (λ_ _ z=>z) λ_ _ z=>z⟩) (λ_ _ q=>q.mG) λ_ _ z=>gg z
def rL(C:Addr)(t:dh):cX:=λD δ=>t δ λds ak=>ds.length<=9/\D.xr C ak
structure HW(K:PySem.W.Frag)(mg:Str->Option Value)(x:Str)(C:Addr):Prop where
 own:∀h:Heap,K.In h->h.Ns mainGlobals mg->∃newId Bn kI UU B UW UX CO,OwnCls x C CO newId mg h/\ExcBaseFacts Bn newId kI UU/\CO.contains (.type Bn)=true/\ExcBaseFacts B UW UX CO
theorem UY{C:Addr}{np cm:Pos}(hm:HW X.K X.mg x C)(hc:X.calm=true)(hg:Gl X x)(ha:PA X (e::es) (lA t))(fi:(x==("__debug__":Str))=false:=by decide)
  (he:starEach (e::es) X.env=(false,eval e X.env)::starEach es X.env:=by rfl) (bS:(backTo cm (starEach es X.env)).any (·.1)=false:=by rfl) :
  PS X (.Raise (some (.Call (.Name x np) (e::es) [] cm)) none pos) (lS X (rL C t)):=by
 intro pins s σ H D I zz
 obtain⟨B,F,δ,Dd,c,q,k1,k2,k3,k4,xl⟩:=zz
 obtain⟨newId,Bn,kI,UU,B',UW,UX,CO,O,Fn,hBn,FB⟩:=hm.own X.base I.ok.mod.nW I.ok.mod.glob
 obtain⟨tl,N,nm,qn,bs,hdct,sn,sub,ab,col,dd,k0,uh,wc,k3',k5,mN,hC,hN,rM,T⟩:=O.obj
 refine wpAny_Raise_call_subU (k5:=k5) (k3:=k3') (k2:=wc) (k1:=uh) (k0:=k0) (dd:=dd) (col:=col) (ab:=ab) (sub:=sub) (sn:=sn) (hdct:=hdct) (bs:=bs) (N:=N) (q:=qn) (nm:=nm) (C:=C) Fn hBn FB (mN:=mN) (T.hasType FB.hasBase) (I.ok.hd hc) (by rw[he];show(false||(backTo cm (starEach es X.env)).any (·.1))=false;rw[bS];rfl) rM (B8 I hg O.bound ⟨rfl,?_⟩ fi)
 have CP:=ha cm pins s σ H (λvs H1=>vs.length<=9/\∃ak F',Dd.xr C ak/\ax B F' H1 σ ak []) I ⟨B,F,δ,[],_,c,q,λds av vs F1 H1 q1 f1 h1 c1 s1=>⟨by rw[<-s1.length];exact q1.1,av,F1,q1.2,c1⟩⟩
 rw[he]at CP ⊢
 refine Calls.evalArgs_plain (wpAny_mono CP (λus s2 h2=>?_) λ_ _ y=>y)
 obtain⟨vs,H1,I1,r,hl,ak,F',hx,c'⟩:=h2
 exact⟨rfl,by rw[<-r.length];exact eH hl (by decide),I1.bk _ _ hC,hN.keeps I1.bk,T.keeps I1.bk,λh' e' hm'=>xl.2 C ak pins σ F' H1 s2 h' e' _ hx c' I1 hm'⟩
end
end L3
namespace L3
open PySem L2 PySem.Spec PyProof.Rows
section
variable{X:Cx}{pins Gu:List (Addr × Obj)}{σ:L2.St}{H:Hp}{s:Shared}{a:Addr}
end
section
variable{X:Cx}{tb th:cX}{body dJ5:List Stmt}{dJ6:Stmt}{K n:Str}{Kc:Addr}{i:Nat}{kp dJ7 pos:Pos}
end
end L3
namespace L3
open PySem L2 PySem.Spec PyProof.Rows
section
variable{X:Cx}{F H:Hp}{v:V}{a:Expr}{ta:aY}{p pos:Pos}
end
section
variable{K:PySem.W.Frag}{mg:Str->Option Value}{x:Str}{C:Addr}
theorem cP5(hm:mg x=some (.ref C))(q:PySem.W.excIn K C [.type "ValueError",.type "Exception",.type "BaseException",.type "object"] "ValueError.__new__"=true):HW K mg x C:=by
 refine⟨λh X G=>⟨"ValueError.__new__","ValueError",_,_,"ValueError",_,_,[.type "ValueError",.type "Exception",.type "BaseException",.type "object"],?_,PySem.F.excBase_ValueError,rfl,PySem.F.excBase_ValueError⟩⟩
 refine⟨hm,?_⟩
 unfold PySem.W.excIn at q
 split at q
 ·rename_i dd cd sl ho
  split at q
  ·rename_i C' bm k0 k1 k2 k3 n k5 hm hs
   simp only[eR,beq_iff_eq,Bool.not_eq_true']at q
   obtain⟨⟨⟨⟨⟨rfl,rfl⟩,UZ⟩,ht⟩,aO⟩,rM⟩:=q
   obtain⟨nm,bs,mro,ns,qn,hd,sn,sub,ab,col,del⟩:=cd
   dsimp only at hm UZ aO rM
   subst hm UZ
   have hsl:sl=#[k0,k1,k2,k3,some (.builtin "ValueError.__new__"),k5]:=by
    obtain⟨l⟩:=sl
    simp only at hs
    rw[hs]
   subst hsl
   exact⟨bm,ns,nm,qn,bs,hd,sn,sub,ab,col,dd,k0,k1,k2,k3,k5,_,X _ _ ho,.of_isNs (PySem.W.isNs_of_in X aO),PySem.W.nsMap_none_of_in X aO rM,PySem.W.tail_of_in X ht⟩
  ·cases q
 ·cases q
end
theorem HX{P:Program}{w:World}{X:Cx}:mJ (oh P w) X E0:=by
 rintro _ _ _ _ _ _ _ ⟨_,_,_,_,_,_,_,_,_,_,_,_,_,_,z⟩
 exact z.elim
theorem HY{P:Program}{w:World}{K:PySem.W.Frag}{mg:Str->Option Value}{base:Heap}{k:Nat}{f:Addr}{fd:FuncData}{ps:List Str}{sp:rJ}(h:aQ P w K mg base (oh P w) k f fd ps (Aa sp)) :
  aQ P w K mg base (oh P w) k f fd ps (bx λds Q=>sp ds Q λ_=>False) :=
 h.imp λvs H Q E ⟨F,ds,Qd,e,r,q,k⟩=>⟨F,ds,Qd,_,e,r,q,k,λ_ _ z=>z.elim⟩
end L3
namespace L3
open PySem L2 PySem.Spec PyProof.Rows
theorem uR{CX:fh}{P:Program}{w:World}{K:PySem.W.Frag}{mg:Str->Option Value}{base:Heap}{N:List Str}{q:Str}{sc:Scope}{f:Addr}{aI:Value}{A:Around}{outer:List Env}{s:Shared}{H:Hp}{E:XK}:(jv CX P w K mg base N q sc f aI A outer s H E).K=K:=rfl
theorem uS(φ:vW):(D.bO φ).pl=true:=rfl
theorem uT(φ:vW):(D.bO φ).sh=.bO φ:=rfl
end L3
namespace L3
open PySem L2 PySem.Spec PyProof.Rows
theorem uU{X:Cx}:X.gY.K=X.K:=rfl
end L3
namespace L3
open PySem L2 PySem.Spec PyProof.Rows
def dj(xs ys:List D):List D:=da (λx y=>D.tup [x,y]) xs ys
def fm(xs:List D):List D:=xs.mapIdx λi x=>D.tup [.int i,x]
theorem CQ(xs ys:List D):(dj xs ys).map D.sh=dj (xs.map D.sh) (ys.map D.sh):=by
 unfold dj
 rw[tG,tH]
 congr 1
theorem cG3{xs ys:List D}(h1:xs.all D.pl=true)(h2:ys.all D.pl=true):(dj xs ys).all D.pl=true:=by
 unfold dj
 rw[dw]at h1 h2 ⊢
 intro d hd
 obtain⟨i,hi,e⟩:=gy hd
 rw[dd8]at e
 subst e
 rw[jT]
 simp only[dW,qj,kj,eR]
 exact⟨h1 _ (cC _),h2 _ (cC _)⟩
theorem ci0(xs:List D):(fm xs).map D.sh=fm (xs.map D.sh):=by
 unfold fm
 apply FW
 intro i
 simp only[bQ,yV,Option.map_map]
 cases xs[i]? with
 | none=>rfl
 | some x =>
  show some (D.sh (.tup [.int i,x]))=some (D.tup [.int i,x.sh])
  rw[jU];rfl
theorem cm1{xs:List D}(h1:xs.all D.pl=true):(fm xs).all D.pl=true:=by
 unfold fm
 rw[dw]at h1 ⊢
 intro d hd
 obtain⟨i,hi,e⟩:=gy hd
 rw[List.getElem_mapIdx]at e
 subst e
 rw[jT]
 simp only[dW,qj,kj,eR]
 exact⟨rfl,h1 _ (cC _)⟩
theorem oU(xs:List D):(fm xs).length=xs.length:=by simp[fm]
theorem HZ(xs ys:List D):(dj xs ys).length=min xs.length ys.length:=by simp[dj]
section
variable{F H:Hp}{d:D}{v:V}{xs ys:List D}{ws us:List V}{p q:Addr}{K:PySem.W.Frag}
theorem Ia(s:S F H [d] [v])(e2:ah F H)(e:iX d=some xs):∃p ws,v=.ref p/\Rd H p (.lst ws)/\R H H (xs.map D.sh) ws []/\(d.pl=true->xs.all D.pl=true/\Rd F p (.lst ws)/\R F H xs ws []):=by
 cases s with
 | @shr p ws ys _ _ hp r _ =>
  obtain rfl:=cU e
  refine⟨p,ws,rfl,.inl (e2 _ _ hp),?_,λ_=>⟨r.pl,.inl hp,r⟩⟩
  rw[mO r.pl]
  exact r.shared e2 (ah.refl _)
 | @own p ws ys _ _ hp r _ =>
  obtain rfl:=cU e
  exact⟨p,ws,rfl,.inl hp,r.frozen e2,λz=>by simp[fj]at z⟩
 | @fz p o ws ys _ _ hp r _ =>
  obtain rfl:=cU e
  refine⟨p,ws,rfl,.inr ⟨o,e2 _ _ hp⟩,?_,λ_=>⟨r.pl,.inr ⟨o,hp⟩,r⟩⟩
  rw[mO r.pl]
  exact r.shared e2 (ah.refl _)
 | ay _=>cases e
 | bl _=>cases e
 | int _=>cases e
 | str _=>cases e
 | tup _ _ _=>cases e
 | obj _ _ _ _=>cases e
 | bO _ _=>cases e
theorem Ib(r:R F H xs ws []){i:Nat}(hi:i<xs.length){x:V}(hx:ws[i]?=some x):R F H [xs[i]] [x] []:=by
 obtain⟨v,A1,e2,r1,sub⟩:=r.get (aJ hi)
 rw[hx]at e2;cases e2
 have:A1=[]:=dd4.mpr λa ha=>by simpa using sub ha
 subst this
 exact r1
theorem U0(hp:Rd F p (.lst ws))(r:R F H xs ws [])(hq:Rd F q (.lst us))(t:R F H ys us [])(hF:Full F H):JD (Hi K p q) F (dj xs ys) where
 go:=λi H' hs hi=>by
  rw[HZ]at hi
  have l1:=r.length
  have l2:=t.length
  exact⟨ws,us,_,_,.inl (iU hp hs),.inl (iU hq hs),aJ (show i<ws.length by omega),aJ (show i<us.length by omega)⟩
 ky:=λi H' v H2 hs hi zz=>by
  obtain⟨T,x,y,e1,e2,e3,hx,hy⟩:=zz
  subst e1 e3
  have CS:=hi
  rw[HZ]at CS
  have h1:=Ib (r.full hF hs rfl) (show i<xs.length by omega) (hx ws (.inl (iU hp hs)))
  have h2:=Ib (t.full hF hs rfl) (show i<ys.length by omega) (hy us (.inl (iU hq hs)))
  have sm:=ah.upd (o:=.tup [x,y]) e2
  refine⟨_,aJ hi,sm,?_⟩
  have eg:(dj xs ys)[i]=.tup [xs[i]'(by omega),ys[i]'(by omega)]:=by simp[dj]
  rw[eg]
  exact R.tup (A:=[]) (B:=[]) cI ((h1.shared (ah.refl _) sm).cons (h2.shared (ah.refl _) sm)) .nil
 stop:=λi H' hs hi=>by
  rw[HZ]at hi
  have l1:=r.length
  have l2:=t.length
  exact⟨ws,us,.inl (iU hp hs),.inl (iU hq hs),by omega⟩
theorem U1(hp:Rd F p (.lst ws))(r:R F H xs ws [])(hF:Full F H):JD (Ho K p) F (fm xs) where
 go:=λi H' hs hi=>by
  rw[oU]at hi
  have l1:=r.length
  exact⟨ws,_,.inl (iU hp hs),aJ (show i<ws.length by omega)⟩
 ky:=λi H' v H2 hs hi zz=>by
  obtain⟨T,x,e1,e2,e3,hx⟩:=zz
  subst e1 e3
  have CS:=hi
  rw[oU]at CS
  have h1:=Ib (r.full hF hs rfl) CS (hx ws (.inl (iU hp hs)))
  have sm:=ah.upd (o:=.tup [.int i,x]) e2
  refine⟨_,aJ hi,sm,?_⟩
  have eg:(fm xs)[i]=.tup [.int i,xs[i]]:=by simp[fm]
  rw[eg]
  exact R.tup (A:=[]) (B:=[]) cI (.int (h1.shared (ah.refl _) sm)) .nil
 stop:=λi H' hs hi=>by
  rw[oU]at hi
  have l1:=r.length
  exact⟨ws,.inl (iU hp hs),by omega⟩
end
section
variable{X:Cx}{a b:Expr}{ta:dh}{p pos tV:Pos}{elts:List Expr}{x1:Nat}
def rN(t:dh):jW:=λδ Q=>t δ λds ak=>match ds with
 | [d1,d2]=>∃xs ys,iX d1=some xs/\iX d2=some ys/\Q (d1.pl&&d2.pl) (dj xs ys) ak
 | _=>False
theorem lV(hg:Gl X "zip")(hm:X.mg "zip"=none)(ha:PA X [a,b] (lA ta))(hs:starEach [a,b] X.env=[(false,eval a X.env),(false,eval b X.env)]:=by rfl)(js:starEach [b] X.env=[(false,eval b X.env)]:=by rfl) :
  PI X (.Tuple elts x1 tV) (.Call (.Name "zip" p) [a,b] [] pos) (lI (rN ta)) :=
 vZ (cN5 hg hm ha hs js) λσ H Q ⟨B,F,δ,ts,Qd,c,q,k⟩=>⟨B,F,δ,ts,_,c,q,λds av vs F1 H1 hd f1 h1 c1 s=>by
  match ds,hd,s with
  | [d1,d2],⟨xs,ys,i1,i2,hq⟩,s =>
   obtain⟨v1,cP,rfl,s1,s2⟩:=s.dE
   obtain⟨v2,ft4,rfl,s2,s3⟩:=s2.dE
   cases s3
   have e2:=c1.ext
   have sn:=ua e2
   obtain⟨p1,w1,rfl,r1,t1,u1⟩:=Ia s1 e2 i1
   obtain⟨p2,w2,rfl,r2,t2,u2⟩:=Ia s2 e2 i2
   refine⟨p1,p2,rfl,⟨w1,.inl r1⟩,⟨w2,.inl r2⟩,k _ _ av _ _ H1 hq (f1.trans sn) h1 c1.snap ?_ λz=>?_⟩
   ·rw[CQ]
    exact U0 r1 t1 r2 t2 (Full.refl _)
   ·rw[eR]at z
    obtain⟨a1,a2,a3⟩:=u1 z.1
    obtain⟨b1,b2,b3⟩:=u2 z.2
    exact⟨cG3 a1 b1,U0 (iU a2 sn) (a3.shared sn (ah.refl _)) (iU b2 sn) (b3.shared sn (ah.refl _)) vX⟩⟩
def rO(t:dh):jW:=λδ Q=>t δ λds ak=>match ds with
 | [d1]=>∃xs,iX d1=some xs/\Q d1.pl (fm xs) ak
 | _=>False
theorem rP(hg:Gl X "enumerate")(hm:X.mg "enumerate"=none)(ha:PA X [a] (lA ta))(hs:starEach [a] X.env=[(false,eval a X.env)]:=by rfl) :
  PI X (.Tuple elts x1 tV) (.Call (.Name "enumerate" p) [a] [] pos) (lI (rO ta)) :=
 vZ (cA1 hg hm ha hs) λσ H Q ⟨B,F,δ,ts,Qd,c,q,k⟩=>⟨B,F,δ,ts,_,c,q,λds av vs F1 H1 hd f1 h1 c1 s=>by
  match ds,hd,s with
  | [d1],⟨xs,i1,hq⟩,s =>
   obtain⟨v1,cP,rfl,s1,s2⟩:=s.dE
   cases s2
   have e2:=c1.ext
   have sn:=ua e2
   obtain⟨p1,w1,rfl,r1,t1,u1⟩:=Ia s1 e2 i1
   refine⟨p1,rfl,⟨w1,.inl r1⟩,k _ _ av _ _ H1 hq (f1.trans sn) h1 c1.snap ?_ λz=>?_⟩
   ·rw[ci0]
    exact U1 r1 t1 (Full.refl _)
   ·obtain⟨a1,a2,a3⟩:=u1 z
    exact⟨cm1 a1,U1 (iU a2 sn) (a3.shared sn (ah.refl _)) vX⟩⟩
end
end L3
namespace L3
open PySem L2 PySem.Spec PyProof.Rows
section
variable{X:Cx}{F H:Hp}{e b:Expr}{pos p p2 p3 pr apos cm HR:Pos}{t ti te:aY}{x y:Str}{i j:Nat}
theorem Ic{α:Type}{xs:List α}{k:Nat}{v:α}(h:xs[k]?=some v):eM xs (k:Int)=some v:=by
 unfold eM iQ
 have hk:k<xs.length:=(jj.mp h).1
 rw[if_pos (by omega),if_pos (by omega)]
 exact h
end
section
variable{X:Cx}{CX:fh}{k:Nat}{f:Addr}{fd:FuncData}{ps:List Str}{sp:bB}{E:XK}{fn x1 x2 y1 y2:Str}{i1 i2 j1 j2:Nat}{tk:Nat}
 {tp t1 t2 zp ft5 q1 q2 fp ft6 a1 a2 dK3 ft7 ft8 cp HR pr apos cm ft9 pos:Pos}
end
end L3
namespace L3
open PySem L2 PySem.Spec PyProof.Rows
theorem ax.dK4{B:Bs}{F H:Hp}{σ:L2.St}{δ:Dl}{ts:List (D × V)}{a b:D}{v:V}(c:ax B F H σ δ ((.tup [a,b],v)::ts)):∃p u w,v=.ref p/\H p=some (.tup [u,w])/\ax B F H σ δ ((a,u)::(b,w)::ts):=by
 obtain⟨A,C,r,s,nd,fr⟩:=c.own
 cases r with
 | @tup p ws xs A1 _ _ B1 hp r1 r2 =>
  obtain⟨u,gr,A2,A3,rfl,rfl,h1,h2⟩:=r1.dE
  obtain⟨w,fu0,A4,A5,rfl,rfl,h3,h4⟩:=h2.dE
  cases h4
  refine⟨p,u,w,rfl,hp,c.ext,c.b1,c.b2,c.b3,A2++(A4++B1),C,h1.cons (h3.cons r2),s,?_,?_⟩
  ·simpa using nd
  ·intro a ha;exact fr a (by simpa using ha)
section
variable{X:Cx}{y1 y2:Str}{i1 i2 tk m:Nat}{t1 t2 tp:Pos}
def iD(i1 i2:Nat):iW:=λd δ Q=>match d with
 | .tup [a,b]=>Q ((δ.set i1 (some a)).set i2 (some b))
 | _=>False
theorem gw(hc:X.calm=true)(U2:X.N.Nodup)(m1:X.N[i1]?=some y1)(l1:Loc X.env.scope y1)(m2:X.N[i2]?=some y2)(l2:Loc X.env.scope y2)(hm1:m<=i1:=by decide)(UL:m<=i2:=by decide)
  (f1:X.fn y1=true\/X.env.scope.names.lookup y1=some .local:=by first | exact .inl rfl | exact .inr rfl | assumption) (f2:X.fn y2=true\/X.env.scope.names.lookup y2=some .local:=by first | exact .inl rfl | exact .inr rfl | assumption)
  (hag:(assignEach [.Name y1 t1,.Name y2 t2] X.env).map (·.2)=assign (.Name y1 t1) X.env::(assignEach [.Name y2 t2] X.env).map (·.2):=by rfl) (dK6:(assignEach [.Name y2 t2] X.env).map (·.2)=assign (.Name y2 t2) X.env::(assignEach [] X.env).map (·.2):=by rfl)
  (hn:(assignEach [.Name y1 t1,.Name y2 t2] X.env).length=2:=by rfl) (dH:(assignEach [.Name y1 t1,.Name y2 t2] X.env).findIdx? (·.1)=none:=by rfl) :
  PG X (.Tuple [.Name y1 t1,.Name y2 t2] tk tp) (lG m (iD i1 i2)) :=
 Uj (cP8 hc (Sz (Ce U2 m1 l1 f1) (Sz (Ce U2 m2 l2 f2) cC2 dK6) hag) hn dH) λv σ H Q zz=>by
  obtain⟨B,F,δ,ts,d,Qd,c,q,k⟩:=zz
  obtain⟨a,b,rfl,q⟩:∃a b,d=D.tup [a,b]/\Qd ((δ.set i1 (some a)).set i2 (some b)):=by
   unfold iD at q
   split at q
   ·exact⟨_,_,rfl,q⟩
   ·exact q.elim
  obtain⟨p,u,w,rfl,hp,c2⟩:=c.dK4
  refine⟨p,[u,w],rfl,ir.of hp,rfl,u,[w],rfl,w,[],rfl,rfl,k _ _ q (by simp) (λj hj=>?_) ((c2.store i1).store i2)⟩
  rw[vn (by omega),vn (by omega)]
end
open Classical in
theorem dY{α:Type}{sh:Bool}{xs:List D}{aH:List (Str × Nat)}{n m:Nat}{te:aY}{av:Dl}{Q:D->Dl->Prop}(l:List α)(e g:α->D)(iE:xs.map D.sh=l.map e)(inj:∀a b,e a=e b->a=b)
  (hx:∀a∈l,te ((fV aH n av).set m (some (e a))) λd _=>d=g a) (e5:(sh&&aH.all (iB av))=true\/∀a∈l,(g a).fr=true) (hl:l.length<=sizeLine) (hq:Q (.lst true (l.map g)) av):v3 sh xs aH n (gN m) kH te av Q:=by
 let f:D->D:=λx=>if h:∃a∈l,e a=x then g h.choose else .ay
 have hf:∀a∈l,f (e a)=g a:=λa ha=>by
  have h:∃b∈l,e b=e a:=⟨a,ha,rfl⟩
  show(if h:∃b∈l,e b=e a then g h.choose else .ay)=g a
  rw[dif_pos h]
  exact congrArg g (inj _ _ h.choose_spec.2)
 refine cj1 f (λx h=>?_) (e5.imp id λh x hx=>?_) ?_ ?_
 ·rw[iE]at h
  obtain⟨a,ha,rfl⟩:=bF.mp h
  rw[hf a ha];exact hx a ha
 ·rw[iE]at hx
  obtain⟨a,ha,rfl⟩:=bF.mp hx
  rw[hf a ha];exact h a ha
 ·have:=congrArg FA iE
  simp at this
  omega
 ·rw[iE,cg,show l.map (f ∘ e)=l.map g from nQ λa ha=>hf a ha]
  exact hq
end L3
namespace L3
open PySem L2 PySem.Spec PyProof.Rows
end L3
namespace L2
open PySem PySem.Spec PyProof.Rows
section
variable{X:Cx}
end
end L2
namespace L3
open PySem L2 PySem.Spec PyProof.Rows
abbrev tx(l:List Nat):D:=.str ⟨l.toArray⟩
section
variable{X:Cx}{F H:Hp}{e:Expr}{es:List Expr}{t:aY}{pos p p2 apos cm:Pos}
def oV(x:D)(lo hi:Option Int)(Q:D->Prop):Prop:=match x with
 | .lst _ xs=>xs.all D.pl=true/\Q (.lst true (fk xs lo hi))
 | .fz xs=>Q (.lst true (fk xs lo hi))
 | .str z=>z.length<=sizeLine/\Q (tx (fk z.cps.toList lo hi))
 | _=>False
def rQ(t:aY)(tl th:wj):aY:=λδ Q=>t δ λx av=>tl av λl bh=>th bh λu iV=>oV x l u λd=>Q d iV
theorem uV{lo hi:Option Expr}{tl th:wj}(he:PE X e (lB t))(hl:PO X lo (lP tl))(hu:PO X hi (lP th)):PE X (.Subscript e (.Slice lo hi none p2) pos) (lE (rQ t tl th)) :=
 dO (cn7 (du1.or cK0) he hl hu) λσ H Q ⟨B,F,δ,ts,Qd,c,q,k⟩=>⟨B,F,δ,ts,_,c,q,λx av v F1 H1 q1 f1 h1 c1 s1=>⟨B,F1,av,ts,_,c1,q1,λl bh F2 H2 q2 f2 h2 c2=>⟨B,F2,bh,ts,_,c2,q2,λu iV F3 H3 q3 f3 h3 c3=>by
  have oN:=s1.mono (f2.trans f3) (h2.trans h3)
  unfold oV at q3
  split at q3
  ·obtain⟨p,ws,rfl,h,t⟩:=m4 oN c3.ext rfl
   exact .inl ⟨p,ws,rfl,lK h,λr hr=>k _ iV _ F3 _ q3.2 ((f1.trans f2).trans f3) (((h1.trans h2).trans h3).trans (ah.upd hr)) (c3.qD hr (t.cut _ _) (UN q3.1 _ _))⟩
  ·obtain⟨p,ws,rfl,h,t⟩:=m4 oN c3.ext rfl
   cases oN with
   | fz h' r _=>exact .inl ⟨_,_,rfl,lK (.inr ⟨_,c3.ext _ _ h'⟩),λr' hr=>k _ iV _ F3 _ q3 ((f1.trans f2).trans f3) (((h1.trans h2).trans h3).trans (ah.upd hr)) (c3.qD hr (r.s.cut _ _) (UN r.pl _ _))⟩
  ·cases oN with
   | str _=>exact .inr ⟨_,rfl,q3.1,k _ iV _ F3 H3 q3.2 ((f1.trans f2).trans f3) ((h1.trans h2).trans h3) (c3.pushS (.str .nil) rfl)⟩
  ·exact q3.elim⟩⟩⟩
end
theorem uW(a:List Nat):(⟨a.toArray⟩:Str).length=a.length:=by show a.toArray.size=_;simp
end L3
namespace L3
open PySem L2 PySem.Spec PyProof.Rows
def aq(l:List Nat):List D:=aL (l.map λ(n:Nat)=>(n:Int))
theorem eA(l:List Nat):(aq l).length=l.length:=by unfold aq;rw[lN,bt]
theorem cy(l:List Nat):aq l=l.map λ(n:Nat)=>D.int (n:Int):=by unfold aq aL;rw[cg];rfl
theorem m9(l:List Nat):(aq l).map D.sh=l.map λ(n:Nat)=>D.int (n:Int):=by unfold aq;rw[jF];exact cy l
theorem g9(a b:Nat)(h:D.int (a:Int)=D.int (b:Int)):a=b:=by injection h with h;omega
theorem kJ(l:List Nat):(aq l).all D.pl=true:=lQ _
theorem nh(l:List Nat):(aq l).map D.sh=aq l:=jF _
theorem oW(a b:List Nat):aq a++aq b=aq (a++b):=by unfold aq;rw[oR,gi]
theorem uX(l:List Nat)(lo hi:Option Int):fk (aq l) lo hi=aq (fk l lo hi):=by
 unfold aq
 rw[rG]
 congr 1
 unfold fk
 rw[bt,RY,RX]
theorem U3{α:Type}(xs:List α)(b:Nat):fk xs none (some (b:Int))=xs.take b:=by
 have:=cB9 xs 0 b
 unfold fk at this ⊢
 simpa[HT.dq]using this
theorem CT{α:Type}(xs:List α)(a:Nat):fk xs (some (a:Int)) none=xs.drop a:=by
 unfold fk
 rw[HT.GW]
 show(xs.drop (min a xs.length)).take (xs.length-min a xs.length)=_
 by_cases h:a<=xs.length
 ·rw[Nat.min_eq_left h,tE (by rw[jl];exact bN _)]
 ·rw[Nat.min_eq_right (by omega),List.drop_length,RZ (by omega)];simp
end L3
namespace L2
open PySem PySem.Spec PyProof.Rows
section
variable{X:Cx}{tg l o e:Expr}{tl to te:TE}{apos cm:Pos}
end
end L2
namespace L3
open PySem L2 PySem.Spec PyProof.Rows
section
variable{X:Cx}{F H:Hp}{tg l e:Expr}{te t tb:aY}{apos cm pos:Pos}
variable{o:Expr}
def kI:cQ:=λx y Q=>match x,y with
 | .int i,.lst _ xs=>∃ns:List Int,xs=aL ns/\Q (.bl (decide (i∈ns)))
 | _,_=>False
theorem CU:∀{ns:List Int} {ws:List V},S F H (aL ns) ws->ws=ns.map V.int
 | [],_,s=>by cases s;rfl
 | n::ns,_,s=>by
  cases s with
  | int s=>rw[CU s];rfl
theorem cS2:bU X (compareOp .In) kI :=
 ⟨_,b86,λ{B F H σ δ ts x y v w Q Qd} c sx sy h k=>by
  unfold kI at h
  split at h
  ·rename_i i o xs
   obtain⟨ns,rfl,q⟩:=h
   obtain⟨p,ws,rfl,e1,s1⟩:=iZ sy c.ext
   have e:=CU s1
   subst e
   cases sx
   refine⟨p,_,rfl,.inl (bR.of e1),rfl,by simp[mL],?_⟩
   have ei:tZ (.int i) (ns.map V.int)=decide (i∈ns):=by
    unfold tZ
    rw[R3,tw,FL,decide_eq_true_iff]
    constructor
    ·rintro⟨x,hx,he⟩
     have:x=i:=by simpa[kB]using he
     rw[<-this];exact hx
    ·intro hx
     exact⟨i,hx,by simp[kB]⟩
   show Q (.bl (if false then _ else tZ (.int i) (ns.map V.int))) H
   rw[if_neg (by decide),ei]
   exact k _ _ _ q (ah.refl _) (c.pushS (.bl .nil) rfl)
  ·exact h.elim⟩
end
end L3
namespace L3
open PySem L2 PySem.Spec PyProof.Rows
end L3
namespace L2
open PySem PySem.Spec PyProof.Rows
def Tb(ts:List Addr)(H:Hp):Prop:=∀P∈ts,∃ps,H P=some (.dN ps)
structure wm(ts:List Addr)(H:Hp):Prop where
 any:∀b,H b=none\/(∃o xs,H b=some (.cu o (.lst xs)))\/(b∈ts/\H b=some (.dN #[]))
 tab:∀P∈ts,H P=some (.dN #[])
theorem wm.tb{ts:List Addr}{H:Hp}(h:wm ts H):Tb ts H:=λP hP=>⟨#[],h.tab P hP⟩
def Bm(mg:Str->Option Value)(base:Heap):Prop:=∃bm o,mg "__builtins__"=some (.ref bm)/\bm≠builtinsNs/\bm≠mainGlobals/\base.get? bm=some o/\o.cls=.type "module"/\o.dict=some builtinsNs/\o.data=.plain
theorem bX9{P:Program}{w:World}{K:PySem.W.Frag}{mg mb:Str->Option Value}{CX:fh}{k:Nat}{fa a:Addr}{fd:FuncData}{x:Str}{sp:Sp}{bL:Shared}{vs:List Value}{ns:List Int}{ts:List Addr}
  (KX:K.In bL.heap) (CV:bL.heap.Ns mainGlobals mg) (hb:bL.heap.Ns builtinsNs mb) (hbb:∀x:Str,x≠"__name__"->mb x=bootBuiltins x) (dL0:bL.heap.NoLimit) (hg:bL.gens=#[])
  (ht:∀P∈ts,bL.heap.get? P=some (PySem.W.tabObj #[])) (Ie:∀P∈ts,isCodeTable bL.heap P) (hkt:∀P∈ts,K.lookup P=none)
  (ha:bL.heap.get? a=some { cls:=.type "list",data:=.seq vs.toArray }) (hi:IntsAre vs ns) (hl:ns.length<=sizeLine) (hr:cM k callerA)
  (Ab:Bm mg bL.heap) (F:∀base:Heap,K.In base->base.Ns mainGlobals mg->Bm mg base->aQ P w K mg base CX k fa fd [x] sp) (dL2:∀(s:Shared) (u:Value),BindsTo s fd ⟨[u],[]⟩ [(x,u)])
  (jw:∀H:Hp,wm ts H->bR K H a (ns.map V.int)->sp [.ref a] H (λv _=>v=.bl true) λ_ _ _=>False)
  (Ig:∀H e s',CX [] H bL (λ_ _ _=>False) e s'->False) :
  codeAny (model P w) callerA (.call (.ref fa) ⟨[.ref a],[]⟩) (λr s'=>r=.ok (.ret (.bool true))/\OldK bL.heap s'.heap/\s'.os=bL.os/\AllBare s'.gens) bL:=by
 have rv:=Tj hi
 have dL3:=hi.length
 have nat:a ∉ ts:=λz=>by
  have:=ht a z
  rw[ha]at this
  cases this
 have core:∀H:Hp,wm ts H->bR K H a (ns.map V.int)->cV P w H bL.heap->(∀b,H b≠none->b=a\/b∈ts)->(H a≠none->K.lookup a=none) ->
   codeAny (model P w) callerA (.call (.ref fa) ⟨[.ref a],[]⟩) (λr s'=>r=.ok (.ret (.bool true))/\OldK bL.heap s'.heap/\s'.os=bL.os/\AllBare s'.gens) bL:=by
  intro H hO hS aO hA hK
  have Ih:∀{b:Addr} {o:Obj},bL.heap.get? b=some o->H b=none->(mD bL.heap H).get? b=some o:=λe n=>cj9 e n
  have zB:∀{b:Addr} {o:Obj} {es:Array DictEntry} {ep:Nat},bL.heap.get? b=some o->o.data=.dict es ep->H b=none:=λ{b o es ep} e d=>by
   cases q:H b with
   | none=>rfl
   | some u =>
    rcases hA b (by rw[q];simp)with e' | e'
    ·subst e'
     rw[ha]at e;cases e
     have d':Data.seq vs.toArray _=Data.dict es ep:=d
     cases d'
    ·rw[ht b e']at e;cases e
     have d':Data.fields #[]=Data.dict es ep:=d
     cases d'
  have CW:∀{b:Addr} {m:Str->Option Value},bL.heap.Ns b m->(mD bL.heap H).Ns b m:=λ{b m} ⟨o,es,ep,e,d,r⟩=>⟨o,es,ep,Ih e (zB e d),d,r⟩
  have U4:K.In (mD bL.heap H):=λb o e=>Ih (KX b o e) (by
   cases q:H b with
   | none=>rfl
   | some u =>
    rcases hA b (by rw[q];simp)with e' | e'
    ·subst e'
     rw[hK (by rw[q];simp)]at e;cases e
    ·rw[hkt b e']at e;cases e)
  have hBm:Bm mg (mD bL.heap H):=by
   obtain⟨bm,o,b1,b2,b3,b4,b5,b6,b7⟩:=Ab
   refine⟨bm,o,b1,b2,b3,Ih b4 ?_,b5,b6,b7⟩
   cases q:H bm with
   | none=>rfl
   | some u =>
    rcases hA bm (by rw[q];simp)with e' | e'
    ·rw[e',ha]at b4;cases b4
     have d':Data.seq vs.toArray _=Data.plain:=b7
     cases d'
    ·rw[ht bm e']at b4;cases b4
     have d':Data.fields #[]=Data.plain:=b7
     cases d'
  have hM:Mod K mg (mD bL.heap H):=⟨U4,CW CV,⟨mb,CW hb,hbb⟩,let⟨mc,h1,h2⟩:=dL0;⟨mc,CW h1,h2⟩⟩
  have e0:ju P w K mg (mD bL.heap H) callerA [] bL H:=⟨rfl,hM,λb o e=>cE8 e,BJ (ce2 _ _),trivial,λb hb=>absurd (show b∈([]:List Addr) from hb) (by simp),aO,.of_eq hg⟩
  refine codeAny_mono ((F _ U4 (CW CV) hBm).run callerA [] bL H ⟨[.ref a],[]⟩ [.ref a] [.ref a] _ _ hr e0 (dL2 bL (.ref a)) (.cons rfl .nil) (jw H hO hS)) λr s' h=>?_
  cases r with
  | error e=>exact(Ig H e s' h).elim
  | ok fl =>
   cases fl with
   | next=>exact gg h
   | brk=>exact gg h
   | cont=>exact gg h
   | ret u =>
    obtain⟨v,H',os,bare,un,U5,r',q⟩:=h
    have q':v=.bl true:=q
    subst q'
    obtain rfl:u=Fy true:=r'
    have each:∀b o,bL.heap.get? b=some o->asItWas bL.heap s'.heap b o/\∃o',s'.heap.get? b=some o':=λb o e=>by
     cases q:H b with
     | none =>
      have z:=un.keep b o e q (by intro z;exact absurd (show b∈([]:List Addr) from z) (by simp)) (by simp)
      exact⟨.inl z,o,z⟩
     | some u =>
      rcases hO.any b with z | ⟨ob,xs,z⟩ | ⟨j4,z⟩
      ·rw[q]at z;cases z
      ·have z2:=un.jO b ob _ z
       obtain⟨e1,_⟩:=aO b _ z
       obtain⟨e2,_⟩:=U5 b _ z2
       rw[e]at e1;cases e1
       exact⟨.inl e2,_,e2⟩
      ·obtain⟨more,z2⟩:=un.iN b _ z
       have e2:=(U5 b _ z2).1
       rw[ht b j4]at e;cases e
       exact⟨.inr (.inl ⟨Ie b j4,rfl,#[],more,rfl,e2⟩),_,e2⟩
    exact⟨rfl,⟨λb o e=>(each b o e).1,λb o e=>(each b o e).2⟩,os,bare⟩
 have tok:∀(H:Hp) (b:Addr),b∈ts->eI P w H bL.heap b (.dN #[]):=λH b hb=>⟨ht b hb,trivial,λpos cv q=>by cases q⟩
 cases hk:K.lookup a with
 | some o =>
  have e:=KX a o hk
  rw[ha]at e
  cases e
  refine core (λb=>if b∈ts then some (.dN #[])else none) ⟨λb=>?_,λb hb=>if_pos hb⟩ (.inr ⟨_,vs.toArray,_,hk,rfl,rfl,rfl,by rw[dP,dL3];exact hl,by simpa using rv⟩) (λb u z=>?_) (λb z=>?_) λz=>absurd (if_neg nat) z
  ·by_cases hb:b∈ts
   ·exact .inr (.inr ⟨hb,if_pos hb⟩)
   ·exact .inl (if_neg hb)
  ·by_cases hb:b∈ts
   ·have z':=(if_pos hb).symm.trans z
    cases z'
    exact tok _ b hb
   ·have z':=(if_neg hb).symm.trans z
    cases z'
  ·by_cases hb:b∈ts
   ·exact .inr hb
   ·exact absurd (if_neg hb) z
 | none =>
  refine core (λb=>if b=a then some (.cu { cls:=.type "list",data:=.seq vs.toArray } (.lst (ns.map V.int)))else if b∈ts then some (.dN #[])else none) ⟨λb=>?_,λb hb=>?_⟩ (.inl (.inr ⟨{ cls:=.type "list",data:=.seq vs.toArray },if_pos rfl⟩)) (λb u z=>?_) (λb z=>?_) λ_=>hk
  ·by_cases hb:b=a
   ·exact .inr (.inl ⟨_,_,if_pos hb⟩)
   ·by_cases j4:b∈ts
    ·exact .inr (.inr ⟨j4,(if_neg hb).trans (if_pos j4)⟩)
    ·exact .inl ((if_neg hb).trans (if_neg j4))
  ·have t8:b≠a:=λz=>nat (z ▸ hb)
   exact(if_neg t8).trans (if_pos hb)
  ·by_cases hb:b=a
   ·have z':=(if_pos hb).symm.trans z
    cases z'
    subst hb
    exact⟨ha,by rw[bt];exact hl,vs,_,rv,ha⟩
   ·by_cases j4:b∈ts
    ·have z':=((if_neg hb).trans (if_pos j4)).symm.trans z
     cases z'
     exact tok _ b j4
    ·have z':=((if_neg hb).trans (if_neg j4)).symm.trans z
     cases z'
  ·by_cases hb:b=a
   ·exact .inl hb
   ·by_cases j4:b∈ts
    ·exact .inr j4
    ·exact absurd ((if_neg hb).trans (if_neg j4)) z
theorem dL5{l:PySem.W.OpenLaw}{n k:Nat}{q:Program}{loose:List Str}{XP:(Str->Option Value)->Heap->Prop}{YP:World->Heap->Prop}{d:DefRec}{K:Params->PySem.W.Frag}{CX:World->fh}{sp:World->Sp}{x:Str}{ts:List Addr}
  (hn:l.most=some n) (Cj:n<=sizeLine) (zG:d.params.defaults=[]) (hr:cM k callerA)
  (hY:∀(w:World) (h:Heap),YP w h->(K w.params).In h/\∀P∈ts,h.get? P=some (PySem.W.tabObj #[]))
  (hC:∀(w:World) (h:Heap),(K w.params).In h->∀P∈ts,(K w.params).lookup P=none/\∃c,PySem.W.CodeHd h c P)
  (F:∀(w:World) (mg:Str->Option Value) (fa:Addr) (h:Heap),(K w.params).In h->h.Ns mainGlobals mg->mg d.name=some (.ref fa) ->
   ∃fd:FuncData,(∀(s:Shared) (u:Value),BindsTo s fd ⟨[u],[]⟩ [(x,u)]) /\
    ∀base:Heap,(K w.params).In base->base.Ns mainGlobals mg->Bm mg base->aQ l.prog w (K w.params) mg base (CX w) k fa fd [x] (sp w))
  (jw:∀(w:World) (H:Hp) (a:Addr) (ns:List Int),ns.length<=n->wm ts H->bR (K w.params) H a (ns.map V.int)->sp w [.ref a] H (λv _=>v=.bl true) λ_ _ _=>False)
  (Ig:∀(w:World) (H:Hp) (s:Shared) (e:Value) (s':Shared),CX w [] H s (λ_ _ _=>False) e s'->False) :
  PySem.W.WalkO q loose XP YP l.row.toRowW d [] (λf vs=>PySem.call f vs):=by
 refine Att.dw7 hn zG λw cW bL mg mb fa o pm cd doc a vs ns G Y ho hd de zH G3 hints hlen hg=>?_
 obtain⟨KX,hT⟩:=hY w _ Y
 obtain⟨fd,hb,hF⟩:=F w mg fa _ KX G.T.g zH
 have Ie:∀P∈ts,isCodeTable bL.heap P:=λP hP=>by
  obtain⟨_,c,C⟩:=hC w _ KX P hP
  exact(C.tab (hT P hP)).isCodeTable
 have Ab:Bm mg bL.heap:=by
  obtain⟨bm,ob,b1,b2,b3,b4,b5,b6⟩:=G.T.bmain
  refine⟨bm,ob,b1,b2,λq=>?_,b3,b4,b5,b6⟩
  obtain⟨o,es,ep,e,hd,_⟩:=G.T.g
  rw[q,e]at b3;cases b3;rw[hd]at b6;cases b6
 exact bX9 KX G.T.g G.T.b G.T.builtins G.T.nolimit hg hT Ie (λP hP=>(hC w _ KX P hP).1) G3 hints (eH hlen Cj) hr Ab hF hb (λH hO hS=>jw w H a ns hlen hO hS) λH e s'=>Ig w H bL e s'
end L2
namespace L3
open PySem L2 PySem.Spec PyProof.Rows
def Ac(ts:List Addr)(sp:Sp):Sp:=λvs H Q E=>Tb ts H/\sp vs H Q E
theorem U6{X:Cx}{pins:List (Addr × Obj)}{σ:L2.St}{H:Hp}{s:Shared}{ts:List Addr}(I:Inv X pins σ H s)(h:Tb ts X.kQ):Tb ts H:=λP hP=>by
 obtain⟨ps,e⟩:=h P hP
 obtain⟨m,e2⟩:=I.base.iN P ps e
 exact⟨_,e2⟩
def CY(ts:List Addr)(K:PySem.W.Frag):Sp:=λvs H Q _=>∃(a:Addr) (ns:List Int),vs=[.ref a]/\wm ts H/\bR K H a (ns.map V.int)/\ns.length<=63/\∀H',Q (.bl true) H'
theorem ck5{ts:List Addr}{K:PySem.W.Frag}(nl:K.all (λp=>HQ p.2)=true){vs:List V}{H:Hp}{Q:VK}{E:XK}(h:CY ts K vs H Q E):Ac ts (bx UO) vs H Q E:=by
 obtain⟨a,ns,rfl,hO,hS,hl,q⟩:=h
 have hz:∃o,H a=some (.cu o (.lst (ns.map V.int))):=by
  rcases hS with (hS | hS) | ⟨o,its,n,hk,hc,_⟩
  ·rcases hO.any a with z | ⟨o,xs,z⟩ | ⟨_,z⟩
   ·rw[hS]at z;cases z
   ·rw[hS]at z;cases z
   ·rw[hS]at z;cases z
  ·exact hS
  ·have hm:=bN6 hk
   have:=dw.mp nl _ hm
   simp[HQ,hc]at this
 obtain⟨o,ho⟩:=hz
 refine⟨hO.tb,H,[.fz (aL ns)],λd=>d=.bl true,ah.refl _,.fz ho (lM ns) .nil,⟨ns,rfl,hl,rfl⟩,λd v F' H' A hd hs hf he h3 r nd fr=>?_⟩
 subst hd
 cases r
 exact q H'
end L3
namespace L2
open PySem PySem.Spec PyProof.Rows
def rem(H:Hp)(f c:Addr):Hp:=λb=>if b=f\/b=c then none else H b
def oX(H H':Hp)(f c:Addr):Hp:=λb=>if b=f\/b=c then H b else H' b
section
variable{P:Program}{w:World}{H H':Hp}{h:Heap}{a b f c:Addr}{o:HO}{of oc:Obj}
theorem U7:rem H f c f=none:=if_pos (.inl rfl)
theorem CZ:rem H f c c=none:=if_pos (.inr rfl)
theorem iF(h1:b≠f)(h2:b≠c):rem H f c b=H b:=if_neg (by simp[h1,h2])
theorem wo(e:H b=none):rem H f c b=none:=by unfold rem;split;rfl;exact e
theorem U8(e:rem H f c b=some o):b≠f/\b≠c/\H b=some o:=by
 unfold rem at e
 split at e
 ·cases e
 ·rename_i n
  exact⟨λz=>n (.inl z),λz=>n (.inr z),e⟩
theorem rR(h1:b≠f)(h2:b≠c):oX H H' f c b=H' b:=if_neg (by simp[h1,h2])
theorem U9:oX H H' f c f=H f:=if_pos (.inl rfl)
theorem Ii:oX H H' f c c=H c:=if_pos (.inr rfl)
theorem eI.rem{φ:Heap->Prop}(x:eI P w H h a o)(ha:a≠f)(hf:H f=some (.ext φ))(hc:H c=some (.own f)\/H c=none)(Ij:¬ ∀h',φ h'->∃q,h'.CodeRec (.ref f) q):eI P w (rem H f c) h a o:=by
 have own:∀b,H b=some (.own a)->L2.rem H f c b=some (.own a):=λb e=>by
  rw[iF (λz=>by subst z;rw[hf]at e;cases e) (λz=>by subst z;rcases hc with hc | hc<;>(rw[hc]at e;cases e);exact ha rfl)];exact e
 have tup:∀b xs,H b=some (.tup xs)->L2.rem H f c b=some (.tup xs):=λb xs e=>by
  rw[iF (λz=>by subst z;rw[hf]at e;cases e) (λz=>by subst z;rcases hc with hc | hc<;>(rw[hc]at e;cases e))];exact e
 induction o with
 | lst xs=>exact x
 | tup xs=>exact x
 | dK dQ=>exact x
 | dT dQ =>
  obtain⟨z,y,xs,r,ob⟩:=x
  exact⟨z,y,xs,Paired.Gm r λp q z=>⟨z.1,tup _ _ z.2.1,z.2.2⟩,ob⟩
 | set S n=>exact x
 | ins C dx fs =>
  obtain⟨d,r⟩:=x
  exact⟨own _ d,r⟩
 | own y=>exact x
 | xd fs=>exact x
 | zb lo hi=>exact x
 | cu ob u ih=>obtain⟨e,q⟩:=x;exact⟨e,ih q⟩
 | dN ps =>
  obtain⟨e,t,cc⟩:=x
  refine⟨e,t,λpos cv q=>?_⟩
  obtain⟨d,φ,e1,e2,e3⟩:=cc pos cv q
  refine⟨d,φ,e1,?_,e3⟩
  rw[iF (λz=>?_) (λz=>by subst z;rcases hc with hc | hc<;>(rw[hc]at e2;cases e2))]
  ·exact e2
  ·subst z
   rw[hf]at e2;cases e2
   exact Ij e3
 | met f y=>exact x
 | ext φ=>obtain⟨p,r,st⟩:=x;exact⟨p,r,λh1 h2 p1 kk=>st h1 h2 p1 λb o hb q=>kk b o (hb.imp id (own b)) q⟩
theorem Va{φ:Heap->Prop}{fd:FuncData}(p:φ h)(g:∀h',φ h'->h'.get? f=some of)(hd:of.data=.func fd):¬ ∀h',φ h'->∃q,h'.CodeRec (.ref f) q:=λz=>by
 obtain⟨q,k,ok,vs,t,q1,q2,q3,_⟩:=z h p
 cases q1
 rw[g h p]at q2;cases q2
 rw[hd]at q3;cases q3
theorem cV.lam(ok:cV P w H h)(hf:H f=some (.ext (L3.jS of oc c f))):L3.jS of oc c f h:=(ok f _ hf).1
theorem cV.rem{fd:FuncData}(ok:cV P w H h)(hf:H f=some (.ext (L3.jS of oc c f)))(hc:H c=some (.own f))(hd:of.data=.func fd):cV P w (rem H f c) h:=λb o e =>
 let⟨h1,_,h3⟩:=U8 e;(ok b o h3).rem h1 hf (.inl hc) (Va (ok.lam hf) (λ_ p=>p.1) hd)
end
theorem ju.rem{P:Program}{w:World}{K:PySem.W.Frag}{mg:Str->Option Value}{base:Heap}{A:Around}{outer:List Env}{s:Shared}{H:Hp}{f c:Addr}{of oc:Obj}{fd:FuncData}(e:ju P w K mg base A outer s H)
  (hf:H f=some (.ext (L3.jS of oc c f))) (hc:H c=some (.own f)) (hd:of.data=.func fd):ju P w K mg base A outer s (rem H f c) :=
 ⟨e.frames,e.mod,λb o q=>⟨(e.bs b o q).1,wo (e.bs b o q).2⟩,e.kq,e.gX,λb hb=>wo (e.kr b hb),e.aO.rem hf hc hd,e.bare⟩
theorem CE.add{P:Program}{w:World}{K:PySem.W.Frag}{mg:Str->Option Value}{base:Heap}{A:Around}{outer:List Env}{s s':Shared}{H:Hp}{f c:Addr}{of oc:Obj}{Q Q':VK}{u:Value}(e0:ju P w K mg base A outer s H)
  (hf:H f=some (.ext (L3.jS of oc c f))) (hc:H c=some (.own f)) (h:CE outer P w (rem H f c) s Q u s') (hQ:∀v H',Q v H'->H' f=none->H' c=none->Q' v (oX H H' f c)):CE outer P w H s Q' u s':=by
 obtain⟨v,H',os,bare,un,aO,r,q⟩:=h
 obtain⟨gf,gc⟩:=e0.aO.lam hf
 have Vb:∀{b o},H b=some o->b ∉ eJ outer:=λ{b o} e z=>by rw[e0.kr b z]at e;cases e
 have nf:H' f=none:=un.free f _ gf U7 (by simp)
 have nc:H' c=none:=un.free c _ gc CZ (by simp)
 have kf:=un.keep f _ gf U7 (Vb hf) (by simp)
 have kc:=un.keep c _ gc CZ (Vb hc) (by simp)
 refine⟨v,oX H H' f c,os,bare,⟨λb o e n=>un.keep b o e (wo n),λb o e n=>un.slot b o e (wo n),λb o e n x=>?_,un.there,λb xs e=>?_,λb ob xs e=>?_,λb ps e=>?_⟩,λb o e=>?_,r,hQ v H' q nf nc⟩
 ·rw[rR (λz=>by subst z;rw[hf]at n;cases n) (λz=>by subst z;rw[hc]at n;cases n)]
  exact un.free b o e (wo n) x
 ·have n1:b≠f:=λz=>by subst z;rw[hf]at e;cases e
  have n2:b≠c:=λz=>by subst z;rw[hc]at e;cases e
  rw[rR n1 n2]
  exact un.km b xs (by rw[iF n1 n2];exact e)
 ·have n1:b≠f:=λz=>by subst z;rw[hf]at e;cases e
  have n2:b≠c:=λz=>by subst z;rw[hc]at e;cases e
  rw[rR n1 n2]
  exact un.jO b ob xs (by rw[iF n1 n2];exact e)
 ·have n1:b≠f:=λz=>by subst z;rw[hf]at e;cases e
  have n2:b≠c:=λz=>by subst z;rw[hc]at e;cases e
  rw[rR n1 n2]
  exact un.iN b ps (by rw[iF n1 n2];exact e)
 ·by_cases z:b=f
  ·subst z
   rw[U9,hf]at e;cases e
   refine⟨⟨kf,kc⟩,⟨_,kf⟩,λh1 h2 p kk=>⟨kk b _ (.inl rfl) p.1,kk c _ (.inr ?_) p.2⟩⟩
   rw[Ii];exact hc
  ·by_cases z2:b=c
   ·subst z2
    rw[Ii,hc]at e;cases e
    exact⟨_,kc⟩
   ·rw[rR z z2]at e
    have up:∀{b' o'},H' b'=some o'->oX H H' f c b'=some o':=λ{b' o'} q=>by
     rw[rR (λz=>by subst z;rw[nf]at q;cases q) (λz=>by subst z;rw[nc]at q;cases q)];exact q
    exact(aO b o e).kP (λ_ _ _ q=>q) (λ_ q=>up q) (λ_ _ q=>up q) λ_ _ q=>up q
theorem cp0{prog:Program}{w:World}{A:Around}{R:Result->Shared->Prop}{s:Shared}{a:Addr}{args:Args}{o:Obj}{fd:FuncData}{body:Expr}{q:Str}(dL8:A.depth<recursionLimit)
  (ho:s.heap.get? a=some o)
  (ze:o.data=.func fd) (hco:fd.scope.isCoroutine=false) (dM0:fd.scope.isGenerator=false) (iP:fd.body=.expr body) (de:s.heap.CodeRec fd.code q)
  (h:wpAny (model prog w) A.in1 (bindArgs fd args) (λbinds bL =>
   wpAny (model prog w) A.in1 (newFunctionEnv fd.scope fd.globals fd.closure binds (q++".<locals>.") (some a) fd.code none fd.builtins)
    (λenv kT=>kT.heap.NoLimit/\codeAny (model prog w) A (.expr body env) R kT) (λe s'=>R (.error e) s') bL) (λe s'=>R (.error e) s') s) :
  codeAny (model prog w) A (.call (.ref a) args) R s:=by
 refine codeAny_of_tree ?_
 show wpAny _ A.in1 (callAny (.ref a) args) _ _ s
 simp only[callAny]
 refine wpAny_bind (wpAny_load ho ?_)
 obtain⟨c,oc,vs,tq,hc,jq,Ik,hq⟩:=de
 simp only[ze,callFunction,hco,dM0,iP,hc]
 rw[hc]at h
 refine wpAny_bind (m:=field (.ref c) 1) (wpAny_field jq Ik hq (wpAny_bind (wpAny_pure ?_)))
 exact wpAny_bind (wpAny_mono h (λbinds bL C2=>wpAny_bind (wpAny_mono C2 (λenv kT Vc=>wpAny_bind (wpAny_enterFrame Vc.1 dL8
  (wpAny_pure (And.intro rfl Vc.2)))) λ_ _ h'=>h')) λ_ _ h'=>h')
structure Vd(p1 p2 x:Str)(sc:Scope):Prop where
 kind:sc.kind=.function
 co:sc.isCoroutine=false
 gen:sc.isGenerator=false
 nd:[p1,p2,x].Nodup
 l1:sc.names.lookup p1=some .local
 l2:sc.names.lookup p2=some .local
 Ve:∀y∈sc.names,y.2≠.cell
 only:∀y∈sc.names,y.2=.free->y.1=x
 lx:sc.names.lookup x=some .free
def uY(CX:fh)(P:Program)(w:World)(K:PySem.W.Frag)(mg:Str->Option Value)(base:Heap)(N:List Str)(qual:Str)(scope:Scope)(f:Addr)(cd:Value)(cl:List (Str × Addr))(A:Around)(outer:List Env)(s:Shared)(H:Hp)(E:XK):Cx where
 prog:=P
 w:=w
 K:=K
 mg:=mg
 base:=base
 A:=A.deeper (PySem.W.envX qual scope s.heap.objs.size f cd cl)
 N:=N
 cW:=s
 kQ:=H
 env:=PySem.W.envX qual scope s.heap.objs.size f cd cl
 outer:=outer
 stack:=PySem.W.envX qual scope s.heap.objs.size f cd cl::outer
 ex:=[]
 calm:=true
 fn:=λ_=>false
 pn:=[]
 xe:=λe s'=>wpAny (model P w) (A.deeper (PySem.W.envX qual scope s.heap.objs.size f cd cl)) (leaving (PySem.W.envX qual scope s.heap.objs.size f cd cl) e) (λ_ tX=>CX outer H s E e tX) (λe' tX=>CX outer H s E e' tX) s'
theorem cD0{CX:fh}{P:Program}{w:World}{K:PySem.W.Frag}{mg:Str->Option Value}{base:Heap}{p1 p2 x qn q:Str}{params:Arguments}{body:Expr}{scope:Scope}{pm jG:Value}{f c c':Addr}{k:Nat}{A:Around}{outer:List Env}{s:Shared}{H:Hp}{E:XK}
  {u1 u2 uc:Value} {v1 v2 vc:V} {Q:VK} {t:TE} {args:Args} (S:Vd p1 p2 x scope) (e0:ju P w K mg base A outer s H) (hr:cM (k+1) A)
  (hf:s.heap.get? f=some (PySem.W.kla_obj "<lambda>" qn params body scope [(x,c)] pm c' jG)) (hc:s.heap.IsCell c (some uc)) (rc:RelV vc uc) (hH:H c=none) (de:s.heap.CodeRec (.ref c') q)
  (hb:bindArgs (PySem.W.kla_fn "<lambda>" qn params body scope [(x,c)] pm (.ref c') jG) args=pure [(p1,u1),(p2,u2)]) (r1:RelV v1 u1) (r2:RelV v2 u2)
  (ht:PE (uY CX P w K mg base [p1,p2,x] q scope f (.ref c') [(x,c)] A outer s H E) body t) (h:t [some v1,some v2,some vc] H Q) :
  codeAny (model P w) A (.call (.ref f) args) (CR CX outer P w H s Q E) s:=by
 have lim:s.heap.NoLimit:=e0.mod.nolimit.keeps λb o e=>(e0.bs b o e).1
 refine cp0 hr.depth hf rfl S.co S.gen rfl de ?_
 rw[hb]
 have dM2:∀y∈[(p1,u1),(p2,u2)],scope.names.lookup y.1=some .local:=λy hy=>by
  simp at hy
  rcases hy with rfl | rfl
  ·exact S.l1
  ·exact S.l2
 refine wpAny_pure (wpAny_newFunctionEnv S.Ve dM2 (λC2 CV Vf=>⟨lim.fresh _ Vf,?_⟩) S.kind)
 show codeAny _ _ (.expr body (PySem.W.envX q scope s.heap.objs.size f (.ref c') [(x,c)])) _ _
 have hk:∀b o,s.heap.get? b=some o->C2.get? b=some o:=λb o e=>Vf.extBut b o (fA (bV e)) (fO _ e)
 have e8:p1≠p2/\p1≠x/\p2≠x:=by have:=S.nd;simp at this;exact⟨this.1.1,this.1.2,this.2⟩
 have look:∀y d,([(x,c)]:List (Str × Addr)).lookup y=some d->y=x/\d=c:=λy d e=>by
  rw[gH]at e
  split at e
  ·rename_i z;exact⟨beq_iff_eq.mp z,(cU e).symm⟩
  ·cases e
 have I:Inv (uY CX P w K mg base [p1,p2,x] q scope f (.ref c') [(x,c)] A outer s H E) [] [some v1,some v2,some vc] H { s with heap:=C2,toks:=s.toks+[(p1,u1),(p2,u2)].length }:=by
  refine⟨⟨e0.mod,S.kind,rfl,rfl,bN _,λy z d h1 h2=>?_,λy hy=>?_,λy d z _=>absurd z (by simp[uY]),λ_=>hr.hd,Around.frames_deeper e0.frames,.inr ⟨rfl,rfl⟩,λb z=>absurd z (by simp[uY]),e0.bs,e0.kq,λb _ _=>by simp[uY],λb z=>absurd z (by simp[uY]),e0.gX,e0.kr⟩,
   rfl,e0.bare,Un.kept hk,⟨_,CV,λi y v h1 h2 h3=>?_⟩,λy d h=>?_,e0.aO.fresh (bN _),λy d h=>?_,λp hp=>absurd (show p∈([]:List (Addr × Obj)) from hp) (by simp),e0.aO.kept hk,rfl⟩
  ·exact(look y d h1).1.trans (look z d h2).1.symm
  ·have hy:scope.names.lookup y=some .cell\/scope.names.lookup y=some .free:=hy
   rcases hy with hy | hy
   ·exact absurd rfl (S.Ve _ (PySem.mem_of_lookup hy))
   ·obtain rfl:y=x:=S.only _ (PySem.mem_of_lookup hy) rfl
    exact⟨c,by show([(y,c)]:List (Str × Addr)).lookup y=_;rw[gH,beq_self_eq_true]⟩
  ·match i,h1,h2 with
   | 0,h1,h2 =>
    cases h1;cases h2
    exact⟨u1,r1,.inl ⟨S.l1,by
     show([(p1,u1),(p2,u2)]:List (Str × Value)).reverse.lookup p1=_
     simp[gH,beq_eq_false_iff_ne.mpr e8.1]⟩⟩
   | 1,h1,h2 =>
    cases h1;cases h2
    exact⟨u2,r2,.inl ⟨S.l2,by
     show([(p1,u1),(p2,u2)]:List (Str × Value)).reverse.lookup p2=_
     simp[gH]⟩⟩
   | 2,h1,h2 =>
    cases h1;cases h2
    exact⟨uc,rc,.inr ⟨.inr S.lx,c,by show([(x,c)]:List (Str × Addr)).lookup x=_;rw[gH,beq_self_eq_true],hc.keeps hk⟩⟩
   | n+3,h1,h2=>cases h2
  ·obtain⟨rfl,rfl⟩:=look y d h
   exact⟨_,hc.keeps hk⟩
  ·obtain⟨rfl,rfl⟩:=look y d h
   exact hH
 refine PySem.W.kla_codeExpr (wpAny_mono (ht [] _ _ H _ I h) (λu s' hs=>?_) λe s' hs=>hs)
 obtain⟨v,H',J,rv,q⟩:=hs
 exact⟨v,H',J.os,J.bare,J.base,J.aO,rv,q⟩
end L2
namespace L3
open PySem L2 PySem.Spec PyProof.Rows
theorem ah.oX{H H':Hp}{f c:Addr}{o1 o2:HO}(h:ah (rem H f c) H')(h1:H f=some o1)(n1:jA o1=true)(h2:H c=some o2)(n2:jA o2=true):ah H (oX H H' f c) where
 get b o e n:=by
  by_cases z:b=f
  ·rw[z,U9,<- z];exact e
  ·by_cases z2:b=c
   ·rw[z2,Ii,<- z2];exact e
   ·rw[rR z z2];exact h.get b o (by rw[iF z z2];exact e) n
 tb b ps e:=by
  have z:b≠f:=λz=>by subst z;rw[h1]at e;cases e;cases n1
  have z2:b≠c:=λz=>by subst z;rw[h2]at e;cases e;cases n2
  rw[rR z z2]
  exact h.tb b ps (by rw[iF z z2];exact e)
abbrev wq:=Int->Int->(Int->Prop)->Prop
structure Ad(P:Program)(w:World)(K:PySem.W.Frag)(mg:Str->Option Value)(base:Heap)(n:Nat)(of oc:Obj)(c k:Addr)(sp:wq):Prop where
 fn:∃o1 od fd sl,of=⟨o1,od,.func fd,sl⟩
 run:∀(A:Around) (outer:List Env) (s:Shared) (H:Hp) (f:Addr) (t u:Tok) (i j:Int) (Qd:Int->Prop),cM n A->ju P w K mg base A outer s H->s.heap.get? f=some of->s.heap.get? c=some oc->H c=none->(∃q,s.heap.CodeRec (.ref k) q)->sp i j Qd ->
  codeAny (model P w) A (.call (.ref f) ⟨[.int i t,.int j u],[]⟩) (CR bf outer P w H s (λv H'=>∃r,v=.int r/\Qd r/\ah H H') (λ_ _ _=>False)) s
def rS(L:Obj->Obj->Addr->Addr->wq->Prop)(i:Nat)(ta:dh):aY:=λδ Q=>∃of oc c k sp,δ[i]?=some (some (.bO (.lam of oc c k)))/\L of oc c k sp/\ta δ λds ak=>∃a b,ds=[.int a,.int b]/\sp a b λr=>Q (.int r) ak
theorem Vg{X:Cx}{n i:Nat}{x:Str}{p pos:Pos}{e1 e2:Expr}{ta:dh}(hN:X.N[i]?=some x)(hv:mE X.env.scope x)(hr:cM n X.A)(ha:PA X [e1,e2] (lA ta))
  (hd:(x==("__debug__":Str))=false:=by decide) (de:(x==("__classdict__":Str))=false:=by decide) (he:starEach [e1,e2] X.env=(false,eval e1 X.env)::starEach [e2] X.env:=by rfl) (bS:(backTo pos (starEach [e2] X.env)).any (·.1)=false:=by rfl) :
  PE X (.Call (.Name x p) [e1,e2] [] pos) (lE (rS (Ad X.prog X.w X.K X.mg X.base n) i ta)):=by
 intro pins s σ H Q I zz
 obtain⟨B,F,δ,ts,Qd,c,⟨of,oc,cc,k,sp,ed,L,q⟩,kk⟩:=zz
 obtain⟨v,ev,sv⟩:=c.look ed
 obtain⟨f,rfl,lam⟩:∃f,v=.ref f/\kD H f of oc cc k:=by
  cases sv with
  | bO h _=>exact⟨_,rfl,h⟩
 refine wpAny_Call_Name_kw (bc (tP hN hv hd de pins s σ H (λv' H'=>v'=.ref f/\H'=H) I ⟨_,ev,rfl,rfl⟩) λu s1 zz=>?_)
 obtain⟨v',H',I1,r1,e1,e2⟩:=zz
 subst e1 e2
 obtain rfl:u=.ref f:=r1
 have fnAt:∀{H1:Hp} {s2:Shared},Inv X pins σ H1 s2->kD H1 f of oc cc k->PySem.W.FnAt f s2.heap:=λ{H1 s2} J l=>by
  obtain⟨o1,od,fd,sl,e⟩:=L.fn
  exact⟨o1,od,fd,sl,by rw[<-e];exact(J.aO.lam l.fn).1⟩
 refine PySem.W.callWith_F (fnAt I1 lam) (bc (ha pos pins s1 σ H' (λvs H2=>∃a b ak F',vs=[.int a,.int b]/\(sp a b λr=>Qd (.int r) ak)/\ah F F'/\ah H' H2/\ax B F' H2 σ ak ts) I1
  ⟨B,F,δ,ts,_,c,q,λds ak vs F' H2 ⟨a,b,eds,q2⟩ f1 h1 c1 s1=>?_⟩) λus s2 ⟨vs,H2,I2,r2,a,b,ak,F',evs,q2,f1,h1,c1⟩=>⟨fnAt I2 ((show t9 H' f (.lam of oc cc k) from lam).mono λa o e _ t=>h1.get a o e t),?_⟩) he bS
 ·subst eds
  refine⟨a,b,ak,F',?_,q2,f1,h1,c1⟩
  cases s1 with
  | int s1=>cases s1 with
   | int s1=>cases s1;rfl
 ·subst evs
  have rT:kD H2 f of oc cc k:=(show t9 H' f (.lam of oc cc k) from lam).mono λa o e _ t=>h1.get a o e t
  obtain⟨o1,od,fd,sl,eof⟩:=L.fn
  have dM5:of.data=.func fd:=by rw[eof]
  obtain⟨gf,gc⟩:=I2.aO.lam rT.fn
  obtain⟨ψ,eψ,Ae⟩:=rT.Hs
  obtain⟨u1,u2,t1,t2,rfl⟩:∃(u1 u2:Unit) (t1 t2:Tok),us=[.int a t1,.int b t2]:=by
   cases r2 with
   | cons ra r2=>cases r2 with
    | cons rb r2 =>
     cases r2
     obtain⟨t1,rfl⟩:=ra
     obtain⟨t2,rfl⟩:=rb
     exact⟨(),(),t1,t2,rfl⟩
  refine wpAny_call (codeAny_mono (L.run X.A X.stack s2 (rem H2 f cc) f t1 t2 a b _ hr (I2.zA.rem rT.fn rT.cell dM5) gf gc CZ (Ae _ (I2.aO k _ eψ).1) q2) λr s' hq=>?_)
  cases r with
  | error e=>exact hq.elim
  | ok fl =>
   cases fl with
   | ret u =>
    refine I2.after (CE.add I2.zA rT.fn rT.cell hq (Q':=Q) ?_)
    rintro v H3 ⟨r,rfl,hqd,hs⟩ nf nc
    have sm:=hs.oX rT.fn rfl rT.cell rfl
    exact kk _ ak _ F' _ hqd f1 (h1.trans sm) ((c1.grow sm).pushS (.int .nil) rfl)
   | next=>exact gg hq
   | brk=>exact gg hq
   | cont=>exact gg hq
end L3
namespace L2
open PySem PySem.Spec PyProof.Rows
theorem bM5{p:Pos}{c:Value}(l:List Value)(h:TriplesOk l):TriplesOk (l++[rawInt p.line,rawInt p.col,c]):=by
 fun_induction TriplesOk l with
 | case1=>simp[TriplesOk,rawInt]
 | case2 a b d e f rest ih=>exact ih h
 | case3=>exact h.elim
theorem bV0{p q:Pos}{c cv:Value}(l:List Value)(h:TriplesOk l)(e:codeAmong q (l++[rawInt p.line,rawInt p.col,c])=some cv):codeAmong q l=some cv\/cv=c:=by
 fun_induction TriplesOk l with
 | case1 =>
  simp only[nJ,rawInt,codeAmong]at e
  split at e
  ·exact .inr (cU e).symm
  ·cases e
 | case2 a b d e' f rest ih =>
  simp only[nR,codeAmong]at e ⊢
  split at e
  ·rename_i z;rw[if_pos z];exact .inl e
  ·rename_i z;rw[if_neg z];exact ih h e
 | case3=>exact h.elim
def oY(f:Addr)(o:Obj):Heap->Prop:=λh=>h.get? f=some o
def c05(P c:Addr)(x:Str)(params:Arguments)(body:Expr)(scope:Scope):TE:=λ_ H Q=>(∃ps,H P=some (.dN ps)) /\
 ∀f k qn pm jG H',H f=none->H' f=some (.ext (oY f (PySem.W.kla_obj "<lambda>" qn params body scope [(x,c)] pm k jG)))->L3.Hr H' k->k≠f->L3.ah H H'->(∀a ws,H' a=some (.lst ws)->H a=some (.lst ws))->Q (.ref f) H'
theorem Vh{X:Cx}{P c cc:Addr}{x:Str}{params:Arguments}{body:Expr}{scope:Scope}{pos:Pos}(gx:closureFor scope X.env=pure [(x,c)])(C3:X.env.code=.ref cc)(hK:PySem.W.codeHdIn X.K cc P=true)(Ab:Bm X.mg X.base)
  (dN1:defaultsOf params X.env=([],[]):=by rfl):PE X (.Lambda params body scope pos) (c05 P c x params body scope):=by
 intro pins s σ H Q I zz
 obtain⟨⟨ps,hP⟩,q⟩:=zz
 obtain⟨bm,ob,b1,b2,b3,b4,b5,b6,b7⟩:=Ab
 have C:=PySem.W.codeHd_of_K I.dG hK
 obtain⟨oP,C4,codes⟩:=I.aO P _ hP
 have hg:=I.mod.glob.keeps I.bk
 have Vi:∀{b o},X.base.get? b=some o->b≠P:=λ{b o} e z=>by
  have:=(I.bs b o e).2
  rw[z,hP]at this;cases this
 have hgP:mainGlobals≠P:=by
  obtain⟨o,es,ep,e,_⟩:=I.mod.glob
  exact Vi e
 have Vj:s.heap.BuiltinsAt X.mg P:=⟨bm,ob,b1,b2,b3,Vi b4,I.bk _ _ b4,b5,b6,b7⟩
 refine PySem.W.kla_eval dN1 ?_
 have fresh:∀{b:Addr},s.heap.objs.size<=b->H b=none:=λ{b} h=>I.aO.fresh h
 cases wu:codeAmong pos ps.toList with
 | none =>
  refine PySem.W.kla_makeFunction (mg:=X.mg) gx I.ok.glob hg C3 C oP C4 wu hgP Vj λk jG h' tk hx Af gD dN3 Vk=>?_
  have Il:P<s.heap.objs.size:=bV oP
  have hPk:k≠P:=λz=>by rw[z]at Af;exact absurd Il (yW.mpr Af)
  have uZ:s.heap.objs.size<=h'.objs.size:=eH Af (BE gD)
  have hPf:h'.objs.size≠P:=λz=>by rw[<-z]at Il;exact absurd Il (yW.mpr uZ)
  have Vl:k≠h'.objs.size:=fA gD
  generalize Vm:PySem.W.kla_obj "<lambda>" (X.env.qual++"<lambda>") params body scope [(x,c)] ((X.mg "__name__").getD .none) k jG=obj
  have e5:obj.isFreed=false:=by rw[<-Vm];rfl
  have Ag:∀b,b≠P->b≠k->b≠h'.objs.size->upd (upd (upd H P (.dN (ps++#[rawInt pos.line,rawInt pos.col,.ref k]))) k (.ext λh=>∃q,h.CodeRec (.ref k) q)) h'.objs.size (.ext (oY h'.objs.size obj)) b=H b:=λb n1 n2 n3=>by
   rw[bA n3,bA n2,bA n1]
  have C5:upd (upd (upd H P (.dN (ps++#[rawInt pos.line,rawInt pos.col,.ref k]))) k (.ext λh=>∃q,h.CodeRec (.ref k) q)) h'.objs.size (.ext (oY h'.objs.size obj)) h'.objs.size=some (.ext (oY h'.objs.size obj)):=cI
  have atK:upd (upd (upd H P (.dN (ps++#[rawInt pos.line,rawInt pos.col,.ref k]))) k (.ext λh=>∃q,h.CodeRec (.ref k) q)) h'.objs.size (.ext (oY h'.objs.size obj)) k=some (.ext λh=>∃q,h.CodeRec (.ref k) q):=by rw[bA Vl,cI]
  have C6:upd (upd (upd H P (.dN (ps++#[rawInt pos.line,rawInt pos.col,.ref k]))) k (.ext λh=>∃q,h.CodeRec (.ref k) q)) h'.objs.size (.ext (oY h'.objs.size obj)) P=some (.dN (ps++#[rawInt pos.line,rawInt pos.col,.ref k])):=by rw[bA hPf.symm,bA hPk.symm,cI]
  generalize hHn:upd (upd (upd H P (.dN (ps++#[rawInt pos.line,rawInt pos.col,.ref k]))) k (.ext λh=>∃q,h.CodeRec (.ref k) q)) h'.objs.size (.ext (oY h'.objs.size obj))=Hn at Ag C5 atK C6
  have old:∀{b o},H b=some o->b≠P->Hn b=some o:=λ{b o} e n=>by
   have hb:b<s.heap.objs.size:=I.aO.lt e
   rw[Ag b n (λz=>absurd hb (yW.mpr (z ▸ Af))) (λz=>absurd hb (yW.mpr (z ▸ uZ)))];exact e
  have kept:∀b o,b≠P->s.heap.get? b=some o->(h'.push obj).get? b=some o:=λb o n e=>fO _ (hx b o n e)
  have un:Un X.fs [] H Hn s.heap (h'.push obj):=by
   refine⟨λb o e n _ _=>kept b o (λz=>by rw[z,hP]at n;cases n) e,λb o e n _ _=>⟨o.slots,kept b o (λz=>by rw[z,hP]at n;cases n) e⟩,λb o e n _=>?_,λb o e _=>?_,λb xs e=>old e (λz=>by rw[z,hP]at e;cases e),λb ob xs e=>old e (λz=>by rw[z,hP]at e;cases e),λb Vn e=>?_⟩
   ·have hb:=bV e
    rw[Ag b (λz=>by rw[z,hP]at n;cases n) (λz=>absurd hb (yW.mpr (z ▸ Af))) (λz=>absurd hb (yW.mpr (z ▸ uZ)))];exact n
   ·by_cases z:b=P
    ·rw[z];exact⟨_,fO _ Vk⟩
    ·exact⟨o,kept b o z e⟩
   ·by_cases z:b=P
    ·subst z
     rw[hP]at e;cases e
     exact⟨_,C6⟩
    ·exact⟨#[],by rw[old e z];simp⟩
  have aO:cV X.prog X.w Hn (h'.push obj):=λb o e=>by
   by_cases z1:b=h'.objs.size
   ·subst z1
    rw[C5]at e;cases e
    exact⟨gR _ e5,⟨_,gR _ e5⟩,λh1 h2 p kk=>kk _ _ (.inl rfl) p⟩
   ·by_cases z2:b=k
    ·subst z2
     rw[atK]at e;cases e
     have hr:=dN3.push obj
     refine⟨⟨_,hr⟩,?_,λh1 h2 ⟨q,c1,o1,vs,t,e1,e2,r⟩ kk=>?_⟩
     ·obtain⟨c1,o1,vs,t,e1,e2,_⟩:=hr
      cases e1
      exact⟨o1,e2⟩
     ·cases e1
      exact⟨q,_,o1,vs,t,rfl,kk _ _ (.inl rfl) e2,r⟩
    ·by_cases z3:b=P
     ·subst z3
      rw[C6]at e;cases e
      refine⟨fO _ Vk,by rw[dd9];exact bM5 _ C4,λp' cv e'=>?_⟩
      rw[dd9]at e'
      rcases bV0 _ C4 e' with e' | e'
      ·obtain⟨d,φ,e1,e2,e3⟩:=codes p' cv e'
       exact⟨d,φ,e1,old e2 (λz=>by rw[z,hP]at e2;cases e2),e3⟩
      ·exact⟨k,_,e',atK,λh' p=>p⟩
     ·rw[Ag b z3 z2 z1]at e
      have nP:∀{b' o'},H b'=some o'->(∀ps,o'≠.dN ps)->b'≠P:=λ{b' o'} e n z=>by rw[z,hP]at e;cases e;exact n _ rfl
      refine(I.aO b o e).kP (λb' u Ah e'=>kept b' u ?_ e') (λb' e'=>old e' (nP e' (λps z=>by cases z))) (λb' xs e'=>old e' (nP e' (λps z=>by cases z))) λb' φ e'=>old e' (nP e' (λps z=>by cases z))
      rcases Ah with rfl | Ah
      ·exact z3
      ·exact nP Ah (λps z=>by cases z)
  refine⟨.ref h'.objs.size,Hn,I.un un aO,rfl,q _ k _ _ _ _ (fresh uZ) (by rw[Vm];exact C5) ⟨_,atK,λh p=>p⟩ Vl ⟨λb o e n=>old e (λz=>by rw[z,hP]at e;cases e;cases n),λb Vn e=>?_⟩ λa ws e=>?_⟩
  ·exact un.iN b Vn e
  ·by_cases z1:a=h'.objs.size
   ·subst z1;rw[C5]at e;cases e
   ·by_cases z2:a=k
    ·subst z2;rw[atK]at e;cases e
    ·by_cases z3:a=P
     ·subst z3;rw[C6]at e;cases e
     ·rw[Ag a z3 z2 z1]at e;exact e
 | some cv =>
  obtain⟨k,φ,rfl,hk,Ij⟩:=codes pos cv wu
  refine PySem.W.kla_makeFunctionHit (mg:=X.mg) gx I.ok.glob hg C3 C oP C4 wu Vj λjG h' tk hx uZ=>?_
  have hf:=fresh uZ
  refine⟨.ref h'.objs.size,upd H h'.objs.size (.ext (oY h'.objs.size (PySem.W.kla_obj "<lambda>" (X.env.qual++"<lambda>") params body scope [(x,c)] ((X.mg "__name__").getD .none) k jG))),I.laid (λb u e=>fO _ (hx b u e)) uZ ?_,rfl,q _ k (X.env.qual++"<lambda>") ((X.mg "__name__").getD .none) jG _ hf cI ⟨φ,?_,Ij⟩ (fC hk hf) (L3.ah.of λb o e=>?_) λa ws e=>?_⟩
  ·exact⟨gR _ rfl,⟨_,gR _ rfl⟩,λh1 h2 p kk=>kk _ _ (.inl rfl) p⟩
  ·rw[bA (fC hk hf)];exact hk
  ·rw[bA (fC e hf)];exact e
  ·by_cases z:a=h'.objs.size
   ·subst z;rw[cI]at e;cases e
   ·rw[bA z]at e;exact e
end L2
namespace L2
open PySem PySem.Spec PyProof.Rows
structure C7(K:PySem.W.Frag)(C:Addr)(m:Str)(f:Addr):Prop where
 ga:PySem.W.specialIn K (.ref C) "__getattribute__"=some (some (.builtin "type.__getattribute__"))
 rd:PySem.W.readsIn K C (.type "type")=true
 at_:PySem.W.findCls K (.ref C) (.type "type") m=some (.val (.ref f))
 kp:PySem.W.keepIn K (.ref f)=true
section
variable{X:Cx}{CX:fh}{k:Nat}{f C:Addr}{fd:FuncData}{ps:List Str}{sp:Sp}{E:XK}{x m:Str}{p pos apos:Pos}{e o:Expr}{es:List Expr}{ta:TE}{t:TA}
theorem cm6{pins:List (Addr × Obj)}{σ:St}{H:Hp}{s:Shared}{pl:Sem Bool}{A:Around}{E':Value->Shared->Prop}{Q:Value × List Value->Shared->Prop}(I:Inv X pins σ H s)(M:C7 X.K C m f)(h:∀s',Inv X pins σ H s'->Q (.ref f,[]) s') :
  wpAny (model X.prog X.w) A (getMethod (.ref C) m pl) Q E' s :=
 PySem.W.method_cls I.dG M.ga (PySem.W.cls_value (mc:=.type "type") I.dG M.rd M.at_ rfl (h _ (I.tok _)))
theorem cA6{pins:List (Addr × Obj)}{σ:St}{H:Hp}{s:Shared}{pl:Sem Bool}{Q:Value->Shared->Prop}{QA:List V->Hp->Prop}(I:Inv X pins σ H s)(M:C7 X.K C m f)(hg:Gl X x)(hm:X.mg x=some (.ref C))(ha:PA X (e::es) t)(h:t σ H QA)
  (hq:∀us s1 vs H1,Inv X pins σ H1 s1->Vals vs us->QA vs H1->wpAny (model X.prog X.w) X.A (call (.ref f) us) Q X.xe s1)
  (fi:(x==("__debug__":Str))=false:=by decide) (dH:starEach (e::es) X.env=(false,eval e X.env)::starEach es X.env:=by rfl) (bS:(backTo pos (starEach es X.env)).any (·.1)=false:=by rfl)
  (ht:eval (.Call (.Attribute (.Name x p) m apos) (e::es) [] pos) X.env=(do
   let ov<-eval (.Name x p) X.env
   standAt apos.atName
   let (f,first)<-holding [ov] (getMethod ov m pl)
   callWith pos f first (backTo pos (starEach (e::es) X.env)) (backToKw pos (keywordEach [] X.env))):=by rfl) :
  wpAny (model X.prog X.w) X.A (eval (.Call (.Attribute (.Name x p) m apos) (e::es) [] pos) X.env) Q X.xe s:=by
 refine PySem.W.methodCall_KW (pl:=pl) (B8 I hg hm ?_ fi) ht
 refine cm6 I M λs1 I1=>?_
 refine PySem.W.callWith_K (first:=[]) (h₀:=X.base) I.ok.mod.nW M.kp (bc (ha pos pins s1 σ H _ I1 h) λus s2 ⟨vs,H2,I2,r,q2⟩=>⟨I2.dG,?_⟩) dH bS
 exact hq us s2 vs H2 I2 r q2
def cS0(sp:Sp)(E:XK)(c:Addr)(i:Nat)(t:TA):TE:=λσ H Q=>t σ H λvs H1=>∃f of fd v,H1 f=some (.ext (oY f of))/\of.data=.func fd/\σ[i]?=some (some v) /\
 ∀oc u,oc.data=.cell (some u)->RelV v u->H1 c=none->c≠f->sp vs (upd (upd H1 f (.ext (L3.jS of oc c f))) c (.own f)) (λr H2=>H2 f=some (.ext (L3.jS of oc c f))/\H2 c=some (.own f)/\Q r (rem H2 f c)) E
theorem Vo{pl:Sem Bool}{y:Str}{c:Addr}{i:Nat}(M:C7 X.K C m f)(F:aQ X.prog X.w X.K X.mg X.base bf k f fd ps sp)(hr:cM k X.A)(hb:Binds X.K fd ps [])(hg:Gl X x)(hm:X.mg x=some (.ref C))
  (hN:X.N[i]?=some y) (hy:X.env.scope.names.lookup y=some .cell) (gx:X.env.cells.lookup y=some c) (zh:X.fn y=true) (ha:PA X (e::es) t)
  (fi:(x==("__debug__":Str))=false:=by decide) (dH:starEach (e::es) X.env=(false,eval e X.env)::starEach es X.env:=by rfl) (bS:(backTo pos (starEach es X.env)).any (·.1)=false:=by rfl)
  (ht:eval (.Call (.Attribute (.Name x p) m apos) (e::es) [] pos) X.env=(do
   let ov<-eval (.Name x p) X.env
   standAt apos.atName
   let (f,first)<-holding [ov] (getMethod ov m pl)
   callWith pos f first (backTo pos (starEach (e::es) X.env)) (backToKw pos (keywordEach [] X.env))):=by rfl) :
  PE X (.Call (.Attribute (.Name x p) m apos) (e::es) [] pos) (cS0 sp E c i t):=by
 intro pins s σ H Q I h
 refine cA6 (pl:=pl) I M hg hm ha h (λus s1 vs H1 I1 r ⟨fa,of,fdd,v,hf,hd,hv,hq⟩=>?_) fi dH bS ht
 obtain⟨ml,_,hl⟩:=I1.loc
 obtain⟨u,rv,lk⟩:=hl i y v hN hv (.inr (.inl hy))
 obtain⟨oc,gc,jq⟩:∃oc,s1.heap.get? c=some oc/\oc.data=.cell (some u):=by
  rcases lk with⟨hk,_⟩ | ⟨_,c',zi,ic⟩
  ·rw[show X.env.kindOf y=some .cell from hy]at hk;cases hk
  ·rw[gx]at zi;cases zi;exact ic
 have nc:H1 c=none:=I1.jP y c gx
 have rV:c≠fa:=λz=>by rw[z,hf]at nc;cases nc
 have gf:s1.heap.get? fa=some of:=(I1.aO fa _ hf).1
 have nX:=hq oc u jq rv nc rV
 have Vp:=I1.ok.tO y c zh gx
 generalize hH:upd (upd H1 fa (.ext (L3.jS of oc c fa))) c (.own fa)=Hp at nX
 have Vq:Hp c=some (.own fa):=by rw[<-hH,cI]
 have atf:Hp fa=some (.ext (L3.jS of oc c fa)):=by rw[<-hH,bA rV.symm,cI]
 have nj:∀b,b≠fa->b≠c->Hp b=H1 b:=λb n1 n2=>by rw[<-hH,bA n2,bA n1]
 have nfs:c ∉ X.fs:=λhb=>by
  obtain⟨_,o,ho,_⟩:=I1.ok.gX.mem hb
  exact absurd (dB (bV ho) Vp) (fN _)
 have nst:∀b∈eJ X.stack,b≠c:=λb hb z=>by
  rcases cB.mp (I1.B5 b hb)with e | hb
  ·exact I1.qo y c gx (z ▸ e)
  ·exact nfs (z ▸ hb)
 have dO2:cV X.prog X.w Hp s1.heap:=λb ob q=>by
  by_cases z1:b=c
  ·subst z1;rw[Vq]at q;cases q;exact⟨_,gc⟩
  ·by_cases z2:b=fa
   ·subst z2;rw[atf]at q;cases q
    exact⟨⟨gf,gc⟩,⟨_,gf⟩,λh1 h2 p kk=>⟨kk _ _ (.inl rfl) p.1,kk _ _ (.inr Vq) p.2⟩⟩
   ·rw[nj b z2 z1]at q
    have x1:=(I1.aO b ob q).rem (f:=fa) (c:=c) z2 hf (.inr nc) (Va gf (λ_ p=>p) hd)
    have up:∀{b' o'},rem H1 fa c b'=some o'->Hp b'=some o':=λ{b' o'} q=>by
     obtain⟨n1,n2,q'⟩:=U8 q
     rw[nj b' n1 n2];exact q'
    exact x1.kP (λ_ _ _ q=>q) (λ_ q=>up q) (λ_ _ q=>up q) λ_ _ q=>up q
 have e0:ju X.prog X.w X.K X.mg X.base X.A X.stack s1 Hp:=by
  have e1:=I1.zA
  refine⟨e1.frames,e1.mod,λb ob q=>⟨(e1.bs b ob q).1,?_⟩,e1.kq,e1.gX,λb hb=>?_,dO2,e1.bare⟩
  ·have hb0:=(I1.ok.bs b ob q).1
   rw[nj b (λz=>by have:=(e1.bs b ob q).2;rw[z,hf]at this;cases this) (λz=>absurd (dB (bV hb0) (z ▸ Vp)) (fN _))]
   exact(e1.bs b ob q).2
  ·have nb:=e1.kr b hb
   rw[nj b (λz=>by rw[z,hf]at nb;cases nb) (nst b hb)];exact nb
 have hlen:us.length=ps.length:=by rw[<-r.length];exact F.len _ _ _ _ nX
 refine wpAny_call (codeAny_mono (F.run X.A X.stack s1 Hp ⟨us,[]⟩ us vs _ E hr e0 (by have:=hb s1 us I1.dG (by rw[mr];exact hlen);rwa [mr]at this) r nX) λrr s' hz=>?_)
 cases rr with
 | error e=>exact hz.elim
 | ok fl =>
  cases fl with
  | next=>exact gg hz
  | brk=>exact gg hz
  | cont=>exact gg hz
  | ret u' =>
   obtain⟨v',H2,os,bare,un,Vr,rv',q1,q2,q3⟩:=hz
   obtain⟨_,Vs⟩:=Vr.lam q1
   refine I1.after ⟨v',rem H2 fa c,os,bare,⟨λb ob g n hb hx=>?_,λb ob g n hb hx=>?_,λb ob g n hx=>?_,un.there,λb xs g=>?_,λb ob xs g=>?_,λb ps g=>?_⟩,Vr.rem q1 q2 hd,rv',q3⟩
   ·by_cases z:b=c
    ·rw[z,gc]at g;cases g;rw[z];exact Vs
    ·exact un.keep b ob g (by rw[nj b (λz=>by rw[z,hf]at n;cases n) z];exact n) hb hx
   ·by_cases z:b=c
    ·rw[z,gc]at g;cases g;rw[z];exact⟨_,Vs⟩
    ·exact un.slot b ob g (by rw[nj b (λz=>by rw[z,hf]at n;cases n) z];exact n) hb hx
   ·by_cases z:b=c
    ·rw[z];exact CZ
    ·exact wo (un.free b ob g (by rw[nj b (λz=>by rw[z,hf]at n;cases n) z];exact n) hx)
   ·have n1:b≠fa:=λz=>by rw[z,hf]at g;cases g
    have n2:b≠c:=λz=>by rw[z,nc]at g;cases g
    rw[iF n1 n2]
    exact un.km b xs (by rw[nj b n1 n2];exact g)
   ·have n1:b≠fa:=λz=>by rw[z,hf]at g;cases g
    have n2:b≠c:=λz=>by rw[z,nc]at g;cases g
    rw[iF n1 n2]
    exact un.jO b ob xs (by rw[nj b n1 n2];exact g)
   ·have n1:b≠fa:=λz=>by rw[z,hf]at g;cases g
    have n2:b≠c:=λz=>by rw[z,nc]at g;cases g
    rw[iF n1 n2]
    exact un.iN b ps (by rw[nj b n1 n2];exact g)
end
end L2
namespace L3
open PySem L2 PySem.Spec PyProof.Rows
theorem Im{ts:List Addr}{H H':Hp}(h:Tb ts H)(s:ah H H'):Tb ts H':=λP hP=>by
 obtain⟨ps,e⟩:=h P hP
 obtain⟨m,e2⟩:=s.tb P ps e
 exact⟨_,e2⟩
theorem Vt{P:Program}{w:World}{K:PySem.W.Frag}{mg:Str->Option Value}{base:Heap}{n:Nat}{p1 p2 x qn:Str}{params:Arguments}{body:Expr}{scope:Scope}{pm jG:Value}{oc:Obj}{c k:Addr}{m:Int}{tm:Tok}{sp:wq}(S:Vd p1 p2 x scope)
  (jq:oc.data=.cell (some (.int m tm))) (hb:∀u1 u2:Value,bindArgs (PySem.W.kla_fn "<lambda>" qn params body scope [(x,c)] pm (.ref k) jG) ⟨[u1,u2],[]⟩=pure [(p1,u1),(p2,u2)])
  (iP:∀(q:Str) (f:Addr) (A:Around) (outer:List Env) (s:Shared) (H:Hp) (E:XK),cM n (A.deeper (PySem.W.envX q scope s.heap.objs.size f (.ref k) [(x,c)])) ->
   ∃t:aY,PE (uY bf P w K mg base [p1,p2,x] q scope f (.ref k) [(x,c)] A outer s H E).gY body (lE t)/\∀i j Qd,sp i j Qd->t [some (.int i),some (.int j),some (.int m)] λd _=>∃r,d=.int r/\Qd r) :
  Ad P w K mg base (n+1) (PySem.W.kla_obj "<lambda>" qn params body scope [(x,c)] pm k jG) oc c k sp where
 fn:=⟨_,_,_,_,rfl⟩
 run A outer s H f t u i j Qd hr e0 gf gc hH de h:=by
  obtain⟨q,de⟩:=de
  obtain⟨tt,ht,hq⟩:=iP q f A outer s H (λ_ _ _=>False) (hr.deeper _)
  refine cD0 (v1:=.int i) (v2:=.int j) (vc:=.int m) (E:=λ_ _ _=>False) S e0 hr gf ⟨oc,gc,jq⟩ ⟨tm,rfl⟩ hH de (hb _ _) ⟨t,rfl⟩ ⟨u,rfl⟩ ht.gY ?_
  refine⟨⟨H,H⟩,H,_,[],_,?_,hq i j Qd h,λd ak v F' H' hd f1 h1 c1=>?_⟩
  ·exact ax.start (ds:=[.int i,.int j,.int m]) (vs:=[.int i,.int j,.int m]) (ah.refl H) (.int (.int (.int .nil))) 0
  ·obtain⟨r,rfl,hd⟩:=hd
   have s1:=c1.top
   cases s1
   exact⟨r,rfl,hd,h1⟩
section
variable{X:Cx}{CX:fh}{n:Nat}{f:Addr}{fd:FuncData}{ps:List Str}{sp:bB}{E:XK}{x:Str}{p pos:Pos}{e:Expr}{es:List Expr}{t:dh}{tl:List Addr}
theorem cA5(hT:Tb tl X.kQ)(F:aQ X.prog X.w X.K X.mg X.base CX n f fd ps (Ac tl (bx sp)))(hr:cM n X.A)(hg:Gl X x)(hm:X.mg x=some (.ref f))(hk:PySem.W.keepIn X.K (.ref f)=true)(hb:Binds X.K fd ps [])(hx:mJ CX X E)
  (ha:PA X (e::es) (lA t)) (fi:(x==("__debug__":Str))=false:=by decide) (he:starEach (e::es) X.env=(false,eval e X.env)::starEach es X.env:=by rfl) (bS:(backTo pos (starEach es X.env)).any (·.1)=false:=by rfl) :
  PE X (.Call (.Name x p) (e::es) [] pos) (lE (mW sp t)):=by
 intro pins s σ H Q I zz
 obtain⟨B,F',δ,ts,Qd,c,q,k⟩:=zz
 have tb:=U6 I hT
 refine tW F hr hg hm hk hb .nil hx ha fi he bS pins s σ H Q I ⟨B,F',δ,ts,_,c,q,λds av vs F1 H1 q1 f1 h1 c1 s1=>?_⟩
 refine⟨Im tb h1,?_⟩
 rw[mr]
 exact CB c1 s1 q1 λd v F' H' hd hf hs c'=>k d av v F' H' hd (f1.trans hf) (h1.trans hs) c'
end
section
variable{P:Program}{w:World}{K:PySem.W.Frag}{mg:Str->Option Value}{base:Heap}
theorem Vu{x qual:Str}{st:Stmt}{f:Addr}{fd:FuncData}{N ps:List Str}{k:Nat}{sp:bB}{tl:List Addr}(F:br K x qual st f fd)(S:bu N ps (az st))(len:∀ds Q,sp ds Q->ds.length=ps.length)
  (iP:∀(aI:Value) (A:Around) (outer:List Env) (s:Shared) (H:Hp) (E:XK),Tb tl H->cM k (A.deeper (envOfC qual (az st) s.heap.objs.size f aI)) ->
   ∃t:cX,PSs (jv bf P w K mg base N qual (az st) f aI A outer s H E).gY (bq st) (lS (jv bf P w K mg base N qual (az st) f aI A outer s H E).gY t)/\∀ds Q,sp ds Q->t { nx:=λ_=>Q .ay,rt:=Q } (jV N ds)):aQ P w K mg base bf (k+1) f fd ps (Ac tl (bx sp)):=by
 refine F.ok S (λvs H Q E ⟨_,F,ds,Qd,e,r,h,_⟩=>by rw[<-r.length];exact len ds Qd h) λaI A outer s H vs Q E hr zz=>?_
 obtain⟨tb,F,ds,Qd,e,r,h,k⟩:=zz
 obtain⟨t,ht,hq⟩:=iP aI A outer s H E tb hr
 have fin:∀d v ak aN F' H',Qd d->ax ⟨H,F⟩ F' H' aN ak [(d,v)]->Q v H':=λd v ak aN F' H' hd c=>by
  obtain⟨A,C,r',s',nd,fr⟩:=c.own
  exact k d v F' H' A hd c.b1 c.b2 c.ext c.b3 r' (iA.mp nd).1 λa ha=>fr a (gQ _ ha)
 have e1:L2.start N vs=vs.map some++bG (N.length-ds.length) none:=by unfold L2.start;rw[r.length]
 refine⟨_,ht,⟨H,F⟩,F,jV N ds,_,?_,hq ds Qd h,λak aN F' H' hd c=>fin .ay .ay ak aN F' H' hd (c.pushS (.ay .nil) rfl),fin,λ_ _ _ _ z=>z.elim,λ_ _ _ _ z=>z.elim,XL.none (λ_ _ z=>z) λ_ _ z=>z⟩
 rw[e1]
 exact ax.start e r _
theorem Vv{x qual:Str}{st:Stmt}{f cc:Addr}{fd:FuncData}{N ps:List Str}{k:Nat}{sp:Sp}(F:br K x qual st f fd)(C3:fd.code=.ref cc)(S:bu N ps (az st))(len:∀vs H Q E,sp vs H Q E->vs.length=ps.length)
  (iP:∀(A:Around) (outer:List Env) (s:Shared) (H:Hp) (vs:List V) (Q:VK) (E:XK),cM k (A.deeper (envOfC qual (az st) s.heap.objs.size f (.ref cc)))->sp vs H Q E ->
   ∃t,PSs (jv bf P w K mg base N qual (az st) f (.ref cc) A outer s H E).gY (bq st) t/\t { nx:=λ_ H'=>Q .ay H',rt:=Q } (L2.start N vs) H):aQ P w K mg base bf (k+1) f fd ps sp:=by
 obtain⟨oc,od,kV,doc,pm,an,aI,ct,mK,rfl,lk,de⟩:=F.ex
 obtain rfl:aI=.ref cc:=C3
 refine GU lk de S len λA outer s H vs Q E hr jw=>?_
 obtain⟨t,h,q⟩:=iP A outer s H vs Q E hr jw
 exact⟨t,h.gY,q⟩
end
end L3
namespace L3
open PySem L2 PySem.Spec PyProof.Rows
theorem bW7{ns:List Str}{xs:List D}{ws:List V}{F H:Hp}{f:Str}{d:D}(r:R F H xs ws [])(h:(ns.zip xs).lookup f=some d):∃w,(ns.zip ws).lookup f=some w/\R F H [d] [w] []:=by
 generalize e:([]:List Addr)=A at r
 induction ns generalizing xs ws A with
 | nil=>simp at h
 | cons n ns ih =>
  cases xs with
  | nil=>simp at h
  | cons x xs =>
   obtain⟨v,cP,A1,A2,rfl,rfl,h1,h2⟩:=R.dE r
   obtain⟨rfl,rfl⟩:=FR.mp e.symm
   rw[de0]at h ⊢
   by_cases z:f=n
   ·subst z
    rw[gH,beq_self_eq_true]at h
    cases h
    refine⟨v,?_,h1⟩
    rw[gH,beq_self_eq_true]
   ·have z':(f==n)=false:=beq_eq_false_iff_ne.mpr z
    rw[gH,z']at h
    obtain⟨w,e1,e2⟩:=ih h [] rfl h2
    refine⟨w,?_,e2⟩
    rw[gH,z']
    exact e1
theorem Vw{ns:List Str}{ws:List V}{f:Str}(h:f ∉ ns):(ns.zip ws).lookup f=none:=by
 induction ns generalizing ws with
 | nil=>simp
 | cons n ns ih =>
  cases ws with
  | nil=>simp
  | cons w ws =>
   rw[de0,gH]
   have hn:(f==n)=false:=beq_eq_false_iff_ne.mpr λz=>h (by rw[z];simp)
   simp only[hn]
   exact ih λz=>h (by simp[z])
theorem Io{F H:Hp}{C:Addr}{ns:List Str}{xs:List D}{v:V}(s:S F H [.obj C ns xs] [v]):∃p dx ws,v=.ref p/\H p=some (.ins C dx (ns.zip ws))/\ns.length=ws.length/\R F H xs ws []:=by
 cases s with
 | obj h l r _=>exact⟨_,_,_,rfl,h,l,r⟩
section
variable{X:Cx}{e o:Expr}{es:List Expr}{f m x:Str}{pos p apos:Pos}{t to:aY}{ta:dh}{n:Nat}
def oZ(K:PySem.W.Frag)(t:aY)(f:Str):aY:=λδ Q=>t δ λd ak=>∃C ns xs v,d=.obj C ns xs/\eK K C/\cJ K C f/\(ns.zip xs).lookup f=some v/\Q v ak
theorem cT5(he:PE X e (lB t))(hb:attributeBase e f X.env (eval e X.env)=eval e X.env:=by rfl):PE X (.Attribute e f pos) (lB (oZ X.K t f)) :=
 dO (Cm he hb) λσ H Q ⟨B,F,δ,ts,Qd,c,q,k⟩=>⟨B,F,δ,ts,_,c,q,λd ak v F' H' ⟨C,ns,xs,w,ed,hc,hn,hl,hq⟩ f1 h1 c1 s1=>by
  subst ed
  obtain⟨p,dx,ws,rfl,hp,_,r⟩:=Io s1
  obtain⟨u,hu,ru⟩:=bW7 r hl
  exact⟨p,C,dx,_,u,rfl,hp,hc,hn,hu,k w ak u F' H' hq f1 h1 c1 ru.s⟩⟩
structure rW(P:Program)(w:World)(K:PySem.W.Frag)(mg:Str->Option Value)(base:Heap)(n:Nat)(m:Str)(C:Addr)(sp:bB):Prop where
 cls:eK K C
 ex:∃f fd ps,Meth K C m f/\aQ P w K mg base bf n f fd ps (bx sp)/\Binds K fd ps []
def pd(MO:Addr->bB->Prop)(m:Str)(to:aY)(ta:dh):aY:=λδ Q=>to δ λd av=>∃C ns xs sp,d=.obj C ns xs/\MO C sp/\m ∉ ns/\ta av λds bh=>sp ((D.obj C ns xs::ds).map D.sh) λr=>((D.obj C ns xs::ds).all D.pl||r.fr)=true/\Q r bh
theorem cI2{pl:Sem Bool}(ho:PE X o (lB to))(hr:cM n X.A)(ha:PA X (e::es) (lA ta))
  (dH:starEach (e::es) X.env=(false,eval e X.env)::starEach es X.env:=by rfl) (bS:(backTo pos (starEach es X.env)).any (·.1)=false:=by rfl)
  (ht:eval (.Call (.Attribute o m apos) (e::es) [] pos) X.env=(do
   let ov<-eval o X.env
   standAt apos.atName
   let (f,first)<-holding [ov] (getMethod ov m pl)
   callWith pos f first (backTo pos (starEach (e::es) X.env)) (backToKw pos (keywordEach [] X.env))):=by rfl) :
  PE X (.Call (.Attribute o m apos) (e::es) [] pos) (lE (pd (rW X.prog X.w X.K X.mg X.base n m) m to ta)):=by
 intro pins s σ H Q I zz
 obtain⟨B,F,δ,ts,Qd,c,q,k⟩:=zz
 refine PySem.W.methodCall_KW (pl:=pl) (bc (ho pins s σ H (λx H1=>∃d av F1,S F1 H1 [d] [x]/\ax B F1 H1 σ av ts/\ah F F1/\ah H H1/\∃C ns xs sp,d=.obj C ns xs/\rW X.prog X.w X.K X.mg X.base n m C sp/\m ∉ ns/\ta av λds bh=>sp ((D.obj C ns xs::ds).map D.sh) λr=>((D.obj C ns xs::ds).all D.pl||r.fr)=true/\Qd r bh) I
  ⟨B,F,δ,ts,_,c,q,λd av v F1 H1 hq f1 h1 c1 s1=>⟨d,av,F1,s1,c1,f1,h1,hq⟩⟩) λu s1 ⟨x,H1,I1,rx,d,av,F1,sd,c1,f1,h1,C,ns,xs,sp,ed,M,hm,hq⟩=>?_) ht
 subst ed
 obtain⟨a,dx,ws,rfl,ea,hl,r0⟩:=Io sd
 obtain rfl:u=fM a:=rx
 obtain⟨f,fd,ps,Ai,FO,hb⟩:=M.ex
 refine GR I1 ea M.cls Ai (Vw hm) ?_
 refine PySem.W.callWith_K (first:=[.ref a]) (h₀:=X.base) I.ok.mod.nW Ai.kp (bc (ha pos pins s1 σ H1 (λvs H2=>∃ds bh F2,S F2 H2 ds vs/\ax B F2 H2 σ bh ts/\ah F1 F2/\ah H1 H2/\sp ((D.obj C ns xs::ds).map D.sh) λr=>((D.obj C ns xs::ds).all D.pl||r.fr)=true/\Qd r bh) I1
  ⟨B,F1,av,ts,_,c1,hq,λds bh vs F2 H2 hq f2 h2 c2 s2=>⟨ds,bh,F2,s2,c2,f2,h2,hq⟩⟩) λus s2 ⟨vs,H2,I2,r,ds,bh,F2,Ip,c2,f2,h2,jw⟩=>⟨I2.dG,?_⟩) dH bS
 refine Cn (us:=.ref a::us) (vs:=.ref a::vs) (fQ:=[]) FO hr hb .nil aP I2 (.cons rfl r) ?_
 rw[mr]
 exact CB c2 (.obj (h2 _ _ ea) hl (r0.shared f2 h2) Ip) jw λd v F' H' hd hf hs c'=>k d bh v F' H' hd (f1.trans (f2.trans hf)) (h1.trans (h2.trans hs)) c'
end
structure eD(x:Addr)(H H':Hp):Prop where
 get:∀b o,b≠x->H b=some o->jA o=true->H' b=some o
 tb:∀b ps,H b=some (.dN ps)->∃more,H' b=some (.dN (ps++more))
theorem eD.trans{x:Addr}{H H1 H2:Hp}(a:eD x H H1)(b:eD x H1 H2):eD x H H2 :=
 ⟨λc o n h t=>b.get c o n (a.get c o n h t) t,λc ps h=>by
  obtain⟨m1,e1⟩:=a.tb c ps h
  obtain⟨m2,e2⟩:=b.tb c _ e1
  exact⟨m1++m2,by rw[e2,BG]⟩⟩
theorem ah.x{x:Addr}{H H':Hp}(h:ah H H'):eD x H H':=⟨λb o _ e n=>h.get b o e n,h.tb⟩
theorem eD.upd{x C dx:Addr}{H:Hp}{o o':HO}(h:H x=some o)(n:jA o=true):eD x H (upd H x o') :=
 ⟨λb o z e _=>by rw[bA z];exact e,λb ps e=>⟨#[],by rw[bA (λz=>by rw[z,h]at e;cases e;cases n),e];simp⟩⟩
def Iq(tl:List Addr)(C:Addr)(wz:List D->List Str->List D->Prop):Sp:=λvs H Q _=>∃x dx cP ds ns xs,vs=.ref x::cP/\Tb tl H/\H x=some (.ins C dx [])/\R H H ds cP []/\wz ds ns xs /\
 ∀H' ws A,eD x H H'->H' x=some (.ins C dx (ns.zip ws))->ns.length=ws.length->R (λ_=>none) H' xs ws A->A.Nodup->(∀a∈A,H a=none)->Q .ay H'
def rX(C:Addr)(wz:List D->List Str->List D->Prop)(ta:dh):aY:=λδ Q=>ta δ λds ak=>∃ns xs,wz (ds.map D.sh) ns xs/\Q (.obj C ns (xs.map D.sh)) ak
theorem ax.made{B:Bs}{F H H':Hp}{σ:L2.St}{δ:Dl}{ts:List (D × V)}{C dx x:Addr}{ns:List Str}{xs:List D}{ws:List V}{A:List Addr}(c:ax B F H σ δ ts)(hs:ah H H')(hx:H' x=some (.ins C dx (ns.zip ws)))(hl:ns.length=ws.length)
  (r:R (λ_=>none) H' xs ws A) (fr:∀a∈A,H a=none):ah F (L3.cu F H' A)/\ax B (L3.cu F H' A) H' σ δ ((.obj C ns (xs.map D.sh),.ref x)::ts):=by
 have c1:=c.grow hs
 have hF:∀a∈A,F a=none:=λa ha=>c.ext.free (fr a ha)
 have r1:R F H' xs ws A:=r.keep (ah.of λb o e=>by cases e) (iz.same (ah.refl _)) jB.nil hF (by simp)
 have r2:=r1.cu c1.ext A (λ_ h=>h)
 have fs:ah F (L3.cu F H' A):=mP c1.ext
 obtain⟨A',C',r',s',nd,C8⟩:=c.own
 have out:∀a,(∃ws,H a=some (.lst ws))/\F a=none->L3.cu F H' A a=none:=λa zz=>by
  obtain⟨⟨ws,h⟩,hf⟩:=zz
  rw[Cw (λz=>by rw[fr a z]at h;cases h)];exact hf
 have g1:=r'.grow fs hs λa ha=>out a (r'.lists a ha)
 have g2:=s'.keep fs (iz.same hs) jB.nil (λa ha=>out a (s'.lists a ha)) (by simp)
 refine⟨fs,Uc c1.ext,c1.b1,c1.b2.trans fs,λa ws h=>?_,A',C',?_,g2,nd,C8⟩
 ·by_cases z:a∈A
  ·exact .inr (c.b1.free (fr a z))
  ·rw[Cw z]at h;exact c.b3 a ws h
 ·exact R.obj hx hl r2 g1
section
variable{X:Cx}{CX:fh}{n:Nat}{f C:Addr}{fd:FuncData}{ps:List Str}{wz:List D->List Str->List D->Prop}{E:XK}{x:Str}{p pos:Pos}{e:Expr}{es:List Expr}{t:dh}{tl:List Addr}
theorem Vx(hT:Tb tl X.kQ)(M:Mk X.K C f)(F:aQ X.prog X.w X.K X.mg X.base CX n f fd ps (Iq tl C wz))(hr:cM (n+1) X.A)(hg:Gl X x)(hm:X.mg x=some (.ref C))(hb:Binds X.K fd ps [])(hx:mJ CX X E)
  (ha:PA X (e::es) (lA t)) (fi:(x==("__debug__":Str))=false:=by decide) (he:starEach (e::es) X.env=(false,eval e X.env)::starEach es X.env:=by rfl) (bS:(backTo pos (starEach es X.env)).any (·.1)=false:=by rfl) :
  PE X (.Call (.Name x p) (e::es) [] pos) (lE (rX C wz t)):=by
 intro pins s σ H Q I zz
 obtain⟨B,F',δ,ts,Qd,c,q,k⟩:=zz
 have tb:=U6 I hT
 refine cD2 M F hr hg hm hb .nil hx ha fi he bS pins s σ H Q I ⟨B,F',δ,ts,_,c,q,λds av vs F1 H1 q1 f1 h1 c1 s1=>?_⟩
 intro x dx e8 i8 t8
 obtain⟨ns,xs,hI,hq⟩:=q1
 have sm:ah H1 (upd (upd H1 dx (.own x)) x (.ins C dx [])):=.of λb o e=>by rw[bA (fC e e8),bA (fC e i8)];exact e
 refine⟨x,dx,vs,ds.map D.sh,ns,xs,by rw[mr],Im (Im tb h1) sm,cI,(s1.frozen c1.ext).shared sm sm,hI,λH' ws A Vy eo hl r nd fr=>⟨rfl,?_⟩⟩
 have s2:ah H1 H':=⟨λb o e n=>Vy.get b o (fC e e8) (sm.get b o e n) n,λb ps e=>by
  obtain⟨m1,e1⟩:=sm.tb b ps e
  obtain⟨m2,e2⟩:=Vy.tb b _ e1
  exact⟨m1++m2,by rw[e2,BG]⟩⟩
 obtain⟨fs,c2⟩:=c1.made s2 eo hl r λa ha=>sm.free (fr a ha)
 exact k _ av _ _ H' hq (f1.trans fs) (h1.trans s2) c2
end
end L3
namespace Mf
open PySem L2 L3
def gm(m:Bool × Nat)(a b:Nat):Nat:=if m.1 then md (cl a b) m.2 else a*b%m.2
def aa(m:Bool × Nat):Nat:=if m.1 then 2 ^ (bl m.2-1)else m.2
def C9(g:Nat->Nat->Nat)(a:Nat):Nat->Nat->List Int->Option (List Int)
 | 0,_,_=>none
 | f+1,p,acc=>if p=1 then some acc else if p<64 then C9 g a f (g p a) (acc++[(p:Int)])else none
def Ir(g:Nat->Nat->Nat)(a:Nat):Option (List Int):=C9 g a 64 (g 1 a) [1]
def Dc(g:Nat->Nat->Nat)(many:Nat):Nat->Nat->List Int->Option (List Int)
 | 0,_,_=>none
 | f+1,st,l=>if l.length+1<many then(match Ir g (st+1)with | some l'=>Dc g many f (st+1) l' | none=>none)else some l
def Aj(g:Nat->Nat->Nat)(many:Nat):Option (List Int):=match Ir g 1 with | some l=>Dc g many 62 1 l | none=>none
def bC(g:Nat->Nat->Nat):wq:=λi j Q=>∃a b:Nat,i=a/\j=b/\a<64/\b<64/\Q (g a b:Nat)
def gJ:List Nat:=[7,11,13,19,25,31,37,41,47,55,59,61,67,73,87,91,97,103,109,115,117]
def pe:List Nat:=[2,3,5,7,11,13,17,19,23,29,31,37,41,43,47,53,59,61]
def aD:List (Bool × Nat):=gJ.map (λn=>(true,n))++pe.map λn=>(false,n)
def pf(l:List Int):Nat->List Int
 | 0=>bG (l.length+1) 0
 | i+1=>(pf l i).set (l.getD i 0).toNat (i:Int)
def eP(l:List Int):List Int:=pf l l.length
theorem Ak(l:List Int):∀i,(pf l i).length=l.length+1
 | 0=>by simp[pf]
 | i+1=>by simp[pf,Ak l i]
def rY(l g:List Int)(a:Nat):List Int:=if a=0 then bG (l.length+1) 0 else 0::(aZ l.length).map λ(b:Nat)=>l.getD ((g.getD a 0+g.getD (b+1) 0)%(l.length:Int)).toNat 0
def wA(l g:List Int)(n:Nat):List D:=(aZ n).map λa=>D.lst true (aL (rY l g a))
def rZ(l g:List Int):List D:=wA l g (l.length+1)
end Mf
namespace L3
open PySem L2 Mf
def LI(H:Hp)(p:Addr)(ns:List Int):Prop:=H p=some (.lst (ns.map V.int))
theorem LI.same{H H':Hp}{p:Addr}{ns:List Int}(h:LI H p ns)(s:ah H H'):LI H' p ns:=s.get _ _ h
theorem LI.upd{H:Hp}{p x:Addr}{ns:List Int}{o o':HO}(h:LI H p ns)(hx:H x=some o)(n:∀ws,o≠.lst ws):LI (upd H x o') p ns:=by
 unfold LI
 rw[bA (λz=>by rw[z]at h;unfold LI at h;rw[hx]at h;cases h;exact n _ rfl)];exact h
theorem Vz{F' H' H:Hp}{v:V}{A:List Addr}{ns:List Int}(r:R F' H' [.lst true (aL ns)] [v] A)(fr:∀a∈A,H a=none):∃p,v=.ref p/\LI H' p ns/\H p=none:=by
 cases r with
 | @own p ws xs A1 _ _ B1 hp hf r1 r2 =>
  have:=HS r1.s
  subst this
  exact⟨p,rfl,hp,fr p (by simp)⟩
structure dO9(K:PySem.W.Frag)(C f:Addr):Prop where
 cls:eK K C
 many:cJ K C "many"
 wide:cJ K C "wide"
 Iu:cJ K C "powers"
 dP2:cJ K C "logs"
 step:cJ K C "step"
 sp:Meth K C "step_power" f
structure VA(g:Nat->Nat->Nat)(many:Nat)(l:List Int)(st:Int):Prop where
 lo:2<=many
 hi:many<=64
 step:Aj g many=some l
 len:l.length+1=many
 ins:∀x∈l,0<=x/\x.toNat<=l.length
 st:l[((1:Int)%((many:Int)-1)).toNat]?=some st
def iG(b:Str):List Str:=[b,"many","wide","powers","logs","step"]
def De(n0:Int)(many:Nat)(p1 p2:Addr)(st:Int):List V:=[.int n0,.int many,.int ((bl many:Nat)-1),.ref p1,.ref p2,.int st]
theorem wB{f:Str}{v:V}:∀{fs:List (Str × V)},(∀p∈fs,p.1≠f)->gq f v fs=fs++[(f,v)]
 | [],_=>rfl
 | (g,x)::r,h=>by
  unfold gq
  rw[if_neg (h (g,x) (by simp)),wB λp hp=>h p (by simp[hp])];rfl
theorem kD.Al{H:Hp}{x C dx f c k:Addr}{fs:List (Str × V)}{o':HO}{of oc:Obj}(h:kD H f of oc c k)(hx:H x=some (.ins C dx fs)):kD (L2.upd H x o') f of oc c k:=by
 obtain⟨ψ,e,Ae⟩:=h.Hs
 exact⟨by rw[bA (λz=>by rw[<-z,h.fn]at hx;cases hx)];exact h.fn,by rw[bA (λz=>by rw[<-z,h.cell]at hx;cases hx)];exact h.cell,ψ,by rw[bA (λz=>by rw[<-z,e]at hx;cases hx)];exact e,Ae⟩
theorem Am{H:Hp}{x p:Addr}{o o':HO}(hx:H x=some o)(h:L2.upd H x o' p=none):H p=none:=by
 by_cases z:p=x
 ·subst z;rw[cI]at h;cases h
 ·rw[bA z]at h;exact h
theorem Df{α:Type}{b f:Str}{v:α}{r:List (Str × α)}(h:b≠f):((b,v)::r).lookup f=r.lookup f:=by
 rw[gH,beq_eq_false_iff_ne.mpr (fB h)]
section
variable{H2 H3 H':Hp}{x f c p:Addr}{o1 o2:HO}
theorem An{b:Addr}{o:HO}(e:H3 b=some o)(nb:b≠f)(nc:H3 c=none):L2.upd (L2.upd H3 f o1) c o2 b=some o:=by
 rw[bA (fC e nc),bA nb];exact e
theorem VB(hs:ah H2 H3)(nf:H2 f=none)(nc:H3 c=none)(s:eD x (L2.upd (L2.upd H3 f o1) c o2) H'):eD x H2 (rem H' f c) where
 get b o n e t:=by
  have z1:=fC e nf
  have e3:=hs.get b o e t
  rw[iF z1 (fC e3 nc)]
  exact s.get b o n (An e3 z1 nc) t
 tb b ps e:=by
  have z1:=fC e nf
  obtain⟨m,e3⟩:=hs.tb b ps e
  obtain⟨m2,e4⟩:=s.tb b _ (An e3 z1 nc)
  exact⟨m++m2,by rw[iF z1 (fC e3 nc),e4,BG]⟩
theorem Dg(hs:ah H2 H3)(h:L2.upd (L2.upd H3 f o1) c o2 p=none):H2 p=none:=by
 refine hs.free ?_
 by_cases z:p=c
 ·subst z;rw[cI]at h;cases h
 ·rw[bA z]at h
  by_cases z2:p=f
  ·subst z2;rw[cI]at h;cases h
  ·rw[bA z2]at h;exact h
theorem LI.rem{l:List Int}{φ:Heap->Prop}{y:Addr}(h:LI H' p l)(hf:H' f=some (.ext φ))(hc:H' c=some (.own y)):LI (rem H' f c) p l:=by
 unfold LI at h ⊢
 rw[iF (λz=>by rw[z,hf]at h;cases h) (λz=>by rw[z,hc]at h;cases h)];exact h
theorem VC{of oc:Obj}{k:Addr}(t8:c≠f)(nc:H3 c=none)(hk:Hr H3 k)(kf:k≠f):kD (L2.upd (L2.upd H3 f (.ext (jS of oc c f))) c (.own f)) f of oc c k:=by
 obtain⟨ψ,e,Ae⟩:=hk
 exact⟨by rw[bA t8.symm,cI],cI,ψ,An e kf nc,Ae⟩
end
def fl(m:Bool × Nat):List Int:=(Aj (gm m) (aa m)).getD []
def fst(m:Bool × Nat):Int:=(fl m).getD ((1:Int)%((aa m:Int)-1)).toNat 0
def VD(m:Bool × Nat):Bool:=decide (2<=aa m)&&decide (aa m<=64)&&(Aj (gm m) (aa m)).isSome&&decide ((fl m).length+1=aa m)&&(fl m).all (λx=>decide (0<=x)&&decide (x.toNat<=(fl m).length))&&decide (((1:Int)%((aa m:Int)-1)).toNat<(fl m).length)
theorem cE7:aD.all VD=true:=by decide +kernel
theorem cF{m:Bool × Nat}(h:m∈aD):VA (gm m) (aa m) (fl m) (fst m):=by
 have h:=dw.mp cE7 m h
 simp only[VD,eR,decide_eq_true_eq,dw]at h
 obtain⟨⟨⟨⟨⟨h1,h2⟩,h3⟩,h4⟩,h5⟩,h6⟩:=h
 obtain⟨l,e⟩:=db5.mp h3
 have el:fl m=l:=by unfold fl;rw[e];rfl
 refine⟨h1,h2,by rw[e,el],h4,λx hx=>h5 x hx,?_⟩
 unfold fst
 rw[aK,aJ h6];rfl
theorem cp5:∀p∈pe,(decide (2<=(p:Int))&&decide ((p:Int)<=61)&&(aZ ((p:Int).toNat-2)).all λi=>(p:Int)%(2+(i:Int)) != 0)=true:=by decide +kernel
theorem cF6:∀p∈gJ,(decide (4<=(p:Int))&&decide ((p:Int)<=127)&&al (p:Int).toNat)=true:=by decide +kernel
theorem R.Al{F H:Hp}{x C dx:Addr}{fs:List (Str × V)}{o':HO}{ds:List D}{vs:List V}{A:List Addr}(r:R F H ds vs A)(hx:H x=some (.ins C dx fs))(hd:ds.all D.fr=true):R F (L2.upd H x o') ds vs A:=by
 have up:∀{a o},H a=some o->(∀C dx fs,o≠.ins C dx fs)->L2.upd H x o' a=some o:=λ{a o} e n=>by
  rw[bA (λz=>by rw[z,hx]at e;cases e;exact n _ _ _ rfl)];exact e
 induction r with
 | nil=>exact .nil
 | ay _ ih=>exact .ay (ih (by simpa[D.fr]using hd))
 | bl _ ih=>exact .bl (ih (by simpa[D.fr]using hd))
 | int _ ih=>exact .int (ih (by simpa[D.fr]using hd))
 | str _ ih=>exact .str (ih (by simpa[D.fr]using hd))
 | shr h x _ i1 ih=>simp[eT]at hd
 | own h f _ _ i1 i2 =>
  rw[dW,eT,eR,kh]at hd
  exact .own (up h λ_ _ _ z=>by cases z) f (i1 hd.1) (i2 hd.2)
 | tup h _ _ i1 i2 =>
  rw[dW,oi,eR]at hd
  exact .tup (up h λ_ _ _ z=>by cases z) (i1 hd.1) (i2 hd.2)
 | obj h l x _ i1 ih=>simp[D.fr]at hd
 | fz h x _ i1 ih=>simp[D.fr]at hd
 | @bO p z _ _ _ h r ih =>
  refine .bO ?_ (ih (by simpa[D.fr]using hd))
  cases z with
  | ext φ=>exact up h λ_ _ _ z=>by cases z
  | lam of oc c k=>exact kD.Al h hx
theorem VE(l g:List Int):(rZ l g).all D.fr=true:=by
 unfold rZ wA
 rw[mx,dw]
 intro a _
 show(D.lst true (aL _)).fr=true
 rw[eT,oQ];rfl
theorem eD.free{x a:Addr}{H H':Hp}(s:eD x H H')(hx:H' x≠none)(h:H' a=none):H a=none:=by
 cases q:H a with
 | none=>rfl
 | some o =>
  by_cases z:a=x
  ·subst z;exact absurd h hx
  ·cases n:jA o with
   | true=>rw[s.get a o z q n]at h;cases h
   | false =>
    obtain⟨ps,rfl⟩:=Hq n
    obtain⟨m,e⟩:=s.tb a ps q
    rw[e]at h;cases h
theorem VF(l:List Int):∀i,∀x∈pf l i,0<=x
 | 0=>λx hx=>by rw[(FU.mp hx).2];exact Int.le_refl _
 | i+1=>λx hx=>by
  unfold pf at hx
  rcases yX hx with h | h
  ·exact VF l i x h
  ·rw[h];exact RG _
theorem VG:∀p∈gJ,bl p<=7:=by decide +kernel
theorem VH:∀p∈gJ,1<=bl p:=by decide +kernel
theorem cj0(a b:Nat):bl (cl a b)<=bl a+bl b:=by
 by_cases ha:a=0
 ·subst ha;rw[qA];exact jM _
 ·by_cases hb:b=0
  ·subst hb
   have:cl a 0=0:=rfl
   rw[this];exact jM _
  ·rw[TF ha hb];omega
def ph(l g:List Int):List D:=(aZ (l.length+1)).map λa=>D.lst false (aL (rY l g a))
theorem cl5(l g:List Int):(D.lst true (rZ l g)).sh=.lst false (ph l g):=by
 rw[df]
 unfold rZ wA ph
 rw[cg]
 congr 1
 apply nQ
 intro a _
 show D.sh (.lst true (aL _))=_
 rw[df,jF]
theorem b04(l g:List Int):(ph l g).all D.pl=true:=by
 unfold ph
 rw[mx,dw]
 intro a _
 show(D.lst false (aL _)).pl=true
 rw[fj,lQ];rfl
abbrev pD(m:Bool × Nat):List D:=[.int m.2,.int (aa m),.int ((bl (aa m):Nat)-1),.lst false (aL (fl m)),.lst false (aL (eP (fl m))),.int (fst m)]
def u0(C:Addr)(p:Nat):D:=.obj C (iG "prime") (pD (false,p))
def u3(C:Addr)(p:Nat):D:=.obj C (iG "bits"++[("products":Str)]) (pD (true,p)++[.lst false (ph (fl (true,p)) (eP (fl (true,p))))])
def fD(cb cp:Addr)(m:Bool × Nat):D:=if m.1 then u3 cb m.2 else u0 cp m.2
end L3
namespace L3
open PySem L2 Mf
theorem Ao{u p:Nat}(h:bl u<bl p):md u p=u:=zL (q:=0) (by rw[qA,qe]) h
theorem b80{u v n:Nat}(hu:bl u<n)(hv:bl v<n):bl (u ^^^ v)<n:=by
 have h1:u<2 ^ (n-1):=eZ.mp (by omega)
 have h2:v<2 ^ (n-1):=eZ.mp (by omega)
 have:=eZ.mpr (vS h1 h2)
 omega
theorem Dh{p:Nat}(hp:p≠0)(u v:Nat):md (u ^^^ v) p=md u p ^^^ md v p:=by
 obtain⟨⟨q1,e1⟩,l1⟩:=zK hp u
 obtain⟨⟨q2,e2⟩,l2⟩:=zK hp v
 refine zL (q:=q1 ^^^ q2) ?_ (b80 l1 l2)
 rw[qy,<- Tr,<- e1,<- e2]
theorem VI{p:Nat}(hp:p≠0)(w:Nat):md (cl p w) p=0:=by rw[zJ];exact cQ7 w hp
theorem bX:∀m∈aD,0<m.2:=by decide +kernel
theorem hE(m:Bool × Nat)(a b:Nat):gm m a b=gm m b a:=by
 unfold gm
 split
 ·rw[zJ]
 ·rw[nK]
theorem VJ{n:Nat}(hn:n≠0)(u c:Nat):md (cl (md u n) c) n=md (cl u c) n:=by
 obtain⟨⟨q,e⟩,_⟩:=zK hn u
 have h:cl u c=cl n (cl q c) ^^^ cl (md u n) c:=by
  conv=>lhs;rw[e]
  rw[qy,zJ n q,TM]
 rw[h,Dh hn,VI hn,qe]
theorem hJ{m:Bool × Nat}(h:0<m.2)(a b c:Nat):gm m (gm m a b) c=gm m a (gm m b c):=by
 unfold gm
 split
 ·rw[VJ (by omega),zJ (md (cl b c) m.2) a,VJ (by omega),TM a b c,zJ (cl b c) a]
 ·rw[yY,R4,<- yY,yY a (b*c%m.2),R4,<- yY,vv]
theorem VL{m:Bool × Nat}(h:m.1=true){a:Nat}:a<aa m↔bl a<=bl m.2-1:=by
 unfold aa
 rw[if_pos h];exact eZ.symm
theorem lW{m:Bool × Nat}{a:Nat}(ha:a<aa m):gm m 1 a=a:=by
 obtain⟨k,n⟩:=m
 cases k with
 | true =>
  show md (cl 1 a) n=a
  rw[G6]
  have h1:=(VL (m:=(true,n)) rfl).mp ha
  have h1:bl a<=bl n-1:=h1
  by_cases z:bl n=0
  ·have a0:a=0:=by
    have:=eZ (n:=a) (m:=0)
    have:=this.mp (by omega)
    omega
   subst a0
   have n0:n=0:=by
    have:=(eZ (n:=n) (m:=0)).mp (by omega)
    omega
   subst n0
   decide
  ·exact Ao (by omega)
 | false=>show 1*a%n=a;rw[Nat.one_mul];exact yZ ha
theorem pj{m:Bool × Nat}{a:Nat}(ha:a<aa m):gm m a 1=a:=by rw[hE];exact lW ha
def lg(m:Bool × Nat)(a:Nat):Int:=(eP (fl m)).getD a 0
def pw(m:Bool × Nat)(k:Nat):Int:=(fl m).getD k 0
def Iw(m:Bool × Nat):Bool:=((aZ (aa m-1)).all λk=>decide (1<=pw m k)&&decide (pw m k<aa m)&&decide (lg m (pw m k).toNat=k))&&((aZ (aa m-1)).all λa=>decide (0<=lg m (a+1))&&decide (lg m (a+1)<(aa m:Int)-1)&&decide (pw m (lg m (a+1)).toNat=((a+1:Nat):Int)))
theorem VM:aD.all Iw=true:=by decide +kernel
theorem Di{m:Bool × Nat}(hm:m∈aD){k:Nat}(hk:k<aa m-1):1<=pw m k/\pw m k<aa m/\lg m (pw m k).toNat=k:=by
 have h:=dw.mp VM m hm
 simp only[Iw,eR,dw,decide_eq_true_eq,cT]at h
 have:=h.1 k hk
 exact⟨this.1.1,this.1.2,this.2⟩
theorem Dj{m:Bool × Nat}(hm:m∈aD){a:Nat}(h1:1<=a)(h2:a<aa m):0<=lg m a/\lg m a<(aa m:Int)-1/\pw m (lg m a).toNat=a:=by
 have h:=dw.mp VM m hm
 simp only[Iw,eR,dw,decide_eq_true_eq,cT]at h
 have:=h.2 (a-1) (by omega)
 rw[show a-1+1=a by omega]at this
 exact⟨this.1.1,this.1.2,this.2⟩
theorem eU(m:Bool × Nat)(b:Nat)(h:0<m.2):gm m 0 b=0:=by
 unfold gm
 split
 ·rw[qA];exact Ao (by rw[nZ];exact iu (by omega))
 ·rw[Nat.zero_mul,Nat.zero_mod]
theorem gF(m:Bool × Nat)(b:Nat)(h:0<m.2):gm m b 0=0:=by rw[hE];exact eU m b h
def stC(m:Bool × Nat):Bool:=decide (pw m 0=1)&&(aZ (aa m-1)).all λk=>decide (gm m (pw m k).toNat (pw m (1%(aa m-1))).toNat=(pw m ((k+1)%(aa m-1))).toNat)
theorem VN:aD.all stC=true:=by decide +kernel
theorem cC0(m:Bool × Nat)(hm:m∈aD):pw m 0=1:=by
 have h:=dw.mp VN m hm
 simp only[stC,eR,decide_eq_true_eq]at h
 exact h.1
def pN(m:Bool × Nat)(k:Nat):Nat:=(pw m (k%(aa m-1))).toNat
theorem cW2{m:Bool × Nat}(hm:m∈aD)(k:Nat):pN m k<aa m:=by
 have dr:=(cF hm).lo
 have:=Di hm (vx k (show 0<aa m-1 by omega))
 unfold pN
 omega
theorem VO{m:Bool × Nat}(hm:m∈aD)(k:Nat):gm m (pN m k) (pN m 1)=pN m (k+1):=by
 have dr:=(cF hm).lo
 have h:=dw.mp VN m hm
 simp only[stC,eR,decide_eq_true_eq,dw,cT]at h
 have h2:=h.2 (k%(aa m-1)) (vx k (by omega))
 rw[y6]at h2
 exact h2
theorem VP{m:Bool × Nat}(hm:m∈aD)(i:Nat):∀j,gm m (pN m i) (pN m j)=pN m (i+j)
 | 0=>by
  have e:pN m 0=1:=by unfold pN;rw[Nat.zero_mod,cC0 m hm];rfl
  rw[e,pj (cW2 hm i)];rfl
 | j+1=>by rw[<-VO hm j,<- hJ (bX m hm),VP hm i j,VO hm];rfl
theorem Iy{m:Bool × Nat}(hm:m∈aD){a b:Nat}(a1:1<=a)(a2:a<aa m)(b1:1<=b)(b2:b<aa m):((gm m a b:Nat):Int)=pw m ((lg m a+lg m b)%((aa m:Int)-1)).toNat:=by
 have dr:=(cF hm).lo
 obtain⟨g0,g1,g2⟩:=Dj hm a1 a2
 obtain⟨f0,f1,f2⟩:=Dj hm b1 b2
 have ea:pN m (lg m a).toNat=a:=by unfold pN;rw[yZ (by omega),g2];rfl
 have eb:pN m (lg m b).toNat=b:=by unfold pN;rw[yZ (by omega),f2];rfl
 have e:=VP hm (lg m a).toNat (lg m b).toNat
 rw[ea,eb]at e
 rw[e]
 have ei:((lg m a+lg m b)%((aa m:Int)-1)).toNat=((lg m a).toNat+(lg m b).toNat)%(aa m-1):=by
  have:(((lg m a).toNat+(lg m b).toNat)%(aa m-1):Nat)=((lg m a+lg m b)%((aa m:Int)-1)):=by
   rw[qk,FY,tI g0,tI f0,Int.natCast_sub (by omega)];rfl
  omega
 rw[ei]
 have:=Di hm (vx ((lg m a).toNat+(lg m b).toNat) (show 0<aa m-1 by omega))
 unfold pN
 omega
theorem cC8{p a:Nat}(hp:p∈gJ)(ha:a<aa (true,p)):rY (fl (true,p)) (eP (fl (true,p))) a=(aZ (aa (true,p))).map λb=>((gm (true,p) a b:Nat):Int):=by
 have hm:(true,p)∈aD:=gQ _ (FZ hp)
 have h0:=bX _ hm
 have hF:=cF hm
 have hlen:=hF.len
 unfold rY
 split
 ·rename_i h
  subst h
  rw[hlen]
  refine BU (by simp) λi h1 h2=>?_
  simp[eU _ _ h0]
 ·rename_i h
  rw[<-hlen,dd6,dF,cg,gF _ _ h0]
  congr 1
  apply nQ
  intro b hb
  have hb:=cT.mp hb
  show(fl (true,p)).getD (((eP (fl (true,p))).getD a 0+(eP (fl (true,p))).getD (b+1) 0)%((fl (true,p)).length:Int)).toNat 0=((gm (true,p) a (b+1):Nat):Int)
  rw[Iy hm (by omega) ha (by omega) (by omega),show(((fl (true,p)).length:Nat):Int)=(aa (true,p):Int)-1 by omega]
  rfl
theorem Dk{p a b:Nat}(hp:p∈gJ)(ha:a<aa (true,p))(hb:b<aa (true,p)):eM (aL (rY (fl (true,p)) (eP (fl (true,p))) a)) (b:Int)=some (.int (gm (true,p) a b:Nat)):=by
 refine qv (by omega) ?_
 rw[cC8 hp ha]
 unfold aL
 rw[fP,bQ,bQ,ki hb];rfl
theorem Dm{p a:Nat}(hp:p∈gJ)(ha:a<aa (true,p)):eM (ph (fl (true,p)) (eP (fl (true,p)))) (a:Int)=some (.lst false (aL (rY (fl (true,p)) (eP (fl (true,p))) a))):=by
 have hF:=cF (m:=(true,p)) (gQ _ (FZ hp))
 refine qv (by omega) ?_
 unfold ph
 rw[fP,bQ,ki (by rw[hF.len];exact ha)];rfl
end L3
namespace L3
open PySem L2 Mf
theorem cL6(C:Addr)(p:Nat):D.obj C (iG "bits"++[("products":Str)]) (BS D.sh [.int p,.int (aa (true,p)),.int ((bl (aa (true,p)):Nat)-1),.lst true (aL (fl (true,p))),.lst true (aL (eP (fl (true,p)))),.int (fst (true,p)),.lst true (rZ (fl (true,p)) (eP (fl (true,p))))])=u3 C p:=by
 simp only[dF,jN]
 rw[cl5]
 simp only[df,jE,jF];rfl
theorem ch7(C:Addr)(p:Nat):D.obj C (iG "prime") (BS D.sh [.int p,.int p,.int ((bl p:Nat)-1),.lst true (aL (fl (false,p))),.lst true (aL (eP (fl (false,p)))),.int (fst (false,p))])=u0 C p:=by
 simp only[dF,jN,df,jE,jF];rfl
theorem wD{n:Nat}(h:(true,n)∈aD):n∈gJ:=by
 rcases bZ.mp h with h | h
 ·obtain⟨x,hx,e⟩:=bF.mp h
  cases e;exact hx
 ·obtain⟨x,hx,e⟩:=bF.mp h
  cases e
theorem bP7{n:Nat}(h:(false,n)∈aD):n∈pe:=by
 rcases bZ.mp h with h | h
 ·obtain⟨x,hx,e⟩:=bF.mp h
  cases e
 ·obtain⟨x,hx,e⟩:=bF.mp h
  cases e;exact hx
open Classical in
theorem Iz{α:Type}{sh:Bool}{xs:List D}{aH:List (Str × Nat)}{n:Nat}{g0:iW}{te:aY}{av:Dl}{Q:D->Dl->Prop}(l:List α)(e g:α->D)(iE:xs.map D.sh=l.map e)(inj:∀a b,e a=e b->a=b)
  (hx:∀a∈l,g0 (e a) (fV aH n av) λbh=>te bh λd _=>d=g a) (hg:∀d δ (P P':Dl->Prop),(∀ak,P ak->P' ak)->g0 d δ P->g0 d δ P') (e5:(sh&&aH.all (iB av))=true\/∀a∈l,(g a).fr=true) (hl:l.length<=sizeLine) (hq:Q (.lst true (l.map g)) av):v3 sh xs aH n g0 kH te av Q:=by
 let f:D->D:=λx=>if h:∃a∈l,e a=x then g h.choose else .ay
 have hf:∀a∈l,f (e a)=g a:=λa ha=>by
  have h:∃b∈l,e b=e a:=⟨a,ha,rfl⟩
  show(if h:∃b∈l,e b=e a then g h.choose else .ay)=g a
  rw[dif_pos h]
  exact congrArg g (inj _ _ h.choose_spec.2)
 refine⟨λ_=>true,f,λx h=>?_,e5.imp id λh x hx _=>?_,?_,?_⟩
 ·rw[iE]at h
  obtain⟨a,ha,rfl⟩:=bF.mp h
  rw[hf a ha]
  exact hg _ _ _ _ (λak h=>⟨rfl,λ_=>h⟩) (hx a ha)
 ·rw[iE]at hx
  obtain⟨a,ha,rfl⟩:=bF.mp hx
  rw[hf a ha];exact h a ha
 ·have:=congrArg FA iE
  simp at this
  omega
 ·rw[iE,dd5.mpr (λ_ _=>rfl),cg,show l.map (f ∘ e)=l.map g from nQ λa ha=>hf a ha]
  exact hq
theorem IA{i1 i2:Nat}(d:D)(δ:Dl)(P P':Dl->Prop)(h:∀ak,P ak->P' ak)(q:iD i1 i2 d δ P):iD i1 i2 d δ P':=by
 unfold iD at q ⊢
 split at q
 ·exact h _ q
 ·exact q
theorem VQ(xs ys:List Int):(dj (aL xs) (aL ys)).map D.sh=(xs.zip ys).map λz=>D.tup [.int z.1,.int z.2]:=by
 rw[CQ,jF,jF]
 unfold dj aL
 rw[tH,my,tG]
theorem cF2{p x y:Nat}(hp:p≠0)(hx:bl x<bl p):md (cl x y) p=(if y%2=1 then x else 0) ^^^ md (cl (if bl (2*x)=bl p then 2*x ^^^ p else 2*x) (y/2)) p:=by
 have e0:md (if y%2=1 then x else 0) p=(if y%2=1 then x else 0):=by
  split
  ·exact Ao hx
  ·exact Ao (by rw[nZ];exact iu hp)
 rw[Tz,Dh hp,e0]
 congr 1
 split
 ·rw[qy,Dh hp,VI hp,mv]
 ·rfl
theorem cz3{p x:Nat}(hp:p≠0)(hx:bl x<bl p):bl (if bl (2*x)=bl p then 2*x ^^^ p else 2*x)<bl p:=by
 have h2:=cM1 x
 have h0:=iu hp
 split
 ·rename_i h
  have n0:2*x≠0:=λz=>by rw[z,nZ]at h;omega
  have a1:=jy (2*x)
  have a2:=jy p
  have b1:=vQ n0
  have b2:=vQ hp
  rw[h]at a1 b1
  obtain⟨k,hk⟩:∃k,bl p=k+1:=⟨bl p-1,by omega⟩
  rw[hk]at a1 a2 b1 b2 ⊢
  have:=eZ.mpr (Tp a1 a2 b1 b2)
  omega
 ·omega
end L3
namespace L3
open PySem L2 PySem.Spec PyProof.Rows
structure Dn(P:Program)(w:World)(K:PySem.W.Frag)(mg:Str->Option Value)(base:Heap)(n:Nat)(m:Str)(C:Addr)(sp:rJ):Prop where
 cls:eK K C
 ex:∃f fd ps,Meth K C m f/\aQ P w K mg base (oh P w) n f fd ps (Aa sp)/\Binds K fd ps []
section
variable{X:Cx}{e o:Expr}{es:List Expr}{f m x:Str}{pos p apos:Pos}{to:aY}{ta:dh}{n:Nat}
def pk(MO:Addr->rJ->Prop)(m:Str)(to:aY)(ta:dh):aY:=λδ Q=>to δ λd av=>∃C ns xs sp,d=.obj C ns xs/\MO C sp/\m ∉ ns/\ta av λds bh=>sp ((D.obj C ns xs::ds).map D.sh) (λr=>((D.obj C ns xs::ds).all D.pl||r.fr)=true/\Q r bh) λ_=>False
theorem cE9{pl:Sem Bool}(ho:PE X o (lB to))(hr:cM n X.A)(ha:PA X (e::es) (lA ta))
  (dH:starEach (e::es) X.env=(false,eval e X.env)::starEach es X.env:=by rfl) (bS:(backTo pos (starEach es X.env)).any (·.1)=false:=by rfl)
  (ht:eval (.Call (.Attribute o m apos) (e::es) [] pos) X.env=(do
   let ov<-eval o X.env
   standAt apos.atName
   let (f,first)<-holding [ov] (getMethod ov m pl)
   callWith pos f first (backTo pos (starEach (e::es) X.env)) (backToKw pos (keywordEach [] X.env))):=by rfl) :
  PE X (.Call (.Attribute o m apos) (e::es) [] pos) (lE (pk (Dn X.prog X.w X.K X.mg X.base n m) m to ta)):=by
 intro pins s σ H Q I zz
 obtain⟨B,F,δ,ts,Qd,c,q,k⟩:=zz
 refine PySem.W.methodCall_KW (pl:=pl) (bc (ho pins s σ H (λx H1=>∃d av F1,S F1 H1 [d] [x]/\ax B F1 H1 σ av ts/\ah F F1/\ah H H1/\∃C ns xs sp,d=.obj C ns xs/\Dn X.prog X.w X.K X.mg X.base n m C sp/\m ∉ ns/\ta av λds bh=>sp ((D.obj C ns xs::ds).map D.sh) (λr=>((D.obj C ns xs::ds).all D.pl||r.fr)=true/\Qd r bh) λ_=>False) I
  ⟨B,F,δ,ts,_,c,q,λd av v F1 H1 hq f1 h1 c1 s1=>⟨d,av,F1,s1,c1,f1,h1,hq⟩⟩) λu s1 ⟨x,H1,I1,rx,d,av,F1,sd,c1,f1,h1,C,ns,xs,sp,ed,M,hm,hq⟩=>?_) ht
 subst ed
 obtain⟨a,dx,ws,rfl,ea,hl,r0⟩:=Io sd
 obtain rfl:u=fM a:=rx
 obtain⟨f,fd,ps,Ai,FO,hb⟩:=M.ex
 refine GR I1 ea M.cls Ai (Vw hm) ?_
 refine PySem.W.callWith_K (first:=[.ref a]) (h₀:=X.base) I.ok.mod.nW Ai.kp (bc (ha pos pins s1 σ H1 (λvs H2=>∃ds bh F2,S F2 H2 ds vs/\ax B F2 H2 σ bh ts/\ah F1 F2/\ah H1 H2/\sp ((D.obj C ns xs::ds).map D.sh) (λr=>((D.obj C ns xs::ds).all D.pl||r.fr)=true/\Qd r bh) λ_=>False) I1
  ⟨B,F1,av,ts,_,c1,hq,λds bh vs F2 H2 hq f2 h2 c2 s2=>⟨ds,bh,F2,s2,c2,f2,h2,hq⟩⟩) λus s2 ⟨vs,H2,I2,r,ds,bh,F2,Ip,c2,f2,h2,jw⟩=>⟨I2.dG,?_⟩) dH bS
 refine Cn (us:=.ref a::us) (vs:=.ref a::vs) (fQ:=[]) (HY FO) hr hb .nil HX I2 (.cons rfl r) ?_
 rw[mr]
 exact CB (sp:=λds Q=>sp ds Q λ_=>False) c2 (.obj (h2 _ _ ea) hl (r0.shared f2 h2) Ip) jw λd v F' H' hd hf hs c'=>k d bh v F' H' hd (f1.trans (f2.trans hf)) (h1.trans (h2.trans hs)) c'
end
section
variable{X:Cx}{tb th:cX}{body dJ5:List Stmt}{dJ6:Stmt}{K:Str}{Kc:Addr}{kp dJ7 pos:Pos}
end
structure VR(K:PySem.W.Frag)(C:Addr):Prop where
 cls:eK K C
 ha:PySem.W.findIn K (.ref C) "__class__"=some (some (.builtin "object.__class__"))
 hn:PySem.W.specialIn K (.builtin "object.__class__") "__get__"=some (some (.builtin "getset_descriptor.__get__"))
 GS:PySem.W.takesIn K (.builtin "object.__class__")=some true
 hm:PySem.W.mroIn K C (.type "object")=some true
end L3
namespace L3
open PySem L2 Mf
theorem VS{m:Bool × Nat}(hm:m∈aD){a b:Nat}(a1:1<=a)(a2:a<aa m)(b1:1<=b)(b2:b<aa m):∃r:Nat,pw m ((lg m a-lg m b)%((aa m:Int)-1)).toNat=r/\r<aa m/\gm m r b=a:=by
 have hF:=cF hm
 have dr:=hF.lo
 have n0:=jm (lg m a-lg m b) (show(aa m:Int)-1≠0 by omega)
 have n1:=jn (lg m a-lg m b) (show(0:Int)<(aa m:Int)-1 by omega)
 obtain⟨p1,p2,p3⟩:=Di hm (k:=((lg m a-lg m b)%((aa m:Int)-1)).toNat) (by omega)
 obtain⟨g0,g1,g2⟩:=Dj hm a1 a2
 refine⟨(pw m ((lg m a-lg m b)%((aa m:Int)-1)).toNat).toNat,by omega,by omega,?_⟩
 have e:=Iy hm (a:=(pw m ((lg m a-lg m b)%((aa m:Int)-1)).toNat).toNat) (by omega) (by omega) b1 b2
 rw[p3,tI n0,Int.emod_add_emod,Int.sub_add_cancel,Int.emod_eq_of_lt g0 g1,g2]at e
 omega
end L3
namespace L3
open PySem L2 PySem.Spec PyProof.Rows
section
variable{X:Cx}{e o a:Expr}{es:List Expr}{f m y:Str}{pos p apos q:Pos}{t to ta':aY}{ta:dh}{n:Nat}{P:Program}{w:World}{K:PySem.W.Frag}{mg:Str->Option Value}{base:Heap}
theorem j5(he:PE X e (lB t))(hK:K=X.K:=by rfl)(hb:attributeBase e f X.env (eval e X.env)=eval e X.env:=by rfl):PE X (.Attribute e f pos) (lB (oZ K t f)):=by
 subst hK;exact cT5 he hb
theorem r6{pl:Sem Bool}(ho:PE X o (lB to))(hr:cM n X.A)(ha:PA X (e::es) (lA ta))(hP:P=X.prog:=by rfl)(hw:w=X.w:=by rfl)(hK:K=X.K:=by rfl)(hm:mg=X.mg:=by rfl)(hb:base=X.base:=by rfl)
  (dH:starEach (e::es) X.env=(false,eval e X.env)::starEach es X.env:=by rfl) (bS:(backTo pos (starEach es X.env)).any (·.1)=false:=by rfl)
  (ht:eval (.Call (.Attribute o m apos) (e::es) [] pos) X.env=(do
   let ov<-eval o X.env
   standAt apos.atName
   let (f,first)<-holding [ov] (getMethod ov m pl)
   callWith pos f first (backTo pos (starEach (e::es) X.env)) (backToKw pos (keywordEach [] X.env))):=by rfl) :
  PE X (.Call (.Attribute o m apos) (e::es) [] pos) (lE (pd (rW P w K mg base n m) m to ta)):=by
 subst hP hw hK hm hb;exact cI2 ho hr ha dH bS ht
theorem VT{pl:Sem Bool}(ho:PE X o (lB to))(hr:cM n X.A)(ha:PA X (e::es) (lA ta))(hP:P=X.prog:=by rfl)(hw:w=X.w:=by rfl)(hK:K=X.K:=by rfl)(hm:mg=X.mg:=by rfl)(hb:base=X.base:=by rfl)
  (dH:starEach (e::es) X.env=(false,eval e X.env)::starEach es X.env:=by rfl) (bS:(backTo pos (starEach es X.env)).any (·.1)=false:=by rfl)
  (ht:eval (.Call (.Attribute o m apos) (e::es) [] pos) X.env=(do
   let ov<-eval o X.env
   standAt apos.atName
   let (f,first)<-holding [ov] (getMethod ov m pl)
   callWith pos f first (backTo pos (starEach (e::es) X.env)) (backToKw pos (keywordEach [] X.env))):=by rfl) :
  PE X (.Call (.Attribute o m apos) (e::es) [] pos) (lE (pk (Dn P w K mg base n m) m to ta)):=by
 subst hP hw hK hm hb;exact cE9 ho hr ha dH bS ht
end
theorem Ap:∀m∈Mf.aD,1<=Mf.bl m.2/\Mf.bl m.2<=7:=by decide +kernel
end L3
namespace L3
open PySem L2 Mf
def gp(m:Bool × Nat)(a b:Nat):Nat:=if m.1 then a ^^^ b else(a+b)%m.2
def gl(m:Bool × Nat)(a b:Nat):Int:=if m.1 then(a ^^^ b:Nat)else((a:Int)-b)%m.2
def gd(m:Bool × Nat)(xs ys:List Nat):Nat:=(da (gm m) xs ys).foldl (gp m) 0
def r9(c:Int):Bool × Nat:=if c%2=0 then(true,gJ.getD (c/2%21).toNat 0)else(false,pe.getD (c/2%18).toNat 0)
theorem ch6(c:Int):r9 c∈aD:=by
 unfold r9
 split
 ·refine gQ _ (bF.mpr ⟨_,?_,rfl⟩)
  have h:(c/2%21).toNat<gJ.length:=by
   have:=jn (c/2) (show(0:Int)<21 by decide)
   show _<21
   omega
  rw[aK,aJ h]
  exact cC _
 ·refine fg _ (bF.mpr ⟨_,?_,rfl⟩)
  have h:(c/2%18).toNat<pe.length:=by
   have:=jn (c/2) (show(0:Int)<18 by decide)
   show _<18
   omega
  rw[aK,aJ h]
  exact cC _
def dz(m:Bool × Nat):D:=.tup [.bl m.1,.int m.2]
theorem wF(cb cp:Addr)(m:Bool × Nat):fD cb cp m=.obj (if m.1 then cb else cp) (if m.1 then iG "bits"++[("products":Str)]else iG "prime") (if m.1 then pD (true,m.2)++[.lst false (ph (fl (true,m.2)) (eP (fl (true,m.2))))]else pD (false,m.2)):=by
 obtain⟨k,n⟩:=m
 cases k<;>rfl
theorem VU(m:Bool × Nat)(x:Str)(h:x ∉ (["bits","prime","many","wide","powers","logs","step","products"]:List Str)):x ∉ (if m.1 then iG "bits"++[("products":Str)]else iG "prime"):=by
 obtain⟨k,n⟩:=m
 intro z
 apply h
 cases k
 ·have z:x∈iG "prime":=z
  simp[iG]at z
  simp only[cB]
  rcases z with z | z | z | z | z | z<;>simp[z]
 ·have z:x∈iG "bits"++[("products":Str)]:=z
  simp[iG]at z
  simp only[cB]
  rcases z with z | z | z | z | z | z | z<;>simp[z]
theorem cU5(cb cp:Addr)(m:Bool × Nat):(fD cb cp m).sh=fD cb cp m:=by rw[wF];rfl
theorem cT3(cb cp:Addr)(m:Bool × Nat):(fD cb cp m).pl=true:=by rw[wF];rfl
theorem cG2(m:Bool × Nat):(dz m).sh=dz m:=rfl
theorem cE4(m:Bool × Nat):(dz m).pl=true:=rfl
theorem VV{p:Nat}(hp:0<p):∀(l:List Nat) (acc:Nat),acc<p->l.foldl (gp (false,p)) acc=(acc+l.sum)%p
 | [],acc,h=>by simp[yZ h]
 | x::l,acc,h=>by
  rw[tf,show gp (false,p) acc x=(acc+x)%p from rfl,VV hp l _ (vx _ hp),R5]
  show((acc+x)%p+l.sum)%p=_
  rw[y6,FV]
theorem VW(p:Nat):∀xs ys:List Nat,(da (gm (false,p)) xs ys).sum%p=(da (· * ·) xs ys).sum%p
 | [],_=>by simp
 | _::_,[]=>by simp
 | x::xs,y::ys=>by
  simp only[R6,R5]
  show(x*y%p+_)%p=_
  rw[y6,Nat.add_mod,VW p xs ys,<- Nat.add_mod]
theorem VX:∀xs ys:List Nat,(da (· * ·) (xs.map λ(n:Nat)=>(n:Int)) (ys.map λ(n:Nat)=>(n:Int))).sum=(((da (· * ·) xs ys).sum:Nat):Int)
 | [],_=>by simp
 | _::_,[]=>by simp
 | x::xs,y::ys=>by
  simp only[dF,R6,R5]
  rw[VX xs ys,FY,vy]
theorem j6(m:Bool × Nat)(a b:Nat):gp m a b=gp m b a:=by
 unfold gp
 split
 ·rw[RK]
 ·rw[BN]
theorem IB(m:Bool × Nat)(a b c:Nat):gp m (gp m a b) c=gp m a (gp m b c):=by
 unfold gp
 split
 ·rw[tu]
 ·rw[y6,Nat.add_mod_mod,FV]
theorem Dq{m:Bool × Nat}(h:0<m.2)(a b c:Nat):gm m (gp m a b) c=gp m (gm m a c) (gm m b c):=by
 unfold gm gp
 split
 ·rw[qy,Dh (by omega)]
 ·rw[yY,R4,<- yY,Nat.add_mul,y6,Nat.add_mod_mod]
theorem u4{m:Bool × Nat}(h:0<m.2)(a b c:Nat):gm m c (gp m a b)=gp m (gm m c a) (gm m c b):=by rw[hE,Dq h,hE m a,hE m b]
theorem ci2:∀m∈aD,m.1=true->2<=bl m.2:=by decide +kernel
theorem Aq{m:Bool × Nat}(hm:m∈aD){a b:Nat}(ha:a<aa m)(hb:b<aa m):gp m a b<aa m:=by
 have h0:=bX m hm
 obtain⟨k,n⟩:=m
 cases k with
 | true=>exact vS ha hb
 | false=>exact vx _ h0
theorem cj{m:Bool × Nat}(hm:m∈aD)(a b:Nat):gm m a b<aa m:=by
 have h0:=bX m hm
 obtain⟨k,n⟩:=m
 cases k with
 | true =>
  have h2:=ci2 (true,n) hm rfl
  have:=(zK (show n≠0 by have:0<n:=h0;omega) (cl a b)).2
  refine(VL rfl).mpr ?_
  show bl (md (cl a b) n)<=bl n-1
  omega
 | false=>exact vx _ h0
theorem se{m:Bool × Nat}{a:Nat}(ha:a<aa m):gp m 0 a=a:=by
 obtain⟨k,n⟩:=m
 cases k with
 | true=>exact qe a
 | false=>show(0+a)%n=a;rw[R7];exact yZ ha
theorem sg{m:Bool × Nat}{a:Nat}(ha:a<aa m):gp m a 0=a:=by rw[j6];exact se ha
theorem cS1{m:Bool × Nat}(hm:m∈aD){a b:Nat}(ha:a<aa m)(hb:b<aa m):∃r:Nat,gl m a b=r/\r<aa m/\gp m r b=a:=by
 have h0:=bX m hm
 obtain⟨k,n⟩:=m
 cases k with
 | true=>exact⟨a ^^^ b,rfl,vS ha hb,by show a ^^^ b ^^^ b=a;rw[tu,BR,mv]⟩
 | false =>
  have h0:0<n:=h0
  have ha:a<n:=ha
  have hb:b<n:=hb
  refine⟨(a+(n-b))%n,?_,vx _ h0,?_⟩
  ·show((a:Int)-b)%n=_
   rw[qk,FY,Int.natCast_sub (by omega),show((a:Int)+((n:Int)-b))=((a:Int)-b)+n by omega,Int.add_emod_right]
  ·show((a+(n-b))%n+b)%n=a
   rw[y6,show a+(n-b)+b=a+n by omega,Nat.add_mod_right,yZ ha]
def eS(m:Bool × Nat)(n:Int):Nat:=(pw m (n%((aa m:Int)-1)).toNat).toNat
theorem Dr{m:Bool × Nat}(hm:m∈aD)(n:Int):1<=eS m n/\eS m n<aa m/\lg m (eS m n)=n%((aa m:Int)-1)/\pw m (n%((aa m:Int)-1)).toNat=eS m n:=by
 have dr:=(cF hm).lo
 have n0:=jm n (show(aa m:Int)-1≠0 by omega)
 have n1:=jn n (show(0:Int)<(aa m:Int)-1 by omega)
 obtain⟨p1,p2,p3⟩:=Di hm (k:=(n%((aa m:Int)-1)).toNat) (by omega)
 unfold eS
 rw[p3]
 omega
theorem cW6{m:Bool × Nat}(hm:m∈aD)(a b:Int):gm m (eS m a) (eS m b)=eS m (a+b):=by
 obtain⟨a1,a2,a3,_⟩:=Dr hm a
 obtain⟨b1,b2,b3,_⟩:=Dr hm b
 have e:=Iy hm a1 a2 b1 b2
 rw[a3,b3,<- Int.add_emod]at e
 have c:=(Dr hm (a+b)).2.2.2
 rw[c]at e
 omega
theorem VY{m:Bool × Nat}(hm:m∈aD){a:Nat}(h1:1<=a)(h2:a<aa m):eS m (lg m a)=a:=by
 obtain⟨g0,g1,g2⟩:=Dj hm h1 h2
 unfold eS
 rw[Int.emod_eq_of_lt g0 g1,g2];rfl
theorem cW4{m:Bool × Nat}(hm:m∈aD){a b:Nat}(a1:1<=a)(a2:a<aa m)(b1:1<=b)(b2:b<aa m):gm m a b≠0:=by
 rw[<-VY hm a1 a2,<- VY hm b1 b2,cW6 hm]
 have:=(Dr hm (lg m a+lg m b)).1
 omega
end L3
namespace L2
open PySem PySem.Spec PyProof.Rows
section
variable{X:Cx}{a:Expr}{ta:TA}{p pos:Pos}{tg:Expr}
end
end L2
namespace L3
open PySem L2 PySem.Spec PyProof.Rows
section
variable{F H:Hp}{K:PySem.W.Frag}{p:Addr}{ws:List V}{xs:List D}
end
section
variable{X:Cx}{a:Expr}{ta:dh}{p pos:Pos}{tg:Expr}
end
end L3
namespace L3
open PySem L2 Mf
def px(m:Bool × Nat)(x:Nat):Nat->Nat
 | 0=>1
 | k+1=>gm m (px m x k) x
def AllLt(n:Nat)(l:List Nat):Prop:=∀a∈l,a<n
theorem AllLt.getD{n:Nat}{l:List Nat}(h:AllLt n l)(h0:0<n)(k:Nat):l.getD k 0<n:=by
 rw[aK]
 cases e:l[k]? with
 | none=>exact h0
 | some v=>exact h v (vq e)
end L3
namespace L3
open PySem L2 PySem.Spec PyProof.Rows
theorem cc2(n:Nat)(l:List Nat):(aq l).all (cY n)=true:=by
 rw[cy,mx,dw]
 intro a _
 exact oS n _
theorem Ar(n:Nat)(o:Bool)(l:List Nat):cY (n+1) (.lst o (aq l))=true:=cc2 n l
theorem u5(o o':Bool)(a b:List Nat):bK (.lst o (aq a)) (.lst o' (aq b))=decide (a=b):=by
 unfold aq
 rw[rF]
 congr 1
 apply propext
 constructor
 ·intro h
  have:=congrArg (BS Int.toNat) h
  have e:(Int.toNat ∘ λ(n:Nat)=>(n:Int))=id:=by funext x;rfl
  rw[cg,cg,e,List.map_id,List.map_id]at this
  exact this
 ·intro h;rw[h]
theorem i9{l:List Nat}{k:Int}(h0:0<=k)(h:k.toNat<l.length):eM (aq l) k=some (.int ((l.getD k.toNat 0:Nat):Int)):=by
 refine qv h0 ?_
 rw[cy,bQ,aJ h,aK,aJ h];rfl
theorem As{n:Nat}{k:Int}(h0:0<=k)(h:k.toNat<n):iQ n k=some k.toNat:=by
 unfold iQ
 rw[if_pos h0,if_pos (by omega)]
theorem si{n:Nat}(k:Int)(h:k=n):(((aZ k.toNat).map λ(k:Nat)=>D.int (0+(k:Int))).map D.sh)=(aZ n).map λ(i:Nat)=>D.int (i:Int):=by
 subst h
 rw[zY,fP]
 simp
theorem Ds(l:List Nat)(k v:Nat):(aq l).set k (.int (v:Nat))=aq (l.set k v):=by
 rw[cy,cy,List.map_set]
theorem cj5(l:List Nat):(aq l).all D.fr=true:=oQ _
theorem iH(o:Bool)(l:List Nat):(D.lst o (aq l)).sh=.lst false (aq l):=by rw[df,nh]
theorem gK(l:List Nat):(D.lst true (aq l)).fr=true:=by rw[eT,cj5];rfl
theorem cB3{xs:List D}{i:Nat}{d:D}(h:(fm xs)[i]?=some d):∃hi:i<xs.length,d=.tup [.int i,xs[i]]:=by
 have hi:i<(fm xs).length:=(jj.mp h).1
 rw[oU]at hi
 refine⟨hi,?_⟩
 unfold fm at h
 rw[yV,aJ hi]at h
 exact(cU h).symm
theorem ch9{l:List Nat}{i:Nat}{d:D}(h:(fm (aq l))[i]?=some d):∃hi:i<l.length,d=.tup [.int i,.int (l[i]:Nat)]:=by
 obtain⟨hi,e⟩:=cB3 h
 rw[eA]at hi
 refine⟨hi,?_⟩
 rw[e]
 simp only[cy,vz]
theorem co0{l:List Nat}{i:Nat}{d:D}(h:(aq l)[i]?=some d):∃hi:i<l.length,d=.int (l[i]:Nat):=by
 have hi:i<l.length:=by
  have:=(jj.mp h).1
  rw[eA]at this;exact this
 refine⟨hi,?_⟩
 rw[cy,bQ,aJ hi]at h
 exact(cU h).symm
theorem ci5{a:Int}{n i:Nat}{d:D}(h:((aZ n).map λ(k:Nat)=>D.int (a+(k:Int)))[i]?=some d):i<n/\d=.int (a+i):=by
 have hi:i<n:=by
  have:=(jj.mp h).1
  simpa using this
 refine⟨hi,?_⟩
 rw[bQ,ki hi]at h
 exact(cU h).symm
section
variable{X:Cx}
end
end L3
namespace L3
open PySem L2 Mf
def bD(m:Bool × Nat)(a b:Nat):Nat:=(gl m a b).toNat
theorem fH{m:Bool × Nat}(hm:m∈aD){a b:Nat}(ha:a<aa m)(hb:b<aa m):gl m a b=(bD m a b:Nat)/\bD m a b<aa m/\gp m (bD m a b) b=a:=by
 obtain⟨r,e,h1,h2⟩:=cS1 hm ha hb
 have:bD m a b=r:=by unfold bD;rw[e];rfl
 rw[this]
 exact⟨e,h1,h2⟩
theorem Dt{n:Nat}{f:Nat->Nat->Nat}:∀{a b:List Nat},(∀x∈a,∀y∈b,f x y<n)->AllLt n (da f a b)
 | [],_,_=>by intro x hx;simp at hx
 | _::_,[],_=>by intro x hx;simp at hx
 | x::a,y::b,h=>by
  intro z hz
  rw[R6]at hz
  rcases cB.mp hz with rfl | hz
  ·exact h x (by simp) y (by simp)
  ·exact Dt (λx hx y hy=>h x (by simp[hx]) y (by simp[hy])) z hz
theorem bV7(xs ys:List Nat):(dj (aq xs) (aq ys)).map D.sh=(xs.zip ys).map λz=>D.tup [.int (z.1:Int),.int (z.2:Int)]:=by
 unfold aq
 rw[VQ,List.zip_map,cg];rfl
theorem IC{sh:Bool}{aH:List (Str × Nat)}{n i1 i2:Nat}{te:aY}{av:Dl}{Q:D->Dl->Prop}(f:Nat->Nat->Nat){A B:List Nat}(hx:∀x∈A,∀y∈B,iD i1 i2 (.tup [.int (x:Int),.int (y:Int)]) (fV aH n av) λbh=>te bh λd _=>d=.int ((f x y:Nat):Int))
  (hl:A.length<=100000) (hq:Q (.lst true (aq (da f A B))) av):v3 sh (dj (aq A) (aq B)) aH n (iD i1 i2) kH te av Q:=by
 refine Iz (A.zip B) (λz=>D.tup [.int (z.1:Int),.int (z.2:Int)]) (λz=>D.int ((f z.1 z.2:Nat):Int)) (bV7 A B) (λa b h=>?_) (λz hz=>hx z.1 (sW hz).1 z.2 (sW hz).2) IA (.inr λ_ _=>rfl) (by rw[ql,sL];omega) ?_
 ·injection h with h
  simp at h
  exact y7 (by omega) (by omega)
 ·rw[show((A.zip B).map λz=>D.int ((f z.1 z.2:Nat):Int))=aq (da f A B) by rw[cy,my,tG,tG]]
  exact hq
end L3
namespace L3
open PySem L2 PySem.Spec PyProof.Rows
theorem ax.dS7{B:Bs}{F H:Hp}{σ:L2.St}{δ:Dl}{ps ts:List (D × V)}{p:Addr}{o:HO}{A1:List Addr}(c:ax B F H σ δ (ps++ts))(hp:H p=none)(r:R F (upd H p o) (ps.map (·.1)) (ps.map (·.2)) A1):p ∉ A1:=λh=>by
 obtain⟨A,C,r0,_,_,_⟩:=c.own
 rw[gi,gi]at r0
 obtain⟨v1,v2,B1,B2,e,rfl,h1,h2⟩:=R.split r0
 have l1:(ps.map (·.2)).length=v1.length:=by rw[<-h1.length];simp
 obtain⟨rfl,rfl⟩:=FT e l1
 have g1:=h1.grow (ah.refl F) (ah.upd (o:=o) hp) λa ha=>(h1.lists a ha).2
 have:A1=B1:=R.inj r g1
 subst this
 obtain⟨ws,e⟩:=(h1.lists p h).1
 rw[hp]at e;cases e
theorem ax.join{B:Bs}{F H:Hp}{σ:L2.St}{δ:Dl}{ts:List (D × V)}{p p' r:Addr}{xs ys:List D}{ws gr:List V}(c:ax B F H σ δ ((.lst true ys,.ref p')::(.lst true xs,.ref p)::ts))(e1:H p=some (.lst ws))(e2:H p'=some (.lst gr))(hr:H r=none) :
  ax B F (upd H r (.lst (ws++gr))) σ δ ((.lst true (xs++ys),.ref r)::ts):=by
 refine ax.pack (ps:=[(.lst true ys,.ref p'),(.lst true xs,.ref p)]) c (ah.upd hr) λA1 r1 nd=>?_
 have nin:=ax.dS7 (ps:=[(.lst true ys,.ref p'),(.lst true xs,.ref p)]) (ts:=ts) c hr r1
 have n1:p≠r:=λz=>by rw[z,hr]at e1;cases e1
 have n2:p'≠r:=λz=>by rw[z,hr]at e2;cases e2
 have r1:R F (upd H r (.lst (ws++gr))) [.lst true ys,.lst true xs] [.ref p',.ref p] A1:=r1
 cases r1 with
 | @own _ wy _ Ay _ _ By hy fy ry rb =>
  cases rb with
  | @own _ wx _ Ax _ _ Bx hx fx rx rc =>
   cases rc
   rw[bA n2,e2]at hy;cases hy
   rw[bA n1,e1]at hx;cases hx
   refine⟨r::(Ax++Ay),by simpa using R.own cI (c.ext.free hr) (rx.append ry) .nil,?_,λa ha=>?_⟩
   ·refine jk.mpr ⟨λz=>nin ?_,?_⟩
    ·rcases bZ.mp z with z | z<;>simp[z]
    ·have sl:(Ay++Ax).Sublist (p'::Ay++(p::Ax++[])):=by
      rw[mr]
      exact(((de1 p Ax).append_left Ay).trans (de1 p' _))
     exact qg.nodup_iff.mp (nd.sublist sl)
   ·simp only[cB,bZ]at ha ⊢
    rcases ha with rfl | ha | ha
    ·exact .inr hr
    ·simp[ha]
    ·simp[ha]
section
variable{X:Cx}{a b:Expr}{ta tb:aY}{pos:Pos}
def sj(ta tb:aY):aY:=λδ Q=>ta δ λx av=>tb av λy bh=>∃xs ys,x=.lst true xs/\y=.lst true ys/\xs.length+ys.length<=sizeLine/\Q (.lst true (xs++ys)) bh
theorem VZ(ha:PE X a (lE ta))(hb:PE X b (lE tb)):PE X (.BinOp a .Add b pos) (lE (sj ta tb)) :=
 dO (zx Th ha hb) λσ H Q ⟨B,F,δ,ts,Qd,c,q,k⟩ =>
  ⟨B,F,δ,ts,_,c,q,λx av v F1 H1 q1 f1 h1 c1=>⟨B,F1,av,(x,v)::ts,_,c1,q1,λy bh w F2 H2 q2 f2 h2 c2=>by
   obtain⟨xs,ys,rfl,rfl,hz,hq⟩:=q2
   obtain⟨p',gr,rfl,e2,s2⟩:=iZ c2.top c2.ext
   obtain⟨p,ws,rfl,e1,s1⟩:=iZ c2.pop.top c2.ext
   refine⟨p,p',ws,gr,rfl,rfl,e1,e2,by rw[<-s1.length,<- s2.length];exact hz,λr hr=>?_⟩
   exact k _ bh _ F2 _ hq (f1.trans f2) ((h1.trans h2).trans (ah.upd hr)) (c2.join e1 e2 hr)⟩⟩
end
theorem V0{a b:List Nat}(h:aq a=aq b):a=b:=by
 have:=u5 true true a b
 rw[h,show bK (D.lst true (aq b)) (D.lst true (aq b))=true from(u5 _ _ _ _).trans (decide_eq_true rfl)]at this
 exact of_decide_eq_true this.symm
theorem nq{o:Bool}(a b:List Nat)(h:D.lst o (aq a)=D.lst o (aq b)):a=b:=V0 (by injection h)
end L3
namespace L3
open PySem L2 Mf
end L3
namespace L2
open PySem PySem.Spec PyProof.Rows
end L2
namespace L3
open PySem L2 PySem.Spec PyProof.Rows Mf
theorem Au{m:Bool × Nat}(hm:m∈aD)(xs ys:List Nat):gd m xs ys<aa m:=by
 have dr:=(cF hm).lo
 unfold gd
 have:∀(l:List Nat) (a:Nat),a<aa m->AllLt (aa m) l->l.foldl (gp m) a<aa m:=by
  intro l
  induction l with
  | nil=>exact λa ha _=>ha
  | cons x l ih=>exact λa ha h=>ih _ (Aq hm ha (h x (by simp))) λy hy=>h y (by simp[hy])
 exact this _ _ (by omega) (Dt λx _ y _=>cj hm x y)
end L3
namespace L3
open PySem L2 Mf
def cf(l:List Nat)(k:Nat):Nat:=l.getD k 0
theorem sk{l:List Nat}{k:Nat}(h:l.length<=k):cf l k=0:=by
 unfold cf;rw[aK,gW h];rfl
theorem cG{m:Bool × Nat}(hm:m∈aD){l:List Nat}(h:AllLt (aa m) l)(k:Nat):cf l k<aa m:=h.getD (by have:=(cF hm).lo;omega) k
theorem Av(m:Bool × Nat)(x:Nat):bD m x x=0:=by
 obtain⟨k,n⟩:=m
 cases k with
 | true=>show(((x ^^^ x:Nat):Int)).toNat=0;rw[BR];rfl
 | false=>show(((x:Int)-(x:Int))%(n:Int)).toNat=0;rw[Int.sub_self,Int.zero_emod];rfl
end L3
namespace L3
open PySem L2 PySem.Spec PyProof.Rows
section
variable{B:Bs}{F H:Hp}{σ:L2.St}{δ:Dl}{ts ps:List (D × V)}{i k:Nat}{p q:Addr}{l1 l2 ys T8:List D}{ws wb:List V}
end
section
variable{X:Cx}{F H:Hp}{e b:Expr}{pos p p2 p3 pr apos cm HR:Pos}{t ti te:aY}{x y:Str}{i j:Nat}
end
end L3
namespace L3
structure Rg(N:Nat)(p q:Nat->Nat->Nat):Prop where
 pc:∀a b,p a b=p b a
 pa:∀a b c,p (p a b) c=p a (p b c)
 mc:∀a b,q a b=q b a
 ma:∀{a b c},a<N->b<N->c<N->q (q a b) c=q a (q b c)
 dl:∀a b c,q a (p b c)=p (q a b) (q a c)
 z:∀{a},a<N->p 0 a=a
 qz:∀a,q a 0=0
 one:∀{a},a<N->q 1 a=a
 lp:∀{a b},a<N->b<N->p a b<N
 lq:∀a b,q a b<N
 ng:∀{a},a<N->∃b,b<N/\p a b=0
section
variable{N:Nat}{p q:Nat->Nat->Nat}
def sm(p:Nat->Nat->Nat):Nat->(Nat->Nat)->Nat
 | 0,_=>0
 | n+1,f=>p (sm p n f) (f n)
theorem Rg.pos(r:Rg N p q):0<N:=nN (jM _) (r.lq 0 0)
theorem Rg.z'(r:Rg N p q){a:Nat}(h:a<N):p a 0=a:=by rw[r.pc];exact r.z h
theorem Rg.Du(r:Rg N p q){a b c:Nat}(ha:a<N)(hb:b<N)(hc:c<N)(h:p a c=p b c):a=b:=by
 obtain⟨d,_,e⟩:=r.ng hc
 have:=congrArg (λx=>p x d) h
 simp only[r.pa,e]at this
 rw[r.z' ha,r.z' hb]at this
 exact this
theorem Rg.cn(r:Rg N p q){a b:Nat}(ha:a<N)(hb:b<N)(h:p a b=b):a=0:=r.Du ha r.pos hb (by rw[h,r.z hb])
theorem cq{f g:Nat->Nat}:∀{n:Nat},(∀j,j<n->f j=g j)->sm p n f=sm p n g
 | 0,_=>rfl
 | n+1,h=>by rw[sm,sm,cq λj hj=>h j (by omega),h n (by omega)]
theorem j7(r:Rg N p q){f:Nat->Nat}:∀{n:Nat},(∀j,j<n->f j<N)->sm p n f<N
 | 0,_=>r.pos
 | n+1,h=>r.lp (j7 r λj hj=>h j (by omega)) (h n (by omega))
theorem gL(r:Rg N p q){f:Nat->Nat}:∀{n:Nat},(∀j,j<n->f j=0)->sm p n f=0
 | 0,_=>rfl
 | n+1,h=>by rw[sm,gL r λj hj=>h j (by omega),h n (by omega)];exact r.z r.pos
theorem Rg.four(r:Rg N p q)(a b c d:Nat):p (p a b) (p c d)=p (p a c) (p b d):=by
 rw[r.pa,r.pa,<- r.pa b,<- r.pa c,r.pc b c]
theorem nt(r:Rg N p q)(f g:Nat->Nat):∀n,sm p n (λj=>p (f j) (g j))=p (sm p n f) (sm p n g)
 | 0=>(r.z r.pos).symm
 | n+1=>by rw[sm,nt r f g n,sm,sm,r.four]
theorem Aw(r:Rg N p q)(c:Nat)(f:Nat->Nat):∀n,sm p n (λj=>q c (f j))=q c (sm p n f)
 | 0=>(r.qz c).symm
 | n+1=>by rw[sm,Aw r c f n,sm,r.dl]
theorem ID(r:Rg N p q){f:Nat->Nat}(n:Nat):∀k,(∀j,j<n+k->f j<N)->sm p (n+k) f=p (sm p n f) (sm p k λj=>f (n+j))
 | 0,h=>(r.z' (j7 r λj hj=>h j (by omega))).symm
 | k+1,h=>by
  rw[<-FV,sm,ID r n k λj hj=>h j (by omega),sm,r.pa]
theorem cg8(r:Rg N p q){f:Nat->Nat}(n:Nat)(h:∀j,j<n+1->f j<N):sm p (n+1) f=p (f 0) (sm p n λj=>f (j+1)):=by
 rw[BN n 1,ID r 1 n λj hj=>h j (by omega)]
 show p (p 0 (f 0)) _=_
 rw[r.z (h 0 (by omega))]
 congr 1
 exact cq λj _=>by rw[BN]
theorem BI.same(r:Rg N p q){s c b:Nat->Nat}{n L o:Nat}(I:BI N p q s n L c b o)(h:ds p q s c n=0):BI N p q s (n+1) L c (shf 1 b) o where
 c0:=I.c0
 cz:=I.cz
 cl:=I.cl
 ln:=by have:=I.ln;omega
 kp:=λi h1 h2=>by
  by_cases e:i=n
  ·rw[e];exact h
  ·exact I.kp i h1 (by omega)
 mn:=λL1 c1 h1 h2 h3 h4=>I.mn L1 c1 h1 h2 h3 λi a b=>h4 i a (by omega)
 b0:=rfl
 bz:=λj hj=>fu6 I.bz j (by have:=I.ln;omega)
 bl:=fu7 r I.bl
 bk:=λi h1 h2=>by
  have:=I.ln
  rw[dT0 r s b (show 1<=i by omega)]
  exact I.bk _ (by omega) (by omega)
 bo:=λh1=>by
  rw[dT0 r s b (by omega)]
  exact I.bo (by have:=I.ln;omega)
end
end L3
namespace L3
section
variable{N:Nat}{p q:Nat->Nat->Nat}
end
end L3
namespace L3
open PySem L2 Mf
theorem rg{m:Bool × Nat}(hm:m∈aD):Rg (aa m) (gp m) (gm m) where
 pc:=j6 m
 pa:=IB m
 mc:=hE m
 ma:=λ_ _ _=>hJ (bX m hm) _ _ _
 dl:=λa b c=>u4 (bX m hm) b c a
 z:=se
 qz:=λa=>gF m a (bX m hm)
 one:=lW
 lp:=Aq hm
 lq:=cj hm
 ng:=λ{a} ha=>by
  have g:=fH hm (a:=0) (b:=a) (by omega) ha
  exact⟨_,g.2.1,(j6 m _ _).trans g.2.2⟩
theorem co4(p:Nat->Nat->Nat)(l:List Nat):l.foldl p 0=sm p l.length λj=>l.getD j 0:=by
 have key:∀n,n<=l.length->(l.take n).foldl p 0=sm p n λj=>l.getD j 0:=by
  intro n
  induction n with
  | zero=>intro _;rfl
  | succ n ih =>
   intro h
   rw[mw,aJ (by omega),y8,ih (by omega),sm,aK,aJ (show n<l.length by omega)]
   rfl
 have:=key l.length (bN _)
 rw[tD]at this
 exact this
theorem cL5{m:Bool × Nat}(hm:m∈aD)(f:Nat)(b:List Nat)(j:Nat):cf (b.map (gm m f)) j=gm m f (cf b j):=by
 unfold cf
 rw[aK,bQ,aK]
 cases b[j]? with
 | none=>exact(gF m f (bX m hm)).symm
 | some x=>rfl
theorem IE{m:Bool × Nat}(hm:m∈aD){a b:Nat}(ha:a<aa m)(hb:b<aa m)(h0:b≠0):∃r,r<aa m/\gm m r b=a:=by
 by_cases a0:a=0
 ·exact⟨0,by have:=(cF hm).lo;omega,by rw[a0];exact eU m b (bX m hm)⟩
 ·obtain⟨r,_,h1,h2⟩:=VS hm (show 1<=a by omega) ha (show 1<=b by omega) hb
  exact⟨r,h1,h2⟩
end L3
namespace L3
open PySem L2 PySem.Spec PyProof.Rows
section
variable{X:Cx}{i j:Nat}{x y:Str}{p pos pos' apos cm:Pos}
end
section
variable{X:Cx}{e:Expr}{t:aY}{p pos:Pos}
end
section
variable{X:Cx}
theorem ck9(i:Int)(ns:List Int):tZ (.int i) (ns.map V.int)=decide (i∈ns):=by
 unfold tZ
 rw[R3,tw,FL,decide_eq_true_iff]
 exact⟨λ⟨x,hx,he⟩=>(show x=i by simpa[kB]using he) ▸ hx,λhx=>⟨i,hx,by simp[kB]⟩⟩
def pq:cQ:=λx y Q=>match x,y with
 | .int i,.lst _ xs=>∃ns:List Int,xs=aL ns/\Q (.bl (!decide (i∈ns)))
 | _,_=>False
theorem V1:bU X (compareOp .NotIn) pq :=
 ⟨_,bJ8,λ{B F H σ δ ts x y v w Q Qd} c sx sy h k=>by
  unfold pq at h
  split at h
  ·rename_i i o xs
   obtain⟨ns,rfl,q⟩:=h
   obtain⟨p,ws,rfl,e1,s1⟩:=iZ sy c.ext
   have e:=CU s1
   subst e
   cases sx
   refine⟨p,_,rfl,.inl (bR.of e1),rfl,by simp[mL],?_⟩
   rw[if_pos rfl,ck9]
   exact k _ _ _ q (ah.refl _) (c.pushS (.bl .nil) rfl)
  ·exact h.elim⟩
end
end L3
namespace L3
open PySem L2 Mf
def aE(o:Bool)(T:List (List Nat)):List D:=T.map λr=>.lst o (aq r)
theorem jc(o:Bool)(T:List (List Nat)):(aE o T).length=T.length:=by unfold aE;rw[bt]
theorem dk(o:Bool)(T:List (List Nat)):(aE o T).map D.sh=aE false T:=by
 unfold aE
 rw[cg]
 exact nQ λr _=>iH o r
theorem nu(T:List (List Nat)):(aE false T).all D.pl=true:=by
 unfold aE
 rw[mx,dw]
 intro r _
 show(D.lst false (aq r)).pl=true
 rw[fj,kJ];rfl
theorem pz(T:List (List Nat)):(aE true T).all D.fr=true:=by
 unfold aE
 rw[mx,dw]
 intro r _
 exact gK r
theorem sq(o:Bool)(S T:List (List Nat)):aE o S++aE o T=aE o (S++T):=by unfold aE;rw[gi]
theorem u6(o:Bool)(T:List (List Nat))(lo hi:Option Int):fk (aE o T) lo hi=aE o (fk T lo hi):=by
 unfold aE fk
 rw[bt,RY,RX]
theorem sr(o:Bool){T:List (List Nat)}{i:Nat}(h:i<T.length):eM (aE o T) (i:Int)=some (.lst o (aq T[i])):=by
 refine L3.Ic ?_
 unfold aE
 rw[bQ,aJ h];rfl
theorem ce9(n:Nat)(o:Bool)(T:List (List Nat)):(aE o T).all (cY (n+1))=true:=by
 unfold aE
 rw[mx,dw]
 intro r _
 exact Ar _ _ _
theorem IF(n:Nat)(o o':Bool)(T:List (List Nat)):cY (n+2) (.lst o (aE o' T))=true:=ce9 n o' T
theorem V2(o o':Bool):∀(a b:List (List Nat)),bK.fG (aE o a) (aE o' b)=decide (a=b)
 | [],[]=>rfl
 | [],_::_=>by simp[aE,bK.fG]
 | _::_,[]=>by simp[aE,bK.fG]
 | x::xs,y::ys=>by
  show(bK (.lst o (aq x)) (.lst o' (aq y))&&bK.fG (aE o xs) (aE o' ys))=_
  rw[V2 o o' xs ys,u5,tw];simp
theorem V3(o o' o1 o2:Bool)(a b:List (List Nat)):bK (.lst o (aE o1 a)) (.lst o' (aE o2 b))=decide (a=b):=V2 o1 o2 a b
open Classical in
theorem u7{α:Type}{sh:Bool}{xs:List D}{aH:List (Str × Nat)}{n:Nat}{g0:iW}{tt:fS}{te:aY}{av:Dl}{Q:D->Dl->Prop}(l:List α)(e g:α->D)(kp:α->Bool)(iE:xs.map D.sh=l.map e)(inj:∀a b,e a=e b->a=b)
  (hx:∀a∈l,g0 (e a) (fV aH n av) λbh=>tt bh λb iV=>b=kp a/\(kp a=true->te iV λd _=>d=g a)) (e5:(sh&&aH.all (iB av))=true\/∀a∈l,kp a=true->(g a).fr=true) (hl:l.length<=sizeLine) (hq:Q (.lst true ((l.filter kp).map g)) av):v3 sh xs aH n g0 tt te av Q:=by
 have pick:∀{β:Type} (h:α->β) (z:β),∃f:D->β,∀a∈l,f (e a)=h a:=λh z=>⟨λx=>if w:∃a∈l,e a=x then h w.choose else z,λa ha=>by
  have w:∃b∈l,e b=e a:=⟨a,ha,rfl⟩
  show(if w:∃b∈l,e b=e a then h w.choose else z)=h a
  rw[dif_pos w]
  exact congrArg h (inj _ _ w.choose_spec.2)⟩
 obtain⟨f,hf⟩:=pick g .ay
 obtain⟨p,hp⟩:=pick kp false
 refine⟨p,f,λx h=>?_,e5.imp id λh x eo=>?_,?_,?_⟩
 ·rw[iE]at h
  obtain⟨a,ha,rfl⟩:=bF.mp h
  rw[hp a ha,hf a ha]
  exact hx a ha
 ·rw[iE]at eo
  obtain⟨a,ha,rfl⟩:=bF.mp eo
  rw[hp a ha,hf a ha];exact h a ha
 ·have:=congrArg FA iE
  simp at this
  omega
 ·rw[iE,R8,cg,show l.filter (p ∘ e)=l.filter kp from R9 λa ha=>hp a ha,show(l.filter kp).map (f ∘ e)=(l.filter kp).map g from nQ λa ha=>hf a (nG.mp ha).1]
  exact hq
theorem IG{o:Bool}{G:List (List Nat)}{i:Nat}{d:D}(h:(fm (aE o G))[i]?=some d):∃hi:i<G.length,d=.tup [.int i,.lst o (aq G[i])]:=by
 unfold fm aE at h
 rw[yV,bQ]at h
 by_cases hi:i<G.length
 ·rw[aJ hi]at h
  exact⟨hi,(cU h).symm⟩
 ·rw[gW (by omega)]at h;cases h
theorem V4(r:List Nat):(fm (aq r)).map D.sh=(aZ r.length).map λ(i:Nat)=>D.tup [.int (i:Int),.int ((r.getD i 0:Nat):Int)]:=by
 apply FW
 intro i
 unfold fm
 rw[cy,bQ,yV,bQ,bQ]
 by_cases hi:i<r.length
 ·have e:r.getD i 0=r[i]:=by rw[aK,aJ hi];rfl
  rw[aJ hi,ki hi]
  show _=some (D.tup [D.int (i:Int),D.int ((r.getD i 0:Nat):Int)])
  rw[e];rfl
 ·rw[gW (show r.length<=i by omega),gW (show(aZ r.length).length<=i by simpa using hi)];rfl
theorem V5{r:List Nat}(h:∃x∈r,x≠0):((aZ r.length).filter λi=>r.getD i 0 != 0)[0]?=some (r.findIdx (· != 0)):=by
 obtain⟨x,hx,h0⟩:=h
 have hl:r.findIdx (· != 0)<r.length:=Ga ⟨x,hx,by simpa using h0⟩
 rw[<-List.head?_eq_getElem?,List.head?_filter,List.find?_range_eq_some]
 refine⟨?_,cT.mpr hl,λj hj=>?_⟩
 ·rw[aK,aJ hl]
  exact de2 (w:=hl)
 ·have:=List.not_of_lt_findIdx hj
  rw[aK,aJ (by omega)]
  simpa using this
def ag(T:List (List Nat)):Nat:=(T.headD []).length
def j8(T:List (List Nat))(j:Nat):Option Nat:=T.findIdx? λr=>r.getD j 0 != 0
def gM(m:Bool × Nat)(T:List (List Nat))(l:List Nat)(j:Nat):List (List Nat):=T.map λr=>da (λx y=>bD m x (gm m (r.getD j 0) y)) r l
def nB(m:Bool × Nat)(b:Nat):Nat:=((aZ (aa m)).find? λr=>gm m r b==1).getD 0
theorem Dv{m:Bool × Nat}(hm:m∈aD){b r:Nat}(hr:r<aa m)(h:gm m r b=1):nB m b=r:=by
 have m0:=bX m hm
 unfold nB
 cases e:(aZ (aa m)).find? λr=>gm m r b==1 with
 | none =>
  have:=Sa.mp e r (cT.mpr hr)
  simp[h]at this
 | some r' =>
  have h':gm m r' b=1:=by simpa using List.find?_some e
  have l':r'<aa m:=cT.mp (RW e)
  show r'=r
  rw[<-pj hr,<- h',<- hJ m0,hE m r r',hJ m0,h,pj l']
def RT(N w:Nat)(T:List (List Nat)):Prop:=∀r∈T,r.length=w/\AllLt N r
theorem RT.app{N w:Nat}{S T:List (List Nat)}(a:RT N w S)(b:RT N w T):RT N w (S++T):=λr hr=>(bZ.mp hr).elim (a r) (b r)
theorem V6{m:Bool × Nat}(hm:m∈aD){w j:Nat}{T:List (List Nat)}{l:List Nat}(h:RT (aa m) w T)(hl:l.length=w):RT (aa m) w (gM m T l j):=λr hr=>by
 obtain⟨r,h1,rfl⟩:=bF.mp hr
 obtain⟨a,b⟩:=h r h1
 exact⟨by rw[iq,a,hl,tF],Dt λx hx y hy=>(fH hm (b x hx) (cj hm _ y)).2.1⟩
def eE(m:Bool × Nat)(T:List (List Nat))(i p:Nat):List Nat:=(T.getD i []).map (gm m (nB m ((T.getD i []).getD p 0)))
def iJ(m:Bool × Nat)(s:List (List Nat) × List (List Nat))(p:Nat):List (List Nat) × List (List Nat):=match j8 s.2 p with
 | none=>s
 | some i=>(gM m s.1 (eE m s.2 i p) p++[eE m s.2 i p],gM m (s.2.take i++s.2.drop (i+1)) (eE m s.2 i p) p)
def je(m:Bool × Nat)(G:List (List Nat))(k:Nat):List (List Nat) × List (List Nat):=(aZ k).foldl (iJ m) ([],G)
def cH(m:Bool × Nat)(G:List (List Nat)):List (List Nat):=(je m G (ag G)).1
theorem IH(m:Bool × Nat)(G:List (List Nat))(k:Nat):je m G (k+1)=iJ m (je m G k) k:=by
 unfold je
 rw[Gb,y8];rfl
theorem Dw{T:List (List Nat)}{j i:Nat}(h:j8 T j=some i):∃hi:i<T.length,T[i].getD j 0≠0/\T.getD i []=T[i]:=by
 obtain⟨hi,h1,_⟩:=de3.mp h
 exact⟨hi,by simpa using h1,by rw[aK,aJ hi];rfl⟩
structure Az(N w n:Nat)(s:List (List Nat) × List (List Nat)):Prop where
 a:RT N w s.1
 b:RT N w s.2
 l:s.1.length+s.2.length<=n
theorem cm7{m:Bool × Nat}(hm:m∈aD){w n p:Nat}{s:List (List Nat) × List (List Nat)}(h:Az (aa m) w n s):Az (aa m) w n (iJ m s p):=by
 unfold iJ
 split
 ·exact h
 ·rename_i i e
  obtain⟨hi,h1,h2⟩:=Dw e
  have hl:(eE m s.2 i p).length=w:=by unfold eE;rw[bt,h2];exact(h.b _ (cC hi)).1
  have hr:RT (aa m) w [eE m s.2 i p]:=λr hr=>by
   rw[dX]at hr
   refine⟨by rw[hr];exact hl,λx hx=>?_⟩
   rw[hr]at hx
   obtain⟨y,_,rfl⟩:=bF.mp hx
   exact cj hm _ _
  refine⟨(V6 hm h.a hl).app hr,V6 hm (λr hr=>h.b r ?_) hl,?_⟩
  ·rcases bZ.mp hr with hr | hr
   ·exact qi hr
   ·exact qh hr
  ·have:=h.l
   unfold gM
   rw[dU,bt,bt,dU,ij,jl]
   show s.1.length+1+_<=n
   omega
theorem wG{m:Bool × Nat}(hm:m∈aD){w:Nat}{G:List (List Nat)}(h:RT (aa m) w G):∀k,Az (aa m) w G.length (je m G k)
 | 0=>⟨(λr hr=>nomatch hr),h,BJ (R7 _)⟩
 | k+1=>by rw[IH];exact cm7 hm (wG hm h k)
theorem II(j:Nat)(l:List Nat):decide ((j:Int)∈l.map λ(n:Nat)=>(n:Int))=l.contains j:=by
 rw[tw,decide_eq_true_iff,BV,bF]
 exact⟨λ⟨a,h,e⟩=>(show a=j by omega) ▸ h,λh=>⟨j,h,rfl⟩⟩
theorem V7{o:Bool}{G:List (List Nat)}{f:List Nat->Nat}{k:Nat}{d:D}(h:(dj (aq (G.map f)) (aE o G))[k]?=some d):∃hk:k<G.length,d=.tup [.int ((f G[k]:Nat):Int),.lst o (aq G[k])]:=by
 unfold dj aE at h
 rw[cy,mB,bQ,bQ,bQ]at h
 by_cases hk:k<G.length
 ·rw[aJ hk]at h
  exact⟨hk,(cU h).symm⟩
 ·rw[gW (by omega)]at h;cases h
theorem IJ{α:Type}(a:α->Nat)(b:α->Nat):∀(l:List α) (x:List Nat),(l.foldl (λx z=>x.set (a z) (b z)) x).length=x.length
 | [],_=>rfl
 | z::l,x=>by rw[tf,IJ a b l,nI]
theorem co9(G:List (List Nat))(u:List Nat):(dj (aE false G) (aq u)).map D.sh=(G.zip u).map λz=>D.tup [.lst false (aq z.1),.int ((z.2:Nat):Int)]:=by
 rw[CQ,dk,nh]
 unfold dj aE
 rw[cy,tH,my,tG]
end L3
namespace L2
open PySem PySem.Spec PyProof.Rows
theorem bV9{M:Model}{A:Around}{E:Value->Shared->Prop}{s:Shared}{scope:Scope}{globals:Addr}{cl:List (Str × Addr)}{qual:Str}{env:Env}{bi:Addr}{Q:Env->Shared->Prop}
  (hQ:Q (newEnv scope s.heap.objs.size globals (cellsFrom (s.heap.objs.size+1) scope.names cl) qual none .none (some env) bi) { s with heap:=pushCells (s.heap.push { cls:=.type "dict",data:=.dict #[] }) scope.names }) :
  wpAny M A (newFunctionEnv scope globals cl [] qual none .none (some env) bi) Q E s:=by
 simp only[newFunctionEnv,Option.isSome_some,if_true]
 refine wpAny_bind (wpAny_alloc (wpAny_bind (wpAny_layCells _ (λname kind cells=>by cases e:kind==Gd<;>simp[e]) _ _ _ _ ?_)))
 rw[List.forIn_nil]
 refine wpAny_bind (wpAny_pure (wpAny_pure ?_))
 have z:({ s with heap:=s.heap.push { cls:=.type "dict",data:=.dict #[] } }:Shared).heap.objs.size=s.heap.objs.size+1:=vp ..
 rw[z]
 exact hQ
theorem AA:∀(ns:List (Str × NameKind)) (n:Nat) (acc:List (Str × Addr)) (y:Str) (c:Addr),(cellsFrom n ns acc).lookup y=some c->(n<=c/\(y,Gd)∈ns)\/acc.lookup y=some c
 | [],_,_,_,_,h=>.inr h
 | (z,k)::r,n,acc,y,c,h=>by
  unfold cellsFrom at h
  split at h
  ·rename_i hk
   rcases AA r (n+1) _ y c h with⟨h1,h2⟩ | h1
   ·exact .inl ⟨by omega,dZ _ h2⟩
   ·rw[gH]at h1
    cases q:y==z with
    | true =>
     rw[q]at h1;cases h1
     exact .inl ⟨bN _,by rw[eq_of_beq q,eq_of_beq hk];exact gb⟩
    | false=>rw[q]at h1;exact .inr h1
  ·rcases AA r n acc y c h with⟨h1,h2⟩ | h1
   ·exact .inl ⟨h1,dZ _ h2⟩
   ·exact .inr h1
theorem IK:∀(ns:List (Str × NameKind)) (n:Nat) (acc:List (Str × Addr)),(∀y z c,acc.lookup y=some c->acc.lookup z=some c->y=z)->(∀y c,acc.lookup y=some c->c<n) ->
  ∀y z c,(cellsFrom n ns acc).lookup y=some c->(cellsFrom n ns acc).lookup z=some c->y=z
 | [],_,_,i,_,y,z,c,h1,h2=>i y z c h1 h2
 | (u,k)::r,n,acc,i,b,y,z,c,h1,h2=>by
  unfold cellsFrom at h1 h2
  split at h1
  ·rw[if_pos (by assumption)]at h2
   refine IK r (n+1) ((u,n)::acc) (λy z c e1 e2=>?_) (λy c e=>?_) y z c h1 h2
   ·rw[gH]at e1 e2
    cases q1:y==u with
    | true =>
     rw[q1]at e1;cases e1
     cases q2:z==u with
     | true=>rw[eq_of_beq q1,eq_of_beq q2]
     | false=>rw[q2]at e2;exact absurd (b _ _ e2) (fN _)
    | false =>
     rw[q1]at e1
     cases q2:z==u with
     | true=>rw[q2]at e2;cases e2;exact absurd (b _ _ e1) (fN _)
     | false=>rw[q2]at e2;exact i y z c e1 e2
   ·rw[gH]at e
    cases q:y==u with
    | true=>rw[q]at e;cases e;exact BK _
    | false=>rw[q]at e;exact R0 (b _ _ e)
  ·rw[if_neg (by assumption)]at h2
   exact IK r n acc i b y z c h1 h2
theorem IL:∀(ns:List (Str × NameKind)) (n:Nat) (acc:List (Str × Addr)) (y:Str) (c:Addr),(y,Gd)∈ns->(cellsFrom n ns acc).lookup y=some c->n<=c
 | [],_,_,_,_,m,_=>nomatch m
 | (z,k)::r,n,acc,y,c,m,h=>by
  unfold cellsFrom at h
  split at h
  ·rename_i hk
   rcases cB.mp m with e | m
   ·have e1:y=z:=(Prod.mk.inj e).1
    rcases AA r (n+1) _ y c h with⟨h1,_⟩ | h1
    ·exact BW h1
    ·rw[gH,e1,beq_self_eq_true]at h1
     exact BJ (cU h1)
   ·exact BW (IL r (n+1) _ y c m h)
  ·rename_i hk
   rcases cB.mp m with e | m
   ·cases e;exact absurd rfl hk
   ·exact IL r n acc y c m h
def eG(X:Cx)(scope:Scope)(N:List Str)(cl:List (Str × Addr))(C:Addr)(s:Shared)(H:Hp)(fp:List Addr):Cx :=
 { Cr X scope N (cellsFrom (C+1) scope.names cl) C s H fp with fn:=λy=>scope.names.contains (y,Gd) }
section
variable{X:Cx}{scope:Scope}{cl:List (Str × Addr)}
theorem cp1{pins:List (Addr × Obj)}{σ:St}{H:Hp}{s:Shared}{fp:List Addr}{C:Addr}(I:Inv X pins σ H s)(jx:scope.kind=.function)(hC:s.heap.objs.size<=C)
  (gx:∀y c,cl.lookup y=some c->X.env.cells.lookup y=some c) (dT9:∀y,((relabel scope X.env).names.lookup y=some .cell\/(relabel scope X.env).names.lookup y=some .free)->∃c,(cellsFrom (C+1) scope.names cl).lookup y=some c)
  (hf:∀b∈fp,jr X pins H b) (ho:∀b∈fp,∃o,s.heap.get? b=some o/\∀v,o.data≠.cell v) (N:List Str):(eG X scope N cl C s H fp).Ok where
 mod:=I.ok.mod
 kind:=jx
 glob:=I.ok.glob
 blt:=I.ok.blt
 above:=hC
 inj:=IK scope.names (C+1) cl (λy z c h1 h2=>I.ok.inj y z c (gx _ _ h1) (gx _ _ h2)) λy c e=>by
  obtain⟨v,o,ho,_⟩:=I.cell y c (gx y c e)
  exact Nat.lt_succ_of_le (BE (dB (bV ho) hC))
 has:=dT9
 tO:=λy c h e=>eH hC (BW (IL _ _ _ y c (BV.mp h) e))
 hd:=I.ok.hd
 frames:=I.ok.frames
 zc:=.inl rfl
 zd:=λb hb=>⟨by
  obtain⟨o,e,_⟩:=ho b hb
  exact fA (dB (bV e) hC),λy c e z=>by
  rcases AA _ _ _ y c e with⟨h1,_⟩ | h1
  ·obtain⟨o,e,_⟩:=ho b hb
   rw[z]at h1
   exact absurd (dB (bV e) (eH hC (BW h1))) (fN _)
  ·exact(hf b hb).2.2.2.2.1 y c (gx _ _ h1) z⟩
 bs:=I.bs
 kq:=eH I.ok.kq I.sz
 vI:=λb o e hb=>by
  rcases(hf b hb).2.2.2.1 with z | z
  ·exact I.ok.vI b o e z
  ·exact absurd (dB (bV (I.ok.bs b o e).1) z) (fN _)
 vJ:=λb hb z=>(cB.mp (I.B5 b z)).elim (hf b hb).2.1 (hf b hb).2.2.1
 gX:=I.stack
 kr:=I.Gp
end
theorem IM:∀(ns:List (Str × NameKind)) (h:Heap) (acc:List (Str × Addr)) (y:Str) (c:Addr),(cellsFrom h.objs.size ns acc).lookup y=some c->(∃o,(pushCells h ns).get? c=some o/\o.data=.cell none)\/acc.lookup y=some c
 | [],_,_,_,_,e=>.inr e
 | (z,k)::r,h,acc,y,c,e=>by
  unfold cellsFrom at e
  unfold pushCells
  split at e
  ·rename_i hk
   rw[if_pos hk]
   rw[<-vp h { cls:=.type "cell",data:=.cell none }]at e
   rcases IM r _ _ y c e with h1 | h1
   ·exact .inl h1
   ·rw[gH]at h1
    cases q:y==z with
    | true =>
     rw[q]at h1;cases h1
     exact .inl ⟨_,pushCells_keeps _ _ _ _ (gR _ rfl),rfl⟩
    | false=>rw[q]at h1;exact .inr h1
  ·rename_i hk
   rw[if_neg hk]
   exact IM r h acc y c e
end L2
namespace L2
open PySem PySem.Spec PyProof.Rows
section
variable{X:Cx}{elt iter tg:Expr}{pos:Pos}{ifs:List Expr}{scope:Scope}{cl:List (Str × Addr)}{wi:TI}{tt:TT}{te:TE}{g:TG}
theorem V8(aH:List (Str × Nat))(bY:List Str)(hc:X.calm=true)(hi:PI X tg iter wi)
  (hg:∀C s H fp,PG (eG X scope (aH.map (·.1)++bY) cl C s H fp) tg g)
  (ht:∀C s H fp,n8 (eG X scope (aH.map (·.1)++bY) cl C s H fp) ifs tt) (he:∀C s H fp,PE (eG X scope (aH.map (·.1)++bY) cl C s H fp) elt te)
  (pB:closureFor scope X.env=pure cl) (pE:n9 X cl) (pF:∀C:Addr,og (cellsFrom (C+1) scope.names cl) (relabel scope X.env).names) (pG:∀C:Addr,n6 X scope (cellsFrom (C+1) scope.names cl) aH)
  (jx:scope.kind=.function) (pH:∀y∈scope.names,y.2=.local->scope.names.lookup y.1=some .local)
  (hs:∀x,foldedSetIterable iter X.env x=pure x:=by intro _;rfl) {pins:List (Addr × Obj)} {s:Shared} {σ:L2.St} {H:Hp} {Q:VK} {use:Option (Value->Sem Unit)} {cm:Pos} {Rf:Value->Shared->Prop} (I:Inv X pins σ H s) (h:Ct wi aH bY.length g tt te σ H Q)
  (dU0:∀(s':Shared) (H':Hp) (C Da:Addr) (m:Str->Option Value),Inv X pins σ H' s'->s'.heap.Ns C m->H' C=none->C≠X.env.locals->X.cW.heap.objs.size<=C->(∀x c,X.env.cells.lookup x=some c->c≠C)->(∀p∈X.pn++pins,p.1≠C)->C ∉ X.fs->Q (.ref Da) H' ->
   compPost (model X.prog X.w) X.A X.xe use Rf (.ref Da) C (.ok .next) s') :
  wpAny (model X.prog X.w) X.A (comprehension (.ListComp elt [⟨tg,iter,ifs,0⟩] scope pos) scope X.env cm (newList []) false (eval iter X.env) use) Rf X.xe s:=by
 have gx:=pE.all
 refine wpAny_comprehension_free (use:=use) rfl hs pB jx pH (bc (hi pins s σ H _ I h) λv s1 h1=>bc h1 λGF s2 h2=>?_)
 obtain⟨it,fp,tn,J,H2,e,I2,T,zu,f2,q⟩:=h2
 subst e
 refine wpAny_newList ?_
 refine bV9 ?_
 have hD:H2 s2.heap.objs.size=none:=I2.aO.fresh (bN _)
 obtain⟨W,⟨m0,w0⟩,turn⟩:=q s2.heap.objs.size hD
 generalize IQ:s2.heap.push { cls:=.type "list",data:=.seq ([]:List Value).toArray }=g0 at ⊢
 have hCs:g0.objs.size=s2.heap.objs.size+1:=by rw[<-IQ,vp]
 have hDC:s2.heap.objs.size≠g0.objs.size:=by omega
 have hle:s2.heap.objs.size<=g0.objs.size:=by omega
 have vK:∀b o,s2.heap.get? b=some o->b≠g0.objs.size:=λb o e=>fA (dB (bV e) hle)
 obtain⟨g1,Dx⟩:∃g1,g1=pushCells (g0.push { cls:=.type "dict",data:=.dict #[] }) scope.names:=⟨_,rfl⟩
 have ns1:g1.Ns g0.objs.size (λ_=>none):=by rw[Dx];exact(Heap.Ns.new g0 (.type "dict")).keeps (pushCells_keeps _ _)
 have V9:∀b o,g0.get? b=some o->g1.get? b=some o:=λb o e=>by rw[Dx];exact pushCells_keeps _ _ b o (fO _ e)
 have old:∀b o,s2.heap.get? b=some o->g1.get? b=some o:=λb o e=>V9 b o (IQ ▸ fO _ e)
 rw[<-Dx]
 have hDg:g1.get? s2.heap.objs.size=some { cls:=.type "list",data:=.seq ([]:List Value).toArray }:=V9 _ _ (IQ ▸ gR _ rfl)
 have Wa:∀b∈fp,∃o,s2.heap.get? b=some o/\∀v,o.data≠.cell v:=T.obj _ _ zu
 have Dy:=cp1 (scope:=scope) (cl:=cl) (C:=g0.objs.size) I2 jx hle gx (pF g0.objs.size).all f2 Wa (aH.map (·.1)++bY)
 have I4:Inv (eG X scope (aH.map (·.1)++bY) cl g0.objs.size s2 H2 fp) [] (iy aH bY.length σ) (upd H2 s2.heap.objs.size (.lst [])) { s2 with heap:=g1 }:=by
  refine⟨Dy,rfl,I2.bare,Un.laid old (bN _) hD,⟨_,ns1,λi y v h1 h2 h3=>?_⟩,λy c e=>?_,?_,λy c e=>?_,λp hp=>absurd hp (by simp[eG,Cr]),I2.aO.laid old (bN _) ⟨jM _,[],0,.nil,hDg⟩,by simp[iy,eG,Cr]⟩
  ·by_cases IS:i<aH.length
   case neg =>
    have jR:((aH.map λp=>(σ[p.2]?).getD none)++bG bY.length none)[i]?=some (some v):=h2
    rw[sX (by simpa using IS),BL]at jR
    split at jR<;>cases jR
   case pos =>
    have kC:(aH.map (·.1))[i]?=some y:=by
     have z:(aH.map (·.1)++bY)[i]?=some y:=h1
     rwa [sY (by simpa using IS)]at z
    have jR:(aH.map λp=>(σ[p.2]?).getD none)[i]?=some (some v):=by
     have z:((aH.map λp=>(σ[p.2]?).getD none)++bG bY.length none)[i]?=some (some v):=h2
     rwa [sY (by simpa using IS)]at z
    rw[bQ]at kC jR
    cases hj:aH[i]? with
    | none=>rw[hj]at kC;cases kC
    | some p =>
     rw[hj]at kC jR
     have ey:p.1=y:=cU kC
     have ev:(σ[p.2]?).getD none=some v:=cU jR
     obtain⟨hN,hk,AB,c,e1,e2⟩:=(pG g0.objs.size).at p (vq hj)
     obtain⟨m,hn,hl⟩:=I2.loc
     have es:σ[p.2]?=some (some v):=by
      cases z:σ[p.2]? with
      | none=>rw[z]at ev;cases ev
      | some o=>rw[z]at ev;exact congrArg some ev
     obtain⟨u,ru,lk⟩:=hl p.2 p.1 v hN es (hk.elim (λz=>.inr (.inl z)) λz=>.inr (.inr z))
     refine⟨u,ru,?_⟩
     rcases lk with⟨lk,_⟩ | ⟨_,c',e3,ic⟩
     ·rcases hk with hk | hk
      ·have:=hk.symm.trans lk;cases this
      ·have:=hk.symm.trans lk;cases this
     ·rw[e2]at e3
      cases e3
      subst ey
      obtain⟨oc,jq,Ik⟩:=ic
      exact .inr ⟨AB,c,e1,oc,old _ _ jq,Ik⟩
  ·rcases IM _ _ _ y c (show(cellsFrom (g0.push { cls:=.type "dict",data:=.dict #[] }).objs.size scope.names cl).lookup y=some c by rw[vp];exact e)with h1 | h1
   ·rw[<-Dx]at h1
    exact⟨none,h1⟩
   ·obtain⟨v,o,ho,hd⟩:=I2.cell y c (gx y c h1)
    exact⟨v,o,old _ _ ho,hd⟩
  ·show upd H2 _ _ g0.objs.size=none
   rw[bA (fB hDC)]
   exact I2.aO.fresh hle
  ·rcases AA _ _ _ y c e with⟨h1,_⟩ | h1
   ·rw[bA (RF (nN hle h1))]
    exact I2.aO.fresh (eH hle (BW h1))
   ·obtain⟨v,o,ho,hd⟩:=I2.cell y c (gx y c h1)
    rw[bA (fA (bV ho))]
    exact I2.jP y c (gx y c h1)
 have fin:∀(s':Shared) (H':Hp) (aN:L2.St),Inv (eG X scope (aH.map (·.1)++bY) cl g0.objs.size s2 H2 fp) [] aN H' s'->Q (.ref s2.heap.objs.size) H' ->
   compPost (model X.prog X.w) X.A X.xe use Rf (.ref s2.heap.objs.size) g0.objs.size (.ok .next) s':=by
  intro s' H' aN I' q'
  obtain⟨m,hn,_⟩:=I'.loc
  have u:=I'.base
  have hC':H' g0.objs.size=none:=I'.free
  have IX:Inv X pins σ H' s':=I2.dh3 (s':=s') (ch:=fp) I'.os ⟨u.keep,u.slot,u.free,u.there,u.km,u.jO,u.iN⟩ I'.aO I'.bare λb hb=>by
   obtain⟨_,y1,y2,y3,y4,y5⟩:=f2 b hb
   exact⟨y3,y1,y4,y5⟩
  have Wb:∀b,(∃o,s2.heap.get? b=some o)->b≠g0.objs.size:=λb ⟨o,e⟩=>vK b o e
  refine dU0 s' H' g0.objs.size s2.heap.objs.size m IX hn hC' (λz=>?_) (eH I2.sz hle) (λx c e z=>?_) (λp hp z=>?_) (λz=>?_) q'
  ·have h0:X.env.locals<s2.heap.objs.size:=I2.lt
   rw[<-z]at h0
   exact fN _ (dB h0 hle)
  ·obtain⟨v,o,ho,_⟩:=I2.cell x c e
   exact Wb c ⟨o,ho⟩ z
  ·exact Wb p.1 ⟨_,(I2.pin p hp).1⟩ z
  ·exact I2.Sn hle z
 have IT:∀(H':Hp),(∀b∈fp,H' b=none)->∀b∈fp,jr (eG X scope (aH.map (·.1)++bY) cl g0.objs.size s2 H2 fp) [] H' b:=λH' hn b hb =>
  ⟨hn b hb,(Dy.zd b hb).1,Dy.vJ b hb,.inl hb,(Dy.zd b hb).2,λp hp=>absurd hp (by simp[eG,Cr])⟩
 have loop:codeAny (model X.prog X.w) X.A (.compLoop (.ListComp elt [⟨tg,iter,ifs,0⟩] scope pos) 0 (.ref it) (.ref s2.heap.objs.size) (compEnvC scope (cellsFrom (g0.objs.size+1) scope.names cl) g0.objs.size X.env))
   (compPost (model X.prog X.w) X.A X.xe use Rf (.ref s2.heap.objs.size) g0.objs.size) { s2 with heap:=g1 }:=by
  refine bI9 (λn s'=>∃i acc H',Inv (eG X scope (aH.map (·.1)++bY) cl g0.objs.size s2 H2 fp) [] (iy aH bY.length σ) H' s'/\tn i s'.heap/\(∀b∈fp,H' b=none)/\W i n acc H') ?_ m0
   ⟨0,[],_,I4,T.keep _ _ _ zu λb hb o e=>old b o e,λb hb=>?_,w0⟩
  ·rintro n s' ⟨i,acc,H',I',qt,C8,w'⟩
   obtain⟨HA,⟨stop,qn⟩ | ⟨go,step⟩⟩:=turn i n acc H' w'
   ·refine bc (T.done (eG X scope (aH.map (·.1)++bY) cl g0.objs.size s2 H2 fp) rfl rfl rfl hc i [] s' _ H' (λ_ _=>False) I' (IT H' C8) qt stop) λr t1 zz=>?_
    obtain⟨hr,I1⟩:=zz
    subst hr
    exact fin _ _ _ I1 qn
   ·refine bc (T.item (eG X scope (aH.map (·.1)++bY) cl g0.objs.size s2 H2 fp) rfl rfl rfl hc i [] s' _ H' (λ_ _=>False) I' (IT H' C8) qt go) λr t1 zz=>?_
    obtain⟨u,hr,h4⟩:=zz
    subst hr
    refine bc h4 λ_ t2 zz=>?_
    obtain⟨x5,H5,I5,r5,y5,tS,GI⟩:=zz
    obtain⟨CG,st6⟩:=step x5 H5 y5
    have GJ:=I5.pinned (IT H5 GI) (T.obj _ _ tS)
    refine bc (hg _ _ _ _ _ t2 _ H5 x5 u _ GJ r5 st6) λ_ t3 zz=>?_
    obtain⟨GK,H6,I6,⟨dU6,dU7⟩,st7⟩:=zz
    have back:∀(s7:Shared) (H7:Hp) (IU:List V) (m7:Nat),Inv (eG X scope (aH.map (·.1)++bY) cl g0.objs.size s2 H2 fp) ([]++zr fp t2.heap) GK H7 s7->W (i+1) m7 IU H7 ->
      ∃i acc H',Inv (eG X scope (aH.map (·.1)++bY) cl g0.objs.size s2 H2 fp) [] (iy aH bY.length σ) H' s7/\tn i s7.heap/\(∀b∈fp,H' b=none)/\W i m7 acc H':=λs7 H7 IU m7 I7 w7 =>
     ⟨i+1,IU,H7,(I7.zt).weak dU6.symm λj v z=>by
       by_cases hj:j<aH.length
       ·rw[dU7 j hj];exact z
       ·have z':((aH.map λp=>(σ[p.2]?).getD none)++bG bY.length none)[j]?=some (some v):=z
        rw[sX (by simpa using hj),BL]at z'
        split at z'<;>(cases z'),
      T.keep _ _ _ tS λb hb o e=>(I7.pin (b,o) (fg _ (fg _ (Cg hb e)))).1,λb hb=>by
       obtain⟨o,e,d⟩:=T.obj _ _ tS b hb
       exact(I7.pin (b,o) (fg _ (fg _ (Cg hb e)))).2.1,w7⟩
    refine bc (ht _ _ _ _ _ t3 _ H6 _ I6 st7) λok t4 zz=>?_
    obtain⟨H7,I7,hD7,q7⟩:=zz
    cases ok with
    | false =>
     obtain⟨m',hm,w7⟩:=(show ∃m',m'<n/\W (i+1) m' acc H7 from q7)
     exact⟨m',hm,back t4 H7 acc m' I7 w7⟩
    | true =>
     refine bc (he _ _ _ _ _ t4 _ H7 _ I7 q7) λy t5 zz=>?_
     obtain⟨v8,H8,I8,r8,hD8,hl8,m',hm,w8⟩:=zz
     exact bc (Tg _ t5 _ H8 (.ref s2.heap.objs.size) [v8] (.ref s2.heap.objs.size) [y] (λ_ H9=>H9=upd H8 s2.heap.objs.size (.lst (acc++[v8]))) I8 rfl (.cons r8 .nil) ⟨_,acc,v8,rfl,rfl,hD8,hl8,rfl⟩) λ_ t6 zz=>by
      obtain⟨_,H9,I9,_,e9⟩:=zz
      subst e9
      exact⟨m',hm,back t6 _ _ m' I9 w8⟩
  ·obtain⟨o,e,_⟩:=Wa b hb
   rw[bA (fA (bV e))]
   exact(f2 b hb).1
 exact codeAny_compStart_list loop (T.self _ 0 _ _ _ (T.keep _ _ _ zu λb hb o e=>old b o e) loop)
theorem cm2(aH:List (Str × Nat))(bY:List Str)(hc:X.calm=true)(hi:PI X tg iter wi)
  (hg:∀C s H fp,PG (eG X scope (aH.map (·.1)++bY) cl C s H fp) tg g)
  (ht:∀C s H fp,n8 (eG X scope (aH.map (·.1)++bY) cl C s H fp) ifs tt) (he:∀C s H fp,PE (eG X scope (aH.map (·.1)++bY) cl C s H fp) elt te)
  (pB:closureFor scope X.env=pure cl) (pE:n9 X cl) (pF:∀C:Addr,og (cellsFrom (C+1) scope.names cl) (relabel scope X.env).names) (pG:∀C:Addr,n6 X scope (cellsFrom (C+1) scope.names cl) aH)
  (jx:scope.kind=.function) (pH:∀y∈scope.names,y.2=.local->scope.names.lookup y.1=some .local)
  (hs:∀x,foldedSetIterable iter X.env x=pure x:=by intro _;rfl):PE X (.ListComp elt [⟨tg,iter,ifs,0⟩] scope pos) (Ct wi aH bY.length g tt te):=by
 intro pins s σ H Q I h
 rw[eval_ListComp]
 refine V8 aH bY hc hi hg ht he pB pE pF pG jx pH hs I h λs' H' C Da m IX hn hC hL h1 h2 h3 h4 q'=>?_
 exact⟨m,hn,λh' sb=>⟨.ref Da,H',IX.turned (t':=s'.toks) (λb o hb e=>sb.extBut b o hb e) hC hL (.inr h1) h2 h3,rfl,q'⟩⟩
theorem ch8{i:Nat}{x:Str}{pos' apos:Pos}(hN:X.N.Nodup)(rM:X.N[i]?=some x)(hx:Loc X.env.scope x)(hf:X.fn x=true\/X.env.scope.names.lookup x=some .local)(aH:List (Str × Nat))(bY:List Str)(hc:X.calm=true)(hi:PI X tg iter wi)
  (hg:∀C s H fp,PG (eG X scope (aH.map (·.1)++bY) cl C s H fp) tg g)
  (ht:∀C s H fp,n8 (eG X scope (aH.map (·.1)++bY) cl C s H fp) ifs tt) (he:∀C s H fp,PE (eG X scope (aH.map (·.1)++bY) cl C s H fp) elt te)
  (pB:closureFor scope X.env=pure cl) (pE:n9 X cl) (pF:∀C:Addr,og (cellsFrom (C+1) scope.names cl) (relabel scope X.env).names) (pG:∀C:Addr,n6 X scope (cellsFrom (C+1) scope.names cl) aH)
  (jx:scope.kind=.function) (pH:∀y∈scope.names,y.2=.local->scope.names.lookup y.1=some .local)
  (uk:swapsWith (.ListComp elt [⟨tg,iter,ifs,0⟩] scope pos) (some (.Name x pos')) apos.line X.env=pure true) (hs:∀x,foldedSetIterable iter X.env x=pure x:=by intro _;rfl):PS X (.Assign [.Name x pos'] (.ListComp elt [⟨tg,iter,ifs,0⟩] scope pos) apos) (GD (Ct wi aH bY.length g tt te) (Cd i)):=by
 intro pins s σ H D I h
 rw[exec_Assign_Name_used x pos' _ apos uk]
 refine wpAny_bind (wpAny_standAt (wpAny_bind ?_))
 have hh:Ct wi aH bY.length g tt te σ H λv H1=>D.nx (σ.set i (some v)) H1:=h
 show wpAny _ _ (comprehension (.ListComp elt [⟨tg,iter,ifs,0⟩] scope pos) scope X.env (firstIterPos [⟨tg,iter,ifs,0⟩] pos) (newList []) false (eval iter X.env) (some (assign (.Name x pos') X.env)) >>= λ_=>pure ()) _ _ _
 refine wpAny_bind (V8 (use:=some (assign (.Name x pos') X.env)) (pos:=pos) aH bY hc hi hg ht he pB pE pF pG jx pH hs I hh λs' H' C Da m IX hn hC hL h1 h2 h3 h4 q'=>?_)
 obtain⟨oC,es,ep,hoC,Wc,rest⟩:=id hn
 have IP:Inv X (pins++[(C,oC)]) σ H' s':=⟨IX.ok,IX.os,IX.bare,IX.base,IX.loc,IX.cell,IX.free,IX.jP,λp hp=>by
  rcases bZ.mp hp with z | z
  ·exact IX.pin p (gQ _ z)
  ·rcases bZ.mp z with z | z
   ·exact IX.pin p (fg _ z)
   ·obtain rfl:=dX.mp z
    exact⟨hoC,hC,hL,h4,λv w=>by rw[Wc]at w;cases w⟩,IX.aO,IX.len⟩
 refine bc (Ce (X:=X) hN rM hx hf _ s' σ H' (.ref Da) (.ref Da) (λmH H2=>mH=σ.set i (some (.ref Da))/\H2=H') IP rfl ⟨rfl,rfl⟩) λ_ s2 zz=>?_
 obtain⟨mH,H2,I2,e1,e2⟩:=zz
 subst e1 e2
 have pC:=I2.pin (C,oC) (fg _ (fg _ (by simp)))
 refine⟨m,⟨oC,es,ep,pC.1,Wc,rest⟩,λh' sb=>wpAny_pure (wpAny_pure ?_)⟩
 exact⟨σ.set i (some (.ref Da)),H2,(I2.zt).turned (t':=s2.toks) (λb o hb e=>sb.extBut b o hb e) hC hL (.inr h1) h2 h3,q'⟩
end
end L2
namespace L3
open PySem L2 PySem.Spec PyProof.Rows
section
variable{X:Cx}{elt iter tg:Expr}{pos:Pos}{ifs:List Expr}{scope:Scope}{cl:List (Str × Addr)}{ti:jW}{tt:fS}{te:aY}{g:iW}
theorem dv(aH:List (Str × Nat))(bY:List Str)(hc:X.calm=true)(hi:PI X tg iter (lI ti))
  (hg:∀C s H fp,PG (eG X scope (aH.map (·.1)++bY) cl C s H fp) tg (lG aH.length g))
  (ht:∀C s H fp,n8 (eG X scope (aH.map (·.1)++bY) cl C s H fp) ifs (lT tt)) (he:∀C s H fp,PE (eG X scope (aH.map (·.1)++bY) cl C s H fp) elt (lE te))
  (pB:closureFor scope X.env=pure cl) (pE:n9 X cl) (pF:∀C:Addr,og (cellsFrom (C+1) scope.names cl) (relabel scope X.env).names) (pG:∀C:Addr,n6 X scope (cellsFrom (C+1) scope.names cl) aH)
  (jx:scope.kind=.function) (pH:∀y∈scope.names,y.2=.local->scope.names.lookup y.1=some .local)
  (hs:∀x,foldedSetIterable iter X.env x=pure x:=by intro _;rfl):PE X (.ListComp elt [⟨tg,iter,ifs,0⟩] scope pos) (lE (mY ti aH bY.length g tt te)) :=
 dO (cm2 aH bY hc hi hg ht he pB pE pF pG jx pH hs) λσ H Q ⟨B,F,δ,ts,Qd,c,q,k⟩=>⟨B,F,δ,ts,_,c,q,λsh xs av J F1 H1 hq f1 h1 c1 ue zZ=>by
  obtain⟨p,f,hx,e5,hlen,hQ⟩:=hq
  exact Up c1 ue zZ p f hx e5 hlen hQ λd ak v F' H' hd hf hs c'=>k d ak v F' H' hd (f1.trans hf) (h1.trans hs) c'⟩
theorem wH{i:Nat}{x:Str}{pos' apos:Pos}(hN:X.N.Nodup)(rM:X.N[i]?=some x)(hx:L2.Loc X.env.scope x)(aH:List (Str × Nat))(bY:List Str)(hc:X.calm=true)(hi:PI X tg iter (lI ti))
  (hg:∀C s H fp,PG (eG X scope (aH.map (·.1)++bY) cl C s H fp) tg (lG aH.length g))
  (ht:∀C s H fp,n8 (eG X scope (aH.map (·.1)++bY) cl C s H fp) ifs (lT tt)) (he:∀C s H fp,PE (eG X scope (aH.map (·.1)++bY) cl C s H fp) elt (lE te))
  (pB:closureFor scope X.env=pure cl) (pE:n9 X cl) (pF:∀C:Addr,og (cellsFrom (C+1) scope.names cl) (relabel scope X.env).names) (pG:∀C:Addr,n6 X scope (cellsFrom (C+1) scope.names cl) aH)
  (jx:scope.kind=.function) (pH:∀y∈scope.names,y.2=.local->scope.names.lookup y.1=some .local)
  (uk:swapsWith (.ListComp elt [⟨tg,iter,ifs,0⟩] scope pos) (some (.Name x pos')) apos.line X.env=pure true:=by rfl) (hf:X.fn x=true\/X.env.scope.names.lookup x=some .local:=by first | exact .inl rfl | exact .inr rfl)
  (hs:∀x,foldedSetIterable iter X.env x=pure x:=by intro _;rfl):PS X (.Assign [.Name x pos'] (.ListComp elt [⟨tg,iter,ifs,0⟩] scope pos) apos) (lS X (mX i (mY ti aH bY.length g tt te))) :=
 mR (ch8 hN rM hx hf aH bY hc hi hg ht he pB pE pF pG jx pH uk hs) λEn σ H ⟨B,F,δ,Dd,c,q,k1,k2,k3,k4⟩=>⟨B,F,δ,[],_,c,q,λsh xs av J F1 H1 hq f1 h1 c1 ue zZ=>by
  obtain⟨p,f,hx,e5,hlen,hQ⟩:=hq
  exact Up (Qd:=λd ak=>Dd.nx (ak.set i (some d))) c1 ue zZ p f hx e5 hlen hQ λd ak v F' H' hd hf hs c'=>k1 _ _ F' H' hd (c'.store i)⟩
end
end L3
namespace L3
open PySem L2 Mf
theorem lo1{m:Bool × Nat}(hm:m∈aD):1<aa m:=by have:=(cF hm).lo;omega
inductive Sp(N:Nat)(p q:Nat->Nat->Nat)(S:(Nat->Nat)->Prop):(Nat->Nat)->Prop
 | mem {f:Nat->Nat}:S f->Sp N p q S f
 | zero:Sp N p q S λ_=>0
 | add {f g:Nat->Nat}:Sp N p q S f->Sp N p q S g->Sp N p q S λk=>p (f k) (g k)
 | mul {f:Nat->Nat} (c:Nat):c<N->Sp N p q S f->Sp N p q S λk=>q c (f k)
theorem Sp.trans{N:Nat}{p q:Nat->Nat->Nat}{S S':(Nat->Nat)->Prop}(h:∀f,S f->Sp N p q S' f){f:Nat->Nat}(s:Sp N p q S f):Sp N p q S' f:=by
 induction s with
 | mem a=>exact h _ a
 | zero=>exact .zero
 | add _ _ a b=>exact .add a b
 | mul c hc _ a=>exact .mul c hc a
def Gn(T:List (List Nat))(f:Nat->Nat):Prop:=∃r∈T,f=cf r
def dA(m:Bool × Nat)(T:List (List Nat))(f:Nat->Nat):Prop:=Sp (aa m) (gp m) (gm m) (Gn T) f
theorem dA.of{m:Bool × Nat}{T:List (List Nat)}{r:List Nat}(h:r∈T):dA m T (cf r):=.mem ⟨r,h,rfl⟩
theorem ck6{m:Bool × Nat}(hm:m∈aD){a:Nat}(ha:a<aa m){f f' l:Nat->Nat}(IV:∀k,f' k<aa m)(hl:∀k,l k<aa m)(h:∀k,gp m (f' k) (gm m a (l k))=f k):∃b,b<aa m/\f'=λk=>gp m (f k) (gm m b (l k)):=by
 have r:=rg hm
 obtain⟨b,hb,e⟩:=r.ng ha
 refine⟨b,hb,funext λk=>?_⟩
 rw[<-h k,r.pa,r.mc a,r.mc b,<- r.dl,e,r.qz,r.z' (IV k)]
theorem IW{m:Bool × Nat}(hm:m∈aD){r l:List Nat}{w:Nat}(hr:r.length=w)(hl:l.length=w)(a k:Nat):cf (da (λx y=>bD m x (gm m a y)) r l) k=bD m (cf r k) (gm m a (cf l k)):=by
 by_cases h:k<w
 ·unfold cf
  rw[aK,mB,aJ (by omega),aJ (by omega),aK,aJ (by omega),aK,aJ (by omega)]
  rfl
 ·rw[sk (by rw[iq];omega),sk (l:=r) (by omega),sk (l:=l) (by omega),gF m _ (bX m hm),Av]
theorem Dz{m:Bool × Nat}(hm:m∈aD){r l:List Nat}{w a:Nat}(hr:r.length=w)(hl:l.length=w)(ar:AllLt (aa m) r)(k:Nat):gp m (cf (da (λx y=>bD m x (gm m a y)) r l) k) (gm m a (cf l k))=cf r k:=by
 rw[IW hm hr hl]
 exact(fH hm (cG hm ar k) (cj hm _ _)).2.2
theorem IY{m:Bool × Nat}(hm:m∈aD){r l:List Nat}{w:Nat}(hr:r.length=w)(hl:l.length=w)(ar:AllLt (aa m) r)(a k:Nat):cf (da (λx y=>bD m x (gm m a y)) r l) k<aa m:=by
 rw[IW hm hr hl]
 exact(fH hm (cG hm ar k) (cj hm _ _)).2.1
theorem Wd{m:Bool × Nat}(hm:m∈aD){w p i:Nat}{T:List (List Nat)}(hT:RT (aa m) w T)(e:j8 T p=some i):∃(g:List Nat) (c:Nat),g∈T/\T.getD i []=g/\g.length=w/\AllLt (aa m) g/\c<aa m/\gm m c (cf g p)=1/\(eE m T i p).length=w/\AllLt (aa m) (eE m T i p)/\(∀k,cf (eE m T i p) k=gm m c (cf g k))/\cf (eE m T i p) p=1/\∀k,gm m (cf g p) (cf (eE m T i p) k)=cf g k:=by
 obtain⟨hi,h1,h2⟩:=Dw e
 obtain⟨a,b⟩:=hT _ (cC hi)
 have l1:1<aa m:=lo1 hm
 obtain⟨c,hc,DA⟩:=IE hm l1 (cG hm b p) h1
 have ec:nB m (cf T[i] p)=c:=Dv hm hc DA
 have el:eE m T i p=T[i].map (gm m c):=by unfold eE;rw[h2,<- ec];rfl
 have ek:∀k,cf (eE m T i p) k=gm m c (cf T[i] k):=λk=>by rw[el];exact cL5 hm _ _ _
 refine⟨T[i],c,cC hi,h2,a,b,hc,DA,by rw[el,bt,a],λx hx=>?_,ek,by rw[ek];exact DA,λk=>?_⟩
 ·rw[el]at hx
  obtain⟨y,_,rfl⟩:=bF.mp hx
  exact cj hm _ _
 ·rw[ek,<- hJ (bX m hm),hE m _ c,DA,lW (cG hm b k)]
theorem We{m:Bool × Nat}{s:List (List Nat) × List (List Nat)}{p i:Nat}(e:j8 s.2 p=some i):iJ m s p=(gM m s.1 (eE m s.2 i p) p++[eE m s.2 i p],gM m (s.2.take i++s.2.drop (i+1)) (eE m s.2 i p) p):=by unfold iJ;rw[e]
theorem Wf{m:Bool × Nat}{s:List (List Nat) × List (List Nat)}{p:Nat}(e:j8 s.2 p=none):iJ m s p=s:=by unfold iJ;rw[e]
theorem DB{α:Type}{T:List α}{i:Nat}{r:α}(h:r∈T.take i++T.drop (i+1)):r∈T:=(bZ.mp h).elim qi qh
theorem cn4{α:Type}{T:List α}{i:Nat}{r:α}(h:r∈T)(hi:i<T.length):r=T[i]\/r∈T.take i++T.drop (i+1):=by
 obtain⟨j,hj,rfl⟩:=gy h
 rcases Nat.lt_trichotomy j i with h | h | h
 ·exact .inr (bZ.mpr (.inl (List.mem_take_iff_getElem.mpr ⟨j,by omega,rfl⟩)))
 ·subst h;exact .inl rfl
 ·exact .inr (bZ.mpr (.inr (List.mem_drop_iff_getElem.mpr ⟨j-(i+1),by omega,by congr 1;omega⟩)))
theorem bW4{m:Bool × Nat}(hm:m∈aD){w n p:Nat}{s:List (List Nat) × List (List Nat)}(h:Az (aa m) w n s)(f:Nat->Nat):dA m (s.1++s.2) f↔dA m ((iJ m s p).1++(iJ m s p).2) f:=by
 cases e:j8 s.2 p with
 | none=>rw[Wf e]
 | some i =>
  obtain⟨g,c,g1,g2,g3,g4,c1,c2,l1,l2,l3,l4,l5⟩:=Wd hm h.b e
  obtain⟨hi,_,hg⟩:=Dw e
  rw[We e]
  generalize eE m s.2 i p=l at l1 l2 l3 l4 l5
  have ll:=cG hm l2
  have row:∀{T:List (List Nat)},RT (aa m) w T->∀r'∈gM m T l p,∃r∈T,∃b,b<aa m/\cf r'=λk=>gp m (cf r k) (gm m b (cf l k)):=λ{T} hT r' bg=>by
   obtain⟨r,hr,rfl⟩:=bF.mp bg
   obtain⟨a1,a2⟩:=hT r hr
   exact⟨r,hr,ck6 hm (cG hm a2 p) (IY hm a1 l1 a2 _) ll (Dz hm a1 l1 a2)⟩
  have Wg:∀{T:List (List Nat)},RT (aa m) w T->∀r∈T,∃r'∈gM m T l p,cf r=λk=>gp m (cf r' k) (gm m (cf r p) (cf l k)):=λ{T} hT r hr=>by
   obtain⟨a1,a2⟩:=hT r hr
   exact⟨_,bF.mpr ⟨r,hr,rfl⟩,funext λk=>(Dz hm a1 l1 a2 k).symm⟩
  have hB:RT (aa m) w (s.2.take i++s.2.drop (i+1)):=λr hr=>h.b r (DB hr)
  constructor
  ·refine Sp.trans ?_
   rintro f ⟨r,hr,rfl⟩
   have hl:dA m ((gM m s.1 l p++[l])++gM m (s.2.take i++s.2.drop (i+1)) l p) (cf l):=dA.of (by simp)
   rcases bZ.mp hr with hr | hr
   ·obtain⟨r',h1,h2⟩:=Wg h.a r hr
    rw[h2]
    exact .add (dA.of (by simp[h1])) (.mul _ (cG hm (h.a r hr).2 p) hl)
   ·rcases cn4 hr hi with e' | bg
    ·have:cf r=λk=>gm m (cf g p) (cf l k):=funext λk=>by rw[l5 k,e',<- hg,g2]
     rw[this]
     exact .mul _ (cG hm g4 p) hl
    ·obtain⟨r',h1,h2⟩:=Wg hB r bg
     rw[h2]
     exact .add (dA.of (by simp[h1])) (.mul _ (cG hm (h.b r hr).2 p) hl)
  ·refine Sp.trans ?_
   rintro f ⟨r,hr,rfl⟩
   have hl:dA m (s.1++s.2) (cf l):=by
    have:cf l=λk=>gm m c (cf g k):=funext l3
    rw[this]
    exact .mul _ c1 (dA.of (fg _ g1))
   rcases bZ.mp hr with hr | hr
   ·rcases bZ.mp hr with hr | hr
    ·obtain⟨r1,h1,b,hb,h2⟩:=row h.a r hr
     rw[h2]
     exact .add (dA.of (gQ _ h1)) (.mul _ hb hl)
    ·rw[dX]at hr
     rw[hr];exact hl
   ·obtain⟨r1,h1,b,hb,h2⟩:=row hB r hr
    rw[h2]
    exact .add (dA.of (fg _ (DB h1))) (.mul _ hb hl)
structure RR(w:Nat)(R:List (List Nat))(H:Nat->Nat):Prop where
 u:∀i j,i<R.length->j<R.length->cf (R.getD i []) (H j)=if i=j then 1 else 0
 z:∀i,i<R.length->∀t,t<H i->cf (R.getD i []) t=0
 i:∀i j,i<j->j<R.length->H i<H j
 l:∀i,i<R.length->H i<w
theorem wI{α β:Type}(f:α->β){l:List α}{i:Nat}(h:i<l.length)(a:α)(b:β):(l.map f).getD i b=f (l.getD i a):=by
 rw[aK,bQ,aK,aJ h];rfl
theorem dM{α:Type}{l:List α}{i:Nat}(h:i<l.length)(a:α):l.getD i a∈l:=by
 rw[aK,aJ h];exact cC h
theorem bP5{m:Bool × Nat}(hm:m∈aD){w n p:Nat}{s:List (List Nat) × List (List Nat)}(h:Az (aa m) w n s){H:Nat->Nat}(I:RR p s.1 H)(e2:∀r∈s.2,∀t,t<p->cf r t=0):∃H',RR (p+1) (iJ m s p).1 H'/\∀r∈(iJ m s p).2,∀t,t<p+1->cf r t=0:=by
 cases e:j8 s.2 p with
 | none =>
  rw[Wf e]
  refine⟨H,⟨I.u,I.z,I.i,λi hi=>R0 (I.l i hi)⟩,λr hr t ht=>?_⟩
  rcases Sb t p with h1 | h1
  ·exact e2 r hr t h1
  ·have:=de4.mp e r hr
   have z:r.getD p 0=0:=by simpa using this
   rw[show t=p by omega]
   exact z
 | some i0 =>
  obtain⟨g,c,g1,g2,g3,g4,c1,c2,l1,l2,l3,l4,l5⟩:=Wd hm h.b e
  rw[We e]
  generalize eE m s.2 i0 p=l at l1 l2 l3 l4 l5
  have m0:=bX m hm
  have lz:∀t,t<p->cf l t=0:=λt ht=>by rw[l3,e2 g g1 t ht,gF m _ m0]
  have AD:∀{r:List Nat},r.length=w->AllLt (aa m) r->(∀t,t<p->cf (da (λx y=>bD m x (gm m (r.getD p 0) y)) r l) t=cf r t)/\cf (da (λx y=>bD m x (gm m (r.getD p 0) y)) r l) p=0:=λ{r} a1 a2=>by
   constructor
   ·intro t ht
    have:=Dz hm (a:=r.getD p 0) a1 l1 a2 t
    rw[lz t ht,gF m _ m0,sg (IY hm a1 l1 a2 _ _)]at this
    exact this
   ·rw[IW hm a1 l1,l4]
    show bD m (r.getD p 0) (gm m (r.getD p 0) 1)=0
    rw[pj (show r.getD p 0<aa m from cG hm a2 p),Av]
  have nl:(gM m s.1 l p).length=s.1.length:=by unfold gM;rw[bt]
  have Wh:∀i,i<s.1.length->∃r,s.1.getD i []=r/\r.length=w/\AllLt (aa m) r/\(gM m s.1 l p++[l]).getD i []=da (λx y=>bD m x (gm m (r.getD p 0) y)) r l:=λi hi=>by
   refine⟨_,rfl,(h.a _ (dM hi [])).1,(h.a _ (dM hi [])).2,?_⟩
   rw[aK,sY (by omega),<- aK]
   exact wI _ hi [] []
  have Wi:(gM m s.1 l p++[l]).getD s.1.length []=l:=by
   rw[aK,sX (by omega),nl,Ge];rfl
  have le:(gM m s.1 l p++[l]).length=s.1.length+1:=by rw[dU,nl];rfl
  refine⟨λi=>if i<s.1.length then H i else p,⟨λi j hi hj=>?_,λi hi t ht=>?_,λi j AE hj=>?_,λi hi=>?_⟩,λr hr t ht=>?_⟩
  ·show cf ((gM m s.1 l p++[l]).getD i []) _=_
   dsimp only at hi hj ⊢
   rw[le]at hi hj
   by_cases h1:i<s.1.length
   ·obtain⟨r,r1,r2,r3,r4⟩:=Wh i h1
    rw[r4]
    by_cases h2:j<s.1.length
    ·rw[if_pos h2,(AD r2 r3).1 _ (I.l j h2),<- r1]
     exact I.u i j h1 h2
    ·rw[if_neg h2,(AD r2 r3).2,if_neg (by omega)]
   ·have e1:i=s.1.length:=by omega
    rw[e1,Wi]
    by_cases h2:j<s.1.length
    ·rw[if_pos h2,lz _ (I.l j h2),if_neg (by omega)]
    ·rw[if_neg h2,l4,if_pos (by omega)]
  ·dsimp only at hi ht ⊢
   rw[le]at hi
   by_cases h1:i<s.1.length
   ·rw[if_pos h1]at ht
    obtain⟨r,r1,r2,r3,r4⟩:=Wh i h1
    rw[r4,(AD r2 r3).1 _ (by have:=I.l i h1;omega),<- r1]
    exact I.z i h1 t ht
   ·rw[if_neg h1]at ht
    have e1:i=s.1.length:=by omega
    rw[e1,Wi];exact lz t ht
  ·dsimp only at hj ⊢
   rw[le]at hj
   rw[if_pos (by omega)]
   by_cases h2:j<s.1.length
   ·rw[if_pos h2];exact I.i i j AE h2
   ·rw[if_neg h2];exact I.l i (by omega)
  ·dsimp only at hi ⊢
   rw[le]at hi
   split
   ·have:=I.l i (by omega);omega
   ·omega
  ·obtain⟨r1,u9,rfl⟩:=bF.mp hr
   obtain⟨a1,a2⟩:=h.b r1 (DB u9)
   rcases Sb t p with h1 | h1
   ·rw[(AD a1 a2).1 t h1];exact e2 _ (DB u9) t h1
   ·rw[show t=p by omega];exact(AD a1 a2).2
theorem Wj{m:Bool × Nat}(hm:m∈aD){w:Nat}{G:List (List Nat)}(h:RT (aa m) w G):∀k,(∃H,RR k (je m G k).1 H/\∀r∈(je m G k).2,∀t,t<k->cf r t=0)/\∀f,dA m G f↔dA m ((je m G k).1++(je m G k).2) f
 | 0=>⟨⟨λ_=>0,⟨(λ_ _ h=>nomatch h),(λ_ h=>nomatch h),(λ_ _ _ h=>nomatch h),(λ_ h=>nomatch h)⟩,λr _ t ht=>nomatch ht⟩,λf=>.rfl⟩
 | k+1=>by
  obtain⟨⟨H,h1,h2⟩,h3⟩:=Wj hm h k
  have D:=wG hm h k
  rw[IH]
  exact⟨bP5 hm D h1 h2,λf=>(h3 f).trans (bW4 hm D f)⟩
theorem wJ{m:Bool × Nat}(hm:m∈aD){G:List (List Nat)}(h:RT (aa m) (ag G) G):(∃H,RR (ag G) (cH m G) H)/\RT (aa m) (ag G) (cH m G)/\(cH m G).length<=G.length/\∀f,dA m G f↔dA m (cH m G) f:=by
 obtain⟨⟨H,h1,h2⟩,h3⟩:=Wj hm h (ag G)
 have D:=wG hm h (ag G)
 refine⟨⟨H,h1⟩,D.a,by have:=D.l;show(je m G (ag G)).1.length<=_;omega,λf=>(h3 f).trans ⟨Sp.trans ?_,Sp.trans ?_⟩⟩
 ·rintro f ⟨r,hr,rfl⟩
  rcases bZ.mp hr with hr | hr
  ·exact dA.of hr
  ·have:cf r=λ_=>0:=funext λt=>by
    rcases Sb t (ag G)with h4 | h4
    ·exact h2 r hr t h4
    ·exact sk (by rw[(D.b r hr).1];exact h4)
   rw[this];exact .zero
 ·rintro f ⟨r,hr,rfl⟩
  exact dA.of (gQ _ hr)
theorem AF{N:Nat}{p q:Nat->Nat->Nat}(r:Rg N p q){f:Nat->Nat}{j0:Nat}(hf:f j0<N):∀{n:Nat},j0<n->(∀j,j<n->j≠j0->f j=0)->sm p n f=f j0
 | 0,h,_=>nomatch h
 | n+1,h,hz=>by
  rw[sm]
  by_cases e:j0=n
  ·subst e
   rw[gL r λj hj=>hz j (by omega) (by omega),r.z hf]
  ·rw[AF r hf (by omega) λj hj=>hz j (by omega),hz n (by omega) (by omega),r.z' hf]
theorem dA.ann{m:Bool × Nat}(hm:m∈aD){R:List (List Nat)}{n:Nat}{y:Nat->Nat}(h:∀x∈R,sm (gp m) n (λj=>gm m (cf x j) (y j))=0){f:Nat->Nat}(s:dA m R f):sm (gp m) n (λj=>gm m (f j) (y j))=0:=by
 have r:=rg hm
 have m0:=bX m hm
 induction s with
 | mem a=>obtain⟨x,hx,rfl⟩:=a;exact h x hx
 | zero=>exact gL r λj _=>eU m _ m0
 | @add f g _ _ a b =>
  rw[cq (g:=λj=>gp m (gm m (f j) (y j)) (gm m (g j) (y j))) λj _=>by dsimp only;rw[r.mc (gp m _ _),r.dl,r.mc (y j),r.mc (y j)],nt r,a,b,r.z r.pos]
 | @mul f e he _ a =>
  rw[cq (g:=λj=>gm m e (gm m (f j) (y j))) λj _=>hJ m0 _ _ _,Aw r,a,r.qz]
theorem RR.wK{m:Bool × Nat}(hm:m∈aD){w:Nat}{R:List (List Nat)}{H:Nat->Nat}(hR:RT (aa m) w R)(I:RR w R H){i:Nat}(hi:i<R.length):(R.getD i []).findIdx (· != 0)=H i/\∃x∈R.getD i [],x≠0:=by
 have a:=(hR _ (dM hi [])).1
 have l:=I.l i hi
 have u:=I.u i i hi hi
 rw[if_pos rfl]at u
 have eu:(R.getD i [])[H i]'(by omega)=1:=by
  unfold cf at u
  rw[aK (l:=R.getD i []),aJ (by omega)]at u
  exact u
 refine⟨?_,_,cC (show H i<(R.getD i []).length by omega),by rw[eu];decide⟩
 rw[List.findIdx_eq (by omega)]
 refine⟨by rw[eu];rfl,λj hj=>?_⟩
 have z:=I.z i hi j hj
 unfold cf at z
 rw[aK (l:=R.getD i []),aJ (by omega)]at z
 simpa using z
theorem cF1{a b:List Nat}{w:Nat}(ha:a.length=w)(hb:b.length=w)(h:∀k,k<w->cf a k=cf b k):a=b:=by
 refine BU (ha.trans hb.symm) λk h1 h2=>?_
 have:=h k (by omega)
 unfold cf at this
 rw[aK,aK,aJ h1,aJ h2]at this
 exact this
theorem Wk(f:Nat->Nat){w k:Nat}(h:k<w):cf ((aZ w).map f) k=f k:=by
 unfold cf
 rw[aK,bQ,ki h];rfl
theorem va(m:Bool × Nat){xs ys:List Nat}(h:xs.length=ys.length):gd m xs ys=sm (gp m) xs.length λj=>gm m (cf xs j) (cf ys j):=by
 unfold gd
 rw[co4,iq,h,tF]
 refine cq λj hj=>?_
 unfold cf
 rw[aK,mB,aJ (by omega),aJ (by omega),aK,aJ (by omega),aK,aJ (by omega)]
 rfl
def pI(m:Bool × Nat)(xs:List Nat)(T:List (List Nat))(w:Nat):List Nat:=(aZ w).map λk=>gd m xs (T.map λr=>r.getD k 0)
theorem Wl{T:List (List Nat)}(k i:Nat):cf (T.map λr=>r.getD k 0) i=cf (T.getD i []) k:=by
 by_cases h:i<T.length
 ·exact wI (λr:List Nat=>r.getD k 0) h [] 0
 ·rw[sk (by rw[bt];omega),aK,gW (by omega)];rfl
theorem IZ(m:Bool × Nat)(xs:List Nat)(T:List (List Nat))(w:Nat):(pI m xs T w).length=w:=by unfold pI;rw[bt,dD]
theorem cJ2(m:Bool × Nat){xs:List Nat}{T:List (List Nat)}{w k:Nat}(h:xs.length=T.length)(hk:k<w):cf (pI m xs T w) k=sm (gp m) T.length λi=>gm m (cf xs i) (cf (T.getD i []) k):=by
 unfold pI
 rw[Wk _ hk,va m (by rw[bt,h]),h]
 exact cq λj _=>by rw[Wl]
theorem cM7{m:Bool × Nat}(hm:m∈aD){xs ys:List Nat}(h:xs.length=ys.length):gd m xs ys<aa m:=by
 rw[va m h];exact j7 (rg hm) λj _=>cj hm _ _
theorem Wm{m:Bool × Nat}(hm:m∈aD){xs:List Nat}{T:List (List Nat)}(w:Nat)(h:xs.length=T.length):AllLt (aa m) (pI m xs T w):=λx hx=>by
 obtain⟨k,_,rfl⟩:=bF.mp hx
 exact cM7 hm (by rw[bt,h])
def aR(r:List Nat):Nat:=r.findIdx (· != 0)
def cZ(G:List (List Nat))(u:List Nat):List (List Nat):=da (λr x=>r++[x]) G u
theorem I0{N:Nat}{G:List (List Nat)}{u:List Nat}(h0:0<G.length)(hu:u.length=G.length)(hR:RT N (ag G) G)(ha:AllLt N u):ag (cZ G u)=ag G+1/\(cZ G u).length=G.length/\RT N (ag G+1) (cZ G u):=by
 refine⟨?_,by unfold cZ;rw[iq,hu,tF],λr hr=>?_⟩
 ·cases G with
  | nil=>simp at h0
  | cons g G =>
   cases u with
   | nil=>simp at hu
   | cons y u=>show(g++[y]).length=g.length+1;simp
 ·unfold cZ at hr
  obtain⟨i,hi,rfl⟩:=gy hr
  rw[iq]at hi
  rw[dd8]
  obtain⟨a,b⟩:=hR _ (cC (show i<G.length by omega))
  refine⟨by rw[dU,a];rfl,λx hx=>?_⟩
  rcases bZ.mp hx with hx | hx
  ·exact b x hx
  ·rw[dX]at hx
   rw[hx];exact ha _ (cC _)
def lX(R:List (List Nat))(w:Nat):List Nat:=((R.map aR).zip R).foldl (λx z=>x.set z.1 (z.2.getD w 0)) (bG w 0)
def wL(m:Bool × Nat)(G:List (List Nat))(u:List Nat):Option (List Nat):=if((cH m (cZ G u)).map aR).contains (ag G)then none else some (lX (cH m (cZ G u)) (ag G))
theorem AG{α:Type}(a b:α->Nat){j:Nat}:∀(l:List α) (x:List Nat),(∀z∈l,a z≠j)->cf (l.foldl (λx z=>x.set (a z) (b z)) x) j=cf x j
 | [],_,_=>rfl
 | z::l,x,h=>by
  rw[tf,AG a b l _ λy hy=>h y (dZ _ hy)]
  unfold cf
  rw[aK,vn (h z gb),<- aK]
theorem Ja{α:Type}(a b:α->Nat):∀(l:List α) (x:List Nat),l.Pairwise (λy z=>a y≠a z)->∀z∈l,a z<x.length->cf (l.foldl (λx z=>x.set (a z) (b z)) x) (a z)=b z
 | [],_,_,_,h,_=>nomatch h
 | y::l,x,hp,z,hz,hl=>by
  rw[tf]
  rw[BX]at hp
  rcases cB.mp hz with rfl | hz
  ·rw[AG a b l _ λy hy=>fB (hp.1 y hy)]
   unfold cf
   rw[aK,Fz hl];rfl
  ·exact Ja a b l _ hp.2 z hz (by rw[nI];exact hl)
theorem Jb{α:Type}(a b:α->Nat):∀(l:List α) (x:List Nat),(l.foldl (λx z=>x.set (a z) (b z)) x).length=x.length
 | [],_=>rfl
 | z::l,x=>by rw[tf,Jb a b l,nI]
theorem cN7{m:Bool × Nat}(hm:m∈aD){w:Nat}{R:List (List Nat)}{H:Nat->Nat}(hR:RT (aa m) (w+1) R)(I:RR (w+1) R H)(hw:∀i,i<R.length->H i≠w):(lX R w).length=w/\AllLt (aa m) (lX R w)/\(∀i,i<R.length->cf (lX R w) (H i)=cf (R.getD i []) w)/\∀j,(∀i,i<R.length->H i≠j)->cf (lX R w) j=0:=by
 have l1:=lo1 hm
 have zl:((R.map aR).zip R).length=R.length:=by rw[ql,bt,tF]
 have zg:∀i (h:i<R.length),((R.map aR).zip R)[i]'(by omega)=(H i,R.getD i []):=λi h=>by
  rw[Sd,vz]
  have e:R.getD i []=R[i]:=by rw[aK,aJ h];rfl
  have:=(I.wK hm hR h).1
  rw[e]at this ⊢
  exact y7 this rfl
 have zm:∀z∈(R.map aR).zip R,∃i,i<R.length/\z=(H i,R.getD i []):=λz hz=>by
  obtain⟨i,hi,rfl⟩:=gy hz
  exact⟨i,by omega,zg i (by omega)⟩
 have mz:∀i,i<R.length->(H i,R.getD i [])∈(R.map aR).zip R:=λi h=>by
  rw[<-zg i h];exact cC _
 have len:(lX R w).length=w:=by
  unfold lX
  rw[Jb (λz:Nat × List Nat=>z.1) (λz=>z.2.getD w 0),p9]
 have bd:∀z∈(R.map aR).zip R,z.2.getD w 0<aa m:=λz hz=>by
  obtain⟨i,hi,rfl⟩:=zm z hz
  exact cG hm (hR _ (dM hi [])).2 w
 refine⟨len,?_,λi hi=>?_,λj hj=>?_⟩
 ·have key:∀(l:List (Nat × List Nat)) (x:List Nat),(∀z∈l,z.2.getD w 0<aa m)->AllLt (aa m) x->AllLt (aa m) (l.foldl (λx z=>x.set z.1 (z.2.getD w 0)) x):=by
   intro l
   induction l with
   | nil=>exact λx _ h=>h
   | cons z l ih =>
    intro x hz h
    rw[tf]
    refine ih _ (λy hy=>hz y (dZ _ hy)) λy hy=>?_
    rcases yX hy with h1 | h1
    ·exact h y h1
    ·rw[h1];exact hz z gb
  exact key _ _ bd λx hx=>by rw[(FU.mp hx).2];omega
 ·have hp:((R.map aR).zip R).Pairwise (λy z:Nat × List Nat=>y.1≠z.1):=by
   rw[Gf]
   intro i j hi hj AE
   rw[zg i (by omega),zg j (by omega)]
   have:=I.i i j AE (by omega)
   show H i≠H j
   omega
  have h1:=I.l i hi
  have h2:=hw i hi
  exact Ja (λz:Nat × List Nat=>z.1) (λz=>z.2.getD w 0) _ _ hp _ (mz i hi) (by rw[p9];show H i<w;omega)
 ·unfold lX
  rw[AG (λz:Nat × List Nat=>z.1) (λz=>z.2.getD w 0) _ _ λz hz=>?_]
  ·unfold cf
   rw[aK,BL]
   split<;>rfl
  ·obtain⟨i,hi,rfl⟩:=zm z hz
   exact hj i hi
theorem cP9{G:List (List Nat)}{u:List Nat}{w a:Nat}(ha:a<G.length)(hu:u.length=G.length)(hw:(G.getD a []).length=w):(∀j,j<w->cf ((cZ G u).getD a []) j=cf (G.getD a []) j)/\cf ((cZ G u).getD a []) w=cf u a:=by
 have e:(cZ G u).getD a []=G.getD a []++[u.getD a 0]:=by
  unfold cZ
  rw[aK,mB,aK,aK,aJ ha,aJ (by omega)];rfl
 rw[e]
 generalize G.getD a []=g at hw
 refine⟨λj hj=>?_,?_⟩
 ·unfold cf
  rw[aK,sY (by omega),<- aK]
 ·unfold cf
  rw[aK,sX (by omega),hw,Ge];rfl
theorem cT9{m:Bool × Nat}(hm:m∈aD):∃e,e<aa m/\gp m 1 e=0/\e≠0/\∀{a b},a<aa m->b<aa m->(gp m a (gm m b e)=0↔a=b):=by
 have r:=rg hm
 obtain⟨e,he,h⟩:=r.ng (lo1 hm)
 refine⟨e,he,h,λz=>?_,λ{a b} ha hb=>?_⟩
 ·rw[z,r.z' (lo1 hm)]at h;omega
 ·have k:gp m b (gm m b e)=0:=by
   have:=r.dl b 1 e
   rw[h,r.qz,pj hb]at this
   exact this.symm
  exact⟨λh1=>r.Du ha hb (cj hm b e) (h1.trans k.symm),λh1=>h1 ▸ k⟩
theorem cJ1{m:Bool × Nat}(hm:m∈aD){G:List (List Nat)}{u:List Nat}(h0:0<G.length)(hu:u.length=G.length)(hR:RT (aa m) (ag G) G)(ha:AllLt (aa m) u){x:Nat->Nat}(hx:∀j,x j<aa m)(h:∀a,a<G.length->sm (gp m) (ag G) (λj=>gm m (cf (G.getD a []) j) (x j))=cf u a):∃X,wL m G u=some X/\X.length=ag G/\AllLt (aa m) X/\∀a,a<G.length->sm (gp m) (ag G) (λj=>gm m (cf (G.getD a []) j) (cf X j))=cf u a:=by
 obtain⟨w1,w2,w3⟩:=I0 h0 hu hR ha
 have w4:=w3
 rw[<-w1]at w4
 obtain⟨⟨H,I⟩,iR,il,sp⟩:=wJ hm w4
 rw[w1]at I iR
 have r:=rg hm
 obtain⟨e,e1,e2,e3,e4⟩:=cT9 hm
 have dot:∀(y:Nat->Nat),(∀j,y j<aa m)->∀a,a<G.length->sm (gp m) (ag G+1) (λj=>gm m (cf ((cZ G u).getD a []) j) (if j<ag G then y j else e))=gp m (sm (gp m) (ag G) λj=>gm m (cf (G.getD a []) j) (y j)) (gm m (cf u a) e):=λy hy a h1=>by
  obtain⟨c1,c2⟩:=cP9 h1 hu (hR _ (dM h1 [])).1
  rw[sm,if_neg (fN _),c2]
  refine congrArg (λz=>gp m z _) (cq λj hj=>?_)
  rw[c1 j hj,if_pos hj]
 have ann:∀x'∈cZ G u,sm (gp m) (ag G+1) (λj=>gm m (cf x' j) (if j<ag G then x j else e))=0:=λx' eo=>by
  obtain⟨a,h1,rfl⟩:=gy eo
  have ea:(cZ G u)[a]=(cZ G u).getD a []:=by rw[aK,aJ h1];rfl
  rw[ea,dot x hx a (by omega),h a (by omega)]
  exact(e4 (cG hm ha a) (cG hm ha a)).mpr rfl
 have hw:∀i,i<(cH m (cZ G u)).length->H i≠ag G:=λi hi z=>by
  have:=dA.ann hm ann ((sp _).mpr (dA.of (dM hi [])))
  rw[sm,gL r λj hj=>?_,if_neg (fN _)]at this
  ·have u1:=I.u i i hi hi
   rw[z,if_pos rfl]at u1
   rw[u1,lW e1,r.z e1]at this
   exact e3 this
  ·rw[I.z i hi j (by omega),eU m _ (bX m hm)]
 obtain⟨X1,X2,X3,X4⟩:=cN7 hm iR I hw
 refine⟨lX (cH m (cZ G u)) (ag G),?_,X1,X2,λa h1=>?_⟩
 ·unfold wL
  rw[if_neg]
  intro c
  obtain⟨y,hy,hz⟩:=bF.mp (BV.mp c)
  obtain⟨i,hi,rfl⟩:=gy hy
  refine hw i hi ?_
  rw[<-(I.wK hm iR hi).1,<- hz,aK,aJ hi];rfl
 ·have dW5:∀x'∈cH m (cZ G u),sm (gp m) (ag G+1) (λj=>gm m (cf x' j) (if j<ag G then cf (lX (cH m (cZ G u)) (ag G)) j else e))=0:=λx' eo=>by
   obtain⟨i,hi,rfl⟩:=gy eo
   have ei:(cH m (cZ G u))[i]=(cH m (cZ G u)).getD i []:=by rw[aK,aJ hi];rfl
   have Jc:=cG hm (iR _ (dM hi [])).2
   have hl:H i<ag G:=by have:=I.l i hi;have:=hw i hi;omega
   rw[ei,sm,if_neg (fN _),AF r (f:=λj=>gm m (cf ((cH m (cZ G u)).getD i []) j) (if j<ag G then cf (lX (cH m (cZ G u)) (ag G)) j else e)) (cj hm _ _) hl λj hj hn=>?_]
   ·rw[if_pos hl,X3 i hi,I.u i i hi hi,if_pos rfl,lW (Jc _)]
    exact(e4 (Jc _) (Jc _)).mpr rfl
   ·rw[if_pos hj]
    by_cases c:∃i',i'<(cH m (cZ G u)).length/\H i'=j
    ·obtain⟨i',h1,rfl⟩:=c
     rw[I.u i i' hi h1,if_neg (λz:i=i'=>hn (by rw[z])),eU m _ (bX m hm)]
    ·rw[X4 j λi' h1 h2=>c ⟨i',h1,h2⟩,r.qz]
  have:=dA.ann hm dW5 ((sp _).mp (dA.of (dM (show a<(cZ G u).length by omega) [])))
  rw[dot _ (cG hm X2) a h1]at this
  exact(e4 (j7 r λj _=>cj hm _ _) (cG hm ha a)).mp this
def cK(T:List (List Nat)):List (List Nat):=(aZ (ag T)).map λj=>T.map λr=>r.getD j 0
theorem DC{T:List (List Nat)}{a:Nat}(h:a<ag T):(cK T).getD a []=T.map λr=>r.getD a 0:=by
 unfold cK
 rw[aK,bQ,ki h];rfl
theorem wM{N:Nat}{T:List (List Nat)}(h0:0<N)(hw:0<ag T)(hT:RT N (ag T) T):(cK T).length=ag T/\ag (cK T)=T.length/\RT N T.length (cK T):=by
 have a:(cK T).length=ag T:=by unfold cK;rw[bt,dD]
 have c:RT N T.length (cK T):=λr hr=>by
  obtain⟨j,_,rfl⟩:=bF.mp hr
  refine⟨bt _,λx hx=>?_⟩
  obtain⟨y,hy,rfl⟩:=bF.mp hx
  exact(hT y hy).2.getD h0 j
 refine⟨a,?_,c⟩
 have:=DC hw
 have e:ag (cK T)=((cK T).getD 0 []).length:=by
  unfold ag
  cases cK T<;>rfl
 rw[e,this,bt]
end L3
namespace L3
open PySem L2 Mf
def lY(T:List (List Nat))(w:Nat):List Nat:=(aZ w).filter λj=>!(T.map aR).contains j
def jf(m:Bool × Nat)(T:List (List Nat))(w f:Nat):List Nat:=(((T.map aR).zip T).foldl (λx z=>x.set z.1 (bD m 0 (z.2.getD f 0))) ((bG w 0).set f 1))
def jH(m:Bool × Nat)(T:List (List Nat))(w:Nat):List (List Nat):=(lY T w).map (jf m T w)
theorem RR.heads{m:Bool × Nat}(hm:m∈aD){w:Nat}{R:List (List Nat)}{H:Nat->Nat}(hR:RT (aa m) w R)(I:RR w R H):R.map aR=(aZ R.length).map H:=by
 refine BU (by rw[bt,bt,dD]) λi h1 h2=>?_
 rw[bt]at h1
 rw[vz,vz,Se,<- (I.wK hm hR h1).1,aK,aJ h1];rfl
theorem RR.mem{m:Bool × Nat}(hm:m∈aD){w:Nat}{R:List (List Nat)}{H:Nat->Nat}(hR:RT (aa m) w R)(I:RR w R H)(j:Nat):j∈R.map aR↔∃i,i<R.length/\H i=j:=by
 rw[I.heads hm hR,bF]
 exact⟨λ⟨i,a,b⟩=>⟨i,cT.mp a,b⟩,λ⟨i,a,b⟩=>⟨i,cT.mpr a,b⟩⟩
theorem RR.free{m:Bool × Nat}(hm:m∈aD){w:Nat}{R:List (List Nat)}{H:Nat->Nat}(hR:RT (aa m) w R)(I:RR w R H)(j:Nat):j∈lY R w↔j<w/\∀i,i<R.length->H i≠j:=by
 unfold lY
 rw[nG,cT,Bool.not_eq_true',<- Bool.not_eq_true,BV,I.mem hm hR]
 exact and_congr_right λ_=>⟨λh i a b=>h ⟨i,a,b⟩,λh ⟨i,a,b⟩=>h i a b⟩
theorem Wn{m:Bool × Nat}(hm:m∈aD){w f:Nat}{R:List (List Nat)}{H:Nat->Nat}(hR:RT (aa m) w R)(I:RR w R H)(hf:f∈lY R w):(jf m R w f).length=w/\AllLt (aa m) (jf m R w f)/\cf (jf m R w f) f=1/\(∀i,i<R.length->cf (jf m R w f) (H i)=bD m 0 (cf (R.getD i []) f))/\∀j,j≠f->(∀i,i<R.length->H i≠j)->cf (jf m R w f) j=0:=by
 obtain⟨f1,f2⟩:=(I.free hm hR f).mp hf
 have l1:=lo1 hm
 have zl:((R.map aR).zip R).length=R.length:=by rw[ql,bt,tF]
 have zg:∀i (h:i<R.length),((R.map aR).zip R)[i]'(by omega)=(H i,R.getD i []):=λi h=>by
  rw[Sd,vz]
  have e:R.getD i []=R[i]:=by rw[aK,aJ h];rfl
  have:=(I.wK hm hR h).1
  rw[e]at this ⊢
  exact y7 this rfl
 have zm:∀z∈(R.map aR).zip R,∃i,i<R.length/\z=(H i,R.getD i []):=λz hz=>by
  obtain⟨i,hi,rfl⟩:=gy hz
  exact⟨i,by omega,zg i (by omega)⟩
 have mz:∀i,i<R.length->(H i,R.getD i [])∈(R.map aR).zip R:=λi h=>by
  rw[<-zg i h];exact cC _
 have bd:∀z∈(R.map aR).zip R,bD m 0 (z.2.getD f 0)<aa m:=λz hz=>by
  obtain⟨i,hi,rfl⟩:=zm z hz
  exact(fH hm (by omega) (cG hm (hR _ (dM hi [])).2 f)).2.1
 refine⟨?_,?_,?_,λi hi=>?_,λj hj hj2=>?_⟩
 ·unfold jf
  rw[Jb (λz:Nat × List Nat=>z.1) (λz=>bD m 0 (z.2.getD f 0)),nI,p9]
 ·have key:∀(l:List (Nat × List Nat)) (x:List Nat),(∀z∈l,bD m 0 (z.2.getD f 0)<aa m)->AllLt (aa m) x->AllLt (aa m) (l.foldl (λx z=>x.set z.1 (bD m 0 (z.2.getD f 0))) x):=by
   intro l
   induction l with
   | nil=>exact λx _ h=>h
   | cons z l ih =>
    intro x hz h
    rw[tf]
    refine ih _ (λy hy=>hz y (dZ _ hy)) λy hy=>?_
    rcases yX hy with h1 | h1
    ·exact h y h1
    ·rw[h1];exact hz z gb
  refine key _ _ bd λx hx=>?_
  rcases yX hx with h1 | h1
  ·rw[(FU.mp h1).2];omega
  ·omega
 ·unfold jf
  rw[AG (λz:Nat × List Nat=>z.1) (λz=>bD m 0 (z.2.getD f 0)) _ _ λz hz=>?_]
  ·unfold cf
   rw[aK,Fz (by rw[p9];exact f1)];rfl
  ·obtain⟨i,hi,rfl⟩:=zm z hz
   exact f2 i hi
 ·have hp:((R.map aR).zip R).Pairwise (λy z:Nat × List Nat=>y.1≠z.1):=by
   rw[Gf]
   intro i j hi hj AE
   rw[zg i (by omega),zg j (by omega)]
   have:=I.i i j AE (by omega)
   show H i≠H j
   omega
  exact Ja (λz:Nat × List Nat=>z.1) (λz=>bD m 0 (z.2.getD f 0)) _ _ hp _ (mz i hi) (by rw[nI,p9];exact I.l i hi)
 ·unfold jf
  rw[AG (λz:Nat × List Nat=>z.1) (λz=>bD m 0 (z.2.getD f 0)) _ _ λz hz=>?_]
  ·unfold cf
   rw[aK,vn (fB hj),BL]
   split<;>rfl
  ·obtain⟨i,hi,rfl⟩:=zm z hz
   exact hj2 i hi
theorem cI5{N:Nat}{p q:Nat->Nat->Nat}(r:Rg N p q){f:Nat->Nat}{a b n:Nat}(ha:a<n)(hb:b<n)(hn:a≠b)(fa:f a<N)(fb:f b<N)(hz:∀j,j<n->j≠a->j≠b->f j=0):sm p n f=p (f a) (f b):=by
 have h1:=AF r (f:=λj=>if j=a then f a else 0) (j0:=a) (n:=n) (by rw[if_pos rfl];exact fa) ha λj _ h=>if_neg h
 have h2:=AF r (f:=λj=>if j=b then f b else 0) (j0:=b) (n:=n) (by rw[if_pos rfl];exact fb) hb λj _ h=>if_neg h
 rw[if_pos rfl]at h1 h2
 rw[<-h1,<- h2,<- nt r]
 refine cq λj hj=>?_
 by_cases ja:j=a
 ·rw[if_pos ja,if_neg (by omega),r.z' fa,ja]
 ·by_cases jb:j=b
  ·rw[if_neg ja,if_pos jb,r.z fb,jb]
  ·rw[if_neg ja,if_neg jb,hz j hj ja jb,r.z r.pos]
def dt(m:Bool × Nat)(w:Nat)(x y:Nat->Nat):Nat:=sm (gp m) w λj=>gm m (x j) (y j)
theorem cO8{m:Bool × Nat}(hm:m∈aD)(w:Nat)(x y z:Nat->Nat):dt m w x (λk=>gp m (y k) (z k))=gp m (dt m w x y) (dt m w x z):=by
 have r:=rg hm
 unfold dt
 rw[<-nt r]
 exact cq λj _=>r.dl _ _ _
theorem cJ5{m:Bool × Nat}(hm:m∈aD)(w c:Nat)(x y:Nat->Nat):dt m w x (λk=>gm m c (y k))=gm m c (dt m w x y):=by
 have r:=rg hm
 have m0:=bX m hm
 unfold dt
 rw[<-Aw r]
 exact cq λj _=>by rw[<-hJ m0,hE m (x j),hJ m0]
theorem Wo{m:Bool × Nat}(hm:m∈aD)(w:Nat)(x:Nat->Nat)(c:Nat->Nat)(F:Nat->Nat->Nat):∀n,dt m w x (λk=>sm (gp m) n λi=>gm m (c i) (F i k))=sm (gp m) n λi=>gm m (c i) (dt m w x (F i))
 | 0=>gL (rg hm) λj _=>(rg hm).qz _
 | n+1=>by
  rw[sm,<- Wo hm w x c F n,<- cJ5 hm,<- cO8 hm];rfl
theorem cP3{m:Bool × Nat}(hm:m∈aD){w f:Nat}{R:List (List Nat)}{H:Nat->Nat}(hR:RT (aa m) w R)(I:RR w R H)(hf:f∈lY R w){i:Nat}(hi:i<R.length):dt m w (cf (R.getD i [])) (cf (jf m R w f))=0:=by
 have r:=rg hm
 obtain⟨f1,f2⟩:=(I.free hm hR f).mp hf
 obtain⟨k1,k2,k3,k4,k5⟩:=Wn hm hR I hf
 have il:=cG hm (hR _ (dM hi [])).2
 have g:=fH hm (a:=0) r.pos (il f)
 unfold dt
 rw[cI5 r (f:=λj=>gm m (cf (R.getD i []) j) (cf (jf m R w f) j)) (a:=H i) (b:=f) (I.l i hi) f1 (f2 i hi) (cj hm _ _) (cj hm _ _) λj hj ja jb=>?_]
 ·rw[k3,k4 i hi,I.u i i hi hi,if_pos rfl,lW g.2.1,pj (il f)]
  exact g.2.2
 ·by_cases c:∃i',i'<R.length/\H i'=j
  ·obtain⟨i',h1,rfl⟩:=c
   rw[I.u i i' hi h1,if_neg (λz:i=i'=>ja (by rw[z])),eU m _ (bX m hm)]
  ·rw[k5 j jb λi' h1 h2=>c ⟨i',h1,h2⟩,r.qz]
theorem dA.dt{m:Bool × Nat}(hm:m∈aD){R:List (List Nat)}{n:Nat}{y:Nat->Nat}(h:∀i,i<R.length->dt m n (cf (R.getD i [])) y=0){f:Nat->Nat}(s:dA m R f):dt m n f y=0:=by
 refine s.ann hm λx hx=>?_
 obtain⟨i,hi,rfl⟩:=gy hx
 have:=h i hi
 rw[aK,aJ hi]at this
 exact this
theorem cA7{N n:Nat}{M:List (List Nat)}(h:RT N n M)(h0:M≠[]):ag M=n:=by
 cases M with
 | nil=>exact absurd rfl h0
 | cons g M=>exact(h g gb).1
theorem cO0{T:List (List Nat)}{i:Nat}(h:i<T.length):T.getD i []=T[i]:=by rw[aK,aJ h];rfl
theorem dA.red{m:Bool × Nat}(hm:m∈aD){G:List (List Nat)}(hG:RT (aa m) (ag G) G){f:Nat->Nat}(h:dA m G f):dA m (cH m G) f:=((wJ hm hG).2.2.2 f).mp h
end L3
namespace L3
open PySem L2 PySem.Spec PyProof.Rows
section
variable{X:Cx}{F H:Hp}{e b:Expr}{pos pos' p p2 p3 apos cm:Pos}{ti te:aY}{x y:Str}{i j:Nat}
theorem R.rev:∀{xs:List D} {ws:List V} {A:List Addr},R F H xs ws A->A.Nodup->∃A',R F H xs.reverse ws.reverse A'/\A'.Nodup/\∀a∈A',a∈A
 | [],_,A,r,nd=>by cases r;exact⟨[],.nil,by simp,by simp⟩
 | d::ds,_,A,r,nd=>by
  obtain⟨w,gr,B1,B2,rfl,rfl,h1,h2⟩:=r.dE
  obtain⟨n1,n2,n3⟩:=iA.mp nd
  obtain⟨A',r',mQ,sub⟩:=R.rev h2 n2
  refine⟨A'++B1,?_,iA.mpr ⟨mQ,n1,λa ha hb=>n3 a hb (sub a ha)⟩,λa ha=>?_⟩
  ·rw[FE,FE]
   exact r'.append h1
  ·rcases bZ.mp ha with z | z
   ·simp[sub a z]
   ·simp[z]
def su(i:Nat):cX:=λD δ=>∃xs,δ[i]?=some (some (.lst true xs))/\D.nx (δ.set i (some (.lst true xs.reverse)))
theorem bZ8(hN:X.N[i]?=some x)(hv:mE X.env.scope x)(hd:(x==("__debug__":Str))=false:=by decide)(de:(x==("__classdict__":Str))=false:=by decide)
  (kX:attributeBase (.Name x p) "reverse" X.env (eval (.Name x p) X.env)=eval (.Name x p) X.env:=by rfl) (kY:(apos.endLine==cm.line)=true:=by rfl)
  (uk:swapsWith (.Call (.Attribute (.Name x p) "reverse" apos) [] [] cm) none pos.line X.env=pure false:=by rfl) :
  PS X (.Expr (.Call (.Attribute (.Name x p) "reverse" apos) [] [] cm) pos) (lS X (su i)) :=
 mR (Cb (Ta PySem.F.plainAttrs_list PySem.F.slot_list_reverse PySem.F.type_list_reverse bV1 (tP hN hv hd de) kX kY) uk) λEn σ H zz=>by
  obtain⟨B,F,δ,Dd,c,⟨ys,ey,hn⟩,k1,k2,k3,k4⟩:=zz
  obtain⟨p0,zR,g1,g2,g3⟩:=c.ownAt ey
  refine⟨.ref p0,g1,.inl ⟨rfl,_,bR.of g2⟩,p0,zR,rfl,rfl,g2,k1 _ _ F _ hn ?_⟩
  exact ax.mut (ps:=[]) c ey g1 λgr A1 A2 h r1 r2 nd=>by
   rw[g2]at h;cases h
   obtain⟨A',r',mQ,sub⟩:=r1.rev (iA.mp nd).1
   exact⟨A',r',mQ,λa ha=>gQ _ (sub a ha)⟩
end
section
variable{X:Cx}
end
section
variable{X:Cx}{es:List Expr}{tr:dh}{pos:Pos}
theorem wN(h:PA X es (lA tr)):PE X (.List es pos) (lB (oo tr)) :=
 dO (SQ h) λσ H Q ⟨B,F,δ,ts,Qd,c,q,k⟩=>⟨B,F,δ,ts,_,c,q,λds av vs F1 H1 q1 f1 h1 c1 s1=>⟨by rw[<-s1.length];exact q1.1,λp hp=>k _ av _ F1 _ q1.2 f1 (h1.trans (ah.upd hp)) (c1.grow (ah.upd hp)) (.own cI (s1.mono (ah.refl _) (ah.upd hp)) .nil)⟩⟩
end
end L3
namespace L3
open PySem L2 Mf
end L3
namespace L3
open PySem L2 Mf
end L3
namespace L3
open PySem L2 Mf
theorem Jd{r:List Nat}{k v:Nat}(hk:k<r.length)(j:Nat):cf (r.set k v) j=if j=k then v else cf r j:=by
 unfold cf
 rw[aK,List.getElem?_set,aK]
 by_cases h:k=j
 ·subst h
  rw[if_pos rfl,if_pos rfl,if_pos hk];rfl
 ·rw[if_neg h,if_neg (fB h)]
end L3
namespace L2
open PySem PySem.Spec PyProof.Rows
section
variable{X:Cx}
theorem Wq:∀{ns:List Int} {its:List Value},Vals (ns.map V.int) its->ns.length=its.length/\∀(i:Nat) (v:Value),its[i]?=some v->∃n t,ns[i]?=some n/\v=p5 n t
 | [],_,r=>by cases r;exact⟨rfl,λi v h=>by simp at h⟩
 | n::ns,_,r=>by
  cases r with
  | cons a b =>
   obtain⟨h1,h2⟩:=Wq b
   obtain⟨t,rfl⟩:=a
   refine⟨by simp[h1],λi v h=>?_⟩
   cases i with
   | zero=>simp at h;exact⟨n,t,rfl,h.symm⟩
   | succ i=>simpa using h2 i v (by simpa using h)
theorem cd7(hc:X.calm=true):g5 X (.builtin "any") (λxs H Q=>∃(p:Addr) (ns:List Int),xs=[.ref p]/\bR X.K H p (ns.map V.int)/\Q (.bl (ns.any (· != 0))) H):=by
 intro pins s σ H xs us Q I r h
 obtain⟨p,ns,rfl,hS,q⟩:=h
 obtain⟨u,rfl,ru⟩:=r.one
 cases ru
 obtain⟨its,rv,pl,hz⟩:=I.list hS
 obtain⟨hlen,Hc⟩:=Wq rv
 have hl:=pl.isList
 have gD:p<s.heap.objs.size:=by obtain⟨_,e,_⟩:=hl;exact bV e
 refine call_any_walk (wpAny_pyIter_list hl ?_)
 refine⟨s.heap.objs.size,[s.heap.objs.size,p],[s.heap.objs.size],its.toArray.size,_,_,λi=>((ns.map (· != 0))[i]?).getD false,rfl,Walks.list (A:=X.A.in1) (I.ok.hd hc) _ p (fA gD) its.toArray,
  ⟨⟨_,gR _ rfl,rfl,rfl⟩,hl.push _⟩,λi v s' Q' E' hP hQ=>?_,λh' tk hk=>?_⟩
 ·obtain⟨n,t,e,rfl⟩:=Hc i v (by simpa using hP)
  simp only[bQ,e,tJ,qf]at hQ
  exact PyProof.Rows.truthy_int hQ
 ·have e:((aZ its.toArray.size).any λi=>((ns.map (· != 0))[i]?).getD false)=(ns.map (· != 0)).any id:=by
   rw[dP,<- hlen,<- bt (f:=(· != 0)) (as:=ns)];exact ck0 _
  rw[e,R3]
  exact⟨.bl _,H,I.kept (h':=h') (t':=tk) (Hb hk),rfl,q⟩
end
end L2
namespace L3
open PySem L2 PySem.Spec PyProof.Rows
section
variable{X:Cx}
def pJ:jZ:=λds Q=>match ds with
 | [.lst _ xs]=>∃ns,xs=aL ns/\Q (.bl (ns.any (· != 0)))
 | _=>False
theorem Wr(hc:X.calm=true):g8 X (.builtin "any") pJ:=g8.of (cd7 hc) λvs H Q zz=>by
 obtain⟨B,F,σ,δ,ts,ds,Qd,c,s,q,k⟩:=zz
 unfold pJ at q
 split at q
 ·obtain⟨v,rfl,s1⟩:=lJ s
  obtain⟨ns,rfl,q⟩:=q
  obtain⟨p,ws,rfl,h,t⟩:=m4 s1 c.ext rfl
  rw[CU t]at h
  exact⟨p,ns,rfl,lK h,k _ _ _ q (ah.refl _) (c.pushS (.bl .nil) rfl)⟩
 ·exact q.elim
end
end L3
namespace L2
open PySem PySem.Spec PyProof.Rows
section
variable{X:Cx}{a:Expr}{ta:TE}{p p2 pos AH:Pos}
end
end L2
namespace L3
open PySem L2 PySem.Spec PyProof.Rows
section
variable{X:Cx}{a:Expr}{t:aY}{p p2 pos AH:Pos}
end
end L3
namespace L3
open PySem L2 PySem.Spec PyProof.Rows
section
variable{F H:Hp}
end
section
variable{X:Cx}{e:Expr}{t:aY}{p2 pos:Pos}
end
end L3
namespace L3
open PySem L2 PySem.Spec PyProof.Rows
section
variable{F H:Hp}
end
section
variable{P:Program}{w:World}{K:PySem.W.Frag}{mg:Str->Option Value}{base:Heap}
end
section
variable{X:Cx}{CX:fh}{n i:Nat}{f:Addr}{fd:FuncData}{ps:List Str}{sp:bB}{E:XK}{fn x:Str}{e:Expr}{te:aY}{p p2 pos pos' AH:Pos}
end
end L3
namespace L2
section
variable{α:Type}{P:List α->Prop}
theorem cK2(h:P []):∀us:List α,us.length=0->P us:=by
 intro us hl;rcases us with _ | ⟨a,t⟩
 ·exact h
 ·cases hl
theorem hV(h:∀a,P [a]):∀us:List α,us.length=1->P us:=by
 intro us hl;rcases us with _ | ⟨a,t⟩
 ·cases hl
 ·exact cK2 (P:=λt=>P (a::t)) (h a) t (y9 hl)
theorem ib(h:∀a b,P [a,b]):∀us:List α,us.length=2->P us:=by
 intro us hl;rcases us with _ | ⟨a,t⟩
 ·cases hl
 ·exact hV (P:=λt=>P (a::t)) (h a) t (y9 hl)
theorem fo(h:∀a b c,P [a,b,c]):∀us:List α,us.length=3->P us:=by
 intro us hl;rcases us with _ | ⟨a,t⟩
 ·cases hl
 ·exact ib (P:=λt=>P (a::t)) (h a) t (y9 hl)
theorem lZ(h:∀a b c d,P [a,b,c,d]):∀us:List α,us.length=4->P us:=by
 intro us hl;rcases us with _ | ⟨a,t⟩
 ·cases hl
 ·exact fo (P:=λt=>P (a::t)) (h a) t (y9 hl)
theorem Je(h:∀a b c d e,P [a,b,c,d,e]):∀us:List α,us.length=5->P us:=by
 intro us hl;rcases us with _ | ⟨a,t⟩
 ·cases hl
 ·exact lZ (P:=λt=>P (a::t)) (h a) t (y9 hl)
theorem cQ2(h:∀a b c d e f,P [a,b,c,d,e,f]):∀us:List α,us.length=6->P us:=by
 intro us hl;rcases us with _ | ⟨a,t⟩
 ·cases hl
 ·exact Je (P:=λt=>P (a::t)) (h a) t (y9 hl)
end
end L2
namespace L3
open PySem L2 PySem.Spec PyProof.Rows
section
variable{B:Bs}{F H:Hp}{σ:L2.St}{δ:Dl}{ts:List (D × V)}
end
section
variable{X:Cx}{elt iter tg:Expr}{pos:Pos}{scope:Scope}{cl:List (Str × Addr)}{ti:jW}{te:aY}{g:iW}
end
end L3
namespace L2
open PySem PySem.Spec PyProof.Rows
section
variable{X:Cx}
end
end L2
namespace L3
open PySem L2 PySem.Spec PyProof.Rows
section
variable{X:Cx}
end
end L3
namespace L3
open PySem L2 Mf
theorem DD{m:Bool × Nat}(hm:m∈aD){a b:Nat}(ha:a<aa m)(hb:b<aa m):gm m a b=0↔a=0\/b=0:=by
 constructor
 ·intro h
  by_cases a0:a=0
  ·exact .inl a0
  ·by_cases b0:b=0
   ·exact .inr b0
   ·exact absurd h (cW4 hm (by omega) ha (by omega) hb)
 ·rintro (rfl | rfl)
  ·exact eU m _ (bX m hm)
  ·exact gF m _ (bX m hm)
theorem Ws{m:Bool × Nat}(hm:m∈aD)(x:Nat->Nat)(hx:∀j,x j<aa m):∀(n:Nat) (c:Nat->Nat),(∀j,c j<aa m)->(∀i j,i<n->j<n->x i=x j->i=j)->(∀i,i<n->sm (gp m) n (λj=>gm m (c j) (px m (x j) i))=0)->∀j,j<n->c j=0
 | 0,_,_,_,_,j,hj=>absurd hj (by omega)
 | n+1,c,hc,hd,h,j,hj=>by
  have r:=rg hm
  have h0:=bX m hm
  have dr:=lo1 hm
  have dn:∀j,bD m (x j) (x n)<aa m/\gp m (bD m (x j) (x n)) (x n)=x j:=λj=>(fH hm (hx j) (hx n)).2
  have key:∀i,i<n->sm (gp m) n (λj=>gm m (gm m (c j) (bD m (x j) (x n))) (px m (x j) i))=0:=λi hi=>by
   have h1:=h (i+1) (by omega)
   have hz:=h i (by omega)
   have e:∀j,gm m (c j) (px m (x j) (i+1))=gp m (gm m (gm m (c j) (bD m (x j) (x n))) (px m (x j) i)) (gm m (x n) (gm m (c j) (px m (x j) i))):=λj=>by
    show gm m (c j) (gm m (px m (x j) i) (x j))=_
    have e1:gm m (px m (x j) i) (x j)=gm m (px m (x j) i) (gp m (bD m (x j) (x n)) (x n)):=by rw[(dn j).2]
    rw[e1,u4 h0,u4 h0]
    congr 1
    ·rw[hJ h0,hE m (px m (x j) i)]
    ·rw[hE m (px m (x j) i),<- hJ h0,hE m (c j),hJ h0]
   rw[cq λj _=>e j,nt r,Aw r,hz,r.qz]at h1
   have ln:sm (gp m) n (λj=>gm m (gm m (c j) (bD m (x j) (x n))) (px m (x j) i))<aa m:=j7 r λ_ _=>cj hm _ _
   rw[sm,Av,gF m _ h0,eU m _ h0,sg ln,sg ln]at h1
   exact h1
  have ih:=Ws hm x hx n (λj=>gm m (c j) (bD m (x j) (x n))) (λ_=>cj hm _ _) (λi j hi hj=>hd i j (by omega) (by omega)) key
  have cz:∀j,j<n->c j=0:=λj hj=>by
   rcases(DD hm (hc j) (dn j).1).mp (ih j hj)with z | z
   ·exact z
   ·have:=(dn j).2
    rw[z,se (hx n)]at this
    exact absurd (hd n j (by omega) (by omega) this) (by omega)
  by_cases c0:j<n
  ·exact cz j c0
  ·have ej:j=n:=by omega
   subst ej
   have:=h 0 (by omega)
   rw[sm,gL r λi hi=>by rw[cz i hi,eU m _ h0]]at this
   rw[show px m (x j) 0=1 from rfl,pj (hc j),se (hc j)]at this
   exact this
theorem cD1{xs ys:List Nat}{i:Nat}{d:D}(h:(dj (aq xs) (aq ys))[i]?=some d):∃(hi:i<xs.length) (hj:i<ys.length),d=.tup [.int (xs[i]:Nat),.int (ys[i]:Nat)]:=by
 unfold dj at h
 rw[cy,cy,tH]at h
 have hl:=(jj.mp h).1
 rw[iq]at hl
 have hi:i<xs.length:=by omega
 have hj:i<ys.length:=by omega
 rw[mB,aJ hi,aJ hj]at h
 exact⟨hi,hj,(cU h).symm⟩
theorem cg3(xs ys:List Nat):(dj (aq xs) (aq ys)).length=min xs.length ys.length:=by unfold dj;rw[iq,eA,eA]
end L3
namespace L3
open PySem L2 Mf
def cA(m:Bool × Nat)(c:List Nat)(os:List (List Nat)):List (List Nat):=os.map λo =>
 (da (λx y=>bD m x (gm m (gm m (o.getD (aR c) 0) (nB m (c.getD (aR c) 0))) y)) o c).take (aR c)++(da (λx y=>bD m x (gm m (gm m (o.getD (aR c) 0) (nB m (c.getD (aR c) 0))) y)) o c).drop (aR c+1)
abbrev Cs:=List Nat × List (List Nat)
def nul(c:List Nat):Bool:=c.all (·==0)
def jg(m:Bool × Nat)(w:Nat)(z:Cs × Nat):Cs:=(z.1.1++[w-z.1.2.length+z.2],cA m (z.1.2.getD z.2 []) (z.1.2.drop (z.2+1)))
def fI(s:Cs):List (Cs × Nat):=(aZ s.2.length).map λi=>(s,i)
def dS(l:List Cs):List (Cs × Nat):=l.flatMap fI
def pK(z:Cs × Nat):Bool:=nul (z.1.2.getD z.2 [])
def vb(m:Bool × Nat)(w:Nat):Nat->List Cs->Option (List Nat)
 | 0,_=>none
 | f+1,l=>if l=[]then none else match (dS l).find? pK with
  | some z=>some (z.1.1++[w-z.1.2.length+z.2])
  | none=>vb m w f ((dS l).map (jg m w))
def gO(m:Bool × Nat)(C:Nat->Nat->Nat)(ps:List Nat)(c:Nat->Nat)(k:Nat):Nat:=sm (gp m) ps.length λt=>gm m (c t) (C (ps.getD t 0) k)
def kK(m:Bool × Nat)(C:Nat->Nat->Nat)(ps:List Nat):Prop:=∀c:Nat->Nat,(∀t,c t<aa m)->(∀k,gO m C ps c k=0)->∀t,t<ps.length->c t=0
structure Gs(m:Bool × Nat)(C:Nat->Nat->Nat)(w:Nat)(s:Cs):Prop where
 le:s.2.length<=w
 inc:s.1.Pairwise (· < ·)
 off:∀p∈s.1,p<w-s.2.length
 nx:∀j,(∀p∈s.1,p<j)->w-s.2.length<=j
 rt:∃h,RT (aa m) h s.2
 rel:∀a:Nat->Nat,(∀i,a i<aa m)->((∀k,sm (gp m) s.2.length (λi=>gm m (a i) (cf (s.2.getD i []) k))=0)↔∃c:Nat->Nat,(∀t,c t<aa m)/\∀k,gp m (sm (gp m) s.2.length λi=>gm m (a i) (C (w-s.2.length+i) k)) (gO m C s.1 c k)=0)
 ind:kK m C s.1
section
variable{m:Bool × Nat}{C:Nat->Nat->Nat}{w:Nat}
theorem cJ4(hm:m∈aD)(C:Nat->Nat->Nat)(ps:List Nat)(c:Nat->Nat)(k:Nat):gO m C ps c k<aa m:=j7 (rg hm) λ_ _=>cj hm _ _
theorem DE(hm:m∈aD)(C:Nat->Nat->Nat)(ps:List Nat)(j:Nat)(c:Nat->Nat)(k:Nat):gO m C (ps++[j]) c k=gp m (gO m C ps c k) (gm m (c ps.length) (C j k)):=by
 unfold gO
 rw[dU,FF,sm]
 congr 1
 ·refine cq λt ht=>?_
  rw[aK,sY ht,<- aK]
 ·rw[aK,sX (bN _),Ge];rfl
theorem Wt{ps:List Nat}{c c':Nat->Nat}{k:Nat}(h:∀t,t<ps.length->c t=c' t):gO m C ps c k=gO m C ps c' k:=cq λt ht=>by rw[h t ht]
theorem pL(hm:m∈aD){n i e:Nat}(hi:i<n)(a' X:Nat->Nat):sm (gp m) n (λj=>gm m (if j<i then 0 else if j=i then e else a' (j-i-1)) (X j))=gp m (sm (gp m) (n-i-1) λj=>gm m (a' j) (X (i+1+j))) (gm m e (X i)):=by
 have r:=rg hm
 have h0:=bX m hm
 obtain⟨d,rfl⟩:∃d,n=(i+1)+d:=⟨n-i-1,by omega⟩
 rw[ID r (i+1) d λ_ _=>cj hm _ _,sm,gL r λj hj=>by rw[if_pos hj,eU m _ h0],if_neg (fN _),if_pos rfl,r.z (cj hm _ _),j6]
 congr 1
 rw[show i+1+d-i-1=d by omega]
 refine cq λj hj=>?_
 rw[if_neg (by omega),if_neg (by omega),show i+1+j-i-1=j by omega]
theorem wO{c:List Nat}:nul c=true↔∀k,cf c k=0:=by
 unfold nul
 rw[dw]
 constructor
 ·intro h k
  by_cases hk:k<c.length
  ·unfold cf
   have:=h _ (dM hk 0)
   exact beq_iff_eq.mp this
  ·exact sk (by omega)
 ·intro h x hx
  obtain⟨k,hk,rfl⟩:=gy hx
  have:=h k
  unfold cf at this
  rw[aK,aJ hk]at this
  exact beq_iff_eq.mpr this
theorem Jf{c:List Nat}(h:nul c=false):aR c<c.length/\cf c (aR c)≠0:=by
 have hx:∃x∈c,(x != 0)=true:=by
  refine FJ λz=>?_
  have:nul c=true:=by
   unfold nul
   rw[dw]
   intro x hx
   refine FJ λy=>z ⟨x,hx,?_⟩
   simpa using y
  rw[h]at this;cases this
 have hl:aR c<c.length:=Ga hx
 refine⟨hl,?_⟩
 have h2:(c[aR c] != 0)=true:=de2 (xs:=c) (p:=(· != 0)) (w:=hl)
 unfold cf
 rw[aK,aJ hl]
 simpa using h2
theorem DF(hm:m∈aD){b:List Nat}{os:List (List Nat)}{h:Nat}(hb:b.length=h)(ab:AllLt (aa m) b)(me:RT (aa m) h os)(nb:nul b=false){a:Nat->Nat}(ha:∀i,a i<aa m) :
  (∀k,sm (gp m) os.length (λj=>gm m (a j) (cf ((cA m b os).getD j []) k))=0)↔∃e,e<aa m/\∀k,gp m (sm (gp m) os.length λj=>gm m (a j) (cf (os.getD j []) k)) (gm m e (cf b k))=0:=by
 have r:=rg hm
 have h0:=bX m hm
 have dr:=lo1 hm
 obtain⟨hp,bp⟩:=Jf nb
 have Wu:=cG hm ab (aR b)
 obtain⟨iv,iv1,Wv⟩:=IE hm (a:=1) (by omega) Wu bp
 have Jg:nB m (b.getD (aR b) 0)=iv:=Dv hm iv1 Wv
 obtain⟨D,hD⟩:∃D:Nat->List Nat,∀j,D j=da (λx y=>bD m x (gm m (gm m ((os.getD j []).getD (aR b) 0) iv) y)) (os.getD j []) b:=⟨_,λ_=>rfl⟩
 have Ww:∀j,j<os.length->∀k,gp m (cf (D j) k) (gm m (gm m (cf (os.getD j []) (aR b)) iv) (cf b k))=cf (os.getD j []) k:=λj hj k=>by
  rw[hD]
  exact Dz hm (me _ (dM hj [])).1 hb (me _ (dM hj [])).2 k
 have Dlt:∀j,j<os.length->∀k,cf (D j) k<aa m:=λj hj k=>by
  rw[hD]
  exact IY hm (me _ (dM hj [])).1 hb (me _ (dM hj [])).2 _ k
 have Dp:∀j,j<os.length->cf (D j) (aR b)=0:=λj hj=>by
  have l1:=cG hm (me _ (dM hj [])).2 (aR b)
  have:=Ww j hj (aR b)
  rw[hJ h0,Wv,pj l1]at this
  exact r.cn (Dlt j hj _) l1 this
 have dY2:∀j,j<os.length->(D j).length=h:=λj hj=>by
  rw[hD,iq,(me _ (dM hj [])).1,hb,tF]
 have Jh:∀j,j<os.length->∀k,cf ((cA m b os).getD j []) k=cf (D j) (if k<aR b then k else k+1):=λj hj k=>by
  have e1:(cA m b os).getD j []=(D j).take (aR b)++(D j).drop (aR b+1):=by
   unfold cA
   rw[wI _ hj [] [],Jg,hD]
  rw[e1]
  have lt:((D j).take (aR b)).length=aR b:=by rw[ij,dY2 j hj];omega
  unfold cf
  by_cases hk:k<aR b
  ·rw[if_pos hk,aK,sY (by omega),db6 hk,<- aK]
  ·rw[if_neg hk,aK,sX (by omega),lt,FX,show aR b+1+(k-aR b)=k+1 by omega,<- aK]
 obtain⟨F,hF⟩:∃F,F=sm (gp m) os.length λj=>gm m (a j) (gm m (cf (os.getD j []) (aR b)) iv):=⟨_,rfl⟩
 have Flt:F<aa m:=by rw[hF];exact j7 r λ_ _=>cj hm _ _
 have Wx:∀k,(sm (gp m) os.length λj=>gm m (a j) (cf (os.getD j []) k))=gp m (sm (gp m) os.length λj=>gm m (a j) (cf (D j) k)) (gm m F (cf b k)):=λk=>by
  rw[cq (g:=λj=>gp m (gm m (a j) (cf (D j) k)) (gm m (cf b k) (gm m (a j) (gm m (cf (os.getD j []) (aR b)) iv)))) λj hj=>?_,nt r,Aw r,<- hF,hE m (cf b k)]
  rw[<-Ww j hj k,u4 h0]
  congr 1
  rw[<-hJ h0,hE m _ (cf b k)]
 have lU:(∀k,sm (gp m) os.length (λj=>gm m (a j) (cf ((cA m b os).getD j []) k))=0)↔∀k,sm (gp m) os.length (λj=>gm m (a j) (cf (D j) k))=0:=by
  constructor
  ·intro h k
   by_cases e:k=aR b
   ·exact gL r λj hj=>by rw[e,Dp j hj,gF m _ h0]
   ·by_cases c:k<aR b
    ·rw[<-h k]
     exact cq λj hj=>by rw[Jh j hj,if_pos c]
    ·rw[<-h (k-1)]
     exact cq λj hj=>by rw[Jh j hj,if_neg (by omega),show k-1+1=k by omega]
  ·intro h k
   rw[cq λj hj=>by rw[Jh j hj]]
   exact h _
 rw[lU]
 constructor
 ·intro h
  obtain⟨e,e1,e2⟩:=r.ng Flt
  refine⟨e,e1,λk=>?_⟩
  rw[Wx k,h k,r.z (cj hm _ _),<- Dq h0,e2,eU m _ h0]
 ·rintro⟨e,e1,h⟩
  have key:∀k,gp m (sm (gp m) os.length λj=>gm m (a j) (cf (D j) k)) (gm m (gp m F e) (cf b k))=0:=λk=>by
   rw[Dq h0,<- IB,<- Wx k]
   exact h k
  have fe:gp m F e=0:=by
   have:=key (aR b)
   rw[gL r λj hj=>by rw[Dp j hj,gF m _ h0],r.z (cj hm _ _)]at this
   rcases(DD hm (Aq hm Flt e1) Wu).mp this with z | z
   ·exact z
   ·exact absurd z bp
  intro k
  have:=key k
  rw[fe,eU m _ h0,sg (j7 r λ_ _=>cj hm _ _)]at this
  exact this
theorem sA(m:Bool × Nat)(b:List Nat)(os:List (List Nat)):(cA m b os).length=os.length:=by unfold cA;rw[bt]
theorem wQ(hm:m∈aD){b:List Nat}{os:List (List Nat)}{h:Nat}(hb:b.length=h)(me:RT (aa m) h os)(nb:nul b=false):RT (aa m) (h-1) (cA m b os):=λx hx=>by
 obtain⟨o,ho,rfl⟩:=bF.mp hx
 obtain⟨hp,_⟩:=Jf nb
 obtain⟨l1,l2⟩:=me o ho
 refine⟨by rw[dU,ij,jl,iq,l1,hb];omega,λy hy=>?_⟩
 have:AllLt (aa m) (da (λx y=>bD m x (gm m (gm m (o.getD (aR b) 0) (nB m (b.getD (aR b) 0))) y)) o b):=Dt λx hx y _=>(fH hm (l2 x hx) (cj hm _ y)).2.1
 rcases bZ.mp hy with z | z
 ·exact this y (qi z)
 ·exact this y (qh z)
theorem Gs.next(hm:m∈aD){s:Cs}(G:Gs m C w s){i:Nat}(hi:i<s.2.length)(nb:nul (s.2.getD i [])=false)(hC:∀j k,C j k<aa m):Gs m C w (jg m w (s,i)):=by
 have r:=rg hm
 have h0:=bX m hm
 have dr:=lo1 hm
 have hle:=G.le
 obtain⟨h,DG⟩:=G.rt
 obtain⟨bl,ba⟩:=DG _ (dM hi [])
 have sC:RT (aa m) h (s.2.drop (i+1)):=λx hx=>DG x (qh hx)
 have kl:(jg m w (s,i)).2.length=s.2.length-i-1:=by
  show(cA m _ _).length=_
  rw[sA,jl]
  show s.2.length-(i+1)=_
  omega
 have dl:(s.2.drop (i+1)).length=s.2.length-i-1:=by rw[jl];omega
 have ko:w-(jg m w (s,i)).2.length=w-s.2.length+i+1:=by omega
 have dg:∀j,(s.2.drop (i+1)).getD j []=s.2.getD (i+1+j) []:=λj=>by rw[aK,FX,<- aK]
 refine⟨by omega,?_,λp hp=>?_,λj hj=>?_,⟨h-1,wQ hm bl sC nb⟩,λa ha=>?_,λc hc hz t ht=>?_⟩
 ·refine BY.mpr ⟨G.inc,Sf _ _,λx hx y hy=>?_⟩
  rw[dX.mp hy]
  have:=G.off x hx
  show x<w-s.2.length+i
  omega
 ·rw[ko]
  rcases bZ.mp hp with z | z
  ·have:=G.off p z;omega
  ·rw[dX.mp z];exact BK _
 ·rw[ko]
  have:=hj (w-s.2.length+i) (fg _ (dX.mpr rfl))
  omega
 ·have e1:(∀k,sm (gp m) (jg m w (s,i)).2.length (λj=>gm m (a j) (cf ((jg m w (s,i)).2.getD j []) k))=0)↔∃e,e<aa m/\∀k,gp m (sm (gp m) (s.2.length-i-1) λj=>gm m (a j) (cf (s.2.getD (i+1+j) []) k)) (gm m e (cf (s.2.getD i []) k))=0:=by
   have:=DF hm bl ba sC nb ha
   rw[dl]at this
   rw[kl]
   refine this.trans ?_
   constructor
   ·rintro⟨e,e1,e2⟩
    exact⟨e,e1,λk=>by rw[<-e2 k,cq λj _=>by rw[<-dg j]]⟩
   ·rintro⟨e,e1,e2⟩
    exact⟨e,e1,λk=>by rw[<-e2 k,cq λj _=>by rw[dg j]]⟩
  rw[e1]
  have al:∀e,e<aa m->∀j,(if j<i then 0 else if j=i then e else a (j-i-1))<aa m:=λe he j=>by
   split
   ·omega
   ·split
    ·exact he
    ·exact ha _
  have Wy:∀(c:Nat->Nat) (e k:Nat),gp m (sm (gp m) s.2.length λj=>gm m (if j<i then 0 else if j=i then e else a (j-i-1)) (C (w-s.2.length+j) k)) (gO m C s.1 c k)=gp m (sm (gp m) (s.2.length-i-1) λj=>gm m (a j) (C (w-s.2.length+i+1+j) k)) (gp m (gO m C s.1 c k) (gm m e (C (w-s.2.length+i) k))):=λc e k=>by
   rw[pL hm hi a (λj=>C (w-s.2.length+j) k),IB,j6 m (gm m e _)]
   congr 1
   exact cq λj _=>by rw[show w-s.2.length+(i+1+j)=w-s.2.length+i+1+j by omega]
  have ln:∀c k,gO m C (jg m w (s,i)).1 c k=gp m (gO m C s.1 c k) (gm m (c s.1.length) (C (w-s.2.length+i) k)):=λc k=>DE hm C s.1 _ c k
  constructor
  ·rintro⟨e,e1,e2⟩
   obtain⟨c,c1,c2⟩:=(G.rel _ (al e e1)).mp λk=>by
    rw[pL hm hi a (λj=>cf (s.2.getD j []) k)]
    exact e2 k
   refine⟨λt=>if t=s.1.length then e else c t,λt=>by
    show(if t=s.1.length then e else c t)<aa m
    split
    ·exact e1
    ·exact c1 t,λk=>?_⟩
   rw[ln,ko,kl,if_pos rfl,Wt (c':=c) λt ht=>if_neg (fA ht),<- Wy c e k]
   exact c2 k
  ·rintro⟨c,c1,c2⟩
   refine⟨c s.1.length,c1 _,λk=>?_⟩
   have:=(G.rel _ (al _ (c1 s.1.length))).mpr ⟨c,c1,λk=>by
    rw[Wy c _ k]
    have:=c2 k
    rw[ln,ko,kl]at this
    exact this⟩ k
   rw[pL hm hi a (λj=>cf (s.2.getD j []) k)]at this
   exact this
 ·have ln:∀k,gp m (gO m C s.1 c k) (gm m (c s.1.length) (C (w-s.2.length+i) k))=0:=λk=>by
   rw[<-DE hm C s.1 _ c k]
   exact hz k
  have e0:c s.1.length=0:=by
   refine FJ λz=>?_
   have al:∀j,(if j<i then 0 else if j=i then c s.1.length else(λ_=>0) (j-i-1))<aa m:=λj=>by
    split
    ·omega
    ·split
     ·exact hc _
     ·show 0<_;omega
   have z0:∀(n:Nat) (X:Nat->Nat),sm (gp m) n (λj=>gm m ((λ_=>0) j) (X j))=0:=λn X=>gL r λ_ _=>eU m _ h0
   have:=(G.rel _ al).mpr ⟨c,hc,λk=>by
    rw[pL hm hi (λ_=>0) (λj=>C (w-s.2.length+j) k),z0,r.z (cj hm _ _),j6]
    exact ln k⟩
   have nn:nul (s.2.getD i [])=true:=wO.mpr λk=>by
    have q:=this k
    rw[pL hm hi (λ_=>0) (λj=>cf (s.2.getD j []) k),z0,r.z (cj hm _ _)]at q
    rcases(DD hm (hc _) (cG hm ba k)).mp q with y | y
    ·exact absurd y z
    ·exact y
   rw[nb]at nn;cases nn
  have hs:∀k,gO m C s.1 c k=0:=λk=>by
   have:=ln k
   rw[e0,eU m _ h0,sg (cJ4 hm C _ c k)]at this
   exact this
  have hl:(jg m w (s,i)).1.length=s.1.length+1:=by show(s.1++[_]).length=_;rw[dU];rfl
  by_cases ct:t<s.1.length
  ·exact G.ind c hc hs t ct
  ·rw[show t=s.1.length by omega];exact e0
theorem Gs.bound(hm:m∈aD){s:Cs}(G:Gs m C w s){i:Nat}(hi:i<s.2.length)(hC:∀j k,C j k<aa m):nul (s.2.getD i [])=true↔∃c:Nat->Nat,(∀t,c t<aa m)/\c s.1.length=1/\∀k,gO m C (s.1++[w-s.2.length+i]) c k=0:=by
 have r:=rg hm
 have h0:=bX m hm
 have dr:=lo1 hm
 obtain⟨h,DG⟩:=G.rt
 obtain⟨bl,ba⟩:=DG _ (dM hi [])
 have al:∀j,(if j<i then 0 else if j=i then 1 else(λ_=>0) (j-i-1))<aa m:=λj=>by
  split
  ·omega
  ·split
   ·omega
   ·show 0<_;omega
 have z0:∀(n:Nat) (X:Nat->Nat),sm (gp m) n (λj=>gm m ((λ_=>0) j) (X j))=0:=λn X=>gL r λ_ _=>eU m _ h0
 have e1:nul (s.2.getD i [])=true↔∀k,sm (gp m) s.2.length (λj=>gm m (if j<i then 0 else if j=i then 1 else(λ_=>0) (j-i-1)) (cf (s.2.getD j []) k))=0:=by
  rw[wO]
  refine forall_congr' λk=>?_
  rw[pL hm hi (λ_=>0) (λj=>cf (s.2.getD j []) k),z0,r.z (cj hm _ _),lW (cG hm ba k)]
 rw[e1,G.rel _ al]
 constructor
 ·rintro⟨c,c1,c2⟩
  refine⟨λt=>if t=s.1.length then 1 else c t,λt=>by
   show(if t=s.1.length then 1 else c t)<aa m
   split
   ·omega
   ·exact c1 t,if_pos rfl,λk=>?_⟩
  rw[DE hm,if_pos rfl,Wt (c':=c) λt ht=>if_neg (fA ht),j6,<- c2 k,pL hm hi (λ_=>0) (λj=>C (w-s.2.length+j) k),z0,r.z (cj hm _ _)]
 ·rintro⟨c,c1,c2,c3⟩
  refine⟨c,c1,λk=>?_⟩
  have:=c3 k
  rw[DE hm,c2]at this
  rw[pL hm hi (λ_=>0) (λj=>C (w-s.2.length+j) k),z0,r.z (cj hm _ _),j6]
  exact this
end
end L3
namespace L3
open PySem L2 Mf
def jI:List Nat->List Nat->Prop
 | a::as,b::bs=>a<b\/(a=b/\jI as bs)
 | _,_=>False
theorem Wz:∀l:List Nat,¬ jI l l
 | [],h=>h
 | a::l,h=>h.elim (λz=>fN _ z) λz=>Wz l z.2
theorem WA:∀a b:List Nat,jI a b->¬ jI b a
 | [],_,h,_=>h
 | _::_,[],h,_=>h
 | a::as,b::bs,h,h'=>by
  rcases h with h | ⟨rfl,h⟩
  ·rcases h' with h' | ⟨e,_⟩
   ·omega
   ·omega
  ·rcases h' with h' | ⟨_,h'⟩
   ·omega
   ·exact WA as bs h h'
theorem WB:∀(a b:List Nat) (x y:List Nat),a.length=b.length->jI a b->jI (a++x) (b++y)
 | [],_,_,_,_,h=>h.elim
 | _::_,[],_,_,_,h=>h.elim
 | a::as,b::bs,x,y,hl,h=>by
  rcases h with h | ⟨e,h⟩
  ·exact .inl h
  ·exact .inr ⟨e,WB as bs x y (by simpa using hl) h⟩
theorem WC:∀(a:List Nat) (x y:Nat),x<y->jI (a++[x]) (a++[y])
 | [],_,_,h=>.inl h
 | _::as,x,y,h=>.inr ⟨rfl,WC as x y h⟩
def fJ(w:Nat)(S:List Nat):Prop:=S.Pairwise (· < ·)/\∀x∈S,x<w
theorem WD:∀(S:List Nat) (lo w:Nat),S.Pairwise (· < ·)->(∀x∈S,lo<=x/\x<w)->S.length<=w-lo
 | [],_,_,_,_=>jM _
 | a::S,lo,w,hp,h=>by
  rw[BX]at hp
  have ih:=WD S (a+1) w hp.2 λx hx=>⟨hp.1 x hx,(h x (dZ _ hx)).2⟩
  have ha:=h a (gb ..)
  rw[gU]
  omega
theorem fJ.len{S:List Nat}{w:Nat}(h:fJ w S):S.length<=w:=WD S 0 w h.1 λx hx=>⟨jM _,h.2 x hx⟩
theorem fJ.take{S:List Nat}{w:Nat}(h:fJ w S)(k:Nat):fJ w (S.take k):=⟨h.1.sublist (List.take_sublist k S),λx hx=>h.2 x (qi hx)⟩
def j9(w:Nat)(z:Cs × Nat):List Nat:=z.1.1++[w-z.1.2.length+z.2]
structure Lv(m:Bool × Nat)(C:Nat->Nat->Nat)(w k:Nat)(l:List Cs):Prop where
 gs:∀s∈l,Gs m C w s/\s.1.length=k
 all:∀S,fJ w S->S.length=k->∃s∈l,s.1=S
 ord:(l.map (·.1)).Pairwise jI
theorem wR{l:List Cs}{z:Cs × Nat}:z∈dS l↔z.1∈l/\z.2<z.1.2.length:=by
 unfold dS
 rw[List.mem_flatMap]
 constructor
 ·rintro⟨s,hs,hz⟩
  obtain⟨i,hi,rfl⟩:=bF.mp hz
  exact⟨hs,cT.mp hi⟩
 ·rintro⟨h1,h2⟩
  exact⟨z.1,h1,bF.mpr ⟨z.2,cT.mpr h2,rfl⟩⟩
section
variable{m:Bool × Nat}{C:Nat->Nat->Nat}{w:Nat}
theorem Ji{k:Nat}:∀{l:List Cs},(∀s∈l,s.1.length=k)->(l.map (·.1)).Pairwise jI->((dS l).map (j9 w)).Pairwise jI
 | [],_,_=>RJ
 | s::l,hl,ho=>by
  rw[dF,BX]at ho
  show(((fI s)++dS l).map (j9 w)).Pairwise jI
  rw[gi,BY]
  refine⟨?_,Ji (λs hs=>hl s (dZ _ hs)) ho.2,λa ha b hb=>?_⟩
  ·unfold fI
   rw[cg]
   refine Sg.mpr (de5.imp λ{a b} hab=>?_)
   exact WC s.1 _ _ (show w-s.2.length+a<w-s.2.length+b by omega)
  ·obtain⟨z,hz,rfl⟩:=bF.mp ha
   obtain⟨i,_,rfl⟩:=bF.mp hz
   obtain⟨y,hy,rfl⟩:=bF.mp hb
   obtain⟨h1,_⟩:=wR.mp hy
   exact WB _ _ _ _ (by rw[hl s (gb ..),hl _ (dZ _ h1)]) (ho.1 _ (bF.mpr ⟨_,h1,rfl⟩))
theorem Lv.meets(L:Lv m C w k l){S:List Nat}(hS:fJ w S)(hk:S.length=k+1):∃z∈dS l,j9 w z=S:=by
 have e:S=S.take k++[S.getD k 0]:=by
  have h1:S.drop k=[S.getD k 0]:=by
   rw[List.drop_eq_getElem_cons (by omega),List.drop_of_length_le (by omega),aK,aJ (by omega)];rfl
  conv=>lhs;rw[<-Sh k S,h1]
 obtain⟨s,hs,es⟩:=L.all _ (hS.take k) (by rw[ij];omega)
 obtain⟨G,_⟩:=L.gs s hs
 have hj:∀p∈s.1,p<S.getD k 0:=λp hp=>by
  rw[es]at hp
  have:=hS.1
  rw[e,BY]at this
  exact this.2.2 p hp _ (dX.mpr rfl)
 have h1:=G.nx _ hj
 have h2:=hS.2 (S.getD k 0) (dM (by omega) 0)
 have h3:=G.le
 refine⟨(s,S.getD k 0-(w-s.2.length)),wR.mpr ⟨hs,?_⟩,?_⟩
 ·show S.getD k 0-(w-s.2.length)<s.2.length
  omega
 ·show s.1++[w-s.2.length+(S.getD k 0-(w-s.2.length))]=S
  rw[show w-s.2.length+(S.getD k 0-(w-s.2.length))=S.getD k 0 by omega,es]
  exact e.symm
theorem Lv.next(hm:m∈aD)(hC:∀j k,C j k<aa m)(L:Lv m C w k l)(hn:∀z∈dS l,pK z=false):Lv m C w (k+1) ((dS l).map (jg m w)) where
 gs:=λs hs=>by
  obtain⟨z,hz,rfl⟩:=bF.mp hs
  obtain⟨h1,h2⟩:=wR.mp hz
  obtain⟨G,hl⟩:=L.gs _ h1
  refine⟨G.next hm h2 (hn z hz) hC,?_⟩
  show(z.1.1++[_]).length=_
  rw[dU,hl];rfl
 all:=λS hS hk=>by
  obtain⟨z,hz,e⟩:=L.meets hS hk
  exact⟨jg m w z,bF.mpr ⟨z,hz,rfl⟩,e⟩
 ord:=by
  rw[cg]
  exact Ji (λs hs=>(L.gs s hs).2) L.ord
theorem Jj(hm:m∈aD)(hC:∀j k,C j k<aa m):∀(f k:Nat) (l:List Cs),Lv m C w k l->w+1<=f+k ->
  match vb m w f l with
  | none=>∀S,fJ w S->k<=S.length->kK m C S
  | some F=>fJ w F/\k<F.length/\(∃c:Nat->Nat,(∀t,c t<aa m)/\c (F.length-1)=1/\∀j,gO m C F c j=0)/\∀S,fJ w S->k<=S.length->S.length<F.length\/(S.length=F.length/\jI S F)->kK m C S
 | 0,k,l,L,hf=>λS hS hk=>absurd hS.len (by omega)
 | f+1,k,l,L,hf=>by
  have here:∀S,fJ w S->S.length=k->kK m C S:=λS hS hk=>by
   obtain⟨s,hs,rfl⟩:=L.all S hS hk
   exact(L.gs s hs).1.ind
  rw[vb]
  by_cases l0:l=[]
  ·rw[if_pos l0]
   subst l0
   intro S hS hk
   obtain⟨s,hs,_⟩:=L.all (S.take k) (hS.take k) (by rw[ij];omega)
   cases hs
  ·rw[if_neg l0]
   cases e:(dS l).find? pK with
   | some z =>
    obtain⟨hz,as,bs,eL,sD⟩:=de6.mp e
    obtain⟨h1,h2⟩:=wR.mp (RW e)
    obtain⟨G,hl⟩:=L.gs _ h1
    have hle:=G.le
    have fl:(j9 w z).length=k+1:=by show(z.1.1++[_]).length=_;rw[dU,hl];rfl
    refine⟨⟨?_,λx hx=>?_⟩,by show k<(j9 w z).length;omega,?_,λS hS hk hc=>?_⟩
    ·refine BY.mpr ⟨G.inc,Sf _ _,λx hx y hy=>?_⟩
     rw[dX.mp hy]
     have:=G.off x hx
     omega
    ·rcases bZ.mp hx with q | q
     ·have:=G.off x q;omega
     ·rw[dX.mp q];omega
    ·obtain⟨c,c1,c2,c3⟩:=(G.bound hm h2 hC).mp hz
     refine⟨c,c1,?_,c3⟩
     show c ((j9 w z).length-1)=1
     rw[fl,Nat.add_sub_cancel,<- hl]
     exact c2
    ·by_cases ck:S.length=k
     ·exact here S hS ck
     have cl:S.length=k+1/\jI S (j9 w z):=by
      rcases hc with q | ⟨q1,q2⟩
      ·exact absurd (show S.length<(j9 w z).length from q) (by omega)
      ·exact⟨(show S.length=(j9 w z).length from q1).trans fl,q2⟩
     obtain⟨y,hy,ey⟩:=L.meets hS cl.1
     obtain⟨y1,y2⟩:=wR.mp hy
     obtain⟨Gy,_⟩:=L.gs _ y1
     cases ny:pK y with
     | false =>
      have:=(Gy.next hm y2 ny hC).ind
      rwa [show(jg m w (y.1,y.2)).1=S from ey]at this
     | true =>
      exfalso
      have od:=Ji (w:=w) (λs hs=>(L.gs s hs).2) L.ord
      rw[eL]at hy od
      rw[gi,dF,BY]at od
      have Jk:=(BX.mp od.2.1).1
      rcases bZ.mp hy with q | q
      ·have:=sD y q
       rw[ny]at this;simp at this
      ·rcases cB.mp q with q | q
       ·rw[q]at ey
        rw[<-ey]at cl
        exact Wz _ cl.2
       ·have:=Jk _ (bF.mpr ⟨y,q,rfl⟩)
        rw[ey]at this
        exact WA _ _ this cl.2
   | none =>
    have hn:∀z∈dS l,pK z=false:=λz hz=>by
     have:=Sa.mp e z hz
     simpa using this
    have ih:=Jj hm hC f (k+1) _ (L.next hm hC hn) (by omega)
    dsimp only
    split
    ·rename_i e2
     rw[e2]at ih
     intro S hS hk
     by_cases ck:S.length=k
     ·exact here S hS ck
     ·exact ih S hS (by omega)
    ·rename_i F e2
     rw[e2]at ih
     obtain⟨i1,i2,i3,i4⟩:=ih
     refine⟨i1,by omega,i3,λS hS hk hc=>?_⟩
     by_cases ck:S.length=k
     ·exact here S hS ck
     ·exact i4 S hS (by omega) hc
end
end L3
namespace L3
open PySem L2 Mf
def fY(T:List (List Nat))(j k:Nat):Nat:=cf (T.getD k []) j
theorem Jl{m:Bool × Nat}(hm:m∈aD){w:Nat}{T:List (List Nat)}(hT:RT (aa m) w T)(j k:Nat):fY T j k<aa m:=by
 unfold fY
 by_cases hk:k<T.length
 ·exact cG hm (hT _ (dM hk [])).2 j
 ·have e:T.getD k []=[]:=by rw[aK,gW (by omega)];rfl
  rw[e]
  have:=lo1 hm
  show 0<_
  omega
theorem Lv.start{m:Bool × Nat}(hm:m∈aD){T:List (List Nat)}(hw:0<ag T)(hT:RT (aa m) (ag T) T):Lv m (fY T) (ag T) 0 [([],cK T)]:=by
 have r:=rg hm
 obtain⟨t1,t2,t3⟩:=wM (FI Si (lo1 hm)) hw hT
 refine⟨λs hs=>?_,λS _ h=>⟨_,dX.mpr rfl,(de7.mp h).symm⟩,Sf _ _⟩
 rw[dX.mp hs]
 refine⟨⟨BJ t1,RJ,λp hp=>absurd hp (ik),λj _=>by show ag T-(cK T).length<=j;omega,⟨_,t3⟩,λa ha=>?_,λc _ _ t ht=>absurd ht (by show ¬ t<0;omega)⟩,rfl⟩
 have e:∀k,sm (gp m) (cK T).length (λi=>gm m (a i) (cf ((cK T).getD i []) k))=sm (gp m) (cK T).length λi=>gm m (a i) (fY T (ag T-(cK T).length+i) k):=λk=>cq λi hi=>by
  rw[DC (by omega),Wl,show ag T-(cK T).length+i=i by omega];rfl
 have z:∀c k,gO m (fY T) [] c k=0:=λ_ _=>rfl
 constructor
 ·intro h
  refine⟨λ_=>0,λ_=>by have:=lo1 hm;show 0<_;omega,λk=>?_⟩
  rw[z,sg (j7 r λ_ _=>cj hm _ _),<- e k]
  exact h k
 ·rintro⟨c,_,h⟩ k
  have:=h k
  rw[z,sg (j7 r λ_ _=>cj hm _ _),<- e k]at this
  exact this
def pM(m:Bool × Nat)(T:List (List Nat)):Option (List Nat):=vb m (ag T) (ag T+1) [([],cK T)]
section
variable{m:Bool × Nat}{C:Nat->Nat->Nat}
end
def jh(T:List (List Nat))(F:List Nat):List (List Nat):=T.map λr=>F.map λj=>r.getD j 0
theorem WE{N w:Nat}{T:List (List Nat)}{F:List Nat}(h0:0<N)(hT:RT N w T):RT N F.length (jh T F)/\(jh T F).length=T.length:=by
 refine⟨λx hx=>?_,by unfold jh;rw[bt]⟩
 obtain⟨r,hr,rfl⟩:=bF.mp hx
 refine⟨by rw[bt],λy hy=>?_⟩
 obtain⟨j,_,rfl⟩:=bF.mp hy
 exact(hT r hr).2.getD h0 j
theorem WG{T:List (List Nat)}{F:List Nat}{k t:Nat}(hk:k<T.length)(ht:t<F.length):cf ((jh T F).getD k []) t=fY T (F.getD t 0) k:=by
 unfold jh fY cf
 rw[wI _ hk [] [],wI _ ht 0 0]
theorem cm4{o:Bool}{G:List (List Nat)}{i:Nat}{d:D}(hd:(aE o G)[i]?=some d):∃hi:i<G.length,d=.lst o (aq G[i]):=by
 unfold aE at hd
 rw[bQ]at hd
 by_cases hi:i<G.length
 ·rw[aJ hi]at hd
  exact⟨hi,(cU hd).symm⟩
 ·rw[gW (by omega)]at hd;cases hd
end L3
namespace L3
open PySem L2 PySem.Spec PyProof.Rows
section
variable{B:Bs}{F H:Hp}{σ:L2.St}{δ:Dl}{ts:List (D × V)}
end
section
variable{X:Cx}{a:Expr}{ta:aY}{pos p2:Pos}{tk:Nat}
end
end L3
namespace L3
open PySem L2 PySem.Spec PyProof.Rows
section
variable{X:Cx}{a b:Expr}{ta tb:aY}{elts:List Expr}{x1:Nat}{tV p pos:Pos}
end
end L3
namespace L3
open PySem L2 Mf
section
variable{m:Bool × Nat}
theorem cB7(hm:m∈aD){T:List (List Nat)}(hw:0<ag T)(hT:RT (aa m) (ag T) T)(h:pM m T=none):∀S,fJ (ag T) S->kK m (fY T) S:=by
 have:=Jj hm (Jl hm hT) (ag T+1) 0 _ (Lv.start hm hw hT) (by omega)
 unfold pM at h
 rw[h]at this
 exact λS hS=>this S hS (jM _)
theorem cz6(hm:m∈aD){T:List (List Nat)}(hw:0<ag T)(hT:RT (aa m) (ag T) T){F:List Nat}(h:pM m T=some F):fJ (ag T) F/\0<F.length/\(∃c:Nat->Nat,(∀t,c t<aa m)/\c (F.length-1)=1/\∀j,gO m (fY T) F c j=0)/\∀S,fJ (ag T) S->S.length<F.length\/(S.length=F.length/\jI S F)->kK m (fY T) S:=by
 have:=Jj hm (Jl hm hT) (ag T+1) 0 _ (Lv.start hm hw hT) (by omega)
 unfold pM at h
 rw[h]at this
 obtain⟨a,b,c,d⟩:=this
 exact⟨a,b,c,λS hS=>d S hS (jM _)⟩
structure wU(m:Bool × Nat)(R W:Nat)(x y:Nat->Nat)(T:List (List Nat)):Prop where
 rt:RT (aa m) W T
 l:T.length=R
 xl:∀j,x j<aa m
 xd:∀i j,i<W->j<W->x i=x j->i=j
 yl:∀j,y j<aa m
 y0:∀j,j<W->y j≠0
 at_:∀i,i<R->∃k,k<R/\∀j,j<W->fY T j k=gm m (y j) (px m (x j) i)
theorem wU.ind(hm:m∈aD){R W:Nat}{x y:Nat->Nat}{T:List (List Nat)}(h:wU m R W x y T){S:List Nat}(hS:fJ W S)(hR:S.length<=R):kK m (fY T) S:=by
 intro c hc hz t ht
 have gS:∀t,t<S.length->S.getD t 0<W:=λt ht=>hS.2 _ (dM ht 0)
 have:=Ws hm (λt=>x (S.getD t 0)) (λ_=>h.xl _) S.length (λt=>gm m (c t) (y (S.getD t 0))) (λ_=>cj hm _ _) (λi j hi hj e=>by
  have e':=h.xd _ _ (gS i hi) (gS j hj) e
  rcases Nat.lt_trichotomy i j with q | q | q
  ·have:=Gf.mp hS.1 i j hi hj q
   rw[aK,aK,aJ hi,aJ hj]at e'
   have e2:S[i]=S[j]:=e'
   omega
  ·exact q
  ·have:=Gf.mp hS.1 j i hj hi q
   rw[aK,aK,aJ hi,aJ hj]at e'
   have e2:S[i]=S[j]:=e'
   omega) (λi hi=>by
  obtain⟨k,_,hk⟩:=h.at_ i (by omega)
  refine qm (cq λt ht=>?_) (hz k)
  show gm m (gm m (c t) (y (S.getD t 0))) (px m (x (S.getD t 0)) i)=gm m (c t) (fY T (S.getD t 0) k)
  rw[hk _ (gS t ht),hJ (bX m hm)]) t ht
 rcases(DD hm (hc t) (h.yl _)).mp this with z | z
 ·exact z
 ·exact absurd z (h.y0 _ (gS t ht))
end
end L3
namespace L2
open PySem PySem.Spec PyProof.Rows
section
variable{X:Cx}
end
end L2
namespace L3
open PySem L2 PySem.Spec PyProof.Rows
section
variable{X:Cx}{o e:Expr}{t tb:aY}{apos cm:Pos}
end
section
variable{X:Cx}{i:Nat}{x:Str}{p pos apos cm dK3 AH:Pos}{a b:List Stmt}{t u:cX}{k:Int}{j}
end
end L3
namespace L3
open PySem L2 Mf
section
variable{N:Nat}{p q:Nat->Nat->Nat}
variable{ng:Nat->Nat}{c:Nat}
end
section
variable{m:Bool × Nat}
end
end L3
namespace L2
open PySem PySem.Spec PyProof.Rows
section
variable{prog:Program}{w:World}{A:Around}{E:Value->Shared->Prop}{s:Shared}
end
section
variable{X:Cx}{e:Expr}{ta:TA}{p p2 pos AH:Pos}
end
end L2
namespace L3
open PySem L2 PySem.Spec PyProof.Rows
section
variable{X:Cx}{e:Expr}{tr:dh}{p p2 pos AH:Pos}
end
end L3
namespace L3
open PySem L2 Mf
section
variable{m:Bool × Nat}
theorem Jm{N:Nat}{p q:Nat->Nat->Nat}(r:Rg N p q){f:Nat->Nat}(hf:∀j,f j<N){n a:Nat}(ha:a<n):sm p n f=p (f a) (sm p n λj=>if j=a then 0 else f j):=by
 rw[cq (g:=λj=>p (if j=a then f a else 0) (if j=a then 0 else f j)) λj _=>?_,nt r,AF r (f:=λj=>if j=a then f a else 0) (j0:=a) (by simp[hf]) ha λj _ hj=>if_neg hj]
 ·simp
 ·by_cases c:j=a
  ·subst c;simp[r.z' (hf j)]
  ·simp[c,r.z (hf j)]
theorem DH{N:Nat}{p q:Nat->Nat->Nat}(r:Rg N p q){n:Nat}:∀{ps:List Nat} {f:Nat->Nat},(∀j,f j<N)->ps.Nodup->(∀a∈ps,a<n)->(∀j,j<n->j ∉ ps->f j=0)->sm p n f=sm p ps.length λk=>f (ps.getD k 0)
 | [],f,_,_,_,hz=>gL r λj hj=>hz j hj ik
 | a::ps,f,hf,nd,hp,hz=>by
  obtain⟨n1,n2⟩:=jk.mp nd
  have IV:∀j,(if j=a then 0 else f j)<N:=λj=>by
   by_cases c:j=a
   ·rw[if_pos c];exact r.pos
   ·rw[if_neg c];exact hf j
  rw[Jm r hf (hp a gb),DH r (ps:=ps) IV n2 (λb hb=>hp b (dZ _ hb)) λj hj hn=>?_,gU,cg8 r _ λj _=>hf _]
  ·show _=p (f a) (sm p ps.length λk=>f (ps.getD k 0))
   congr 1
   refine cq λj hj=>?_
   have:=dM hj 0
   exact if_neg λ(z:ps.getD j 0=a)=>n1 (z ▸ this)
  ·by_cases c:j=a
   ·exact if_pos c
   ·rw[if_neg c]
    exact hz j hj λh=>by
     rcases cB.mp h with h | h
     ·exact c h
     ·exact hn h
def eV(m:Bool × Nat):List Nat->List Nat->List Nat->List Nat
 | l,p::ps,x::xs=>eV m (l.set p (bD m (cf l p) x)) ps xs
 | l,[],_=>l
 | l,_::_,[]=>l
theorem WH(hm:m∈aD):∀{ps xs l:List Nat},AllLt (aa m) l->AllLt (aa m) xs->ps.Nodup->(∀p∈ps,p<l.length)->xs.length=ps.length->AllLt (aa m) (eV m l ps xs)/\(eV m l ps xs).length=l.length/\(∀j,j ∉ ps->cf (eV m l ps xs) j=cf l j)/\∀k,k<ps.length->cf (eV m l ps xs) (ps.getD k 0)=bD m (cf l (ps.getD k 0)) (cf xs k)
 | [],xs,l,hl,_,_,_,_=>⟨by unfold eV;exact hl,by unfold eV;rfl,λ_ _=>by unfold eV;rfl,λk hk=>absurd hk (Gg k)⟩
 | p::ps,[],l,_,_,_,_,h=>by cases h
 | p::ps,x::xs,l,hl,hx,nd,hp,h=>by
  obtain⟨n1,n2⟩:=jk.mp nd
  have bS:=hp p gb
  have g:=(fH hm (cG hm hl p) (hx x gb)).2.1
  have qq:AllLt (aa m) (l.set p (bD m (cf l p) x)):=λa ha=>by
   rcases yX ha with h1 | rfl
   ·exact hl a h1
   ·exact g
  obtain⟨t1,t2,t3,t4⟩:=WH hm (ps:=ps) (xs:=xs) qq (λa ha=>hx a (dZ _ ha)) n2 (λq hq=>by rw[nI];exact hp q (dZ _ hq)) (by simpa using h)
  rw[show eV m l (p::ps) (x::xs)=eV m (l.set p (bD m (cf l p) x)) ps xs from by rw[eV]]
  refine⟨t1,by rw[t2,nI],λj hj=>?_,λk hk=>?_⟩
  ·have WI:¬ (j=p\/j∈ps):=λz=>hj (cB.mpr z)
   rw[t3 j λz=>WI (.inr z),Jd bS,if_neg λz=>WI (.inl z)]
  ·cases k with
   | zero =>
    show cf _ p=bD m (cf l p) x
    rw[t3 p n1,Jd bS,if_pos rfl]
   | succ k =>
    have AB:k<ps.length:=by simpa using hk
    show cf _ (ps.getD k 0)=bD m (cf l (ps.getD k 0)) (cf xs k)
    rw[t4 k AB,Jd bS,if_neg λz:ps.getD k 0=p=>n1 (z ▸ dM AB 0)]
def cS(y:List (Option Nat)):List Nat:=y.map λs=>s.getD 0
def bC(y:List (Option Nat)):List Nat:=(aZ y.length).filter λj=>decide (y[j]?=some none)
def iK(y:List (Option Nat))(c:List Nat):List Nat:=(aZ y.length).filter λj=>decide (j ∉ bC y/\cf (cS y) j≠cf c j)
theorem Jn(y:List (Option Nat)):(bC y).Nodup/\∀p∈bC y,p<y.length:=⟨Gh.filter _,λp hp=>cT.mp (nG.mp hp).1⟩
theorem DI{y:List (Option Nat)}{c:List Nat}{j:Nat}:j∈iK y c↔j<y.length/\j ∉ bC y/\cf (cS y) j≠cf c j:=by
 unfold iK
 rw[nG,cT,decide_eq_true_iff]
theorem DJ(hm:m∈aD){y:List (Option Nat)}(hy:∀a,some a∈y->a<aa m):AllLt (aa m) (cS y):=λa ha=>by
 obtain⟨s,h1,rfl⟩:=bF.mp ha
 cases s with
 | none=>exact FI Si (lo1 hm)
 | some a=>exact hy a h1
theorem cM9(hm:m∈aD){a b:Nat}(ha:a<aa m)(hb:b<aa m)(h:a≠b):bD m a b≠0:=λz=>by
 have g:=(fH hm ha hb).2.2
 rw[z,se hb]at g
 exact h g.symm
theorem cC1(hm:m∈aD){a x:Nat}(ha:a<aa m)(hx:x<aa m):bD m a (bD m a x)=x:=by
 have g:=fH hm ha hx
 have k:=fH hm ha g.2.1
 refine(rg hm).Du k.2.1 hx g.2.1 (k.2.2.trans ?_)
 rw[j6]
 exact g.2.2.symm
theorem Jo(y:List (Option Nat)):(cS y).length=y.length:=by unfold cS;rw[bt]
section
variable{b e L o:Nat}{y:List (Option Nat)}{w c:List Nat}{bb:Nat->Nat}
end
end
def fq:Option Nat->D
 | none=>.ay
 | some a=>.int (a:Int)
def dm(y:List (Option Nat)):List D:=y.map fq
theorem WJ(a:Option Nat):(fq a).sh=fq a:=by cases a<;>rfl
theorem Jp:∀a b:Option Nat,fq a=fq b->a=b
 | none,none,_=>rfl
 | some a,some b,h=>by
  have:(D.int (a:Int))=D.int (b:Int):=h
  injection this with h
  rw[show a=b by omega]
 | none,some _,h=>by cases h
 | some _,none,h=>by cases h
theorem pO(y:List (Option Nat)):(dm y).map D.sh=dm y:=by
 unfold dm;rw[cg];exact nQ λa _=>WJ a
theorem cy6(y:List (Option Nat)):(dm y).all D.pl=true:=by
 unfold dm;rw[mx];exact dw.mpr λa _=>by cases a<;>rfl
theorem WK(y:List (Option Nat)):(dm y).length=y.length:=bt ..
theorem DK{y:List (Option Nat)}{i:Nat}(hi:i<y.length):y[i]?=some (y.getD i none):=by
 rw[aK,aJ hi];rfl
theorem ci3(y:List (Option Nat)):(fm (dm y)).map D.sh=(aZ y.length).map λ(i:Nat)=>D.tup [.int (i:Int),fq (y.getD i none)]:=by
 apply FW
 intro i
 unfold fm dm
 rw[bQ,yV,bQ,bQ]
 by_cases hi:i<y.length
 ·rw[ki hi,DK hi]
  show some (D.tup [D.int (i:Int),fq (y.getD i none)]).sh=some (D.tup [D.int (i:Int),fq (y.getD i none)])
  rw[jU]
  simp only[dF,jN,jE,WJ]
 ·rw[gW (show y.length<=i by omega),gW (show(aZ y.length).length<=i by simpa using hi)];rfl
end L3
namespace L3
open PySem L2 Mf
section
variable{m:Bool × Nat}
theorem Jq:∀{l l':List Nat},l.Nodup->(∀a∈l,a∈l')->l.length<=l'.length
 | [],_,_,_=>jM _
 | a::l,l',nd,h=>by
  obtain⟨n1,n2⟩:=jk.mp nd
  have ha:=h a gb
  have:=Jq (l:=l) (l':=l'.erase a) n2 λb hb=>(de8 (λz:b=a=>n1 (z ▸ hb))).mpr (h b (dZ _ hb))
  rw[de9 ha]at this
  have:=List.length_pos_of_mem ha
  rw[gU]
  omega
theorem cG6{y:List (Option Nat)}{j:Nat}(hj:j<y.length):j∈bC y↔y.getD j none=none:=by
 unfold bC
 rw[nG,cT,decide_eq_true_iff,DK hj]
 exact⟨λh=>cU h.2,λh=>⟨hj,congrArg some h⟩⟩
theorem cH8{y:List (Option Nat)}{j:Nat}:cf (cS y) j=(y.getD j none).getD 0:=by
 unfold cS cf
 rw[aK,bQ,aK]
 cases y[j]?<;>rfl
end
end L3
namespace L3
open PySem L2 Mf
section
variable{m:Bool × Nat}
theorem cD7{y:List (Option Nat)}{w:List Nat}(h:w.length=y.length):my y w=(aZ y.length).map λj=>(y.getD j none,cf w j):=by
 refine BU (by rw[ql,bt,dD,h,tF]) λi h1 h2=>?_
 rw[bt,dD]at h2
 rw[Sd,vz,Se]
 unfold cf
 rw[aK,aK,aJ h2,aJ (by omega)]
 rfl
end
end L3
namespace L3
open PySem L2 Mf
section
variable{m:Bool × Nat}
def p1(m:Bool × Nat)(c o:List Nat):List Nat:=(cA m c [o]).headD []
theorem Jr(m:Bool × Nat)(c:List Nat)(os:List (List Nat)):cA m c os=os.map (p1 m c):=rfl
theorem wV(hm:m∈aD){c d:List Nat}{h:Nat}(hc:c.length=h)(hd:d.length=h)(ad:AllLt (aa m) d)(nc:nul c=false):(p1 m c d).length=h-1/\AllLt (aa m) (p1 m c d) :=
 wQ hm hc (os:=[d]) (λx hx=>by rw[dX.mp hx];exact⟨hd,ad⟩) nc _ (by rw[Jr];exact dX.mpr rfl)
def Rel(m:Bool × Nat)(cs:List (List Nat))(a:Nat->Nat):Prop:=∀k,sm (gp m) cs.length (λj=>gm m (a j) (cf (cs.getD j []) k))=0
def ie(m:Bool × Nat)(cs:List (List Nat))(d:List Nat)(a:Nat->Nat):Prop:=∀k,gp m (sm (gp m) cs.length λj=>gm m (a j) (cf (cs.getD j []) k)) (cf d k)=0
theorem b02(F:List (List Nat))(x:List Nat){j:Nat}(h:j<F.length):(F++[x]).getD j []=F.getD j []:=by
 rw[aK,sY h,aK]
theorem WL(F:List (List Nat))(x:List Nat):(F++[x]).getD F.length []=x:=by
 rw[aK,sX (bN _),Ge];rfl
theorem DL(hm:m∈aD){F:List (List Nat)}{x:List Nat}(hx:AllLt (aa m) x){a:Nat->Nat}(h1:a F.length=1)(k:Nat):sm (gp m) (F++[x]).length (λj=>gm m (a j) (cf ((F++[x]).getD j []) k))=gp m (sm (gp m) F.length λj=>gm m (a j) (cf (F.getD j []) k)) (cf x k):=by
 rw[dU,FF,sm,WL,h1,lW (cG hm hx k)]
 congr 1
 exact cq λj hj=>by rw[b02 F x hj]
theorem cB8(hm:m∈aD){F:List (List Nat)}{x:List Nat}(hx:AllLt (aa m) x){a:Nat->Nat}(h1:a F.length=1):Rel m (F++[x]) a↔ie m F x a:=by
 unfold Rel ie
 exact⟨λh k=>by rw[<-DL hm hx h1];exact h k,λh k=>by rw[DL hm hx h1];exact h k⟩
theorem WM(hm:m∈aD){c d:List Nat}{cs:List (List Nat)}{h:Nat}(hc:c.length=h)(ac:AllLt (aa m) c)(fc:RT (aa m) h cs)(hd:d.length=h)(ad:AllLt (aa m) d)(nc:nul c=false){a:Nat->Nat}(ha:∀i,a i<aa m) :
  ie m (cA m c cs) (p1 m c d) a↔∃e,e<aa m/\∀k,gp m (gp m (sm (gp m) cs.length λj=>gm m (a j) (cf (cs.getD j []) k)) (cf d k)) (gm m e (cf c k))=0:=by
 have dr:=lo1 hm
 have r:=DF hm hc ac (os:=cs++[d]) (fc.app λx hx=>by rw[dX.mp hx];exact⟨hd,ad⟩) nc (a:=λj=>if j=cs.length then 1 else a j) λi=>by
  show(if i=cs.length then 1 else a i)<_
  split
  ·omega
  ·exact ha i
 have e1:cA m c (cs++[d])=cA m c cs++[p1 m c d]:=by rw[Jr,gi];rfl
 have pl:=sA m c cs
 have pa:=(wV hm hc hd ad nc).2
 have ce:∀(F:List (List Nat)),F.length=cs.length->∀k,(sm (gp m) F.length λj=>gm m (if j=cs.length then 1 else a j) (cf (F.getD j []) k))=sm (gp m) F.length λj=>gm m (a j) (cf (F.getD j []) k):=λF hF k=>cq λj hj=>by rw[if_neg (by omega)]
 have s1:∀k,sm (gp m) (cs++[d]).length (λj=>gm m (if j=cs.length then 1 else a j) (cf ((cA m c (cs++[d])).getD j []) k))=gp m (sm (gp m) (cA m c cs).length λj=>gm m (a j) (cf ((cA m c cs).getD j []) k)) (cf (p1 m c d) k):=λk=>by
  have:=DL hm (F:=cA m c cs) pa (a:=λj=>if j=cs.length then 1 else a j) (by rw[pl];exact if_pos rfl) k
  rw[ce _ pl,<- e1]at this
  rw[<-this,sA]
 have s2:∀k,sm (gp m) (cs++[d]).length (λj=>gm m (if j=cs.length then 1 else a j) (cf ((cs++[d]).getD j []) k))=gp m (sm (gp m) cs.length λj=>gm m (a j) (cf (cs.getD j []) k)) (cf d k):=λk=>by
  have:=DL hm (F:=cs) ad (a:=λj=>if j=cs.length then 1 else a j) (if_pos rfl) k
  rw[ce _ rfl]at this
  exact this
 simp only[s1,s2]at r
 exact r
theorem Js(hm:m∈aD){cs:List (List Nat)}{d:List Nat}(ad:AllLt (aa m) d){a:Nat->Nat}(h:∀j,j<cs.length->∀k,gm m (a j) (cf (cs.getD j []) k)=0):ie m cs d a↔nul d=true:=by
 unfold ie
 rw[wO]
 have e:∀k,gp m (sm (gp m) cs.length λj=>gm m (a j) (cf (cs.getD j []) k)) (cf d k)=cf d k:=λk=>by
  rw[gL (rg hm) λj hj=>h j hj k,se (cG hm ad k)]
 exact⟨λz k=>by rw[<-e k];exact z k,λz k=>by rw[e k];exact z k⟩
def fK(m:Bool × Nat):Nat->List (List Nat)->List Nat->Option (List Nat)
 | 0,_,d=>if nul d=true then some []else none
 | n+1,cs,d=>if nul d=true then some []else(aZ cs.length).findSome? λi=>if nul (cs.getD i [])=true then none else(fK m n (cA m (cs.getD i []) (cs.drop (i+1))) (p1 m (cs.getD i []) d)).map λS=>i::S.map (i+1 + ·)
theorem b07(cs:List (List Nat))(i j:Nat):(cs.drop i).getD j []=cs.getD (i+j) []:=by
 rw[aK,FX,aK]
theorem RT.at{N h:Nat}{cs:List (List Nat)}(r:RT N h cs){i:Nat}(hi:i<cs.length):(cs.getD i []).length=h/\AllLt N (cs.getD i []):=by
 rw[aK,aJ hi]
 exact r _ (cC hi)
theorem RT.drop{N h:Nat}{cs:List (List Nat)}(r:RT N h cs)(i:Nat):RT N h (cs.drop i):=λx hx=>r x (qh hx)
theorem WN(hm:m∈aD){cs:List (List Nat)}{i:Nat}(hi:i<cs.length)(a':Nat->Nat)(e k:Nat):sm (gp m) cs.length (λj=>gm m (if j<i then 0 else if j=i then e else a' (j-i-1)) (cf (cs.getD j []) k))=gp m (sm (gp m) (cs.drop (i+1)).length λj=>gm m (a' j) (cf ((cs.drop (i+1)).getD j []) k)) (gm m e (cf (cs.getD i []) k)):=by
 rw[pL hm hi a' λj=>cf (cs.getD j []) k,jl,Nat.sub_sub]
 congr 1
 exact cq λj _=>by rw[b07]
theorem Jt(hm:m∈aD){x y z:Nat}:gp m (gp m x y) z=gp m (gp m x z) y:=by
 haveI:Std.Commutative (gp m):=⟨j6 m⟩
 haveI:Std.Associative (gp m):=⟨(rg hm).pa⟩
 ac_rfl
theorem Ju(hm:m∈aD):∀{n h:Nat} {cs:List (List Nat)} {d S:List Nat},RT (aa m) h cs->d.length=h->AllLt (aa m) d->fK m n cs d=some S ->
  S.length<=n/\S.Pairwise (· < ·)/\(∀j∈S,j<cs.length)/\∃a:Nat->Nat,(∀j,a j<aa m)/\(∀j,a j≠0->j∈S)/\ie m cs d a:=by
 have h0:=bX m hm
 have dr:=lo1 hm
 intro n
 have base:∀{cs:List (List Nat)} {d:List Nat},AllLt (aa m) d->nul d=true->([]:List Nat).Pairwise (· < ·)/\(∀j∈([]:List Nat),j<cs.length)/\∃a:Nat->Nat,(∀j,a j<aa m)/\(∀j,a j≠0->j∈([]:List Nat))/\ie m cs d a:=λ{cs d} ad nd =>
  ⟨.nil,λj hj=>(by cases hj),λ_=>0,λ_=>FI Si dr,λj hj=>absurd rfl hj,(Js hm ad λj _ k=>eU m _ h0).mpr nd⟩
 induction n with
 | zero =>
  intro h cs d S fc hd ad e
  unfold fK at e
  split at e
  ·cases e;exact⟨bN _,base ad (by assumption)⟩
  ·cases e
 | succ n ih =>
  intro h cs d S fc hd ad e
  unfold fK at e
  split at e
  ·cases e;exact⟨jM _,base ad (by assumption)⟩
  ·obtain⟨i,hi,e⟩:=List.exists_of_findSome?_eq_some e
   have hi:=cT.mp hi
   split at e
   ·cases e
   ·rename_i nc
    have nc:nul (cs.getD i [])=false:=by simpa using nc
    obtain⟨S',e',rfl⟩:=vw.mp e
    obtain⟨c1,c2⟩:=fc.at hi
    have sC:=fc.drop (i+1)
    obtain⟨s1,s2,s3,a',a1,a2,a3⟩:=ih (wQ hm c1 sC nc) (wV hm c1 hd ad nc).1 (wV hm c1 hd ad nc).2 e'
    rw[sA,jl]at s3
    obtain⟨x,hx,ex⟩:=(WM hm c1 c2 sC hd ad nc a1).mp a3
    refine⟨by rw[gU,bt];omega,?_,?_,λj=>if j<i then 0 else if j=i then x else a' (j-i-1),?_,?_,?_⟩
    ·refine BX.mpr ⟨λb hb=>?_,Sg.mpr (s2.imp λh=>by omega)⟩
     obtain⟨y,_,rfl⟩:=bF.mp hb
     omega
    ·intro j hj
     rcases cB.mp hj with rfl | hj
     ·exact hi
     ·obtain⟨y,hy,rfl⟩:=bF.mp hj
      have:=s3 y hy
      omega
    ·intro j
     show(if j<i then 0 else if j=i then x else a' (j-i-1))<_
     split
     ·omega
     ·split
      ·exact hx
      ·exact a1 _
    ·intro j hj
     change (if j<i then 0 else if j=i then x else a' (j-i-1))≠0 at hj
     by_cases c:j<i
     ·rw[if_pos c]at hj;exact absurd rfl hj
     ·rw[if_neg c]at hj
      by_cases c':j=i
      ·exact c' ▸ gb
      ·rw[if_neg c']at hj
       exact dZ _ (bF.mpr ⟨j-i-1,a2 _ hj,by omega⟩)
    ·intro k
     rw[WN hm hi a' x k,Jt hm]
     exact ex k
theorem cP4{P:Nat->Prop}:∀j,P j->∃i,P i/\∀j,j<i->¬ P j:=by
 intro j
 induction j using BQ with
 | ind j ih =>
  intro h
  by_cases c:∃i,i<j/\P i
  ·obtain⟨i,h1,h2⟩:=c
   exact ih i h1 h2
  ·exact⟨j,h,λi hi z=>c ⟨i,hi,z⟩⟩
theorem cg2(hm:m∈aD):∀{n h:Nat} {cs:List (List Nat)} {d:List Nat},RT (aa m) h cs->d.length=h->AllLt (aa m) d->fK m n cs d=none ->
  ∀(S:List Nat) (a:Nat->Nat),S.length<=n->(∀j,a j<aa m)->(∀j,j<cs.length->a j≠0->j∈S)->¬ ie m cs d a:=by
 have h0:=bX m hm
 intro n
 induction n with
 | zero =>
  intro h cs d fc hd ad e S a hS ha hs R
  unfold fK at e
  split at e
  ·cases e
  ·rename_i nd
   refine nd ((Js hm ad λj hj k=>?_).mp R)
   have aj:a j=0:=za λz=>by
    have:=hs j hj z
    rw[de7.mp (Nat.le_zero.mp hS)]at this
    cases this
   rw[aj,eU m _ h0]
 | succ n ih =>
  intro h cs d fc hd ad e S a hS ha hs R
  unfold fK at e
  split at e
  ·cases e
  ·rename_i nd
   by_cases c:∃j,j<cs.length/\a j≠0/\nul (cs.getD j [])=false
   ·obtain⟨j,hj⟩:=c
    obtain⟨i,⟨hi,ai,nc⟩,dZ8⟩:=cP4 (P:=λj=>j<cs.length/\a j≠0/\nul (cs.getD j [])=false) j hj
    have f:=df0.mp e i (cT.mpr hi)
    rw[if_neg (by rw[nc];exact gh),df1]at f
    obtain⟨c1,c2⟩:=fc.at hi
    have sC:=fc.drop (i+1)
    have mi:=hs i hi ai
    refine ih (wQ hm c1 sC nc) (wV hm c1 hd ad nc).1 (wV hm c1 hd ad nc).2 f ((S.erase i).map (· - i-1)) (λj=>a (i+1+j)) ?_ (λj=>ha _) ?_ ?_
    ·rw[bt,de9 mi];omega
    ·intro j hj aj
     rw[sA,jl]at hj
     have:=hs (i+1+j) (by omega) aj
     exact bF.mpr ⟨i+1+j,(de8 (by omega)).mpr this,by omega⟩
    ·refine(WM hm c1 c2 sC hd ad nc λj=>ha _).mpr ⟨a i,ha i,λk=>?_⟩
     rw[Jt hm,<- WN hm hi (λj=>a (i+1+j)) (a i) k]
     refine qm ?_ (R k)
     congr 1
     refine cq λj hj=>?_
     by_cases c:j<i
     ·rw[if_pos c,eU m _ h0]
      have hn:=dZ8 j c
      by_cases z:a j=0
      ·rw[z,eU m _ h0]
      ·have nz:nul (cs.getD j [])=true:=by
        cases e:nul (cs.getD j [])with
        | true=>rfl
        | false=>exact absurd ⟨hj,z,e⟩ hn
       rw[wO.mp nz k,gF m _ h0]
     ·rw[if_neg c]
      by_cases c':j=i
      ·rw[if_pos c',c']
      ·rw[if_neg c',show i+1+(j-i-1)=j by omega]
   ·refine nd ((Js hm ad λj hj k=>?_).mp R)
    by_cases z:a j=0
    ·rw[z,eU m _ h0]
    ·have nz:nul (cs.getD j [])=true:=by
      cases e:nul (cs.getD j [])with
      | true=>rfl
      | false=>exact absurd ⟨j,hj,z,e⟩ c
     rw[wO.mp nz k,gF m _ h0]
def ji(m:Bool × Nat):List (List Nat)->List Nat->List (List Nat)
 | cs,[]=>cs
 | cs,p::ps=>ji m (if nul (cs.getD p [])=true then cs else cA m (cs.getD p []) cs) ps
theorem WO(hm:m∈aD){n p:Nat}(hp:p<n)(b X:Nat->Nat)(e:Nat):sm (gp m) n (λj=>gm m (if j=p then gp m (b p) e else b j) (X j))=gp m (sm (gp m) n λj=>gm m (b j) (X j)) (gm m e (X p)):=by
 have r:=rg hm
 have h0:=bX m hm
 rw[Jm r (f:=λj=>gm m (if j=p then gp m (b p) e else b j) (X j)) (λ_=>cj hm _ _) hp,Jm r (f:=λj=>gm m (b j) (X j)) (λ_=>cj hm _ _) hp,if_pos rfl,Dq h0]
 rw[show(λj=>if j=p then 0 else gm m (if j=p then gp m (b p) e else b j) (X j))=λj=>if j=p then 0 else gm m (b j) (X j) from funext λj=>by
  by_cases c:j=p
  ·rw[if_pos c,if_pos c]
  ·rw[if_neg c,if_neg c,if_neg c]]
 exact Jt hm
theorem WQ(hm:m∈aD):∀{ps:List Nat} {cs:List (List Nat)} {h:Nat},RT (aa m) h cs->(∀p∈ps,p<cs.length)->(ji m cs ps).length=cs.length/\(∃h',h'<=h/\RT (aa m) h' (ji m cs ps)) /\
  ∀a:Nat->Nat,(∀j,a j<aa m)->(Rel m (ji m cs ps) a↔∃b:Nat->Nat,(∀j,b j<aa m)/\(∀j,j ∉ ps->b j=a j)/\Rel m cs b):=by
 have h0:=bX m hm
 intro ps
 induction ps with
 | nil =>
  intro cs h fc _
  refine⟨rfl,⟨h,bN _,fc⟩,λa ha=>⟨λz=>⟨a,ha,λ_ _=>rfl,z⟩,λ⟨b,_,b2,b3⟩=>?_⟩⟩
  rw[show b=a from funext λj=>b2 j (by simp)]at b3
  exact b3
 | cons p ps ih =>
  intro cs h fc hp
  have lH:=hp p gb
  have WR:=λq hq=>hp q (dZ p hq)
  unfold ji
  by_cases c:nul (cs.getD p [])=true
  ·rw[if_pos c]
   obtain⟨i1,i2,i3⟩:=ih fc WR
   refine⟨i1,i2,λa ha=>(i3 a ha).trans ⟨λ⟨b,b1,b2,b3⟩=>⟨b,b1,λj hj=>b2 j λz=>hj (dZ _ z),b3⟩,λ⟨b,b1,b2,b3⟩=>⟨λj=>if j=p then a p else b j,λj=>?_,λj hj=>?_,λk=>?_⟩⟩⟩
   ·show(if j=p then a p else b j)<_
    split
    ·exact ha p
    ·exact b1 j
   ·show(if j=p then a p else b j)=a j
    by_cases z:j=p
    ·rw[if_pos z,z]
    ·rw[if_neg z];exact b2 j λq=>(cB.mp q).elim z hj
   ·refine qm ?_ (b3 k)
    refine cq λj _=>?_
    dsimp only
    by_cases z:j=p
    ·rw[z,wO.mp c k,gF m _ h0,gF m _ h0]
    ·rw[if_neg z]
  ·rw[if_neg c]
   have nc:nul (cs.getD p [])=false:=by simpa using c
   obtain⟨c1,c2⟩:=fc.at lH
   have pl:=sA m (cs.getD p []) cs
   obtain⟨i1,⟨h',i2,i2'⟩,i3⟩:=ih (wQ hm c1 fc nc) (λq hq=>by rw[pl];exact WR q hq)
   refine⟨i1.trans pl,⟨h',by omega,i2'⟩,λa ha=>(i3 a ha).trans ⟨λ⟨b,b1,b2,b3⟩=>?_,λ⟨b,b1,b2,b3⟩=>?_⟩⟩
   ·unfold Rel at b3
    rw[pl]at b3
    obtain⟨e,he,ez⟩:=(DF hm c1 c2 fc nc b1).mp b3
    refine⟨λj=>if j=p then gp m (b p) e else b j,λj=>?_,λj hj=>?_,λk=>?_⟩
    ·show(if j=p then gp m (b p) e else b j)<_
     split
     ·exact Aq hm (b1 p) he
     ·exact b1 j
    ·show(if j=p then gp m (b p) e else b j)=a j
     rw[if_neg λ(z:j=p)=>hj (z ▸ gb)]
     exact b2 j λz=>hj (dZ _ z)
    ·rw[WO hm lH b (λj=>cf (cs.getD j []) k) e]
     exact ez k
   ·refine⟨λj=>if j=p then a p else b j,λj=>?_,λj hj=>?_,?_⟩
    ·show(if j=p then a p else b j)<_
     split
     ·exact ha p
     ·exact b1 j
    ·show(if j=p then a p else b j)=a j
     by_cases z:j=p
     ·rw[if_pos z,z]
     ·rw[if_neg z];exact b2 j λq=>(cB.mp q).elim z hj
    ·unfold Rel
     rw[pl]
     have g:=fH hm (b1 p) (ha p)
     refine(DF hm c1 c2 fc nc (a:=λj=>if j=p then a p else b j) λj=>?_).mpr ⟨bD m (b p) (a p),g.2.1,λk=>?_⟩
     ·show(if j=p then a p else b j)<_
      split
      ·exact ha p
      ·exact b1 j
     ·rw[<-WO hm lH (λj=>if j=p then a p else b j) (λj=>cf (cs.getD j []) k)]
      refine qm ?_ (b3 k)
      refine cq λj _=>?_
      by_cases z:j=p
      ·rw[if_pos z,if_pos rfl,j6,g.2.2,z]
      ·rw[if_neg z,if_neg z]
end
end L3
namespace L3
open PySem L2 Mf
section
variable{m:Bool × Nat}
def cN(n:Nat)(aM:List Nat):List Nat:=(aZ n).filter λp=>decide (p ∉ aM)
theorem wW{n:Nat}{aM:List Nat}{j:Nat}:j∈cN n aM↔j<n/\j ∉ aM:=by
 unfold cN
 rw[nG,cT,decide_eq_true_iff]
theorem Jv(n:Nat)(aM:List Nat):(cN n aM).Nodup:=Gh.filter _
theorem wX:∀{l:List Nat} {i:Nat},l.Nodup->i<l.length->l.idxOf (l.getD i 0)=i
 | a::l,0,_,_=>List.idxOf_cons_self
 | a::l,i+1,nd,h=>by
  obtain⟨n1,n2⟩:=jk.mp nd
  have hi:i<l.length:=Nat.lt_of_succ_lt_succ h
  have:=wX n2 hi
  rw[show(a::l).getD (i+1) 0=l.getD i 0 from rfl,List.idxOf_cons,beq_false_of_ne (λz:a=l.getD i 0=>n1 (by rw[z];exact dM hi 0)),cond_false,this]
theorem Jw{n:Nat}{aM:List Nat}{i:Nat}(h:i<(cN n aM).length):(cN n aM).getD i 0<n/\(cN n aM).getD i 0 ∉ aM:=wW.mp (dM h 0)
theorem b88{l:List Nat}{f:Nat->List Nat}{i:Nat}(h:i<l.length):(l.map f).getD i []=f (l.getD i 0):=wI f h 0 []
theorem WS(hm:m∈aD){C:List (List Nat)}{n:Nat}(hC:C.length=n+1)(aC:AllLt (aa m) (C.getD n [])){aM:List Nat}{a:Nat->Nat}(h1:a n=1)(hl:∀j∈aM,a j=0) :
  Rel m C a↔ie m ((cN n aM).map λp=>C.getD p []) (C.getD n []) λi=>a ((cN n aM).getD i 0):=by
 have r:=rg hm
 have h0:=bX m hm
 have key:∀k,sm (gp m) C.length (λj=>gm m (a j) (cf (C.getD j []) k))=gp m (sm (gp m) ((cN n aM).map λp=>C.getD p []).length λi=>gm m (a ((cN n aM).getD i 0)) (cf (((cN n aM).map λp=>C.getD p []).getD i []) k)) (cf (C.getD n []) k):=λk=>by
  rw[hC,sm,h1,lW (cG hm aC k),DH r (ps:=cN n aM) (f:=λj=>gm m (a j) (cf (C.getD j []) k)) (λ_=>cj hm _ _) (Jv n aM) (λj hj=>(wW.mp hj).1) λj hj hn=>by
   rw[hl j (za λz=>hn (wW.mpr ⟨hj,z⟩)),eU m _ h0],bt]
  congr 1
  exact cq λi hi=>by rw[b88 hi]
 unfold Rel ie
 exact⟨λh k=>by rw[<-key k];exact h k,λh k=>by rw[key k];exact h k⟩
def wC(m:Bool × Nat)(T:List (List Nat))(aM sums:List Nat):List (List Nat):=ji m (cK T++[sums]) aM
def vd(m:Bool × Nat)(T:List (List Nat))(aM sums:List Nat)(most:Nat):Option (List Nat):=(fK m most ((cN (ag T) aM).map λp=>(wC m T aM sums).getD p []) ((wC m T aM sums).getD (ag T) [])).map λns=>ns.map λi=>(cN (ag T) aM).getD i 0
theorem Jx(hm:m∈aD){T:List (List Nat)}{aM sums:List Nat}(hw:0<ag T)(hT:RT (aa m) (ag T) T)(hl:∀p∈aM,p<ag T)(ls:sums.length=T.length)(as:AllLt (aa m) sums) :
  (wC m T aM sums).length=ag T+1/\∃h,h<=T.length/\RT (aa m) h (wC m T aM sums)/\RT (aa m) h ((cN (ag T) aM).map λp=>(wC m T aM sums).getD p [])/\((wC m T aM sums).getD (ag T) []).length=h/\AllLt (aa m) ((wC m T aM sums).getD (ag T) []) /\
  ∀a:Nat->Nat,(∀j,a j<aa m)->a (ag T)=1->((Rel m (wC m T aM sums) a)↔∃b:Nat->Nat,(∀j,b j<aa m)/\(∀j,j ∉ aM->b j=a j)/\ie m (cK T) sums b):=by
 obtain⟨t1,t2,t3⟩:=wM (N:=aa m) (by have:=lo1 hm;omega) hw hT
 have cl:(cK T++[sums]).length=ag T+1:=by rw[dU,t1];rfl
 obtain⟨i1,⟨h,i2,i3⟩,i4⟩:=WQ hm (ps:=aM) (cs:=cK T++[sums]) (h:=T.length) (t3.app λx hx=>by rw[dX.mp hx];exact⟨ls,as⟩) λp hp=>by rw[cl];have:=hl p hp;omega
 rw[cl]at i1
 have cn:=i3.at (i:=ag T) (by rw[i1];omega)
 refine⟨i1,h,i2,i3,λx hx=>?_,cn.1,cn.2,λa ha a1=>(i4 a ha).trans ?_⟩
 ·obtain⟨p,hp,rfl⟩:=bF.mp hx
  exact i3.at (by rw[i1];have:=(wW.mp hp).1;omega)
 ·have e:∀b:Nat->Nat,(∀j,j ∉ aM->b j=a j)->(Rel m (cK T++[sums]) b↔ie m (cK T) sums b):=λb hb=>cB8 hm as (by rw[t1,hb _ λz=>by have:=hl _ z;omega];exact a1)
  exact⟨λ⟨b,b1,b2,b3⟩=>⟨b,b1,b2,(e b b2).mp b3⟩,λ⟨b,b1,b2,b3⟩=>⟨b,b1,b2,(e b b2).mpr b3⟩⟩
theorem cg7(hm:m∈aD){T:List (List Nat)}{aM sums W:List Nat}{most:Nat}(hw:0<ag T)(hT:RT (aa m) (ag T) T)(hl:∀p∈aM,p<ag T)(ls:sums.length=T.length)(as:AllLt (aa m) sums)(h:vd m T aM sums most=some W) :
  W.length<=most/\W.Nodup/\(∀p∈W,p<ag T/\p ∉ aM)/\∃b:Nat->Nat,(∀j,b j<aa m)/\(∀j,j<ag T->b j≠0->j∈aM\/j∈W)/\ie m (cK T) sums b:=by
 have dr:=lo1 hm
 obtain⟨i1,h',i2,i3,i4,i5,i6,i7⟩:=Jx hm hw hT hl ls as
 obtain⟨ns,e,rfl⟩:=vw.mp h
 obtain⟨s1,s2,s3,a,a1,a2,a3⟩:=Ju hm i4 i5 i6 e
 rw[bt]at s3
 have nd:=Jv (ag T) aM
 have hA:∀j,(if j=ag T then 1 else if j∈aM then 0 else a ((cN (ag T) aM).idxOf j))<aa m:=λj=>by
  split
  ·omega
  ·split
   ·omega
   ·exact a1 _
 have RC:Rel m (wC m T aM sums) λj=>if j=ag T then 1 else if j∈aM then 0 else a ((cN (ag T) aM).idxOf j):=by
  refine(WS hm i1 i6 (aM:=aM) (a:=λj=>if j=ag T then 1 else if j∈aM then 0 else a ((cN (ag T) aM).idxOf j)) (if_pos rfl) λj hj=>?_).mpr λk=>?_
  ·show(if j=ag T then 1 else if j∈aM then 0 else _)=0
   rw[if_neg λz=>by have:=hl j hj;omega,if_pos hj]
  ·refine qm ?_ (a3 k)
   congr 1
   refine cq λi hi=>?_
   rw[bt]at hi
   obtain⟨o1,o2⟩:=Jw hi
   dsimp only
   rw[if_neg (by omega),if_neg o2,wX nd hi]
 obtain⟨b,b1,b2,b3⟩:=(i7 _ hA (if_pos rfl)).mp RC
 refine⟨by rw[bt];exact s1,Sg.mpr (List.Pairwise.imp_of_mem (λ{x y} hx hy lt z=>?_) s2),λp hp=>?_,b,b1,λj hj bj=>?_,b3⟩
 ·have e1:=wX nd (s3 x hx)
  have e2:=wX nd (s3 y hy)
  rw[z]at e1
  omega
 ·obtain⟨i,hi,rfl⟩:=bF.mp hp
  exact Jw (s3 i hi)
 ·by_cases c:j∈aM
  ·exact .inl c
  ·rw[b2 j c]at bj
   rw[if_neg (by omega),if_neg c]at bj
   have mj:=wW.mpr ⟨hj,c⟩
   obtain⟨i,hi,e1⟩:=gy mj
   have e2:(cN (ag T) aM).getD i 0=j:=by rw[aK,aJ hi];exact e1
   rw[<-e2,wX nd hi]at bj
   exact .inr (bF.mpr ⟨i,a2 i bj,e2⟩)
theorem cn0(hm:m∈aD){T:List (List Nat)}{aM sums:List Nat}{most:Nat}(hw:0<ag T)(hT:RT (aa m) (ag T) T)(hl:∀p∈aM,p<ag T)(ls:sums.length=T.length)(as:AllLt (aa m) sums)(h:vd m T aM sums most=none)
  (S:List Nat) (b:Nat->Nat) (hS:S.length<=most) (hb:∀j,b j<aa m) (hs:∀j,j<ag T->b j≠0->j∈aM\/j∈S):¬ ie m (cK T) sums b:=λR=>by
 have dr:=lo1 hm
 obtain⟨i1,h',i2,i3,i4,i5,i6,i7⟩:=Jx hm hw hT hl ls as
 have nd:=Jv (ag T) aM
 have e:=df1.mp h
 have tl:=(wM (N:=aa m) (by omega) hw hT).1
 have hA:∀j,(if j=ag T then 1 else if j∈aM then 0 else b j)<aa m:=λj=>by
  split
  ·omega
  ·split
   ·omega
   ·exact hb _
 have hB:∀j,(if j=ag T then 1 else b j)<aa m:=λj=>by
  split
  ·omega
  ·exact hb _
 have RC:Rel m (wC m T aM sums) λj=>if j=ag T then 1 else if j∈aM then 0 else b j:=by
  refine(i7 _ hA (if_pos rfl)).mpr ⟨λj=>if j=ag T then 1 else b j,hB,λj hj=>?_,λk=>?_⟩
  ·dsimp only
   rw[if_neg hj]
  ·refine qm ?_ (R k)
   congr 1
   exact cq λj hj=>by
    dsimp only
    rw[if_neg (by omega)]
 have RO:=(WS hm i1 i6 (aM:=aM) (a:=λj=>if j=ag T then 1 else if j∈aM then 0 else b j) (if_pos rfl) λj hj=>by
  show(if j=ag T then 1 else if j∈aM then 0 else _)=0
  rw[if_neg λz=>by have:=hl j hj;omega,if_pos hj]).mp RC
 refine cg2 hm i4 i5 i6 e (S.map λp=>(cN (ag T) aM).idxOf p) _ (by rw[bt];exact hS) (λj=>hA _) (λi hi bi=>?_) RO
 rw[bt]at hi
 obtain⟨o1,o2⟩:=Jw hi
 rw[if_neg (by omega),if_neg o2]at bi
 rcases hs _ o1 bi with c | c
 ·exact absurd c o2
 ·exact bF.mpr ⟨_,c,wX nd hi⟩
structure Nk(m:Bool × Nat)(T:List (List Nat))(room:Nat)(y:List (Option Nat))(w:List Nat):Prop where
 ln:w.length=y.length
 lt:AllLt (aa m) w
 z:∀r∈T,gd m r w=0
 AI:(bC y).length+2*(iK y w).length<room
theorem WT(hm:m∈aD){r u v ps:List Nat}{n:Nat}(hu:AllLt (aa m) u)(hv:AllLt (aa m) v)(lr:r.length=n)(lu:u.length=n)(lv:v.length=n)(nd:ps.Nodup)(hp:∀p∈ps,p<n)(hs:∀j,j<n->j ∉ ps->cf u j=cf v j) :
  gd m r u=gp m (sm (gp m) ps.length λt=>gm m (cf r (ps.getD t 0)) (bD m (cf u (ps.getD t 0)) (cf v (ps.getD t 0)))) (gd m r v):=by
 have g:=rg hm
 have h0:=bX m hm
 have dn:∀j,gp m (bD m (cf u j) (cf v j)) (cf v j)=cf u j:=λj=>(fH hm (cG hm hu j) (cG hm hv j)).2.2
 rw[va m (lr.trans lu.symm),va m (lr.trans lv.symm),lr,
  cq (g:=λk=>gp m (gm m (cf r k) (bD m (cf u k) (cf v k))) (gm m (cf r k) (cf v k))) λk _=>by rw[<-u4 h0,dn k],nt g,
  DH g (ps:=ps) (f:=λk=>gm m (cf r k) (bD m (cf u k) (cf v k))) (λ_=>cj hm _ _) nd hp λj hj hn=>by rw[hs j hj hn,Av,gF m _ h0]]
def gP(m:Bool × Nat)(T:List (List Nat))(l:List Nat):List Nat:=T.map λr=>gd m r l
theorem DM{T:List (List Nat)}{l:List Nat}{k:Nat}(h:k<T.length):cf (gP m T l) k=gd m (T.getD k []) l:=by
 unfold gP cf
 rw[aK,bQ,aK,aJ h];rfl
theorem DN(hm:m∈aD)(T:List (List Nat))(l:List Nat):(gP m T l).length=T.length/\AllLt (aa m) (gP m T l):=by
 refine⟨bt ..,λa ha=>?_⟩
 obtain⟨r,_,rfl⟩:=bF.mp ha
 exact Au hm _ _
theorem WU{T:List (List Nat)}{j k:Nat}(hj:j<ag T)(hk:k<T.length):cf ((cK T).getD j []) k=cf (T.getD k []) j:=by
 rw[DC hj]
 unfold cf
 rw[aK,bQ,aJ hk,aK (l:=T),aJ hk];rfl
theorem cC6{T:List (List Nat)}{j k:Nat}(hj:j<ag T)(hk:T.length<=k):cf ((cK T).getD j []) k=0:=by
 rw[DC hj]
 exact sk (by rw[bt];exact hk)
theorem WV(hm:m∈aD){T:List (List Nat)}{l:List Nat}{b:Nat->Nat}(hw:0<ag T)(hT:RT (aa m) (ag T) T):ie m (cK T) (gP m T l) b↔∀r∈T,gp m (sm (gp m) (ag T) λj=>gm m (b j) (cf r j)) (gd m r l)=0:=by
 have h0:=bX m hm
 have tl:=(wM (N:=aa m) (by have:=lo1 hm;omega) hw hT).1
 have sl:=(DN hm T l).1
 unfold ie
 rw[tl]
 refine⟨λh r hr=>?_,λh k=>?_⟩
 ·obtain⟨k,hk,e⟩:=gy hr
  have e2:T.getD k []=r:=by rw[aK,aJ hk];exact e
  have:=h k
  rw[DM hk,e2]at this
  refine qm ?_ this
  congr 1
  exact cq λj hj=>by rw[WU hj hk,e2]
 ·by_cases hk:k<T.length
  ·have:=h (T.getD k []) (dM hk [])
   rw[DM hk]
   refine qm ?_ this
   congr 1
   exact cq λj hj=>by rw[WU hj hk]
  ·rw[sk (l:=gP m T l) (by omega),gL (rg hm) λj hj=>by rw[cC6 hj (by omega),gF m _ h0],se (by have:=lo1 hm;omega)]
def pP(m:Bool × Nat)(T:List (List Nat))(room:Nat)(y:List (Option Nat)):Option (List Nat):=if room<=(bC y).length then none else
 match vd m T (bC y) (gP m T (cS y)) ((room-1-(bC y).length)/2)with
 | none=>none
 | some W=>if bC y++W=[]then some (cS y)else(wL m (jh T (bC y++W)) (gP m T (cS y))).map (eV m (cS y) (bC y++W))
theorem WW{T:List (List Nat)}{F:List Nat}(h:0<T.length):ag (jh T F)=F.length:=by
 unfold ag jh
 cases T with
 | nil=>cases h
 | cons r T=>rw[dF,List.headD_cons,bt]
theorem Jy(hm:m∈aD){T:List (List Nat)}{y:List (Option Nat)}{W:List Nat}{most:Nat}(hw:0<ag T)(hT:RT (aa m) (ag T) T)(hy:∀a,some a∈y->a<aa m)(ly:y.length=ag T)(h:vd m T (bC y) (gP m T (cS y)) most=some W) :
  W.length<=most/\(bC y++W).Nodup/\(∀p∈bC y++W,p<ag T)/\((bC y++W=[])->∀r∈T,gd m r (cS y)=0)/\((bC y++W≠[])->∃X,wL m (jh T (bC y++W)) (gP m T (cS y))=some X/\X.length=(bC y++W).length/\AllLt (aa m) X/\∀r∈T,sm (gp m) (bC y++W).length (λt=>gm m (cf r ((bC y++W).getD t 0)) (cf X t))=gd m r (cS y)):=by
 have g:=rg hm
 have h0:=bX m hm
 have dr:=lo1 hm
 obtain⟨l1,l2⟩:=Jn y
 rw[ly]at l2
 obtain⟨q1,q2⟩:=DN hm T (cS y)
 obtain⟨w1,w2,w3,b,b1,b2,b3⟩:=cg7 hm hw hT l2 q1 q2 h
 rw[WV hm hw hT]at b3
 have T0:0<T.length:=by
  unfold ag at hw
  cases T with
  | nil=>cases hw
  | cons _ _=>exact Sj _
 have nd:(bC y++W).Nodup:=List.nodup_append.mpr ⟨l1,w2,λa ha c hc z=>(w3 c hc).2 (z ▸ ha)⟩
 have pl:∀p∈bC y++W,p<ag T:=λp hp=>(bZ.mp hp).elim (l2 p) λz=>(w3 p z).1
 have bz:∀j,j<ag T->j ∉ bC y++W->b j=0:=λj hj hn=>za λz=>hn (bZ.mpr (b2 j hj z))
 refine⟨w1,nd,pl,λe r hr=>?_,λ_=>?_⟩
 ·have:=b3 r hr
  rw[gL g λj hj=>by rw[bz j hj (by rw[e];exact ik),eU m _ h0],se (Au hm _ _)]at this
  exact this
 ·have sx:∀r∈T,sm (gp m) (bC y++W).length (λt=>gm m (cf r ((bC y++W).getD t 0)) (bD m 0 (b ((bC y++W).getD t 0))))=gd m r (cS y):=λr hr=>by
   have b3:=b3 r hr
   rw[DH g (ps:=bC y++W) (f:=λj=>gm m (b j) (cf r j)) (λ_=>cj hm _ _) nd pl λj hj hn=>by rw[bz j hj hn,eU m _ h0]]at b3
   have ab:gp m (sm (gp m) (bC y++W).length λt=>gm m (cf r ((bC y++W).getD t 0)) (bD m 0 (b ((bC y++W).getD t 0)))) (sm (gp m) (bC y++W).length λt=>gm m (b ((bC y++W).getD t 0)) (cf r ((bC y++W).getD t 0)))=0:=by
    rw[<-nt g]
    exact gL g λt _=>by rw[hE m (b _),<- u4 h0,(fH hm (show 0<aa m by omega) (b1 _)).2.2,gF m _ h0]
   rw[j6]at b3
   exact g.Du (j7 g λ_ _=>cj hm _ _) (Au hm _ _) (j7 g λ_ _=>cj hm _ _) (ab.trans b3.symm)
  obtain⟨p1,p2⟩:=WE (F:=bC y++W) (show 0<aa m by omega) hT
  have wp:=WW (F:=bC y++W) T0
  obtain⟨X,x1,x2,x3,x4⟩:=cJ1 hm (G:=jh T (bC y++W)) (u:=gP m T (cS y)) (by omega) (by omega) (by rw[wp];exact p1) q2 (x:=λt=>bD m 0 (b ((bC y++W).getD t 0))) (λt=>(fH hm (by omega) (b1 _)).2.1) λa ha=>by
   rw[p2]at ha
   rw[DM ha,<- sx _ (dM ha []),wp]
   exact cq λt ht=>by rw[WG ha ht];rfl
  refine⟨X,x1,x2.trans wp,x3,λr hr=>?_⟩
  obtain⟨k,hk,e⟩:=gy hr
  have e2:T.getD k []=r:=by rw[aK,aJ hk];exact e
  have:=x4 k (by omega)
  rw[DM hk,e2,wp]at this
  rw[<-this]
  exact cq λt ht=>by rw[WG hk ht,show fY T ((bC y++W).getD t 0) k=cf (T.getD k []) ((bC y++W).getD t 0) from rfl,e2]
theorem cO7(hm:m∈aD){T:List (List Nat)}{room:Nat}{y:List (Option Nat)}{w:List Nat}(hw:0<ag T)(hT:RT (aa m) (ag T) T)(hy:∀a,some a∈y->a<aa m)(ly:y.length=ag T)(h:Nk m T room y w):ie m (cK T) (gP m T (cS y)) λj=>bD m (cf w j) (cf (cS y) j):=by
 have g:=rg hm
 have h0:=bX m hm
 have kl:=DJ hm hy
 refine(WV hm hw hT).mpr λr hr=>?_
 have lr:=(hT r hr).1
 have e:=h.z r hr
 rw[va m (lr.trans (ly.symm.trans h.ln.symm)),lr]at e
 rw[va m (lr.trans (ly.symm.trans (Jo y).symm)),lr,<- nt g,<- e]
 exact cq λj _=>by rw[hE m (bD _ _ _),<- u4 h0,(fH hm (cG hm h.lt j) (cG hm kl j)).2.2]
theorem co2(hm:m∈aD){T:List (List Nat)}{room:Nat}{y:List (Option Nat)}(hw:0<ag T)(hT:RT (aa m) (ag T) T)(hy:∀a,some a∈y->a<aa m)(ly:y.length=ag T)(e:pP m T room y=none)(w:List Nat):¬ Nk m T room y w:=λh=>by
 have AI:=h.AI
 unfold pP at e
 split at e
 ·omega
 ·split at e
  ·rename_i e2
   obtain⟨q1,q2⟩:=DN hm T (cS y)
   refine cn0 hm hw hT (λp hp=>by rw[<-ly];exact(Jn y).2 p hp) q1 q2 e2 (iK y w) _ (by omega) (λj=>(fH hm (cG hm h.lt j) (cG hm (DJ hm hy) j)).2.1) (λj hj z=>?_) (cO7 hm hw hT hy ly h)
   by_cases c:j∈bC y
   ·exact .inl c
   ·refine .inr (DI.mpr ⟨by omega,c,λz'=>z ?_⟩)
    rw[z',Av]
  ·rename_i W e2
   split at e
   ·cases e
   ·rename_i ne
    obtain⟨_,_,_,_,w5⟩:=Jy hm hw hT hy ly e2
    obtain⟨X,x1,_⟩:=w5 ne
    rw[x1]at e
    cases e
theorem WX(hm:m∈aD){T:List (List Nat)}{room:Nat}{y:List (Option Nat)}{w:List Nat}(hw:0<ag T)(hT:RT (aa m) (ag T) T)(hy:∀a,some a∈y->a<aa m)(ly:y.length=ag T)(e:pP m T room y=some w):Nk m T room y w:=by
 have g:=rg hm
 have kl:=DJ hm hy
 have kn:=Jo y
 unfold pP at e
 split at e
 ·cases e
 ·split at e
  ·cases e
  ·rename_i W e2
   obtain⟨w1,w2,w3,w4,w5⟩:=Jy hm hw hT hy ly e2
   have fw:∀v:List Nat,(∀j,j ∉ bC y++W->cf v j=cf (cS y) j)->(bC y).length+2*(iK y v).length<room:=λv hv=>by
    have:=Jq (l:=iK y v) (l':=W) (Gh.filter _) λj hj=>by
     obtain⟨_,j2,j3⟩:=DI.mp hj
     refine za λz=>j3 (hv j λq=>?_).symm
     exact(bZ.mp q).elim j2 z
    omega
   split at e
   ·rename_i e3
    cases e
    exact⟨kn,kl,w4 e3,fw _ λ_ _=>rfl⟩
   ·rename_i ne
    obtain⟨X,x1,x2,x3,x4⟩:=w5 ne
    rw[x1]at e
    cases e
    obtain⟨t1,t2,t3,t4⟩:=WH hm kl x3 w2 (λp hp=>by rw[kn,ly];exact w3 p hp) x2
    refine⟨t2.trans kn,t1,λr hr=>?_,fw _ t3⟩
    have s:=WT hm kl t1 (hT r hr).1 (kn.trans ly) (t2.trans (kn.trans ly)) w2 w3 λj _ hn=>(t3 j hn).symm
    rw[cq (g:=λt=>gm m (cf r ((bC y++W).getD t 0)) (cf X t)) λt ht=>by rw[t4 t ht,cC1 hm (cG hm kl _) (cG hm x3 _)],x4 r hr,j6]at s
    exact g.cn (Au hm _ _) (Au hm _ _) s.symm
theorem Nk.unq(hm:m∈aD){T:List (List Nat)}{room:Nat}{y:List (Option Nat)}{u v:List Nat}(hT:RT (aa m) (ag T) T)(ly:y.length=ag T)(hD:∀S,fJ (ag T) S->S.length<room->kK m (fY T) S)(hu:Nk m T room y u)(hv:Nk m T room y v):u=v:=by
 have g:=rg hm
 have h0:=bX m hm
 have fu:=hu.AI
 have fv:=hv.AI
 have mem:∀j,j∈((aZ (ag T)).filter λj=>decide (cf u j≠cf v j))↔j<ag T/\cf u j≠cf v j:=λj=>by rw[nG,cT,decide_eq_true_iff]
 have nd:((aZ (ag T)).filter λj=>decide (cf u j≠cf v j)).Nodup:=Gh.filter _
 have ic:fJ (ag T) ((aZ (ag T)).filter λj=>decide (cf u j≠cf v j)):=⟨de5.filter _,λx hx=>((mem x).mp hx).1⟩
 have len:=Jq (l:=(aZ (ag T)).filter λj=>decide (cf u j≠cf v j)) (l':=bC y++(iK y u++iK y v)) nd λj hj=>by
  obtain⟨j1,j2⟩:=(mem j).mp hj
  by_cases c:j∈bC y
  ·exact bZ.mpr (.inl c)
  ·refine bZ.mpr (.inr (bZ.mpr ?_))
   by_cases c1:cf (cS y) j=cf u j
   ·exact .inr (DI.mpr ⟨by omega,c,λz=>j2 (c1.symm.trans z)⟩)
   ·exact .inl (DI.mpr ⟨by omega,c,c1⟩)
 rw[dU,dU]at len
 generalize ((aZ (ag T)).filter λj=>decide (cf u j≠cf v j))=ps at mem nd ic len
 have I:=hD ps ic (by omega) (λt=>bD m (cf u (ps.getD t 0)) (cf v (ps.getD t 0))) (λt=>(fH hm (cG hm hu.lt _) (cG hm hv.lt _)).2.1) λk=>by
  by_cases hk:k<T.length
  ·have hr:=dM hk []
   have s:=WT hm hu.lt hv.lt (hT _ hr).1 (hu.ln.trans ly) (hv.ln.trans ly) nd (λp hp=>((mem p).mp hp).1) λj hj hn=>za λz=>hn ((mem j).mpr ⟨hj,z⟩)
   rw[hu.z _ hr,hv.z _ hr,sg (j7 g λ_ _=>cj hm _ _)]at s
   exact qm (cq λt _=>hE m _ _) s.symm
  ·refine gL g λt _=>?_
   show gm m _ (cf (T.getD k []) _)=0
   rw[aK,gW (by omega)]
   exact gF m _ h0
 refine cF1 (hu.ln.trans ly) (hv.ln.trans ly) λj hj=>za λz=>?_
 obtain⟨t,ht,e⟩:=gy ((mem j).mpr ⟨hj,z⟩)
 have e2:ps.getD t 0=j:=by rw[aK,aJ ht];exact e
 have:=I t ht
 rw[e2]at this
 exact cM9 hm (cG hm hu.lt _) (cG hm hv.lt _) z this
theorem WY(hm:m∈aD){T:List (List Nat)}{room:Nat}{y:List (Option Nat)}{w:List Nat}(hw:0<ag T)(hT:RT (aa m) (ag T) T)(hy:∀a,some a∈y->a<aa m)(ly:y.length=ag T)(hD:∀S,fJ (ag T) S->S.length<room->kK m (fY T) S):pP m T room y=some w↔Nk m T room y w:=by
 refine⟨WX hm hw hT hy ly,λh=>?_⟩
 cases e:pP m T room y with
 | none=>exact absurd h (co2 hm hw hT hy ly e w)
 | some v=>rw[(WX hm hw hT hy ly e).unq hm hT ly hD h]
end
end L3
namespace L3
open PySem L2 PySem.Spec PyProof.Rows
section
variable{X:Cx}{e:Expr}{t:aY}
def sE(t:aY):aY:=λδ Q=>t δ λd ak=>Q d.sh ak
theorem cH9(h:PE X e (lE t)):PE X e (lB (sE t)):=dO h λσ H Q ⟨B,F,δ,ts,Qd,c,q,k⟩=>⟨B,F,δ,ts,_,c,q,λd ak v F' H' hd sf sh c'=>by
 obtain⟨F2,f2,c2⟩:=c'.Hv
 exact k d.sh ak v F2 H' hd (sf.trans f2) sh c2.pop c2.top⟩
end
def ka:Option (List Nat)->D
 | none=>.ay
 | some l=>.lst true (aq l)
theorem AJ:∀o:Option (List Nat),(ka o).fr=true
 | none=>rfl
 | some l=>gK l
theorem cp2{α:Type}(F:List α)(x:α):fk (F++[x]) none (some (-1))=F:=by
 unfold fk HT.dq
 dsimp only
 rw[if_pos (by decide),List.drop_zero,Nat.sub_zero,dU,FF,show((-1:Int)+((F.length+1:Nat):Int)).toNat=F.length by omega]
 exact List.take_left ..
theorem WZ(o:Bool){C:List (List Nat)}{n:Nat}(h:C.length=n+1):eM (aE o C) (-1)=some (.lst o (aq (C.getD n []))):=by
 have e:iQ (aE o C).length (-1)=some n:=by
  rw[jc,h];unfold iQ
  rw[if_neg (by decide),if_pos (by omega)]
  congr 1;omega
 unfold eM
 rw[e]
 show(aE o C)[n]?=_
 unfold aE
 rw[bQ,aJ (by omega),aK,aJ (by omega)];rfl
theorem ce7(o:Bool)(F:List (List Nat))(x:List Nat):eM (aE o (F++[x])) (-1)=some (.lst o (aq x)):=by
 rw[WZ o (n:=F.length) (by rw[dU];rfl),WL]
theorem W0{α:Type}{f:Nat->Option α}{n:Nat}(h:∀i,i<n->f i=none):(aZ n).findSome? f=none:=df0.mpr λi hi=>h i (cT.mp hi)
theorem W2{α:Type}{f:Nat->Option α}{b:α}{j:Nat}(h:∀i,i<j->f i=none)(e:f j=some b):∀{n:Nat},j<n->(aZ n).findSome? f=some b
 | n+1,hj=>by
  rw[Gb,List.findSome?_append]
  by_cases c:j<n
  ·rw[W2 h e c];rfl
  ·obtain rfl:j=n:=by omega
   rw[W0 h,Option.none_or,List.findSome?_singleton,e]
end L3
namespace L3
open PySem L2 Mf
section
variable{m:Bool × Nat}
theorem cU1(hm:m∈aD){T:List (List Nat)}(hT:RT (aa m) (ag T) T):RT (aa m) (ag T) (jH m (cH m T) (ag T))/\(jH m (cH m T) (ag T)).length<=ag T:=by
 obtain⟨⟨Hd,I⟩,iR,_,_⟩:=wJ hm hT
 refine⟨λr hr=>?_,?_⟩
 ·obtain⟨f,hf,rfl⟩:=bF.mp hr
  obtain⟨k1,k2,_⟩:=Wn hm iR I hf
  exact⟨k1,k2⟩
 ·unfold jH lY
  rw[bt]
  exact eH (BZ ..) (by rw[dD];exact bN _)
theorem cM3(hm:m∈aD){T:List (List Nat)}(hT:RT (aa m) (ag T) T):∀r∈cH m T,∃x∈r,x≠0:=λr bg=>by
 obtain⟨⟨Hd,I⟩,iR,_,_⟩:=wJ hm hT
 obtain⟨j,hj,rfl⟩:=gy bg
 have:=(I.wK hm iR hj).2
 rw[cO0 hj]at this
 exact this
theorem cD3(hm:m∈aD){T:List (List Nat)}{xs:List Nat}(hT:RT (aa m) (ag T) T)(hx:xs.length=(jH m (cH m T) (ag T)).length):∀r∈T,gd m r (pI m xs (jH m (cH m T) (ag T)) (ag T))=0:=λr hr=>by
 have h0:=bX m hm
 obtain⟨⟨Hd,I⟩,iR,_,_⟩:=wJ hm hT
 have s:dA m (cH m T) (cf r):=dA.red hm hT (dA.of hr)
 rw[va m ((hT r hr).1.trans (IZ ..).symm),(hT r hr).1]
 rw[cq (g:=λj=>gm m (cf r j) (sm (gp m) (jH m (cH m T) (ag T)).length λi=>gm m (cf xs i) (cf ((jH m (cH m T) (ag T)).getD i []) j))) λj hj=>by rw[cJ2 m hx hj]]
 have e:=Wo hm (ag T) (cf r) (cf xs) (λi=>cf ((jH m (cH m T) (ag T)).getD i [])) (jH m (cH m T) (ag T)).length
 unfold dt at e
 rw[e]
 refine gL (rg hm) λi hi=>?_
 have z:=dM hi []
 generalize (jH m (cH m T) (ag T)).getD i []=K at z
 obtain⟨f,hf,rfl⟩:=bF.mp z
 have:=dA.dt hm (R:=cH m T) (n:=ag T) (y:=cf (jf m (cH m T) (ag T) f)) (λi hi=>cP3 hm iR I hf hi) s
 unfold dt at this
 rw[this,gF m _ h0]
theorem cT1(y:List (Option Nat)):y=(aZ y.length).map λj=>y.getD j none:=by
 refine BU (by rw[bt,dD]) λi h1 h2=>?_
 rw[vz,Se,aK,aJ h1];rfl
theorem cp3(y:List (Option Nat)):(y.filter Gi).length=(bC y).length:=by
 conv=>lhs;rw[cT1 y,R8,bt]
 unfold bC
 congr 1
 refine R9 λj hj=>?_
 rw[DK (cT.mp hj)]
 show(y.getD j none).isNone=_
 cases y.getD j none with
 | none=>exact(decide_eq_true rfl).symm
 | some a=>exact(decide_eq_false λz=>by cases z).symm
def Jz(p:Option Nat × Nat):Bool:=match p.1 with
 | none=>false
 | some a=>decide (a≠p.2)
theorem bZ4{y:List (Option Nat)}{w:List Nat}(h:w.length=y.length):((my y w).filter Jz).length=(iK y w).length:=by
 rw[cD7 h,R8,bt]
 unfold iK
 congr 1
 refine R9 λj hj=>?_
 have hj:=cT.mp hj
 have k:=cH8 (y:=y) (j:=j)
 have l:=cG6 hj
 rw[k]
 show Jz (y.getD j none,cf w j)=_
 cases e:y.getD j none with
 | none =>
  rw[e]at l
  exact(decide_eq_false λz=>z.1 (l.mpr rfl)).symm
 | some a =>
  rw[e]at l
  show decide (a≠cf w j)=_
  by_cases c:a=cf w j
  ·rw[decide_eq_false λz=>z c]
   exact(decide_eq_false λz=>z.2 c).symm
  ·rw[decide_eq_true c]
   exact(decide_eq_true ⟨λz=>(by cases l.mp z),c⟩).symm
theorem ck8(w:List Nat):bC (w.map some)=[]:=by
 refine df2.mpr λj _ z=>?_
 have z:=of_decide_eq_true z
 rw[bQ]at z
 cases e:w[j]? with
 | none=>rw[e]at z;cases z
 | some a=>rw[e]at z;cases z
theorem cn5(w:List Nat):cS (w.map some)=w:=by
 unfold cS
 rw[cg]
 exact List.map_id'' (λ_=>rfl) w
theorem cO4(hm:m∈aD){T:List (List Nat)}{room:Nat}{w:List Nat}(hw:AllLt (aa m) w)(z:∀r∈T,gd m r w=0)(h:0<room):Nk m T room (w.map some) w:=by
 refine⟨(bt ..).symm,hw,z,?_⟩
 rw[ck8]
 have:iK (w.map some) w=[]:=df2.mpr λj _ q=>(of_decide_eq_true q).2 (by rw[cn5])
 rw[this]
 exact h
end
end L3
namespace HK30
open PySem renaming lookup_relabel_local→lr1
open PySem.W (Frag codeHdIn nsIn fnOf codeIn keepIn findIn isFn specialIn takesIn mroIn mg_of mg_none_of CodeHd)
open PySem L2 L3 Mf
seal L2.PSs L2.PS L2.PE L2.PT L2.PA L2.PI L2.PG L2.PO L2.PW
local macro_rules | `(tactic| nofun) => do
  let l ← (("qL mX qM ou dT lh kE mS dC oj mW mV mU oo qK m5 rp oM rq rz qE qF qG qH qI qJ om rm oI oJ ii oB qU oF qV qW qX qY qZ q0 iI gI q5 q8 q9 rf oG oH lC rk rl gN rA rn qN qP oy qQ qR qS rB rC mY kH fV iY iB qf qa tJ vA oq jV iX oK lU rH rK rL uR kI rQ oV rN iD uU uS uT dF jN nR nJ gU vB bG nS nU gj gn tK exists_eq_left' exists_eq_left D.bl.injEq D.int.injEq D.lst.injEq D.fz.injEq D.str.injEq D.tup.injEq tL and_true true_and dW qj kj kh um uo uq ur uu uv fj jT jE uB uC uD uE uF df jU rD uw uz uA eT oi vC vD sV gz vE vF sZ uJ uK uL uM uN uO uP lN lQ oQ jF oR uH rG uG oS uI rE lR rF if_true vG if_false reduceIte uQ decide_eq_true_eq eA kJ nh uX oW uW qO rS pk rO oZ pd rX sj su pJ dk nu jc u6 pq sE sL cU5 cT3 cG2 cE4 Ar u5".splitOn " ").toArray.map fun (s : String) => Lean.mkIdent s.toName).mapM fun i => `(Lean.Parser.Tactic.simpLemma| $i:term)
  `(tactic| (try dsimp only [$l,*]) <;> (try simp only [$l,*]))
def top (i:Nat):Stmt:=PySem.Challenge.pw_mendfield_k30_near_row.main.body.getD i (.Pass ⟨0,0,0,0⟩)
abbrev wY:Stmt:=top 50
theorem JA:bu ["_law_cell_here","_law_some","_law_primes"] ["_law_cell_here"] (az wY):=⟨rfl,rfl,rfl,by decide +kernel,rfl,by decide +kernel,by decide +kernel⟩
abbrev wZ:Stmt:=top 38
theorem DO:bu ["a","product","found","power"] ["a","product"] (az wZ):=⟨rfl,rfl,rfl,by decide +kernel,rfl,by decide +kernel,by decide +kernel⟩
abbrev w6:Stmt:=top 39
theorem AK:bu ["many","product","step","found"] ["many","product"] (az w6):=⟨rfl,rfl,rfl,by decide +kernel,rfl,by decide +kernel,by decide +kernel⟩
abbrev w9:Stmt:=top 40
theorem JB:bu ["powers","logs","n","a"] ["powers"] (az w9):=⟨rfl,rfl,rfl,by decide +kernel,rfl,by decide +kernel,by decide +kernel⟩
abbrev xa:Stmt:=iT (top 44) 8
theorem aF5:bu ["self","n"] ["self","n"] (az xa):=⟨rfl,rfl,rfl,by decide +kernel,rfl,by decide +kernel,by decide +kernel⟩
abbrev xb:Stmt:=iT (top 44) 0
theorem aQ5:bu ["self","many","product"] ["self","many","product"] (az xb):=⟨rfl,rfl,rfl,by decide +kernel,rfl,by decide +kernel,by decide +kernel⟩
abbrev xf:Stmt:=top 43
theorem aD5:bu ["prime"] ["prime"] (az xf):=⟨rfl,rfl,rfl,by decide +kernel,rfl,by decide +kernel,by decide +kernel⟩
abbrev pQ:Stmt:=iT (top 46) 0
theorem aG7:bu ["self","prime"] ["self","prime"] (az pQ):=⟨rfl,rfl,rfl,by decide +kernel,rfl,by decide +kernel,by decide +kernel⟩
abbrev xg:Stmt:=top 41
theorem DP:bu ["powers","logs","many","rows","a"] ["powers","logs"] (az xg):=⟨rfl,rfl,rfl,by decide +kernel,rfl,by decide +kernel,by decide +kernel⟩
abbrev xh:Stmt:=top 35
theorem xi:bu ["a","b","quotient","rest","shift"] ["a","b"] (az xh):=⟨rfl,rfl,rfl,by decide +kernel,rfl,by decide +kernel,by decide +kernel⟩
abbrev xj:Stmt:=top 36
theorem JC:bu ["a","half","b"] ["a"] (az xj):=⟨rfl,rfl,rfl,by decide +kernel,rfl,by decide +kernel,by decide +kernel⟩
abbrev xk:Stmt:=top 42
theorem aG8:bu ["bits"] ["bits"] (az xk):=⟨rfl,rfl,rfl,by decide +kernel,rfl,by decide +kernel,by decide +kernel⟩
abbrev xm:Stmt:=top 34
theorem DQ:bu ["a","b","product","k"] ["a","b"] (az xm):=⟨rfl,rfl,rfl,by decide +kernel,rfl,by decide +kernel,by decide +kernel⟩
abbrev pS:Stmt:=iT (top 45) 0
theorem W3:bu ["self","bits","many"] ["self","bits"] (az pS):=⟨rfl,rfl,rfl,by decide +kernel,rfl,by decide +kernel,by decide +kernel⟩
abbrev xn:Stmt:=top 54
theorem aQ6:bu ["_law_told_here"] ["_law_told_here"] (az xn):=⟨rfl,rfl,rfl,by decide +kernel,rfl,by decide +kernel,by decide +kernel⟩
abbrev xo:Stmt:=top 9
theorem ci1:bu ["rows"] ["rows"] (az xo):=⟨rfl,rfl,rfl,by decide +kernel,rfl,by decide +kernel,by decide +kernel⟩
abbrev xp:Stmt:=top 10
theorem W4:bu ["rows","width","taken"] ["rows","width"] (az xp):=⟨rfl,rfl,rfl,by decide +kernel,rfl,by decide +kernel,by decide +kernel⟩
abbrev xq:Stmt:=iT (top 45) 2
theorem aJ6:bu ["self","a","b"] ["self","a","b"] (az xq):=⟨rfl,rfl,rfl,by decide +kernel,rfl,by decide +kernel,by decide +kernel⟩
abbrev xt:Stmt:=iT (top 46) 2
theorem aF6:bu ["self","a","b"] ["self","a","b"] (az xt):=⟨rfl,rfl,rfl,by decide +kernel,rfl,by decide +kernel,by decide +kernel⟩
abbrev xu:Stmt:=top 11
theorem xv:bu ["field","rows","width","taken","found","free","x","lead","row"] ["field","rows","width"] (az xu):=⟨rfl,rfl,rfl,by decide +kernel,rfl,by decide +kernel,by decide +kernel⟩
abbrev xw:Stmt:=top 2
theorem aV9:bu ["table"] ["table"] (az xw):=⟨rfl,rfl,rfl,by decide +kernel,rfl,by decide +kernel,by decide +kernel⟩
abbrev xx:Stmt:=top 6
theorem W5:bu ["rows","place","number","row"] ["rows","place"] (az xx):=⟨rfl,rfl,rfl,by decide +kernel,rfl,by decide +kernel,by decide +kernel⟩
abbrev xy:Stmt:=iT (top 45) 6
theorem W6:bu ["self","a","row","by_a"] ["self","a","row"] (az xy):=⟨rfl,rfl,rfl,by decide +kernel,rfl,by decide +kernel,by decide +kernel⟩
abbrev xA:Stmt:=iT (top 46) 6
theorem W7:bu ["self","a","row","prime"] ["self","a","row"] (az xA):=⟨rfl,rfl,rfl,by decide +kernel,rfl,by decide +kernel,by decide +kernel⟩
abbrev xB:Stmt:=iT (top 45) 7
theorem W8:bu ["self","row","a","other","by_a"] ["self","row","a","other"] (az xB):=⟨rfl,rfl,rfl,by decide +kernel,rfl,by decide +kernel,by decide +kernel⟩
abbrev xC:Stmt:=iT (top 46) 7
theorem W9:bu ["self","row","a","other","prime"] ["self","row","a","other"] (az xC):=⟨rfl,rfl,rfl,by decide +kernel,rfl,by decide +kernel,by decide +kernel⟩
abbrev xD:Stmt:=top 7
theorem aX4:bu ["field","rows","lead_row","place"] ["field","rows","lead_row","place"] (az xD):=⟨rfl,rfl,rfl,by decide +kernel,rfl,by decide +kernel,by decide +kernel⟩
abbrev xE:Stmt:=iT (top 44) 5
theorem aQ7:bu ["self","a","b"] ["self","a","b"] (az xE):=⟨rfl,rfl,rfl,by decide +kernel,rfl,by decide +kernel,by decide +kernel⟩
abbrev xF:Stmt:=top 8
theorem sF:bu ["field","table","done","left","place","number","lead_row"] ["field","table"] (az xF):=⟨rfl,rfl,rfl,by decide +kernel,rfl,by decide +kernel,by decide +kernel⟩
abbrev xG:Stmt:=top 12
theorem aY1:bu ["field","table"] ["field","table"] (az xG):=⟨rfl,rfl,rfl,by decide +kernel,rfl,by decide +kernel,by decide +kernel⟩
abbrev xH:Stmt:=top 52
theorem aS5:bu ["_law_told_here","_law_a","_law_b"] ["_law_told_here","_law_a","_law_b"] (az xH):=⟨rfl,rfl,rfl,by decide +kernel,rfl,by decide +kernel,by decide +kernel⟩
abbrev xI:Stmt:=top 53
theorem xJ:bu ["_law_told_here","_law_a","_law_b","_law_total"] ["_law_told_here","_law_a","_law_b"] (az xI):=⟨rfl,rfl,rfl,by decide +kernel,rfl,by decide +kernel,by decide +kernel⟩
abbrev xK:Stmt:=top 55
theorem at2:bu ["_law_told_here","_law_xs","_law_ys","_law_total","_law_x","_law_y"] ["_law_told_here","_law_xs","_law_ys"] (az xK):=⟨rfl,rfl,rfl,by decide +kernel,rfl,by decide +kernel,by decide +kernel⟩
abbrev xM:Stmt:=top 56
theorem aO6:bu ["_law_told_here","_law_xs","_law_table_here","_law_wide"] ["_law_told_here","_law_xs","_law_table_here","_law_wide"] (az xM):=⟨rfl,rfl,rfl,by decide +kernel,rfl,by decide +kernel,by decide +kernel⟩
abbrev xN:Stmt:=top 60
theorem aS6:bu ["_law_table_here"] ["_law_table_here"] (az xN):=⟨rfl,rfl,rfl,by decide +kernel,rfl,by decide +kernel,by decide +kernel⟩
abbrev xO:Stmt:=top 49
theorem aQ8:bu ["_law_x"] ["_law_x"] (az xO):=⟨rfl,rfl,rfl,by decide +kernel,rfl,by decide +kernel,by decide +kernel⟩
abbrev xP:Stmt:=top 58
theorem aL7:bu ["_law_row","_law_wide","_law_many_here"] ["_law_row","_law_wide","_law_many_here"] (az xP):=⟨rfl,rfl,rfl,by decide +kernel,rfl,by decide +kernel,by decide +kernel⟩
abbrev xQ:Stmt:=top 59
theorem aG9:bu ["_law_table_here","_law_rows","_law_wide","_law_many_here"] ["_law_table_here","_law_rows","_law_wide","_law_many_here"] (az xQ):=⟨rfl,rfl,rfl,by decide +kernel,rfl,by decide +kernel,by decide +kernel⟩
abbrev xR:Stmt:=top 48
theorem aS7:bu ["_law_script","_law_k"] ["_law_script","_law_k"] (az xR):=⟨rfl,rfl,rfl,by decide +kernel,rfl,by decide +kernel,by decide +kernel⟩
abbrev xS:Stmt:=top 51
theorem aS8:bu ["_law_told_here"] ["_law_told_here"] (az xS):=⟨rfl,rfl,rfl,by decide +kernel,rfl,by decide +kernel,by decide +kernel⟩
abbrev xT:Stmt:=top 62
theorem AL:bu ["_law_told_here","_law_script","_law_field_here","_law_table_here","_law_wide","_law_lines","_law_signs","_law_sent_here"] ["_law_told_here","_law_script","_law_field_here","_law_table_here"] (az xT):=⟨rfl,rfl,rfl,by decide +kernel,rfl,by decide +kernel,by decide +kernel⟩
abbrev xU:Stmt:=top 63
theorem AM:bu ["_law_told_here","_law_script","_law_sent_here","_law_many_here","_law_word","_law_k","_law_sign","_law_cell_here"] ["_law_told_here","_law_script","_law_sent_here"] (az xU):=⟨rfl,rfl,rfl,by decide +kernel,rfl,by decide +kernel,by decide +kernel⟩
abbrev xV:Stmt:=top 18
theorem aO7:bu ["signs"] ["signs"] (az xV):=⟨rfl,rfl,rfl,by decide +kernel,rfl,by decide +kernel,by decide +kernel⟩
abbrev xW:Stmt:=top 19
theorem aF7:bu ["signs"] ["signs"] (az xW):=⟨rfl,rfl,rfl,by decide +kernel,rfl,by decide +kernel,by decide +kernel⟩
abbrev xX:Stmt:=iT (top 45) 5
theorem AN:bu ["self","xs","ys","products","total","x","y"] ["self","xs","ys"] (az xX):=⟨rfl,rfl,rfl,by decide +kernel,rfl,by decide +kernel,by decide +kernel⟩
abbrev xY:Stmt:=iT (top 46) 5
theorem aJ7:bu ["self","xs","ys"] ["self","xs","ys"] (az xY):=⟨rfl,rfl,rfl,by decide +kernel,rfl,by decide +kernel,by decide +kernel⟩
abbrev xZ:Stmt:=top 5
theorem aS9:bu ["field","table","column"] ["field","table","column"] (az xZ):=⟨rfl,rfl,rfl,by decide +kernel,rfl,by decide +kernel,by decide +kernel⟩
abbrev x6:Stmt:=top 14
theorem aT0:bu ["column"] ["column"] (az x6):=⟨rfl,rfl,rfl,by decide +kernel,rfl,by decide +kernel,by decide +kernel⟩
abbrev x8:Stmt:=iT (top 45) 3
theorem aJ8:bu ["self","a","b"] ["self","a","b"] (az x8):=⟨rfl,rfl,rfl,by decide +kernel,rfl,by decide +kernel,by decide +kernel⟩
abbrev x9:Stmt:=iT (top 46) 3
theorem aF8:bu ["self","a","b"] ["self","a","b"] (az x9):=⟨rfl,rfl,rfl,by decide +kernel,rfl,by decide +kernel,by decide +kernel⟩
abbrev ya:Stmt:=top 15
theorem yb:bu ["field","column","others","place","inverse","found","other","left"] ["field","column","others"] (az ya):=⟨rfl,rfl,rfl,by decide +kernel,rfl,by decide +kernel,by decide +kernel⟩
abbrev yc:Stmt:=top 26
theorem JE:bu ["field","columns","lost","place"] ["field","columns","lost"] (az yc):=⟨rfl,rfl,rfl,by decide +kernel,rfl,by decide +kernel,by decide +kernel⟩
abbrev yd:Stmt:=top 25
theorem AO:bu ["field","columns","due","most","number","column","behind","further","found"] ["field","columns","due","most"] (az yd):=⟨rfl,rfl,rfl,by decide +kernel,rfl,by decide +kernel,by decide +kernel⟩
abbrev ye:Stmt:=top 3
theorem aY2:bu ["table"] ["table"] (az ye):=⟨rfl,rfl,rfl,by decide +kernel,rfl,by decide +kernel,by decide +kernel⟩
abbrev yf:Stmt:=top 27
theorem DR:bu ["field","table","lost","sums","most","columns","others","numbers"] ["field","table","lost","sums","most"] (az yf):=⟨rfl,rfl,rfl,by decide +kernel,rfl,by decide +kernel,by decide +kernel⟩
abbrev yg:Stmt:=top 20
theorem JF:bu ["field","word","places","signs","left","place","sign"] ["field","word","places","signs"] (az yg):=⟨rfl,rfl,rfl,by decide +kernel,rfl,by decide +kernel,by decide +kernel⟩
abbrev yh:Stmt:=top 22
theorem aW0:bu ["table","due"] ["table","due"] (az yh):=⟨rfl,rfl,rfl,by decide +kernel,rfl,by decide +kernel,by decide +kernel⟩
abbrev yi:Stmt:=top 23
theorem yj:bu ["field","table","due","width","rows","taken","x","lead","row"] ["field","table","due"] (az yi):=⟨rfl,rfl,rfl,by decide +kernel,rfl,by decide +kernel,by decide +kernel⟩
abbrev yk:Stmt:=top 4
theorem aY3:bu ["table","places"] ["table","places"] (az yk):=⟨rfl,rfl,rfl,by decide +kernel,rfl,by decide +kernel,by decide +kernel⟩
abbrev ym:Stmt:=top 28
theorem yn:bu ["field","table","room","word","lost","known","sums","wrong","places"] ["field","table","room","word"] (az ym):=⟨rfl,rfl,rfl,by decide +kernel,rfl,by decide +kernel,by decide +kernel⟩
abbrev yo:Stmt:=top 64
theorem JG:bu ["_law_word","_law_sent_here","_law_room","_law_lost","_law_wrong"] ["_law_word","_law_sent_here","_law_room"] (az yo):=⟨rfl,rfl,rfl,by decide +kernel,rfl,by decide +kernel,by decide +kernel⟩
abbrev yp:Stmt:=top 61
theorem sG:bu ["_law_told_here","_law_script","_law_rows","_law_wide","_law_cell_here","_law_many_here","_law_by","_law_points","_law_row","_law_table_here","_law_i"] ["_law_told_here","_law_script","_law_rows","_law_wide","_law_cell_here"] (az yp):=⟨rfl,rfl,rfl,by decide +kernel,rfl,by decide +kernel,by decide +kernel⟩
abbrev yq:Stmt:=top 57
theorem yr:bu ["_law_told_here","_law_script","_law_begin","_law_rows","_law_wide","_law_way","_law_table_here","_law_i","_law_row"] ["_law_told_here","_law_script","_law_begin","_law_rows","_law_wide","_law_way"] (az yq):=⟨rfl,rfl,rfl,by decide +kernel,rfl,by decide +kernel,by decide +kernel⟩
abbrev yt:Stmt:=top 16
theorem sH:bu ["field","table","width","sets","larger","places","behind","number","column","bigger"] ["field","table"] (az yt):=⟨rfl,rfl,rfl,by decide +kernel,rfl,by decide +kernel,by decide +kernel⟩
abbrev yu:Stmt:=top 65
theorem Xa:bu ["_law_field_here","_law_table_here","_law_powers_here","_law_found"] ["_law_field_here","_law_table_here","_law_powers_here"] (az yu):=⟨rfl,rfl,rfl,by decide +kernel,rfl,by decide +kernel,by decide +kernel⟩
abbrev yv:Stmt:=top 66
theorem JH:bu ["_law_field_here","_law_table_here","_law_room","_law_sent_here","_law_handed","_law_found"] ["_law_field_here","_law_table_here","_law_room","_law_sent_here"] (az yv):=⟨rfl,rfl,rfl,by decide +kernel,rfl,by decide +kernel,by decide +kernel⟩
abbrev pU:Stmt:=top 67
theorem jJ:bu ["_law_script","_law_told_here","_law_field_here","_law_rows","_law_wide","_law_powers_here","_law_table_here","_law_room","_law_sent_here","_law_word","_law_handed","_law_found"] ["_law_script"] (az pU):=⟨rfl,rfl,rfl,by decide +kernel,rfl,by decide +kernel,by decide +kernel⟩
set_option genInjectivity false in
set_option genSizeOf false in
structure gC where
 JI:Addr
 JJ:FuncData
 JK:Addr
 JL:FuncData
 JM:Addr
 JN:FuncData
 JO:Addr
 JP:FuncData
 AQ:Addr
 JQ:FuncData
 JR:Addr
 JS:FuncData
 JT:Addr
 JU:FuncData
 JV:Addr
 DS:FuncData
 JW:Addr
 JX:FuncData
 JY:Addr
 JZ:FuncData
 J0:Addr
 J1:FuncData
 J2:Addr
 J3:FuncData
 J4:Addr
 J5:FuncData
 J6:Addr
 DT:FuncData
 J7:Addr
 J8:FuncData
 J9:Addr
 Ka:FuncData
 Kb:Addr
 Kd:FuncData
 Ke:Addr
 Kf:FuncData
 Kg:Addr
 Kh:FuncData
 Ki:Addr
 Kj:FuncData
 Kk:Addr
 Kl:FuncData
 Km:Addr
 Kn:FuncData
 Ko:Addr
 Kp:FuncData
 Kq:Addr
 Kr:FuncData
 Ks:Addr
 Kt:FuncData
 Ku:Addr
 Kv:FuncData
 Kw:Addr
 Kx:FuncData
 DU:Addr
 Ky:FuncData
 Kz:Addr
 KA:FuncData
 KC:Addr
 KD:FuncData
 KG:Addr
 KH:FuncData
 KI:Addr
 KJ:FuncData
 KL:Addr
 KN:FuncData
 KO:Addr
 KP:FuncData
 KQ:Addr
 KR:FuncData
 KS:Addr
 KU:FuncData
 KW:Addr
 KY:FuncData
 KZ:Addr
 K0:FuncData
 K1:Addr
 K2:FuncData
 K3:Addr
 K4:FuncData
 K5:Addr
 K6:FuncData
 K7:Addr
 K8:FuncData
 K9:Addr
 La:FuncData
 Lb:Addr
 Lc:FuncData
 Ld:Addr
 Le:FuncData
 Lf:Addr
 Lg:FuncData
 Lh:Addr
 Li:FuncData
 Lj:Addr
 Lk:FuncData
 Ll:Addr
 Lm:FuncData
 Ln:Addr
 Lo:FuncData
 Lp:Addr
 Lq:FuncData
 Lr:Addr
 Lu:FuncData
 yw:Addr
 yx:FuncData
 Lw:Addr
 Lx:FuncData
 Ly:Addr
 Lz:FuncData
 LA:Addr
 LB:FuncData
 LC:Addr
 LD:FuncData
 LF:Addr
 LG:FuncData
 LH:Addr
 LJ:FuncData
 LK:Addr
 LL:FuncData
 LM:Addr
 LN:FuncData
 LO:Addr
 LP:FuncData
 LQ:Addr
 LR:FuncData
 LS:Addr
 LU:FuncData
 LV:Addr
 LW:FuncData
 LX:Addr
 LY:FuncData
 LZ:Addr
 L0:FuncData
 Xb:Addr
 mf:Addr
 Xc:Addr
 mh:Addr
 aS:Addr
 iL:Addr
 mm:Addr
 aW:Addr
structure Txt(K:Frag)(mg:Str->Option Value)(t:gC):Prop where
 Xd:br K "_law_told" "_law_told" wY t.JI t.JJ
 aW1:mg "_law_told"=some (.ref t.JI)
 aW2:Binds K t.JJ ["_law_cell_here"] []
 L4:br K "powers_of" "powers_of" wZ t.JK t.JL
 Xe:mg "powers_of"=some (.ref t.JK)
 Xf:Binds K t.JL ["a","product"] []
 Xg:br K "step_powers" "step_powers" w6 t.JM t.JN
 d53:mg "step_powers"=some (.ref t.JM)
 d54:Binds K t.JN ["many","product"] []
 Xh:br K "logs_of" "logs_of" w9 t.JO t.JP
 d55:mg "logs_of"=some (.ref t.JO)
 d56:Binds K t.JP ["powers"] []
 aH1:br K "step_power" "Field.step_power" xa t.AQ t.JQ
 L5:Binds K t.JQ ["self","n"] []
 aT1:br K "__init__" "Field.__init__" xb t.JR t.JS
 Xi:Binds K t.JS ["self","many","product"] []
 Xj:br K "makes_prime_field" "makes_prime_field" xf t.JT t.JU
 d59:mg "makes_prime_field"=some (.ref t.JT)
 d60:Binds K t.JU ["prime"] []
 aJ9:br K "__init__" "PrimeField.__init__" pQ t.JV t.DS
 aK0:Binds K t.DS ["self","prime"] []
 Xk:br K "product_rows" "product_rows" xg t.JW t.JX
 d63:mg "product_rows"=some (.ref t.JW)
 d64:Binds K t.JX ["powers","logs"] []
 L6:br K "bits_divided" "bits_divided" xh t.JY t.JZ
 Xl:mg "bits_divided"=some (.ref t.JY)
 Xm:Binds K t.JZ ["a","b"] []
 Xn:br K "stands_alone" "stands_alone" xj t.J0 t.J1
 d65:mg "stands_alone"=some (.ref t.J0)
 d66:Binds K t.J1 ["a"] []
 Xo:br K "makes_bit_field" "makes_bit_field" xk t.J2 t.J3
 d67:mg "makes_bit_field"=some (.ref t.J2)
 d68:Binds K t.J3 ["bits"] []
 Xp:br K "bits_times" "bits_times" xm t.J4 t.J5
 d69:mg "bits_times"=some (.ref t.J4)
 d70:Binds K t.J5 ["a","b"] []
 aN2:br K "__init__" "BitField.__init__" pS t.J6 t.DT
 aN3:Binds K t.DT ["self","bits"] []
 Xq:br K "_law_field" "_law_field" xn t.J7 t.J8
 aT2:mg "_law_field"=some (.ref t.J7)
 aT3:Binds K t.J8 ["_law_told_here"] []
 DV:br K "leads" "leads" xo t.J9 t.Ka
 L7:mg "leads"=some (.ref t.J9)
 L8:Binds K t.Ka ["rows"] []
 Xr:br K "free_places" "free_places" xp t.Kb t.Kd
 d75:mg "free_places"=some (.ref t.Kb)
 d76:Binds K t.Kd ["rows","width"] []
 aL8:br K "minus" "BitField.minus" xq t.Ke t.Kf
 aL9:Binds K t.Kf ["self","a","b"] []
 aH4:br K "minus" "PrimeField.minus" xt t.Kg t.Kh
 aH5:Binds K t.Kh ["self","a","b"] []
 Xs:br K "kernel_of_reduced" "kernel_of_reduced" xu t.Ki t.Kj
 d81:mg "kernel_of_reduced"=some (.ref t.Ki)
 d82:Binds K t.Kj ["field","rows","width"] []
 yy:br K "width_of" "width_of" xw t.Kk t.Kl
 AR:mg "width_of"=some (.ref t.Kk)
 AS:Binds K t.Kl ["table"] []
 Xt:br K "first_with" "first_with" xx t.Km t.Kn
 d83:mg "first_with"=some (.ref t.Km)
 d84:Binds K t.Kn ["rows","place"] []
 aK1:br K "scaled" "BitField.scaled" xy t.Ko t.Kp
 aK2:Binds K t.Kp ["self","a","row"] []
 aF9:br K "scaled" "PrimeField.scaled" xA t.Kq t.Kr
 aG0:Binds K t.Kr ["self","a","row"] []
 aG1:br K "lessened" "BitField.lessened" xB t.Ks t.Kt
 aG2:Binds K t.Kt ["self","row","a","other"] []
 aD1:br K "lessened" "PrimeField.lessened" xC t.Ku t.Kv
 aD2:Binds K t.Kv ["self","row","a","other"] []
 L9:br K "cleared" "cleared" xD t.Kw t.Kx
 Xu:mg "cleared"=some (.ref t.Kw)
 Xv:Binds K t.Kx ["field","rows","lead_row","place"] []
 aT4:br K "over" "Field.over" xE t.DU t.Ky
 Xw:Binds K t.Ky ["self","a","b"] []
 Ma:br K "reduced" "reduced" xF t.Kz t.KA
 Xx:mg "reduced"=some (.ref t.Kz)
 Xy:Binds K t.KA ["field","table"] []
 Xz:br K "kernel" "kernel" xG t.KC t.KD
 d94:mg "kernel"=some (.ref t.KC)
 d95:Binds K t.KD ["field","table"] []
 Mb:br K "_law_plus" "_law_plus" xH t.KG t.KH
 XA:mg "_law_plus"=some (.ref t.KG)
 XB:Binds K t.KH ["_law_told_here","_law_a","_law_b"] []
 DW:br K "_law_times" "_law_times" xI t.KI t.KJ
 Mc:mg "_law_times"=some (.ref t.KI)
 Md:Binds K t.KJ ["_law_told_here","_law_a","_law_b"] []
 DX:br K "_law_dot" "_law_dot" xK t.KL t.KN
 Me:mg "_law_dot"=some (.ref t.KL)
 Mg:Binds K t.KN ["_law_told_here","_law_xs","_law_ys"] []
 Mh:br K "_law_by_row" "_law_by_row" xM t.KO t.KP
 XC:mg "_law_by_row"=some (.ref t.KO)
 XD:Binds K t.KP ["_law_told_here","_law_xs","_law_table_here","_law_wide"] []
 AU:br K "_law_copy" "_law_copy" xN t.KQ t.KR
 DY:mg "_law_copy"=some (.ref t.KQ)
 DZ:Binds K t.KR ["_law_table_here"] []
 XE:br K "_law_whole" "_law_whole" xO t.KS t.KU
 aT5:mg "_law_whole"=some (.ref t.KS)
 aT6:Binds K t.KU ["_law_x"] []
 D0:br K "_law_row_kind" "_law_row_kind" xP t.KW t.KY
 Mi:mg "_law_row_kind"=some (.ref t.KW)
 Mj:Binds K t.KY ["_law_row","_law_wide","_law_many_here"] []
 XF:br K "_law_table_kind" "_law_table_kind" xQ t.KZ t.K0
 aK3:mg "_law_table_kind"=some (.ref t.KZ)
 aK4:Binds K t.K0 ["_law_table_here","_law_rows","_law_wide","_law_many_here"] []
 jK:br K "_law_cell" "_law_cell" xR t.K1 t.K2
 kb:mg "_law_cell"=some (.ref t.K1)
 ke:Binds K t.K2 ["_law_script","_law_k"] []
 pV:br K "_law_many" "_law_many" xS t.K3 t.K4
 sI:mg "_law_many"=some (.ref t.K3)
 sJ:Binds K t.K4 ["_law_told_here"] []
 XG:br K "_law_sent" "_law_sent" xT t.K5 t.K6
 aW3:mg "_law_sent"=some (.ref t.K5)
 aW4:Binds K t.K6 ["_law_told_here","_law_script","_law_field_here","_law_table_here"] []
 XH:br K "_law_spoilt" "_law_spoilt" xU t.K7 t.K8
 aQ9:mg "_law_spoilt"=some (.ref t.K7)
 aR0:Binds K t.K8 ["_law_told_here","_law_script","_law_sent_here"] []
 XI:br K "lost_places" "lost_places" xV t.K9 t.La
 ea4:mg "lost_places"=some (.ref t.K9)
 ea5:Binds K t.La ["signs"] []
 XJ:br K "noughts_for_lost" "noughts_for_lost" xW t.Lb t.Lc
 ea6:mg "noughts_for_lost"=some (.ref t.Lb)
 ea7:Binds K t.Lc ["signs"] []
 aO8:br K "dot" "BitField.dot" xX t.Ld t.Le
 aO9:Binds K t.Le ["self","xs","ys"] []
 aM0:br K "dot" "PrimeField.dot" xY t.Lf t.Lg
 aM1:Binds K t.Lg ["self","xs","ys"] []
 XM:br K "by_column" "by_column" xZ t.Lh t.Li
 eb2:mg "by_column"=some (.ref t.Lh)
 eb3:Binds K t.Li ["field","table","column"] []
 AV:br K "is_nought" "is_nought" x6 t.Lj t.Lk
 D1:mg "is_nought"=some (.ref t.Lj)
 D2:Binds K t.Lk ["column"] []
 aM2:br K "times" "BitField.times" x8 t.Ll t.Lm
 aM3:Binds K t.Lm ["self","a","b"] []
 aH8:br K "times" "PrimeField.times" x9 t.Ln t.Lo
 aH9:Binds K t.Lo ["self","a","b"] []
 D3:br K "past" "past" ya t.Lp t.Lq
 Ml:mg "past"=some (.ref t.Lp)
 Mm:Binds K t.Lq ["field","column","others"] []
 XN:br K "past_lost" "past_lost" yc t.Lr t.Lu
 eb8:mg "past_lost"=some (.ref t.Lr)
 eb9:Binds K t.Lu ["field","columns","lost"] []
 Mn:br K "numbers_within" "numbers_within" yd t.yw t.yx
 XO:mg "numbers_within"=some (.ref t.yw)
 XQ:Binds K t.yx ["field","columns","due","most"] []
 Mo:br K "turned" "turned" ye t.Lw t.Lx
 XR:mg "turned"=some (.ref t.Lw)
 XS:Binds K t.Lx ["table"] []
 XT:br K "wrong_places" "wrong_places" yf t.Ly t.Lz
 ec0:mg "wrong_places"=some (.ref t.Ly)
 ec1:Binds K t.Lz ["field","table","lost","sums","most"] []
 XU:br K "taken_off" "taken_off" yg t.LA t.LB
 ec2:mg "taken_off"=some (.ref t.LA)
 ec3:Binds K t.LB ["field","word","places","signs"] []
 XW:br K "with_due" "with_due" yh t.LC t.LD
 ec4:mg "with_due"=some (.ref t.LC)
 ec5:Binds K t.LD ["table","due"] []
 XX:br K "solved" "solved" yi t.LF t.LG
 ec6:mg "solved"=some (.ref t.LF)
 ec7:Binds K t.LG ["field","table","due"] []
 XY:br K "picked" "picked" yk t.LH t.LJ
 ec8:mg "picked"=some (.ref t.LH)
 ec9:Binds K t.LJ ["table","places"] []
 D4:br K "near_row" "near_row" ym t.LK t.LL
 Mp:mg "near_row"=some (.ref t.LK)
 Mq:Binds K t.LL ["field","table","room","word"] []
 Mr:br K "_law_near" "_law_near" yo t.LM t.LN
 XZ:mg "_law_near"=some (.ref t.LM)
 X0:Binds K t.LN ["_law_word","_law_sent_here","_law_room"] []
 X5:br K "_law_powers" "_law_powers" yp t.LO t.LP
 aR1:mg "_law_powers"=some (.ref t.LO)
 aR2:Binds K t.LP ["_law_told_here","_law_script","_law_rows","_law_wide","_law_cell_here"] []
 X6:br K "_law_table" "_law_table" yq t.LQ t.LR
 aT7:mg "_law_table"=some (.ref t.LQ)
 aT8:Binds K t.LR ["_law_told_here","_law_script","_law_begin","_law_rows","_law_wide","_law_way"] []
 X7:br K "first_bound" "first_bound" yt t.LS t.LU
 ed4:mg "first_bound"=some (.ref t.LS)
 ed5:Binds K t.LU ["field","table"] []
 X8:br K "_law_most" "_law_most" yu t.LV t.LW
 aW5:mg "_law_most"=some (.ref t.LV)
 aW6:Binds K t.LW ["_law_field_here","_law_table_here","_law_powers_here"] []
 X9:br K "_law_own" "_law_own" yv t.LX t.LY
 aX5:mg "_law_own"=some (.ref t.LX)
 aX6:Binds K t.LY ["_law_field_here","_law_table_here","_law_room","_law_sent_here"] []
 ee0:br K "law" "law" pU t.LZ t.L0
 fv1:mg "law"=some (.ref t.LZ)
 fv2:Binds K t.L0 ["_law_script"] []
 aI1:t.DS.code=.ref t.Xb
 aI2:codeHdIn K t.Xb t.mf=true
 aM4:t.DT.code=.ref t.Xc
 aM5:codeHdIn K t.Xc t.mh=true
 gG:eK K t.aS
 AW:Mk K t.aS t.J6
 aZ2:VR K t.aS
 AX:cJ K t.aS "bits"
 sM:cJ K t.aS "logs"
 yz:cJ K t.aS "many"
 ve:cJ K t.aS "powers"
 D6:cJ K t.aS "prime"
 pW:cJ K t.aS "products"
 AY:cJ K t.aS "step"
 AZ:cJ K t.aS "wide"
 A6:Meth K t.aS "dot" t.Ld
 A7:Meth K t.aS "lessened" t.Ks
 A8:Meth K t.aS "minus" t.Ke
 A9:Meth K t.aS "over" t.DU
 Ba:Meth K t.aS "scaled" t.Ko
 yA:Meth K t.aS "step_power" t.AQ
 Bb:Meth K t.aS "times" t.Ll
 ig:eK K t.aW
 Bc:Mk K t.aW t.JV
 aZ1:VR K t.aW
 D7:cJ K t.aW "bits"
 vf:cJ K t.aW "logs"
 yB:cJ K t.aW "many"
 yC:cJ K t.aW "powers"
 nC:cJ K t.aW "prime"
 D8:cJ K t.aW "products"
 Bd:cJ K t.aW "step"
 Be:cJ K t.aW "wide"
 Bf:Meth K t.aW "dot" t.Lf
 Bg:Meth K t.aW "lessened" t.Ku
 Bh:Meth K t.aW "minus" t.Kg
 Bi:Meth K t.aW "over" t.DU
 Bj:Meth K t.aW "scaled" t.Kq
 yD:Meth K t.aW "step_power" t.AQ
 Bk:Meth K t.aW "times" t.Ln
 Ya:C7 K t.mm "__init__" t.JR
 D9:mg "all"=none
 Yb:mg "any"=none
 ee5:mg "bool"=none
 sN:mg "enumerate"=none
 ee6:mg "int"=none
 yE:mg "isinstance"=none
 fZ:mg "len"=none
 sO:mg "list"=none
 ee7:mg "min"=none
 iM:mg "range"=none
 ee8:mg "sum"=none
 mq:mg "zip"=none
 Bl:mg "BitField"=some (.ref t.aS)
 Bo:mg "ByNought"=some (.ref t.iL)
 yF:mg "Field"=some (.ref t.mm)
 Bp:mg "PrimeField"=some (.ref t.aW)
 Yc:HW K mg "ByNought" t.iL
 aZ3:dC3 K t.iL
section
variable{P:Program}{w:World}{K:Frag}{mg:Str->Option Value}{base:Heap}{t:gC}
abbrev aT9:bB:=λds Q=>∃c:Int,ds=[.int c]/\Q (dz (r9 c))
theorem aU0(T:Txt K mg t):aQ P w K mg base bf 1 t.JI t.JJ ["_law_cell_here"] (bx (aT9 )):=by
 refine bI T.Xd JA ?_ ?_
 ·intro ds Q h
  obtain⟨c,rfl,q⟩:=h<;>rfl
 ·intro aI A outer s H E hr
  refine⟨_,(aB (aV (i:=1) JA.nd rfl (ao rfl) (US (ns:=[7,11,13,19,25,31,37,41,47,55,59,61,67,73,87,91,97,103,109,115,117]) (by decide +kernel)))
   (aB (aV (i:=2) JA.nd rfl (ao rfl) (US (ns:=[2,3,5,7,11,13,17,19,23,29,31,37,41,43,47,53,59,61]) (by decide +kernel)))
   (aB (bW (bP (fW (du hr)) (ae (aG di (bv 0) (ae aw))) (ae aw) (bM _)) (aF (aU (zV (e7 kF (e7 (cO (bH (bv 1) (ae (aG di (ae (aG jD (bv 0) (ae aw))) (ae aw))) (λ_ _=>rfl))) dJ))))) cw)
   (aF (aU (zV (e7 kF (e7 (cO (bH (bv 2) (ae (aG di (ae (aG jD (bv 0) (ae aw))) (ae aw))) (λ_ _=>rfl))) dJ)))))))),λds Q h=>?_⟩
  obtain⟨c,rfl,q⟩:=h
  refine aA λU hU=>?_
  walk_at"l3"
  refine⟨by decide,hU _ ?_⟩
  clear hU U
  refine aA λU hU=>?_
  walk_at"l3"
  refine⟨by decide,hU _ ?_⟩
  clear hU U
  refine aA λU hU=>?_
  walk_at"l3"
  refine⟨by decide,?_⟩
  have n1:=jm (c/2) (show(21:Int)≠0 by decide)
  have n2:=jn (c/2) (show(0:Int)<21 by decide)
  have n3:=jm (c/2) (show(18:Int)≠0 by decide)
  have n4:=jn (c/2) (show(0:Int)<18 by decide)
  split
  ·rename_i hc
   refine⟨jC (by decide) (by decide),by decide,_,m8 n1 (by simpa using n2),rfl,by decide,?_⟩
   have e:dz (r9 c)=.tup [.bl true,.int (([7,11,13,19,25,31,37,41,47,55,59,61,67,73,87,91,97,103,109,115,117]:List Int).getD (c/2%21).toNat 0)]:=by
    unfold r9 dz
    rw[if_pos hc]
    have:∀k:Nat,((gJ.getD k 0:Nat):Int)=([7,11,13,19,25,31,37,41,47,55,59,61,67,73,87,91,97,103,109,115,117]:List Int).getD k 0:=λk=>by
     show _=(gJ.map (λ(n:Nat)=>(n:Int))).getD k ((0:Nat):Int)
     rw[aK,aK,bQ]
     cases gJ[k]?<;>rfl
    rw[<-this]
   rw[<-e];exact q
  ·rename_i hc
   refine hU _ ?_
   walk_at"l3"
   refine⟨jC (by decide) (by decide),by decide,_,m8 n3 (by simpa using n4),rfl,by decide,?_⟩
   have e:dz (r9 c)=.tup [.bl false,.int (([2,3,5,7,11,13,17,19,23,29,31,37,41,43,47,53,59,61]:List Int).getD (c/2%18).toNat 0)]:=by
    unfold r9 dz
    rw[if_neg hc]
    have:∀k:Nat,((pe.getD k 0:Nat):Int)=([2,3,5,7,11,13,17,19,23,29,31,37,41,43,47,53,59,61]:List Int).getD k 0:=λk=>by
     show _=(pe.map (λ(n:Nat)=>(n:Int))).getD k ((0:Nat):Int)
     rw[aK,aK,bQ]
     cases pe[k]?<;>rfl
    rw[<-this]
   rw[<-e];exact q
abbrev aU1(L:Obj->Obj->Addr->Addr->wq->Prop):bB:=λds Q=>∃(a:Nat) (of oc:Obj) (c k:Addr) (g:Nat->Nat->Nat) (l:List Int),ds=[.int a,.bO (.lam of oc c k)]/\L of oc c k (bC g)/\a<64/\Ir g a=some l/\Q (.lst true (aL l))
theorem Yd(T:Txt K mg t):aQ P w K mg base bf 5 t.JK t.JL ["a","product"] (bx (aU1 (Ad P w K mg base 4))):=by
 refine bI T.L4 DO ?_ ?_
 ·intro ds Q h
  obtain⟨a,of,oc,c,k,g,l,rfl,hL,ha,hp,q⟩:=h<;>rfl
 ·intro aI A outer s H E hr
  refine⟨_,(aB (aV (i:=2) DO.nd rfl (ao rfl) (eN (e7 aw dJ)))
   (aB (aV (i:=3) DO.nd rfl (ao rfl) (Vg (n:=4) (i:=1) rfl (by first | exact ao rfl | exact aX (ao rfl)) (hr.mono (by decide)) (af (ae aw) (af (bv 0) au))))
   (aB (zX eY (bP (jY (du hr)) (bv 3) (ae aw) (bM _))
    (aB (lL (i:=2) rfl (by first | exact ao rfl | exact aX (ao rfl)) (cO (bv 3)))
    (aF (aV (i:=3) DO.nd rfl (ao rfl) (Vg (n:=4) (i:=1) rfl (by first | exact ao rfl | exact aX (ao rfl)) (hr.mono (by decide)) (af (bv 3) (af (bv 0) au)))))))
   (aF (aU (em 2)))))),λds Q h=>?_⟩
  obtain⟨a,of,oc,c,k,g,l,rfl,hL,ha,hp,q⟩:=h
  refine aA λU hU=>?_
  walk_at"l3"
  refine⟨by decide,hU _ ?_⟩
  clear hU U
  refine aA λU hU=>?_
  walk_at"l3"
  refine⟨of,oc,c,k,bC g,rfl,hL,1,a,⟨rfl,rfl⟩,1,a,rfl,rfl,by decide,ha,hU _ ?_⟩
  clear hU U
  refine aA λU hU=>?_
  walk_at"l3"
  refine⟨λm δ=>∃(p:Nat) (acc:List Int),δ=[some (.int a),some (.bO (.lam of oc c k)),some (.lst true (aL acc)),some (.int p)]/\acc.length+m<=70/\C9 g a m p acc=some l,⟨64,_,[1],rfl,by decide,hp⟩,?_⟩
  rintro m δ ⟨p,acc,rfl,hn,hg⟩
  walk_at"l3"
  cases m with
  | zero=>cases hg
  | succ m =>
   unfold C9 at hg
   split at hg
   ·rename_i h1
    subst h1
    cases hg
    rw[if_neg (by simp)]
    refine hU _ ?_
    walk_at"l3"
    exact q
   ·rename_i h1
    rw[if_pos (by simp;omega)]
    split at hg
    ·rename_i h2
     clear hU
     refine aA λU hU=>?_
     walk_at"l3"
     refine⟨⟨_,rfl⟩,by omega,hU _ ?_⟩
     clear hU
     walk_at"l3"
     exact⟨of,oc,c,k,bC g,rfl,hL,p,a,⟨rfl,rfl⟩,p,a,rfl,rfl,h2,ha,m,by omega,g p a,acc++[(p:Int)],⟨by rw[<-oR];rfl,rfl⟩,by simp;omega,hg⟩
    ·cases hg
abbrev aP0(L:Obj->Obj->Addr->Addr->wq->Prop):bB:=λds Q=>∃(n:Nat) (of oc:Obj) (c k:Addr) (g:Nat->Nat->Nat) (l:List Int),ds=[.int n,.bO (.lam of oc c k)]/\L of oc c k (bC g)/\Aj g n=some l/\Q (.lst true (aL l))
theorem aP1(T:Txt K mg t):aQ P w K mg base bf 6 t.JM t.JN ["many","product"] (bx (aP0 (Ad P w K mg base 4))):=by
 refine bI T.Xg AK ?_ ?_
 ·intro ds Q h
  obtain⟨n,of,oc,c,k,g,l,rfl,hL,hp,q⟩:=h<;>rfl
 ·intro aI A outer s H E hr
  refine⟨_,(aB (aV (i:=2) AK.nd rfl (ao rfl) aw)
   (aB (aV (i:=3) AK.nd rfl (ao rfl) (aT ((Yd T).mono (by decide)) hr rfl T.Xe T.L4.kp T.Xf aP (af (bv 2) (af (bv 1) au))))
   (aB (zX eY (bP v9 (ae (dR (fX) (by rfl) T.fZ fR (af (bv 3) au))) (ae (aG gE (bv 0) (ae aw))) (bM _))
    (aB (zW (i:=2) AK.nd rfl (ao rfl) (ae aw) cJ3)
    (aF (aV (i:=3) AK.nd rfl (ao rfl) (aT ((Yd T).mono (by decide)) hr rfl T.Xe T.L4.kp T.Xf aP (af (bv 2) (af (bv 1) au)))))))
   (aF (aU (em 3)))))),λds Q h=>?_⟩
  obtain⟨n,of,oc,c,k,g,l,rfl,hL,hp,q⟩:=h
  unfold Aj at hp
  split at hp
  ·rename_i l0 h0
   refine aA λU hU=>?_
   walk_at"l3"
   refine hU _ ?_
   clear hU U
   refine aA λU hU=>?_
   walk_at"l3"
   refine⟨1,of,oc,c,k,g,l0,rfl,hL,by decide,h0,hU _ ?_⟩
   clear hU U
   refine aA λU hU=>?_
   walk_at"l3"
   refine⟨λm δ=>∃(st:Nat) (l1:List Int),δ=[some (.int n),some (.bO (.lam of oc c k)),some (.int st),some (.lst true (aL l1))]/\st+m<=63/\Dc g n m st l1=some l,⟨62,1,l0,rfl,by decide,hp⟩,?_⟩
   rintro m δ ⟨st,l1,rfl,hn,hg⟩
   walk_at"l3"
   cases m with
   | zero=>cases hg
   | succ m =>
    unfold Dc at hg
    split at hg
    ·rename_i h1
     rw[if_pos (by omega)]
     split at hg
     ·rename_i l2 h2
      clear hU
      refine aA λU hU=>?_
      walk_at"l3"
      refine hU _ ?_
      clear hU
      walk_at"l3"
      exact⟨st+1,of,oc,c,k,g,l2,rfl,hL,by omega,h2,m,by omega,st+1,l2,⟨rfl,rfl⟩,by omega,hg⟩
     ·cases hg
    ·rename_i h1
     rw[if_neg (by omega)]
     cases hg
     refine hU _ ?_
     walk_at"l3"
     exact q
  ·cases hp
abbrev aX7:bB:=λds Q=>∃(l:List Int),ds=[.lst false (aL l)]/\l.length<=64/\(∀x∈l,0<=x/\x.toNat<=l.length)/\Q (.lst true (aL (eP l)))
theorem aX8(T:Txt K mg t):aQ P w K mg base bf 1 t.JO t.JP ["powers"] (bx (aX7 )):=by
 refine bI T.Xh JB ?_ ?_
 ·intro ds Q h
  obtain⟨l,rfl,hl,hx,q⟩:=h<;>rfl
 ·intro aI A outer s H E hr
  refine⟨_,(aB (aV (i:=1) JB.nd rfl (ao rfl) (aG iC (ae (eN (e7 aw dJ))) (ae (aG cR (ae (dR (fX) (by rfl) T.fZ fR (af (bv 0) au))) (ae aw)))))
   (aB (gv eY rfl (rP rfl T.sN (af (bv 0) au)) (gw (i1:=2) (i2:=3) rfl JB.nd rfl (ao rfl) rfl (ao rfl))
    (aF (wk (i:=1) rfl (by first | exact ao rfl | exact aX (ao rfl)) (cO (bv 2)) (bv 3))))
   (aF (aU (em 1))))),λds Q h=>?_⟩
  obtain⟨l,rfl,hl,hx,q⟩:=h
  refine aA λU hU=>?_
  walk_at"l3"
  refine⟨by decide,⟨by omega,by omega,by omega⟩,hU _ ?_⟩
  clear hU U
  refine aA λU hU=>?_
  walk_at"l3"
  refine fF.mk (λi δ=>∃o1 o2,δ=[some (.lst false (aL l)),some (.lst true (aL (pf l i))),o1,o2]) ⟨none,none,?_⟩ ?_ ?_
  ·rw[show((l.length:Int)+1).toNat=l.length+1 by omega];rfl
  ·rintro i d δ hd ⟨o1,o2,rfl⟩
   obtain⟨hi,rfl⟩:∃h:i<l.length,d=.tup [.int i,.int l[i]]:=by
    unfold fm aL at hd
    rw[yV,bQ]at hd
    by_cases hi:i<l.length
    ·rw[aJ hi]at hd
     simp at hd
     exact⟨hi,hd.symm⟩
    ·rw[gW (by omega)]at hd;simp at hd
   have e8:=hx l[i] (cC _)
   walk_at"l3"
   refine⟨_,(l[i]).toNat,rfl,?_,_,_,?_,rfl,rfl⟩
   ·unfold iQ
    rw[lN,Ak,if_pos e8.1,if_pos (by omega)]
   ·unfold aL
    rw[<-List.map_set]
    congr 1
    show _=(pf l i).set (l.getD i 0).toNat (i:Int)
    rw[aK,aJ hi];rfl
  ·rintro δ ⟨o1,o2,rfl⟩
   refine hU _ ?_
   simp only[qL,mX,qM,ou,dT,lh,kE,mS,dC,oj,mW,mV,mU,oo,qK,m5,rp,oM,rq,rz,qE,qF,qG,qH,qI,qJ,om,rm,oI,oJ,ii,oB,qU,oF,qV,qW,qX,qY,qZ,q0,iI,gI,q5,q8,q9,rf,oG,oH,lC,rk,rl,gN,rA,rn,qN,qP,oy,qQ,qR,qS,rB,rC,mY,kH,fV,iY,iB,qf,qa,tJ,vA,oq,jV,iX,oK,lU,rH,rK,rL,uR,kI,rQ,oV,rN,iD,uU,uS,uT,dF,jN,nR,nJ,gU,vB,bG,nS,nU,gj,gn,tK,exists_eq_left',exists_eq_left,D.bl.injEq,D.int.injEq,D.lst.injEq,D.fz.injEq,D.str.injEq,D.tup.injEq,tL,and_true,true_and,dW,qj,kj,kh,um,uo,uq,ur,uu,uv,fj,jT,jE,uB,uC,uD,uE,uF,df,jU,rD,uw,uz,uA,eT,oi,vC,vD,sV,gz,vE,vF,sZ,uJ,uK,uL,uM,uN,uO,uP,lN,lQ,oQ,jF,oR,uH,rG,uG,oS,uI,rE,lR,rF,if_true,vG,if_false,reduceIte,uQ,decide_eq_true_eq,eA,kJ,nh,uX,oW,uW,qO,rS,pk,rO,oZ,pd,rX,sj,su,pJ,dk,nu,jc,u6,pq,sE,oU]
   exact q
abbrev Ms(K:Frag):bB:=λds Q=>∃(C:Addr) (ns:List Str) (xs:List D) (n:Int) (many:Nat) (l:List Int) (r:Int),ds=[.obj C ns xs,.int n]/\eK K C/\cJ K C "powers"/\cJ K C "many"/\(ns.zip xs).lookup ("powers":Str)=some (.lst false (aL l))/\(ns.zip xs).lookup ("many":Str)=some (.int many)/\2<=many/\l[(n%((many:Int)-1)).toNat]?=some r/\Q (.int r)
theorem Mt(T:Txt K mg t):aQ P w K mg base bf 1 t.AQ t.JQ ["self","n"] (bx (Ms K)):=by
 refine bI T.aH1 aF5 ?_ ?_
 ·intro ds Q h
  obtain⟨C,ns,xs,n,many,l,r,rfl,hC,h1,h2,h3,h4,h5,h6,q⟩:=h<;>rfl
 ·intro aI A outer s H E hr
  refine⟨_,(aF (aU (cO (bH (j5 (K:=K) (bv 0)) (ae (aG di (bv 1) (ae (aG gE (j5 (K:=K) (bv 0)) (ae aw))))) (λ_ _=>rfl))))),λds Q h=>?_⟩
  obtain⟨C,ns,xs,n,many,l,r,rfl,hC,h1,h2,h3,h4,h5,h6,q⟩:=h
  walk_at"l3"
  refine⟨C,ns,xs,_,rfl,hC,h1,h3,C,ns,xs,_,rfl,hC,h2,h4,?_⟩
  refine⟨by omega,_,qv (d:=.int r) (jm _ (by omega)) ?_,rfl,q⟩
  unfold aL
  rw[bQ,h6];rfl
abbrev aR3(P:Program)(w:World)(K:Frag)(mg:Str->Option Value)(base:Heap)(fs:Addr):Sp:=λvs H Q _=>∃(x dx f C:Addr) (b:Str) (n0:Int) (many:Nat) (of oc:Obj) (c k:Addr) (g:Nat->Nat->Nat) (l:List Int) (st:Int),
 vs=[.ref x,.int many,.ref f]/\H x=some (.ins C dx [(b,.int n0)])/\(∀n∈(["many","wide","powers","logs","step","step_power"]:List Str),b≠n)/\dO9 K C fs/\kD H f of oc c k/\Ad P w K mg base 4 of oc c k (bC g)/\VA g many l st /\
 ∀H' p1 p2,eD x H H'->H' x=some (.ins C dx ((iG b).zip (De n0 many p1 p2 st)))->LI H' p1 l->LI H' p2 (eP l)->p1≠p2->H p1=none->H p2=none->Q .ay H'
theorem Ye(T:Txt K mg t):aQ P w K mg base bf 7 t.JR t.JS ["self","many","product"] (aR3 P w K mg base t.AQ):=by
 refine T.aT1.ok aQ5 (λvs H Q E h=>?_) λaI A outer s H vs Q E hr h=>?_
 ·obtain⟨x,dx,f,C,b,n0,many,of,oc,c,k,g,l,st,rfl,_⟩:=h;rfl
 obtain⟨x,dx,f,C,b,n0,many,of,oc,c,k,g,l,st,rfl,hx,hb,hC,ef7,hL,hF,q⟩:=h
 refine⟨_,kS (qu (pv 0) (pv 1) rfl) (kS (qu (pv 0) (zx GO (Ha (pv 1)) zj) rfl)
  (kS (qu (pv 0) (tW ((aP1 T).mono (by decide)) hr rfl T.d53 T.Xg.kp T.d54 .nil aP (gA (pv 1) (gA (pv 2) kA))) rfl)
  (kS (qu (pv 0) (tW ((aX8 T).mono (by decide)) hr rfl T.d55 T.Xh.kp T.d56 .nil aP (gA (Cm (pv 0) rfl) kA)) rfl)
  (vL (qu (pv 0) (cH0 (pv 0) hC.cls hC.sp ((Mt T).mono (by decide)) hr T.L5 .nil aP (gA zj kA)) rfl))))),?_⟩
 have nb:∀n∈(["many","wide","powers","logs","step","step_power"]:List Str),b≠n:=hb
 refine⟨.int many,rfl,.ref x,rfl,x,C,dx,_,rfl,hx,hC.cls,hC.many,nN (bN 1) (by decide),?_⟩
 rw[wB (by simpa using nb "many" (by simp))]
 generalize e1:upd H x (HO.ins C dx ([(b,V.int n0)]++[(("many":Str),V.int many)]))=H1
 have e8:H1 x=some (.ins C dx [(b,V.int n0),(("many":Str),V.int many)]):=by rw[<-e1,cI];rfl
 have s1:eD x H H1:=by rw[<-e1];exact eD.upd (C:=C) (dx:=dx) hx rfl
 have l1:kD H1 f of oc c k:=by rw[<-e1];exact ef7.Al hx
 have n1:∀p,H1 p=none->H p=none:=λp h=>Am hx (by rw[e1];exact h)
 refine⟨_,rfl,rfl,_,rfl,rfl,_,_,rfl,rfl,.ref x,rfl,x,C,dx,_,rfl,e8,hC.cls,hC.wide,nN (bN 2) (by decide),?_⟩
 rw[wB (by simp;exact⟨nb "wide" (by simp),by decide⟩),jo]
 generalize e2:upd H1 x (HO.ins C dx ([(b,V.int n0),(("many":Str),V.int many)]++[(("wide":Str),V.int ((bl many:Nat)-1))]))=H2
 have i8:H2 x=some (.ins C dx [(b,V.int n0),(("many":Str),V.int many),(("wide":Str),V.int ((bl many:Nat)-1))]):=by rw[<-e2,cI];rfl
 have s2:eD x H H2:=by rw[<-e2];exact s1.trans (eD.upd (C:=C) (dx:=dx) e8 rfl)
 have l2:kD H2 f of oc c k:=by rw[<-e2];exact l1.Al e8
 have n2:∀p,H2 p=none->H p=none:=λp h=>n1 p (Am e8 (by rw[e2];exact h))
 refine⟨_,rfl,_,rfl,H2,[.int many,.bO (.lam of oc c k)],λd=>d=.lst true (aL l),ah.refl _,.int (.bO l2 .nil),⟨many,of,oc,c,k,g,l,rfl,hL,hF.step,rfl⟩,λd v F' H3 A' hd hs hf he h3 r nd fr=>?_⟩
 subst hd
 obtain⟨p1,rfl,Mu,Bq⟩:=Vz r fr
 have nD:=hs.get _ _ i8
 have s3:=s2.trans (hs.x (x:=x))
 refine⟨.ref x,rfl,x,C,dx,_,rfl,nD,hC.cls,hC.Iu,nN (bN 3) (by decide),?_⟩
 rw[wB (by simp;exact⟨nb "powers" (by simp),by decide,by decide⟩)]
 generalize e4:upd H3 x (HO.ins C dx ([(b,V.int n0),(("many":Str),V.int many),(("wide":Str),V.int ((bl many:Nat)-1))]++[(("powers":Str),V.ref p1)]))=H4
 have sP:H4 x=some (.ins C dx [(b,V.int n0),(("many":Str),V.int many),(("wide":Str),V.int ((bl many:Nat)-1)),(("powers":Str),V.ref p1)]):=by rw[<-e4,cI];rfl
 have s4:eD x H H4:=by rw[<-e4];exact s3.trans (eD.upd (C:=C) (dx:=dx) nD rfl)
 have p4:LI H4 p1 l:=by rw[<-e4];exact Mu.upd nD (λws z=>by cases z)
 have n4:∀p,H4 p=none->H p=none:=λp h=>n2 p (hs.free (Am nD (by rw[e4];exact h)))
 refine⟨.ref x,rfl,x,C,dx,_,.ref p1,rfl,sP,hC.cls,hC.Iu,by rw[Df (nb "powers" (by simp))];rfl,H4,[.lst false (aL l)],λd=>d=.lst true (aL (eP l)),ah.refl _,.shr p4 (lM l) .nil,⟨l,rfl,by have:=hF.len;have:=hF.hi;omega,hF.ins,rfl⟩,λd v F' H5 A' hd sQ hf he h3 r nd fr=>?_⟩
 subst hd
 obtain⟨p2,rfl,Yf,vg⟩:=Vz r fr
 have nE:=sQ.get _ _ sP
 have s5:=s4.trans (sQ.x (x:=x))
 have ef8:p1≠p2:=λz=>by rw[<-z]at vg;unfold LI at p4;rw[vg]at p4;cases p4
 refine⟨.ref x,rfl,x,C,dx,_,rfl,nE,hC.cls,hC.dP2,nN (bN 4) (by decide),?_⟩
 rw[wB (by simp;exact⟨nb "logs" (by simp),by decide,by decide,by decide⟩)]
 generalize e6:upd H5 x (HO.ins C dx ([(b,V.int n0),(("many":Str),V.int many),(("wide":Str),V.int ((bl many:Nat)-1)),(("powers":Str),V.ref p1)]++[(("logs":Str),V.ref p2)]))=H6
 have Mv:H6 x=some (.ins C dx (([b,"many","wide","powers","logs"]:List Str).zip [V.int n0,V.int many,V.int ((bl many:Nat)-1),V.ref p1,V.ref p2])):=by rw[<-e6,cI];rfl
 have s6:eD x H H6:=by rw[<-e6];exact s5.trans (eD.upd (C:=C) (dx:=dx) nE rfl)
 have p6:LI H6 p1 l:=by rw[<-e6];exact(p4.same sQ).upd nE (λws z=>by cases z)
 have q6:LI H6 p2 (eP l):=by rw[<-e6];exact Yf.upd nE (λws z=>by cases z)
 refine⟨.ref x,rfl,x,dx,_,rfl,Mv,by show nH ("step_power":Str) ((b,V.int n0)::_)=none;rw[Df (nb "step_power" (by simp))];rfl,H6,[.obj C [b,"many","wide","powers","logs"] [.int n0,.int many,.int ((bl many:Nat)-1),.lst false (aL l),.lst false (aL (eP l))],.int 1],λd=>d=.int st,ah.refl _,
  .obj Mv rfl (.int (.int (.int (.shr p6 (lM l) (.shr q6 (lM _) .nil))))) (.int .nil),⟨C,_,_,1,many,l,st,rfl,hC.cls,hC.Iu,hC.many,by show nH ("powers":Str) ((b,D.int n0)::_)=_;rw[Df (nb "powers" (by simp))];rfl,by show nH ("many":Str) ((b,D.int n0)::_)=_;rw[Df (nb "many" (by simp))];rfl,hF.lo,hF.st,rfl⟩,λd v F' H7 A' hd Ea hf he h3 r nd fr=>?_⟩
 subst hd
 cases r
 have Eb:=Ea.get _ _ Mv
 refine⟨.ref x,rfl,x,C,dx,_,rfl,Eb,hC.cls,hC.step,nN (bN 5) (by decide),?_⟩
 rw[wB (by simp;exact⟨nb "step" (by simp),by decide,by decide,by decide,by decide⟩)]
 refine q _ p1 p2 ((s6.trans (Ea.x (x:=x))).trans (eD.upd (C:=C) (dx:=dx) Eb rfl)) (by rw[cI];rfl) ((p6.same Ea).upd Eb (λws z=>by cases z)) ((q6.same Ea).upd Eb (λws z=>by cases z)) ef8 (n2 p1 Bq) (n4 p2 vg)
abbrev aE0:bB:=λds Q=>∃a:Int,ds=[.int a]/\Q (.bl (decide (2<=a)&&decide (a<=61)&&(aZ (a.toNat-2)).all λi=>a%(2+(i:Int)) != 0))
theorem aE1(T:Txt K mg t):aQ P w K mg base bf 1 t.JT t.JU ["prime"] (bx (aE0 )):=by
 refine bI T.Xj aD5 ?_ ?_
 ·intro ds Q h
  obtain⟨a,rfl,q⟩:=h<;>rfl
 ·intro aI A outer s H E hr
  refine⟨_,(aF (aU (zU (ae (HK z7 z7 (ae aw) (bv 0) (ae aw))) (zk (dR (CM rfl) (by rfl) T.D9 Cq (af (ae (dv [("prime",0)] ["d"] rfl (CF rfl T.iM (af (ae aw) (af (bv 0) au))) (λ_ _ _ _=>(cE (i:=1) (show(["prime","d"]:List Str).Nodup by decide +kernel) rfl (ao (lr1 rfl)) (by decide) (aX (lr1 rfl)))) (λ_ _ _ _=>dy) (λ_ _ _ _=>(vY (jY (du hr)) (ae (aG di (bv 0) (bv 1))) (ae aw) (bM _))) rfl ⟨rfl,trivial⟩ (λ_=>by repeat' (first | exact trivial | refine⟨.inl rfl,?_⟩ | refine⟨.inr (.inl rfl),?_⟩ | refine⟨.inr (.inr ⟨_,rfl⟩),?_⟩)) (λ_=>⟨⟨rfl,.inl rfl,.inl rfl,_,rfl,rfl⟩,trivial⟩) rfl (by decide +kernel))) au)))))),λds Q h=>?_⟩
  obtain⟨a,rfl,q⟩:=h
  walk_at"l3"
  split
  ·rename_i h1
   split
   ·rename_i h2
    refine⟨2,a,⟨rfl,rfl⟩,⟨by decide,by decide,by omega,by omega⟩,?_⟩
    have e0:(a-2).toNat=a.toNat-2:=by omega
    rw[e0]
    refine dY (aZ (a.toNat-2)) (λ(k:Nat)=>D.int (2+(k:Int))) (λ(k:Nat)=>D.bl (a%(2+(k:Int)) != 0)) (by rw[zY]) (λx y h=>by injection h with h;omega) (λk hk=>?_) (.inr λ_ _=>rfl) (by rw[dD,sL];omega) ?_
    ·walk_at"l3"
     refine⟨by omega,?_⟩
     by_cases z:a%(2+(k:Int))=0<;>simp[z]
    ·refine⟨(aZ (a.toNat-2)).map λ(k:Nat)=>a%(2+(k:Int)) != 0,?_,?_⟩
     ·unfold we;rw[cg];rfl
     ·have e:(decide (2<=a)&&decide (a<=61)&&(aZ (a.toNat-2)).all λi=>a%(2+(i:Int)) != 0)=((aZ (a.toNat-2)).map λ(k:Nat)=>a%(2+(k:Int)) != 0).all id:=by
       simp[h1,h2,mx]
      rw[<-e];exact q
   ·rename_i h2
    have e:(decide (2<=a)&&decide (a<=61)&&(aZ (a.toNat-2)).all λi=>a%(2+(i:Int)) != 0)=false:=by simp[h2]
    rw[e]at q;exact q
  ·rename_i h1
   have e:(decide (2<=a)&&decide (a<=61)&&(aZ (a.toNat-2)).all λi=>a%(2+(i:Int)) != 0)=false:=by simp[h1]
   rw[e]at q;exact q
abbrev aP2:List D->List Str->List D->Prop:=λds ns xs=>∃p:Nat,ds=[.int p]/\p∈pe/\ns=iG "prime"/\xs=[.int p,.int p,.int ((bl p:Nat)-1),.lst true (aL (fl (false,p))),.lst true (aL (eP (fl (false,p)))),.int (fst (false,p))]
theorem aI4(T:Txt K mg t)(hB:Bm mg base):aQ P w K mg base bf 8 t.JV t.DS ["self","prime"] (Iq [t.mf,t.mh] t.aW aP2):=by
 refine Vv T.aJ9 T.aI1 aG7 (λvs H Q E h=>?_) λA outer s H vs Q E hr h=>?_
 ·obtain⟨x,dx,cP,ds,ns,xs,rfl,_,_,r,⟨p,rfl,_⟩,_⟩:=h
  have:=r.length
  simp at this
  simp[this]
 obtain⟨x,dx,cP,ds,ns,xs,rfl,tb,hx,r,⟨p,rfl,hp,rfl,rfl⟩,q⟩:=h
 obtain rfl:cP=[.int p]:=by
  cases r with
  | int r=>cases r;rfl
 have hm:(false,p)∈aD:=fg _ (FZ hp)
 have hF:=cF hm
 refine⟨_,kS (GA (Gx (Gw (tW ((aE1 T).mono (by decide)) hr rfl T.d59 T.Xj.kp T.d60 .nil aP (gA (pv 1) kA)))) (vL Sx) Gz)
  (kS (qu (pv 0) (pv 1) rfl)
  (vL (Cb (Vo (E:=E0) (i:=1) T.Ya ((Ye T).mono (by decide)) hr T.Xi rfl T.yF rfl rfl rfl rfl (gA (pv 0) (gA (pv 1) (gA (Vh rfl rfl T.aI2 hB) kA))))))),?_⟩
 refine⟨_,rfl,H,[.int p],λd=>d=.bl true,ah.refl _,.int .nil,⟨p,rfl,by rw[cp5 p hp]⟩,λd v F' H1 A1 hd vh hf he h3 r nd fr=>?_⟩
 subst hd
 cases r
 refine⟨true,rfl,?_⟩
 refine mM ?_
 have e8:=vh.get _ _ hx
 refine⟨.int p,rfl,.ref x,rfl,x,t.aW,dx,_,rfl,e8,T.ig,T.nC,by decide,?_⟩
 generalize e2:upd H1 x (HO.ins t.aW dx (gq "prime" (.int p) []))=H2
 have i8:H2 x=some (.ins t.aW dx [(("prime":Str),.int p)]):=by rw[<-e2,cI];rfl
 have s2:eD x H H2:=by rw[<-e2];exact(vh.x (x:=x)).trans (eD.upd (C:=x) (dx:=dx) e8 rfl)
 have n2:∀p,H2 p=none->H p=none:=λp h=>vh.free (Am e8 (by rw[e2];exact h))
 obtain⟨ps,hP⟩:=tb t.mf (by simp)
 obtain⟨more,Mw⟩:=s2.tb _ ps hP
 refine⟨.ref x,rfl,.int p,rfl,⟨_,Mw⟩,λf k qn pm jG H3 nf Mx hk kf pX hl3=>?_⟩
 refine⟨f,_,_,.int p,Mx,rfl,rfl,λoc u jq hu nc rV=>?_⟩
 obtain⟨tm,rfl⟩:∃tm,u=p5 p tm:=hu
 have nD:=pX.get _ _ i8
 refine⟨x,dx,f,t.aW,"prime",p,p,_,oc,_,k,gm (false,p),fl (false,p),fst (false,p),rfl,An nD (λz=>by rw[z,nf]at i8;cases i8) nc,by decide,⟨T.ig,T.yB,T.Be,T.yC,T.vf,T.Bd,T.yD⟩,VC rV nc hk kf,?_,hF,λH' p1 p2 sx eo Br vP ne Bq vg=>?_⟩
 ·refine Vt (n:=3) ⟨rfl,rfl,rfl,by decide,rfl,rfl,by decide,by decide,rfl⟩ jq (λu1 u2=>rfl) λq f A outer s H E hr=>?_
  refine⟨_,aG di (ae (aG iC (bv 0) (bv 1))) (bv 2),λi j Qd h=>?_⟩
  obtain⟨a,b,rfl,rfl,ha,hb,hq⟩:=h
  walk_at"l3"
  have hp0:2<=p:=hF.lo
  refine⟨jt.ok (.inr ⟨by omega,by omega⟩),by omega,?_⟩
  have e:((gm (false,p) a b:Nat):Int)=(a:Int)*b%p:=by
   show((a*b%p:Nat):Int)=_
   rw[qk,vy]
  rw[<-e];exact hq
 ·have gf:H' f=some (.ext (jS _ oc _ f)):=sx.get f _ (λz=>by rw[z]at nf;rw[nf]at i8;cases i8) (by rw[bA rV.symm,cI]) rfl
  have gc:=sx.get _ _ (fC nD nc).symm cI rfl
  refine⟨gf,gc,?_⟩
  refine q _ (De p p p1 p2 (fst (false,p))) [p1,p2] (s2.trans (VB pX nf nc sx)) ?_ rfl ?_ (by simp[ne]) (λa ha=>?_)
  ·rw[iF (λz=>by rw[z,gf]at eo;cases eo) (λz=>by rw[z,gc]at eo;cases eo)];exact eo
  ·exact .int (.int (.int (.own (Br.rem gf gc) rfl (lM _) (.own (vP.rem gf gc) rfl (lM _) (.int .nil)))))
  ·simp at ha
   rcases ha with rfl | rfl
   ·exact n2 _ (Dg pX Bq)
   ·exact n2 _ (Dg pX vg)
abbrev aN6:bB:=λds Q=>∃(l g:List Int),ds=[.lst false (aL l),.lst false (aL g)]/\1<=l.length/\l.length<=63/\g.length=l.length+1/\(∀x∈g,0<=x)/\Q (.lst true (rZ l g))
theorem aN7(T:Txt K mg t):aQ P w K mg base bf 1 t.JW t.JX ["powers","logs"] (bx (aN6 )):=by
 refine bI T.Xk DP ?_ ?_
 ·intro ds Q h
  obtain⟨l,g,rfl,h1,h2,h3,h4,q⟩:=h<;>rfl
 ·intro aI A outer s H E hr
  refine⟨_,(aB (aV (i:=2) DP.nd rfl (aX rfl) (aG cR (ae (dR (fX) (by rfl) T.fZ fR (af (bv 0) au))) (ae aw)))
   (aB (aV (i:=3) DP.nd rfl (ao rfl) (eN (e7 (aG iC (ae (eN (e7 aw dJ))) (bv 2)) dJ)))
   (aB (gv eY rfl (CF rfl T.iM (af (ae aw) (af (bv 2) au))) (cE (i:=4) DP.nd rfl (aX rfl))
    (aF (lL (i:=3) rfl (by first | exact ao rfl | exact aX (ao rfl)) (aG cR (ae (eN (e7 aw dJ))) (ae (dv [("powers",0),("many",2),("logs",1),("a",4)] ["b"] rfl (CF rfl T.iM (af (ae aw) (af (bv 2) au))) (λ_ _ _ _=>(cE (i:=4) (show(["powers","many","logs","a","b"]:List Str).Nodup by decide +kernel) rfl (ao (lr1 rfl)) (by decide) (aX (lr1 rfl)))) (λ_ _ _ _=>dy) (λ_ _ _ _=>(cO (bH (bv 0) (ae (aG di (ae (aG cR (bH (bv 2) (bv 3) (λ_ _=>rfl)) (bH (bv 2) (bv 4) (λ_ _=>rfl)))) (ae (aG gE (bv 1) (ae aw))))) (λ_ _=>rfl)))) rfl ⟨rfl,⟨rfl,⟨rfl,⟨rfl,trivial⟩⟩⟩⟩ (λ_=>by repeat' (first | exact trivial | refine⟨.inl rfl,?_⟩ | refine⟨.inr (.inl rfl),?_⟩ | refine⟨.inr (.inr ⟨_,rfl⟩),?_⟩)) (λ_=>⟨⟨rfl,.inl rfl,.inl rfl,_,rfl,rfl⟩,⟨⟨rfl,.inl rfl,.inl rfl,_,rfl,rfl⟩,⟨⟨rfl,.inl rfl,.inl rfl,_,rfl,rfl⟩,⟨⟨rfl,.inl rfl,.inl rfl,_,rfl,rfl⟩,trivial⟩⟩⟩⟩) rfl (by decide +kernel)))))))
   (aF (aU (em 3)))))),λds Q h=>?_⟩
  obtain⟨l,g,rfl,h1,h2,h3,h4,q⟩:=h
  refine aA λU hU=>?_
  walk_at"l3"
  refine hU _ ?_
  clear hU U
  refine aA λU hU=>?_
  walk_at"l3"
  refine⟨by decide,⟨by omega,by omega,by omega⟩,by decide,hU _ ?_⟩
  clear hU U
  refine aA λU hU=>?_
  walk_at"l3"
  refine⟨1,(l.length:Int)+1,⟨rfl,rfl⟩,⟨by decide,by decide,by omega,by omega⟩,?_⟩
  have en:((l.length:Int)+1-1).toNat=l.length:=by omega
  rw[en]
  refine fF.mk (λi δ=>∃o,δ=[some (.lst false (aL l)),some (.lst false (aL g)),some (.int ((l.length:Int)+1)),some (.lst true (wA l g (i+1))),o]) ⟨none,?_⟩ ?_ ?_
  ·rw[show((l.length:Int)+1).toNat=l.length+1 by omega];rfl
  ·rintro i d δ hd ⟨o,rfl⟩
   obtain⟨hi,rfl⟩:i<l.length/\d=.int (1+(i:Int)):=by
    rw[bQ]at hd
    by_cases hi:i<l.length
    ·rw[ki hi]at hd
     exact⟨hi,(cU hd).symm⟩
    ·rw[gW (by simpa using hi)]at hd;cases hd
   walk_at"l3"
   refine⟨⟨_,rfl⟩,by decide,1,(l.length:Int)+1,⟨rfl,rfl⟩,⟨by decide,by decide,by omega,by omega⟩,?_⟩
   rw[en]
   refine dY (aZ l.length) (λ(k:Nat)=>D.int (1+(k:Int))) (λ(k:Nat)=>D.int (l.getD ((g.getD (i+1) 0+g.getD (k+1) 0)%(l.length:Int)).toNat 0)) (by rw[zY]) (λx y h=>by injection h with h;omega) (λk hk=>?_) (.inr λ_ _=>rfl) (by rw[dD,sL];omega) ?_
   ·have AB:=cT.mp hk
    walk_at"l3"
    have e1:(1+(i:Int)).toNat=i+1:=by omega
    have e2:(1+(k:Int)).toNat=k+1:=by omega
    have e3:(l.length:Int)+1-1=l.length:=by omega
    have n0:=jm (g.getD (i+1) 0+g.getD (k+1) 0) (show(l.length:Int)≠0 by omega)
    have n1:=jn (g.getD (i+1) 0+g.getD (k+1) 0) (show(0:Int)<l.length by omega)
    refine⟨_,m8 (by omega) (by omega),_,m8 (by omega) (by omega),?_⟩
    rw[e1,e2,e3]
    exact⟨by omega,_,m8 n0 n1,rfl,rfl⟩
   ·walk_at"l3"
    refine⟨⟨by simp;omega,by rw[mx,dw];intro x _;rfl⟩,by simp[wA];omega,_,?_,rfl⟩
    unfold wA
    rw[Gb (n:=i+1),gi]
    congr 1
    show _=[D.lst true (aL (rY l g (i+1)))]
    unfold rY
    rw[if_neg (by omega)]
    unfold aL
    rw[dF,cg];rfl
  ·rintro δ ⟨o,rfl⟩
   refine hU _ ?_
   simp only[qL,mX,qM,ou,dT,lh,kE,mS,dC,oj,mW,mV,mU,oo,qK,m5,rp,oM,rq,rz,qE,qF,qG,qH,qI,qJ,om,rm,oI,oJ,ii,oB,qU,oF,qV,qW,qX,qY,qZ,q0,iI,gI,q5,q8,q9,rf,oG,oH,lC,rk,rl,gN,rA,rn,qN,qP,oy,qQ,qR,qS,rB,rC,mY,kH,fV,iY,iB,qf,qa,tJ,vA,oq,jV,iX,oK,lU,rH,rK,rL,uR,kI,rQ,oV,rN,iD,uU,uS,uT,dF,jN,nR,nJ,gU,vB,bG,nS,nU,gj,gn,tK,exists_eq_left',exists_eq_left,D.bl.injEq,D.int.injEq,D.lst.injEq,D.fz.injEq,D.str.injEq,D.tup.injEq,tL,and_true,true_and,dW,qj,kj,kh,um,uo,uq,ur,uu,uv,fj,jT,jE,uB,uC,uD,uE,uF,df,jU,rD,uw,uz,uA,eT,oi,vC,vD,sV,gz,vE,vF,sZ,uJ,uK,uL,uM,uN,uO,uP,lN,lQ,oQ,jF,oR,uH,rG,uG,oS,uI,rE,lR,rF,if_true,vG,if_false,reduceIte,uQ,decide_eq_true_eq,eA,kJ,nh,uX,oW,uW,qO,rS,pk,rO,oZ,pd,rX,sj,su,pJ,dk,nu,jc,u6,pq,sE,bt,dD]
   exact q
abbrev aN8(t:gC):rJ:=λds Q Ex=>∃a b:Nat,ds=[.int a,.int b]/\bl a<=1000000/\bl b<=1000000/\(b=0->Ex t.iL)/\(b≠0->∀q r:Nat,a=cl q b ^^^ r->bl r<bl b->Q (.tup [.int q,.int r]))
theorem Yg(T:Txt K mg t):aQ P w K mg base (oh P w) 1 t.JY t.JZ ["a","b"] (Aa (aN8 t )):=by
 refine UT T.L6 xi ?_ ?_
 ·intro ds Q Ex h
  obtain⟨a,b,rfl,ha,hb,qx,q⟩:=h<;>rfl
 ·intro aI A outer s H E hr
  refine⟨_,(aB (bW (bP (fW (du hr)) (bv 1) (ae aw) (bM _)) (aF (UY T.Yc rfl (by rfl) (af (ae Uh) au))) cw)
   (aB (aV (i:=2) xi.nd rfl (ao rfl) aw)
   (aB (aV (i:=3) xi.nd rfl (ao rfl) (em 0))
   (aB (cT2 (zX eY (bP Ux (ae (oO (bv 3))) (ae (oO (bv 1))) (bM _))
    (aB (aV (i:=4) xi.nd rfl (ao rfl) (aG gE (ae (oO (bv 3))) (ae (oO (bv 1)))))
    (aB (zW (i:=2) xi.nd rfl (ao rfl) (ae (aG v7 (ae aw) (bv 4))) CI)
    (aF (zW (i:=3) xi.nd rfl (ao rfl) (ae (aG v7 (bv 1) (bv 4))) CI))))))
   (aF (aU (zV (e7 (em 2) (e7 (em 3) dJ))))))))),λds Q Ex h=>?_⟩
  obtain⟨a,b,rfl,ha,hb,qx,q⟩:=h
  refine aA λU hU=>?_
  walk_at"l3"
  split
  ·rename_i h0
   exact⟨by decide,qx (by omega)⟩
  ·rename_i h0
   have b0:b≠0:=by omega
   refine hU _ ?_
   clear hU U
   refine aA λU hU=>?_
   walk_at"l3"
   refine hU _ ?_
   clear hU U
   refine aA λU hU=>?_
   walk_at"l3"
   refine hU _ ?_
   clear hU U
   refine aA λU hU=>?_
   walk_at"l3"
   refine⟨λm δ=>∃(x r:Nat) (o sh:Option D),δ=[o,some (.int b),some (.int (x:Nat)),some (.int (r:Nat)),sh]/\a=cl x b ^^^ r/\bl r<=bl a/\m=bl r,
    ⟨bl a,0,a,_,none,rfl,by rw[qA,qe],bN _,rfl⟩,?_⟩
   rintro m δ ⟨x,r,o,sh,rfl,inv,hra,rfl⟩
   simp only[qL,mX,qM,ou,dT,lh,kE,mS,dC,oj,mW,mV,mU,oo,qK,m5,rp,oM,rq,rz,qE,qF,qG,qH,qI,qJ,om,rm,oI,oJ,ii,oB,qU,oF,qV,qW,qX,qY,qZ,q0,iI,gI,q5,q8,q9,rf,oG,oH,lC,rk,rl,gN,rA,rn,qN,qP,oy,qQ,qR,qS,rB,rC,mY,kH,fV,iY,iB,qf,qa,tJ,vA,oq,jV,iX,oK,lU,rH,rK,rL,uR,kI,rQ,oV,rN,iD,uU,uS,uT,dF,jN,nR,nJ,gU,vB,bG,nS,nU,gj,gn,tK,exists_eq_left',exists_eq_left,D.bl.injEq,D.int.injEq,D.lst.injEq,D.fz.injEq,D.str.injEq,D.tup.injEq,tL,and_true,true_and,dW,qj,kj,kh,um,uo,uq,ur,uu,uv,fj,jT,jE,uB,uC,uD,uE,uF,df,jU,rD,uw,uz,uA,eT,oi,vC,vD,sV,gz,vE,vF,sZ,uJ,uK,uL,uM,uN,uO,uP,lN,lQ,oQ,jF,oR,uH,rG,uG,oS,uI,rE,lR,rF,if_true,vG,if_false,reduceIte,uQ,decide_eq_true_eq,eA,kJ,nh,uX,oW,uW,qO,rS,pk,rO,oZ,pd,rX,sj,su,pJ,dk,nu,jc,u6,pq,sE,jo]
   split
   ·rename_i hc
    have hle:bl b<=bl r:=by omega
    have less:=TJ b0 hle
    have es:(((bl r:Nat):Int)-((bl b:Nat):Int))=((bl r-bl b:Nat):Int):=by omega
    clear hU
    refine aA λU hU=>?_
    walk_at"l3"
    simp only[jo,es]
    refine hU _ ?_
    clear hU
    refine aA λU hU=>?_
    walk_at"l3"
    have o1:bl (1:Int).natAbs=1:=by decide
    refine⟨⟨by omega,by omega⟩,hU _ ?_⟩
    clear hU
    simp only[qL,mX,qM,ou,dT,lh,kE,mS,dC,oj,mW,mV,mU,oo,qK,m5,rp,oM,rq,rz,qE,qF,qG,qH,qI,qJ,om,rm,oI,oJ,ii,oB,qU,oF,qV,qW,qX,qY,qZ,q0,iI,gI,q5,q8,q9,rf,oG,oH,lC,rk,rl,gN,rA,rn,qN,qP,oy,qQ,qR,qS,rB,rC,mY,kH,fV,iY,iB,qf,qa,tJ,vA,oq,jV,iX,oK,lU,rH,rK,rL,uR,kI,rQ,oV,rN,iD,uU,uS,uT,dF,jN,nR,nJ,gU,vB,bG,nS,nU,gj,gn,tK,exists_eq_left',exists_eq_left,D.bl.injEq,D.int.injEq,D.lst.injEq,D.fz.injEq,D.str.injEq,D.tup.injEq,tL,and_true,true_and,dW,qj,kj,kh,um,uo,uq,ur,uu,uv,fj,jT,jE,uB,uC,uD,uE,uF,df,jU,rD,uw,uz,uA,eT,oi,vC,vD,sV,gz,vE,vF,sZ,uJ,uK,uL,uM,uN,uO,uP,lN,lQ,oQ,jF,oR,uH,rG,uG,oS,uI,rE,lR,rF,if_true,vG,if_false,reduceIte,uQ,decide_eq_true_eq,eA,kJ,nh,uX,oW,uW,qO,rS,pk,rO,oZ,pd,rX,sj,su,pJ,dk,nu,jc,u6,pq,sE,jo]
    refine⟨⟨by omega,by rw[jo];omega⟩,_,less,x ^^^ 2 ^ (bl r-bl b),r ^^^ b <<< (bl r-bl b),o,_,⟨rfl,?_,?_,rfl⟩,ch3 inv,by omega,rfl⟩
    ·rw[show(1:Int)=((1:Nat):Int) from rfl,vT,n5,Gj]
    ·rw[vT,n5]
   ·rename_i hc
    refine hU _ ?_
    walk_at"l3"
    refine⟨by decide,q b0 x r inv (by omega)⟩
abbrev aN9:bB:=λds Q=>∃a:Nat,ds=[.int a]/\bl a<=60/\Q (.bl (al a))
theorem aO0(T:Txt K mg t):aQ P w K mg base bf 2 t.J0 t.J1 ["a"] (bx (aN9 )):=by
 refine bI T.Xn JC ?_ ?_
 ·intro ds Q h
  obtain⟨a,rfl,ha,q⟩:=h<;>rfl
 ·intro aI A outer s H E hr
  refine⟨_,(aB (bW (bP v9 (bv 0) (ae aw) (bM _)) (aF (aU kF)) cw)
   (aB (aV (i:=1) JC.nd rfl (ao rfl) (aG jD (ae (aG gE (ae (oO (bv 0))) (ae aw))) (ae aw)))
   (aB (gv eY rfl (CF rfl T.iM (af (ae aw) (af (ae (aG v7 (ae aw) (ae (aG cR (bv 1) (ae aw))))) au))) (cE (i:=2) JC.nd rfl (ao rfl))
    (aF (bW (bP (fW (du hr)) (bH (ae (aT (HY ((Yg T).mono (by decide))) hr rfl T.Xl T.L6.kp T.Xm HX (af (bv 0) (af (bv 2) au)))) (ae aw) (λ_ _=>rfl)) (ae aw) (bM _)) (aF (aU kF)) cw)))
   (aF (aU kF))))),λds Q h=>?_⟩
  obtain⟨a,rfl,ha,q⟩:=h
  refine aA λU hU=>?_
  walk_at"l3"
  split
  ·rename_i h2
   rw[cg1 (by omega)]at q;exact q
  ·rename_i h2
   have h2:2<=a:=by omega
   have hp:=iu (show a≠0 by omega)
   refine hU _ ?_
   clear hU U
   refine aA λU hU=>?_
   walk_at"l3"
   simp only[jo]
   refine⟨jC (by omega) (by omega),hU _ ?_⟩
   clear hU U
   have eh:((((bl a:Nat):Int)-1)/2+1)=(((bl a-1)/2+1:Nat):Int):=by omega
   have e1:(1:Int)*2 ^ ((((bl a:Nat):Int)-1)/2+1).toNat=((2 ^ ((bl a-1)/2+1):Nat):Int):=by
    rw[eh,show(1:Int)=((1:Nat):Int) from rfl,vT,Gj]
   have big:2 ^ ((bl a-1)/2+1)<=2 ^ 40:=yU (by decide) (by omega)
   have o1:bl (1:Int).natAbs=1:=by decide
   refine aA λU hU=>?_
   walk_at"l3"
   rw[e1]
   have fv8:((2 ^ ((bl a-1)/2+1):Nat):Int)<=2 ^ 40:=by exact_mod_cast big
   have nn:(0:Int)<=((2 ^ ((bl a-1)/2+1):Nat):Int):=RG _
   refine⟨⟨by omega,by omega⟩,_,_,⟨rfl,rfl⟩,⟨by decide,by decide,by omega,by omega⟩,?_⟩
   have en:(((2 ^ ((bl a-1)/2+1):Nat):Int)-2).toNat=2 ^ ((bl a-1)/2+1)-2:=by omega
   rw[en]
   refine fF.mk (λi δ=>(∃o1 o2,δ=[some (.int a),o1,o2])/\∀j,j<i->md a (2+j)≠0) ⟨⟨_,_,rfl⟩,λj hj=>absurd hj (by omega)⟩ ?_ ?_
   ·rintro i d δ hd ⟨⟨o1,o2,rfl⟩,inv⟩
    obtain⟨hi,rfl⟩:i<2 ^ ((bl a-1)/2+1)-2/\d=.int (2+(i:Int)):=by
     rw[bQ]at hd
     by_cases hi:i<2 ^ ((bl a-1)/2+1)-2
     ·rw[ki hi]at hd
      exact⟨hi,(cU hd).symm⟩
     ·rw[gW (by simpa using hi)]at hd;cases hd
    have bi:bl (2+i)<=60:=by
     have:=(co7 h2 (show 2+i<2 ^ ((bl a-1)/2+1) by omega)).2
     omega
    walk_at"l3"
    refine⟨a,2+i,by rw[show((2+i:Nat):Int)=2+(i:Int) by omega],by omega,by omega,by omega,λ_ x r e l=>?_⟩
    have em:md a (2+i)=r:=zL e l
    refine⟨.int r,rfl,rfl,?_⟩
    rw[lR]
    split
    ·rename_i hz
     have r0:r=0:=by have:=of_decide_eq_true hz;omega
     rw[ch0 hi (em.trans r0)]at q
     exact q
    ·rename_i hz
     refine⟨⟨_,_,rfl,rfl⟩,λj hj=>?_⟩
     by_cases ej:j=i
     ·rw[ej,em]
      intro r0
      exact hz (decide_eq_true (by omega))
     ·exact inv j (by omega)
   ·rintro δ ⟨⟨o1,o2,rfl⟩,inv⟩
    rw[bt,dD]at inv
    rw[cE0 h2 inv]at q
    refine hU _ ?_
    walk_at"l3"
    exact q
abbrev aI5:bB:=λds Q=>∃a:Int,ds=[.int a]/\Q (.bl (decide (4<=a)&&decide (a<=127)&&al a.toNat))
theorem aI6(T:Txt K mg t):aQ P w K mg base bf 3 t.J2 t.J3 ["bits"] (bx (aI5 )):=by
 refine bI T.Xo aG8 ?_ ?_
 ·intro ds Q h
  obtain⟨a,rfl,q⟩:=h<;>rfl
 ·intro aI A outer s H E hr
  refine⟨_,(aF (aU (zU (ae (HK z7 z7 (ae aw) (bv 0) (ae aw))) (zk (aT ((aO0 T).mono (by decide)) hr rfl T.d65 T.Xn.kp T.d66 aP (af (bv 0) au)))))),λds Q h=>?_⟩
  obtain⟨a,rfl,q⟩:=h
  walk_at"l3"
  split
  ·rename_i h1
   split
   ·rename_i h2
    refine⟨a.toNat,by rw[tI (by omega)],?_,?_⟩
    ·have:bl a.toNat<=bl 127:=G9 (by omega)
     exact eH this (by decide)
    ·have e:(decide (4<=a)&&decide (a<=127)&&al a.toNat)=al a.toNat:=by simp[h1,h2]
     rw[e]at q;exact q
   ·rename_i h2
    have e:(decide (4<=a)&&decide (a<=127)&&al a.toNat)=false:=by simp[h2]
    rw[e]at q;exact q
  ·rename_i h1
   have e:(decide (4<=a)&&decide (a<=127)&&al a.toNat)=false:=by simp[h1]
   rw[e]at q;exact q
abbrev aR4:bB:=λds Q=>∃a b:Nat,ds=[.int a,.int b]/\bl a<=1000/\bl b<=1000/\Q (.int (cl a b:Nat))
theorem aR5(T:Txt K mg t):aQ P w K mg base bf 1 t.J4 t.J5 ["a","b"] (bx (aR4 )):=by
 refine bI T.Xp DQ ?_ ?_
 ·intro ds Q h
  obtain⟨a,b,rfl,ha,hb,q⟩:=h<;>rfl
 ·intro aI A outer s H E hr
  refine⟨_,(aB (aV (i:=2) DQ.nd rfl (ao rfl) aw)
   (aB (gv eY rfl (kG rfl T.iM (af (ae (oO (bv 1))) au)) (cE (i:=3) DQ.nd rfl (ao rfl))
    (aF (bW (bP (fW (du hr)) (ae (aG Uw (ae (aG Uv (bv 1) (bv 3))) (ae aw))) (ae aw) (bM _)) (aF (zW (i:=2) DQ.nd rfl (ao rfl) (ae (aG v7 (bv 0) (bv 3))) CI)) cw)))
   (aF (aU (em 2))))),λds Q h=>?_⟩
  obtain⟨a,b,rfl,ha,hb,q⟩:=h
  refine aA λU hU=>?_
  walk_at"l3"
  refine hU _ ?_
  clear hU U
  refine aA λU hU=>?_
  walk_at"l3"
  simp only[jo]
  refine⟨⟨by omega,by omega⟩,HV (λi δ=>∃o,δ=[some (.int a),some (.int b),some (.int (Mf.P a b i:Nat)),o]) ⟨none,rfl⟩ ?_ ?_⟩
  ·rintro i δ hi ⟨o,rfl⟩
   walk_at"l3"
   refine⟨by omega,?_⟩
   have Ec:(p7 ((b:Int)/2 ^ ((i:Int)).toNat) 1=1)↔b.testBit i=true:=by
    have h:=cG5 b i
    rw[R1]at h
    rw[<-h,dI]
   split
   ·rename_i hc
    have h:=cl2 (a:=a) (Ec.mp hc)
    rw[R1]at h
    exact⟨⟨by omega,by rw[jo];omega⟩,_,h,rfl⟩
   ·rename_i hc
    exact⟨_,by rw[bW1 (λz=>hc (Ec.mpr z))],rfl⟩
  ·rintro δ ⟨o,rfl⟩
   refine hU _ ?_
   walk_at"l3"
   exact q
abbrev aU2:List D->List Str->List D->Prop:=λds ns xs=>∃p:Nat,ds=[.int p]/\p∈gJ/\ns=iG "bits"++[("products":Str)]/\xs=[.int p,.int (aa (true,p)),.int ((bl (aa (true,p)):Nat)-1),.lst true (aL (fl (true,p))),.lst true (aL (eP (fl (true,p)))),.int (fst (true,p)),.lst true (rZ (fl (true,p)) (eP (fl (true,p))))]
theorem aM6(T:Txt K mg t)(hB:Bm mg base):aQ P w K mg base bf 8 t.J6 t.DT ["self","bits"] (Iq [t.mf,t.mh] t.aS aU2):=by
 refine Vv T.aN2 T.aM4 W3 (λvs H Q E h=>?_) λA outer s H vs Q E hr h=>?_
 ·obtain⟨x,dx,cP,ds,ns,xs,rfl,_,_,r,⟨p,rfl,_⟩,_⟩:=h
  have:=r.length
  simp at this
  simp[this]
 obtain⟨x,dx,cP,ds,ns,xs,rfl,tb,hx,r,⟨p,rfl,hp,rfl,rfl⟩,q⟩:=h
 obtain rfl:cP=[.int p]:=by
  cases r with
  | int r=>cases r;rfl
 have hm:(true,p)∈aD:=gQ _ (FZ hp)
 have hF:=cF hm
 refine⟨_,kS (GA (Gx (Gw (tW ((aI6 T).mono (by decide)) hr rfl T.d67 T.Xo.kp T.d68 .nil aP (gA (pv 1) kA)))) (vL Sx) Gz)
  (kS (qu (pv 0) (pv 1) rfl)
  (kS (SA (i:=2) W3.nd rfl (ao rfl) (zx TX zj (zx GO (Ha (pv 1)) zj)))
  (kS (Cb (Vo (E:=E0) (i:=1) T.Ya ((Ye T).mono (by decide)) hr T.Xi rfl T.yF rfl rfl rfl rfl (gA (pv 0) (gA (pv 2) (gA (Vh rfl rfl T.aM5 hB) kA)))))
  (vL (qu (pv 0) (tW ((aN7 T).mono (by decide)) hr rfl T.d63 T.Xk.kp T.d64 .nil aP (gA (Cm (pv 0) rfl) (gA (Cm (pv 0) rfl) kA))) rfl))))),?_⟩
 refine⟨_,rfl,H,[.int p],λd=>d=.bl true,ah.refl _,.int .nil,⟨p,rfl,by rw[cF6 p hp]⟩,λd v F' H1 A1 hd vh hf he h3 r nd fr=>?_⟩
 subst hd
 cases r
 refine⟨true,rfl,?_⟩
 refine mM ?_
 have e8:=vh.get _ _ hx
 refine⟨.int p,rfl,.ref x,rfl,x,t.aS,dx,_,rfl,e8,T.gG,T.AX,by decide,?_⟩
 generalize e2:upd H1 x (HO.ins t.aS dx (gq "bits" (.int p) []))=H2
 have i8:H2 x=some (.ins t.aS dx [(("bits":Str),.int p)]):=by rw[<-e2,cI];rfl
 have s2:eD x H H2:=by rw[<-e2];exact(vh.x (x:=x)).trans (eD.upd (C:=x) (dx:=dx) e8 rfl)
 have n2:∀p,H2 p=none->H p=none:=λp h=>vh.free (Am e8 (by rw[e2];exact h))
 obtain⟨ps,hP⟩:=tb t.mh (by simp)
 obtain⟨more,Mw⟩:=s2.tb _ ps hP
 have bp:bl p<=7:=VG p hp
 have Ee:1<=bl p:=VH p hp
 refine⟨.int p,rfl,rfl,p,rfl,rfl,_,_,rfl,rfl,_,_,rfl,rfl,?_,?_⟩
 ·have o1:bl (1:Int).natAbs=1:=by decide
  rw[jo]
  exact⟨by omega,by omega⟩
 have em:(1:Int)*2 ^ (((bl ((p:Int)).natAbs:Nat):Int)-1).toNat=((aa (true,p):Nat):Int):=by
  rw[jo,show(((bl p:Nat):Int)-1)=((bl p-1:Nat):Int) by omega,show(1:Int)=((1:Nat):Int) from rfl,vT,Gj];rfl
 show Cd 2 (.int ((1:Int)*2 ^ (((bl ((p:Int)).natAbs:Nat):Int)-1).toNat)) _ _ _
 rw[em]
 refine⟨.ref x,rfl,.int (aa (true,p)),rfl,⟨_,Mw⟩,λf k qn pm jG H3 nf Mx hk kf pX hl3=>?_⟩
 refine⟨f,_,_,.int p,Mx,rfl,rfl,λoc u jq hu nc rV=>?_⟩
 obtain⟨tm,rfl⟩:∃tm,u=p5 p tm:=hu
 have nD:=pX.get _ _ i8
 refine⟨x,dx,f,t.aS,"bits",p,aa (true,p),_,oc,_,k,gm (true,p),fl (true,p),fst (true,p),rfl,An nD (λz=>by rw[z,nf]at i8;cases i8) nc,by decide,⟨T.gG,T.yz,T.AZ,T.ve,T.sM,T.AY,T.yA⟩,VC rV nc hk kf,?_,hF,λH' p1 p2 sx eo Br vP ne Bq vg=>?_⟩
 ·refine Vt (n:=3) ⟨rfl,rfl,rfl,by decide,rfl,rfl,by decide,by decide,rfl⟩ jq (λu1 u2=>rfl) λq f A outer s H E hr=>?_
  refine⟨_,cO (bH (ae (aT (HY ((Yg T).mono (by decide))) hr rfl T.Xl T.L6.kp T.Xm HX (af (ae (aT ((aR5 T).mono (by decide)) hr rfl T.d69 T.Xp.kp T.d70 aP (af (bv 0) (af (bv 1) au)))) (af (bv 2) au)))) (ae aw) (λ_ _=>rfl)),λi j Qd h=>?_⟩
  obtain⟨a,b,rfl,rfl,ha,hb,hq⟩:=h
  walk_at"l3"
  have b1:bl a<=6:=by
   have:bl a<=bl 63:=G9 (by omega)
   exact eH this (by decide)
  have b2:bl b<=6:=by
   have:bl b<=bl 63:=G9 (by omega)
   exact eH this (by decide)
  have p0:p≠0:=by
   intro z
   rw[z]at Ee
   exact absurd Ee (by decide)
  refine⟨a,b,rfl,by omega,by omega,cl a b,p,rfl,eH (cj0 a b) (by omega),by omega,λz=>p0 z,λ_ x r e l=>⟨by simp[D.pl],.int r,rfl,rfl,r,rfl,?_⟩⟩
  have er:gm (true,p) a b=r:=zL e l
  rw[<-er];exact hq
 ·have gf:H' f=some (.ext (jS _ oc _ f)):=sx.get f _ (λz=>by rw[z]at nf;rw[nf]at i8;cases i8) (by rw[bA rV.symm,cI]) rfl
  have gc:=sx.get _ _ (fC nD nc).symm cI rfl
  refine⟨gf,gc,?_⟩
  have s4:=s2.trans (VB pX nf nc sx)
  have f1:=n2 _ (Dg pX Bq)
  have f2:=n2 _ (Dg pX vg)
  have l1:=Br.rem gf gc
  have l2:=vP.rem gf gc
  have sP:rem H' f (s.heap.objs.size+1) x=some (.ins t.aS dx ((iG "bits").zip (De p (aa (true,p)) p1 p2 (fst (true,p))))):=by
   rw[iF (λz=>by rw[z,gf]at eo;cases eo) (λz=>by rw[z,gc]at eo;cases eo)];exact eo
  generalize rem H' f (s.heap.objs.size+1)=H4 at s4 l1 l2 sP
  refine⟨.ref x,rfl,x,t.aS,dx,_,.ref p1,rfl,sP,T.gG,T.ve,rfl,.ref x,rfl,x,t.aS,dx,_,.ref p2,rfl,sP,T.gG,T.sM,rfl,H4,[.lst false (aL (fl (true,p))),.lst false (aL (eP (fl (true,p))))],λd=>d=.lst true (rZ (fl (true,p)) (eP (fl (true,p)))),ah.refl _,.shr l1 (lM _) (.shr l2 (lM _) .nil),
   ⟨_,_,rfl,by have:=hF.len;have:=hF.lo;omega,by have:=hF.len;have:=hF.hi;omega,Ak _ _,VF _ _,rfl⟩,λd v F' H5 A' hd sQ hf he h3 r nd fr=>?_⟩
  subst hd
  obtain⟨p3,rfl⟩:∃p3,v=.ref p3:=by cases r;exact⟨_,rfl⟩
  have nE:=sQ.get _ _ sP
  have nA:∀{a ws},H4 a=some (.lst ws)->a ∉ A':=λ{a ws} e z=>by rw[fr a z]at e;cases e
  refine⟨.ref x,rfl,x,t.aS,dx,_,rfl,nE,T.gG,T.pW,nN (bN 6) (by decide),?_⟩
  refine q _ (De p (aa (true,p)) p1 p2 (fst (true,p))++[.ref p3]) (p1::p2::A') ((s4.trans (sQ.x (x:=x))).trans (eD.upd (C:=x) (dx:=dx) nE rfl)) (by rw[cI];rfl) rfl ?_ ?_ ?_
  ·exact .int (.int (.int (.own ((l1.same sQ).upd nE (λws z=>by cases z)) rfl (lM _) (.own ((l2.same sQ).upd nE (λws z=>by cases z)) rfl (lM _) (.int ((r.Ht (by simp[eT,VE]) (ah.of λb o e=>by cases e)).Al nE (by simp[eT,VE])))))))
  ·exact jk.mpr ⟨by simp[ne];exact nA l1,jk.mpr ⟨nA l2,nd⟩⟩
  ·intro a ha
   rcases cB.mp ha with rfl | ha
   ·exact f1
   ·rcases cB.mp ha with rfl | ha
    ·exact f2
    ·exact s4.free (by rw[sP];simp) (fr a ha)
abbrev aR6(cb cp:Addr):bB:=λds Q=>∃m:Bool × Nat,ds=[dz m]/\m∈aD/\Q (fD cb cp m)
theorem aR7(T:Txt K mg t)(hB:Bm mg base):aQ P w K mg base bf 10 t.J7 t.J8 ["_law_told_here"] (Ac [t.mf,t.mh] (bx (aR6 t.aS t.aW))):=by
 refine Vu T.Xq aQ6 ?_ ?_
 ·intro ds Q h
  obtain⟨m,rfl,hm,q⟩:=h<;>rfl
 ·intro aI A outer s H E hT hr
  refine⟨_,(aB (bW (gu (bH (bv 0) (ae aw) (λ_ _=>rfl))) (aF (aU (Vx hT T.AW ((aM6 T hB).mono (by decide)) hr rfl T.Bl T.aN3 aP (af (bH (bv 0) (ae aw) (λ_ _=>rfl)) au)))) cw)
   (aF (aU (Vx hT T.Bc ((aI4 T hB).mono (by decide)) hr rfl T.Bp T.aK0 aP (af (bH (bv 0) (ae aw) (λ_ _=>rfl)) au))))),λds Q h=>?_⟩
  obtain⟨m,rfl,hm,q⟩:=h
  unfold dz at *
  refine aA λU hU=>?_
  walk_at"l3"
  obtain⟨b,n⟩:=m
  cases b with
  | true =>
   refine⟨_,rfl,true,rfl,?_⟩
   rw[if_pos rfl]
   refine⟨_,rfl,_,_,⟨n,rfl,wD hm,rfl,rfl⟩,?_⟩
   rw[cL6];exact q
  | false =>
   refine⟨_,rfl,false,rfl,?_⟩
   rw[if_neg (by decide)]
   refine hU _ ?_
   walk_at"l3"
   refine⟨_,rfl,_,_,⟨n,rfl,bP7 hm,rfl,rfl⟩,?_⟩
   rw[ch7];exact q
abbrev cg5:bB:=λds Q=>∃T:List (List Nat),ds=[.lst false (aE false T)]/\T.length<=1000/\(∀r∈T,r.length<=1000/\∃x∈r,x≠0)/\Q (.lst true (aq (T.map aR)))
theorem Mz(T:Txt K mg t):aQ P w K mg base bf 1 t.J9 t.Ka ["rows"] (bx (cg5 )):=by
 refine bI T.DV ci1 ?_ ?_
 ·intro ds Q h
  obtain⟨G,rfl,hG,hr,q⟩:=h<;>rfl
 ·intro aI A outer s H E hr
  refine⟨_,(aF (aU (dv [] ["row"] rfl (fU (bv 0)) (λ_ _ _ _=>(cE (i:=0) (show(["row"]:List Str).Nodup by decide +kernel) rfl (ao (lr1 rfl)) (by decide) (aX (lr1 rfl)))) (λ_ _ _ _=>dy) (λ_ _ _ _=>(cO (bH (ae (dv [] ["place","x"] rfl (rP rfl T.sN (af (bv 0) au)) (λ_ _ _ _=>(gw (i1:=0) (i2:=1) rfl (show(["place","x"]:List Str).Nodup by decide +kernel) rfl (ao (lr1 rfl)) rfl (ao (lr1 rfl)) (by decide) (by decide) (aX (lr1 rfl)) (aX (lr1 rfl)))) (λ_ _ _ _=>(uf (bP (jY (du hr)) (bv 1) (ae aw) (bM _)))) (λ_ _ _ _=>(cO (bv 0))) rfl trivial (λ_=>by repeat' (first | exact trivial | refine⟨.inl rfl,?_⟩ | refine⟨.inr (.inl rfl),?_⟩ | refine⟨.inr (.inr ⟨_,rfl⟩),?_⟩)) (λ_=>trivial) rfl (by decide +kernel))) (ae aw) (λ_ _=>rfl)))) rfl trivial (λ_=>by repeat' (first | exact trivial | refine⟨.inl rfl,?_⟩ | refine⟨.inr (.inl rfl),?_⟩ | refine⟨.inr (.inr ⟨_,rfl⟩),?_⟩)) (λ_=>trivial) rfl (by decide +kernel)))),λds Q h=>?_⟩
  obtain⟨G,rfl,hG,hr,q⟩:=h
  walk_at"l3"
  refine dY G (λr=>D.lst false (aq r)) (λr=>D.int (aR r:Nat)) (by rw[dk];rfl) (λa b h=>nq a b h) (λr bg=>?_) (.inr λr _=>rfl) (by rw[sL];omega) ?_
  ·obtain⟨h1,x,hx,h3⟩:=hr r bg
   walk_at"l3"
   refine u7 (aZ r.length) (λ(i:Nat)=>D.tup [.int (i:Int),.int ((r.getD i 0:Nat):Int)]) (λ(i:Nat)=>D.int (i:Int)) (λi=>r.getD i 0 != 0) (V4 r) (λa b h=>by injection h with h;simp at h;omega) (λi hi=>?_) (.inr λ_ _ _=>rfl) (by rw[dD,sL];omega) ?_
   ·walk_at"l3"
    refine⟨?_,λ_=>trivial⟩
    by_cases h0:r.getD i 0=0
    ·rw[h0];rfl
    ·rw[decide_eq_false (by omega),bne_iff_ne.mpr h0];rfl
   ·refine⟨.int (aR r:Nat),L3.Ic (k:=0) ?_,rfl,rfl⟩
    rw[bQ,V5 ⟨x,hx,h3⟩];rfl
  ·rw[cy,cg]at q
   exact q
abbrev aP3:bB:=λds Q=>∃(T:List (List Nat)) (w:Nat),ds=[.lst false (aE false T),.int w]/\T.length<=1000/\w<=1000/\(∀r∈T,r.length<=1000/\∃x∈r,x≠0)/\Q (.lst true (aq (lY T w)))
theorem aP4(T:Txt K mg t):aQ P w K mg base bf 2 t.Kb t.Kd ["rows","width"] (bx (aP3 )):=by
 refine bI T.Xr W4 ?_ ?_
 ·intro ds Q h
  obtain⟨G,w,rfl,hG,hw,hr,q⟩:=h<;>rfl
 ·intro aI A outer s H E hr
  refine⟨_,(aB (aV (i:=2) W4.nd rfl (aX rfl) (aT ((Mz T).mono (by decide)) hr rfl T.L7 T.DV.kp T.L8 aP (af (bv 0) au)))
   (aF (aU (dv [("taken",2)] ["place"] rfl (kG rfl T.iM (af (bv 1) au)) (λ_ _ _ _=>(cE (i:=1) (show(["taken","place"]:List Str).Nodup by decide +kernel) rfl (ao (lr1 rfl)) (by decide) (aX (lr1 rfl)))) (λ_ _ _ _=>(uf (bP V1 (bv 1) (bv 0) (by with_unfolding_all rfl)))) (λ_ _ _ _=>(cO (bv 1))) rfl ⟨rfl,trivial⟩ (λ_=>by repeat' (first | exact trivial | refine⟨.inl rfl,?_⟩ | refine⟨.inr (.inl rfl),?_⟩ | refine⟨.inr (.inr ⟨_,rfl⟩),?_⟩)) (λ_=>⟨⟨rfl,.inl rfl,.inl rfl,_,rfl,rfl⟩,trivial⟩) rfl (by decide +kernel))))),λds Q h=>?_⟩
  obtain⟨G,w,rfl,hG,hw,hr,q⟩:=h
  refine aA λU hU=>?_
  walk_at"l3"
  refine⟨G,rfl,hG,hr,?_⟩
  refine hU _ ?_
  clear hU U
  walk_at"l3"
  refine⟨⟨by omega,by omega⟩,u7 (aZ w) (λ(i:Nat)=>D.int (i:Int)) (λ(i:Nat)=>D.int (i:Int)) (λj=>!(G.map aR).contains j) (si _ rfl) g9 (λj hj=>?_) (.inr λ_ _ _=>rfl) (by rw[dD,sL];omega) ?_⟩
  ·walk_at"l3"
   exact⟨_,rfl,by rw[II],λ_=>trivial⟩
  ·rw[cy]at q
   exact q
abbrev Yh:bB:=λds Q=>∃(d:D) (a b:Nat),ds=[d,.int a,.int b]/\Q (.int (a ^^^ b:Nat))
theorem aK5(T:Txt K mg t):aQ P w K mg base bf 1 t.Ke t.Kf ["self","a","b"] (bx (Yh )):=by
 refine bI T.aL8 aJ6 ?_ ?_
 ·intro ds Q h
  obtain⟨d,a,b,rfl,q⟩:=h<;>rfl
 ·intro aI A outer s H E hr
  refine⟨_,(aF (aU (aG z6 (bv 1) (bv 2)))),λds Q h=>?_⟩
  obtain⟨d,a,b,rfl,q⟩:=h
  walk_at"l3"
  rw[n5];exact q
abbrev Yi(K:Frag):bB:=λds Q=>∃(C:Addr) (p:Nat) (a b:Int),ds=[u0 C p,.int a,.int b]/\eK K C/\cJ K C "prime"/\0<p/\Q (.int ((a-b)%p))
theorem aG3(T:Txt K mg t):aQ P w K mg base bf 1 t.Kg t.Kh ["self","a","b"] (bx (Yi K)):=by
 refine bI T.aH4 aF6 ?_ ?_
 ·intro ds Q h
  obtain⟨C,p,a,b,rfl,hC,hn,hp,q⟩:=h<;>rfl
 ·intro aI A outer s H E hr
  refine⟨_,(aF (aU (aG di (ae (aG gE (bv 1) (bv 2))) (j5 (K:=K) (bv 0))))),λds Q h=>?_⟩
  obtain⟨C,p,a,b,rfl,hC,hn,hp,q⟩:=h
  walk_at"l3"
  refine⟨C,_,_,.int p,rfl,hC,hn,rfl,?_⟩
  exact⟨by omega,q⟩
theorem Yj(T:Txt K mg t){m:Bool × Nat}(h0:0<m.2):∃C ns xs sp,fD t.aS t.aW m=.obj C ns xs/\rW P w K mg base 1 "minus" C sp/\("minus":Str) ∉ ns/\∀(a b:Nat) (Q:D->Prop),Q (.int (gl m a b))->sp [.obj C ns xs,.int a,.int b] Q:=by
 obtain⟨k,n⟩:=m
 cases k with
 | true=>exact⟨_,_,_,Yh,rfl,⟨T.gG,_,_,_,T.A8,aK5 T,T.aL9⟩,by decide,λa b Q q=>⟨_,a,b,rfl,q⟩⟩
 | false=>exact⟨_,_,_,Yi K,rfl,⟨T.ig,_,_,_,T.Bh,aG3 T,T.aH5⟩,by decide,λa b Q q=>⟨_,n,a,b,rfl,T.ig,T.nC,h0,q⟩⟩
abbrev aE2(cb cp:Addr):bB:=λds Q=>∃(m:Bool × Nat) (T:List (List Nat)) (w:Nat),ds=[fD cb cp m,.lst false (aE false T),.int w]/\m∈aD/\T.length<=1000/\w<=1000/\RT (aa m) w T/\(∀r∈T,∃x∈r,x≠0)/\Q (.lst true (aE true (jH m T w)))
theorem aE3(T:Txt K mg t):aQ P w K mg base bf 3 t.Ki t.Kj ["field","rows","width"] (bx (aE2 t.aS t.aW)):=by
 refine bI T.Xs xv ?_ ?_
 ·intro ds Q h
  obtain⟨m,G,wi,rfl,hm,hG,hw,hR,hr,q⟩:=h<;>rfl
 ·intro aI A outer s H E hr
  refine⟨_,(aB (aV (i:=3) xv.nd rfl (ao rfl) (aT ((Mz T).mono (by decide)) hr rfl T.L7 T.DV.kp T.L8 aP (af (bv 1) au)))
   (aB (aV (i:=4) xv.nd rfl (ao rfl) (eN dJ))
   (ot 3 (aB (gv eY rfl (CD (aT ((aP4 T).mono (by decide)) hr rfl T.d75 T.Xr.kp T.d76 aP (af (bv 1) (af (bv 2) au)))) (cE (i:=5) xv.nd rfl (ao rfl))
    (aB (aV (i:=6) xv.nd rfl (ao rfl) (aG iC (ae (eN (e7 aw dJ))) (bv 2)))
    (aB (wk (i:=6) rfl (by first | exact ao rfl | exact aX (ao rfl)) aw (bv 5))
    (aB (gv eY rfl (lV rfl T.mq (af (bv 3) (af (bv 1) au))) (gw (i1:=7) (i2:=8) rfl xv.nd rfl (ao rfl) rfl (ao rfl))
     (aF (wk (i:=6) rfl (by first | exact ao rfl | exact aX (ao rfl)) (r6 (P:=P) (w:=w) (K:=K) (mg:=mg) (base:=base) (n:=1) (bv 0) (hr.mono (by decide)) (af (ae aw) (af (bH (bv 8) (bv 5) (λ_ _=>rfl)) au))) (bv 7))))
    (aF (lL (i:=4) rfl (by first | exact ao rfl | exact aX (ao rfl)) (em 6)))))))
   (aF (aU (em 4))))))),λds Q h=>?_⟩
  obtain⟨m,G,wi,rfl,hm,hG,hw,hR,hr,q⟩:=h
  have m0:=bX m hm
  have dr:=(cF hm).lo
  refine aA λU hU=>?_
  walk_at"l3"
  refine⟨G,rfl,hG,λr bg=>⟨by rw[(hR r bg).1];exact hw,hr r bg⟩,hU _ ?_⟩
  clear hU U
  refine aA λU hU=>?_
  walk_at"l3"
  refine⟨by decide,hU _ ?_⟩
  clear hU U
  refine⟨_,rfl,?_⟩
  rw[iH]
  simp only[gn,gj]
  refine aA λU hU=>?_
  walk_at"l3"
  refine⟨G,wi,rfl,hG,hw,λr bg=>⟨by rw[(hR r bg).1];exact hw,hr r bg⟩,?_⟩
  refine⟨_,rfl,?_⟩
  have hfp:∀j∈lY G wi,j<wi:=λj hj=>cT.mp (nG.mp hj).1
  have lfp:(lY G wi).length<=wi:=by
   have:=BZ (λj=>!(G.map aR).contains j) (aZ wi)
   rw[dD]at this
   exact this
  rw[nh]
  refine fF.mk (λi δ=>∃o1 o2 o3 o4,δ=[some (fD t.aS t.aW m),some (D.lst false (aE false G)),some (D.int wi),some (D.lst false (aq (G.map aR))),some (D.lst true (aE true (((lY G wi).take i).map (jf m G wi)))),o1,o2,o3,o4]) ⟨_,_,_,_,rfl⟩ ?_ ?_
  ·rintro i d δ hd ⟨o1,o2,o3,o4,rfl⟩
   rw[cy,bQ]at hd
   obtain⟨f,hf,rfl⟩:=vw.mp hd
   have hfw:=hfp f (vq hf)
   clear hd
   refine aA λU hU=>?_
   walk_at"l3"
   have er:aL (bG wi 0)=aq (bG wi 0):=by
    rw[cy,Gk];unfold aL;rw[Gk];rfl
   rw[fP,er]
   refine⟨by decide,⟨by omega,by omega,by omega⟩,hU _ ?_⟩
   clear hU
   refine aA λU hU=>?_
   walk_at"l3"
   refine⟨_,f,rfl,?_,?_⟩
   ·rw[As (by omega) (by rw[eA,p9];omega)];rfl
   rw[show(aq (bG wi 0)).set f (D.int 1)=aq ((bG wi 0).set f 1) from Ds _ _ 1]
   refine hU _ ?_
   clear hU
   refine aA λU hU=>?_
   walk_at"l3"
   refine⟨_,_,rfl,rfl,?_⟩
   refine fF.mk (λk δ=>∃o3 o4,δ=[some (fD t.aS t.aW m),some (D.lst false (aE false G)),some (D.int wi),some (D.lst false (aq (G.map aR))),some (D.lst true (aE true (((lY G wi).take i).map (jf m G wi)))),some (D.int f),some (D.lst true (aq ((((G.map aR).zip G).take k).foldl (λx z=>x.set z.1 (bD m 0 (z.2.getD f 0))) ((bG wi 0).set f 1)))),o3,o4]) ⟨_,_,rfl⟩ ?_ ?_
   ·rintro k d δ hd ⟨o3,o4,rfl⟩
    obtain⟨hk,rfl⟩:=V7 hd
    clear hd
    obtain⟨lw,la⟩:=hR _ (cC hk)
    have xl:=IJ (λz:Nat × List Nat=>z.1) (λz=>bD m 0 (z.2.getD f 0)) (((G.map aR).zip G).take k) ((bG wi 0).set f 1)
    rw[nI,p9]at xl
    obtain⟨C,ns,xs,sp,e1,e2,e3,e4⟩:=Yj (P:=P) (w:=w) (base:=base) T m0
    have hld:aR G[k]<wi:=by
     rw[<-lw]
     obtain⟨x,hx,h0⟩:=hr _ (cC hk)
     exact Ga ⟨x,hx,by simpa using h0⟩
    have ga:=fH hm (a:=0) (b:=G[k].getD f 0) (by omega) (la.getD (by omega) f)
    walk_at"l3"
    refine⟨C,ns,xs,sp,e1,e2,e3,.int (G[k].getD f 0:Nat),by rw[i9 (by omega) (by omega),fP],e4 0 (G[k].getD f 0) _ ⟨rfl,_,aR G[k],rfl,?_,_,_,?_,rfl,rfl⟩⟩
    ·rw[As (by omega) (by rw[eA,xl];omega)];rfl
    ·rw[ga.1,Ds,mw,y8]
     have ez:((G.map aR).zip G)[k]?=some (aR G[k],G[k]):=by
      rw[my,mB,bQ,aJ hk];rfl
     rw[ez];rfl
   ·rintro δ ⟨o3,o4,rfl⟩
    refine hU _ ?_
    walk_at"l3"
    refine⟨⟨_,rfl⟩,by rw[bt,ij];omega,_,_,_,_,?_,rfl,rfl,rfl,rfl⟩
    rw[show((G.map aR).zip G).take (dj (aq (G.map aR)) (aE false G)).length=(G.map aR).zip G from tE (by unfold dj;rw[ql,iq,eA,jc];exact bN _),mw,hf,gi]
    exact sq true _ [jf m G wi f]
  ·rintro δ ⟨o1,o2,o3,o4,rfl⟩
   refine hU _ ?_
   walk_at"l3"
   rw[tD]
   exact q
abbrev aW7:bB:=λds Q=>∃T:List (List Nat),ds=[.lst false (aE false T)]/\T.length<=1000/\(∀r∈T,r.length<=1000)/\Q (.int (ag T:Nat))
theorem Bt(T:Txt K mg t):aQ P w K mg base bf 1 t.Kk t.Kl ["table"] (bx (aW7 )):=by
 refine bI T.yy aV9 ?_ ?_
 ·intro ds Q h
  obtain⟨G,rfl,hG,hr,q⟩:=h<;>rfl
 ·intro aI A outer s H E hr
  refine⟨_,(aF (aU (CA (bP (jY (du hr)) (bv 0) (ae (eN dJ)) (bM _)) (dR (fX) (by rfl) T.fZ fR (af (bH (bv 0) (ae aw) (λ_ _=>rfl)) au)) aw))),λds Q h=>?_⟩
  obtain⟨G,rfl,hG,hr,q⟩:=h
  walk_at"l3"
  refine⟨by decide,⟨IF 4 _ _ _,rfl⟩,?_⟩
  rw[show(D.lst true ([]:List D))=D.lst true (aE true []) from rfl,V3]
  cases G with
  | nil=>rw[if_neg (by simp)];exact q
  | cons r G =>
   rw[if_pos (by simp)]
   refine⟨.lst false (aq r),sr false (T:=r::G) (i:=0) (Sj _),?_⟩
   show Q (D.int ((aq r).length:Nat))
   rw[eA];exact q
abbrev aR8:bB:=λds Q=>∃(T:List (List Nat)) (j:Nat),ds=[.lst false (aE false T),.int j]/\T.length<=1000/\(∀r∈T,j<r.length)/\Q (match j8 T j with | some i=>.int (i:Nat) | none=>.ay)
theorem aR9(T:Txt K mg t):aQ P w K mg base bf 1 t.Km t.Kn ["rows","place"] (bx (aR8 )):=by
 refine bI T.Xt W5 ?_ ?_
 ·intro ds Q h
  obtain⟨G,j,rfl,hG,hr,q⟩:=h<;>rfl
 ·intro aI A outer s H E hr
  refine⟨_,(aB (gv eY rfl (rP rfl T.sN (af (bv 0) au)) (gw (i1:=2) (i2:=3) rfl W5.nd rfl (ao rfl) rfl (ao rfl))
    (aF (bW (bP (jY (du hr)) (bH (bv 3) (bv 1) (λ_ _=>rfl)) (ae aw) (bM _)) (aF (aU (em 2))) cw)))
   (aF (aU fE))),λds Q h=>?_⟩
  obtain⟨G,j,rfl,hG,hr,q⟩:=h
  refine aA λU hU=>?_
  walk_at"l3"
  refine fF.mk (λi δ=>∃o1 o2,δ=[some (D.lst false (aE false G)),some (D.int j),o1,o2]/\∀k,k<i->(G.getD k []).getD j 0=0) ⟨_,_,rfl,λk hk=>absurd hk (Gg k)⟩ ?_ ?_
  ·rintro i d δ hd ⟨o1,o2,rfl,hz⟩
   obtain⟨hi,rfl⟩:=IG hd
   have hj:=hr _ (cC hi)
   have eg:G.getD i []=G[i]:=by rw[aK,aJ hi];rfl
   walk_at"l3"
   refine⟨.int (G[i].getD j 0:Nat),by rw[i9 (by omega) (by omega),fP],rfl,?_⟩
   rw[lR]
   by_cases h0:G[i].getD j 0=0
   ·rw[if_neg (by rw[h0];decide)]
    refine⟨_,_,⟨rfl,rfl⟩,λk hk=>?_⟩
    by_cases e:k=i
    ·rw[e,eg];exact h0
    ·exact hz k (by omega)
   ·rw[if_pos (by rw[decide_eq_false (by omega)];rfl)]
    have ef:j8 G j=some i:=by
     unfold j8
     rw[de3]
     refine⟨hi,by simpa using h0,λk hk=>?_⟩
     have:=hz k hk
     rw[aK (l:=G),aJ (by omega)]at this
     simpa using this
    rw[ef]at q
    exact q
  ·rintro δ ⟨o1,o2,rfl,hz⟩
   refine hU _ ?_
   walk_at"l3"
   have ef:j8 G j=none:=by
    unfold j8
    rw[de4]
    intro r bg
    obtain⟨i,hi,rfl⟩:=gy bg
    have:=hz i (by rw[oU,jc];exact hi)
    rw[aK (l:=G),aJ hi]at this
    simpa using this
   rw[ef]at q
   exact q
abbrev Yk(K:Frag):bB:=λds Q=>∃(C:Addr) (p a:Nat) (xs:List Nat),ds=[u3 C p,.int a,.lst false (aq xs)]/\eK K C/\cJ K C "products"/\p∈gJ/\a<aa (true,p)/\(∀y∈xs,y<aa (true,p))/\xs.length<=1000/\Q (.lst true (aq (xs.map (gm (true,p) a))))
theorem aI7(T:Txt K mg t):aQ P w K mg base bf 1 t.Ko t.Kp ["self","a","row"] (bx (Yk K)):=by
 refine bI T.aK1 W6 ?_ ?_
 ·intro ds Q h
  obtain⟨C,p,a,xs,rfl,hC,hn,hp,ha,hy,hl,q⟩:=h<;>rfl
 ·intro aI A outer s H E hr
  refine⟨_,(aB (aV (i:=3) W6.nd rfl (aX rfl) (cO (bH (j5 (K:=K) (bv 0)) (bv 1) (λ_ _=>rfl))))
   (aF (aU (dv [("by_a",3)] ["x"] rfl (fU (bv 2)) (λ_ _ _ _=>(cE (i:=1) (show(["by_a","x"]:List Str).Nodup by decide +kernel) rfl (ao (lr1 rfl)) (by decide) (aX (lr1 rfl)))) (λ_ _ _ _=>dy) (λ_ _ _ _=>(cO (bH (bv 0) (bv 1) (λ_ _=>rfl)))) rfl ⟨rfl,trivial⟩ (λ_=>by repeat' (first | exact trivial | refine⟨.inl rfl,?_⟩ | refine⟨.inr (.inl rfl),?_⟩ | refine⟨.inr (.inr ⟨_,rfl⟩),?_⟩)) (λ_=>⟨⟨rfl,.inl rfl,.inl rfl,_,rfl,rfl⟩,trivial⟩) rfl (by decide +kernel))))),λds Q h=>?_⟩
  obtain⟨C,p,a,xs,rfl,hC,hn,hp,ha,hy,hl,q⟩:=h
  refine aA λU hU=>?_
  walk_at"l3"
  refine⟨C,_,_,_,rfl,hC,hn,rfl,_,Dm hp ha,?_⟩
  refine⟨by rw[fj,lQ];rfl,hU _ ?_⟩
  clear hU U
  walk_at"l3"
  refine dY xs (λ(i:Nat)=>D.int (i:Int)) (λx=>D.int ((gm (true,p) a x:Nat):Int)) (m9 xs) g9 (λx hx=>?_) (.inr λ_ _=>rfl) (by rw[sL];omega) ?_
  ·walk_at"l3"
   exact⟨_,Dk hp ha (hy x hx),rfl,rfl⟩
  ·rw[cy,cg]at q
   exact q
abbrev Yl(K:Frag):bB:=λds Q=>∃(C:Addr) (p a:Nat) (xs:List Nat),ds=[u0 C p,.int a,.lst false (aq xs)]/\eK K C/\cJ K C "prime"/\0<p/\a<64/\(∀y∈xs,y<64)/\xs.length<=1000/\Q (.lst true (aq (xs.map (gm (false,p) a))))
theorem aE4(T:Txt K mg t):aQ P w K mg base bf 1 t.Kq t.Kr ["self","a","row"] (bx (Yl K)):=by
 refine bI T.aF9 W7 ?_ ?_
 ·intro ds Q h
  obtain⟨C,p,a,xs,rfl,hC,hn,hp,ha,hy,hl,q⟩:=h<;>rfl
 ·intro aI A outer s H E hr
  refine⟨_,(aB (aV (i:=3) W7.nd rfl (aX rfl) (cO (j5 (K:=K) (bv 0))))
   (aF (aU (dv [("prime",3),("a",1)] ["x"] rfl (fU (bv 2)) (λ_ _ _ _=>(cE (i:=2) (show(["prime","a","x"]:List Str).Nodup by decide +kernel) rfl (ao (lr1 rfl)) (by decide) (aX (lr1 rfl)))) (λ_ _ _ _=>dy) (λ_ _ _ _=>(aG di (ae (aG iC (bv 1) (bv 2))) (bv 0))) rfl ⟨rfl,⟨rfl,trivial⟩⟩ (λ_=>by repeat' (first | exact trivial | refine⟨.inl rfl,?_⟩ | refine⟨.inr (.inl rfl),?_⟩ | refine⟨.inr (.inr ⟨_,rfl⟩),?_⟩)) (λ_=>⟨⟨rfl,.inl rfl,.inl rfl,_,rfl,rfl⟩,⟨⟨rfl,.inl rfl,.inl rfl,_,rfl,rfl⟩,trivial⟩⟩) rfl (by decide +kernel))))),λds Q h=>?_⟩
  obtain⟨C,p,a,xs,rfl,hC,hn,hp,ha,hy,hl,q⟩:=h
  refine aA λU hU=>?_
  walk_at"l3"
  refine⟨C,_,_,.int p,rfl,hC,hn,rfl,rfl,hU _ ?_⟩
  clear hU U
  walk_at"l3"
  refine dY xs (λ(i:Nat)=>D.int (i:Int)) (λx=>D.int ((gm (false,p) a x:Nat):Int)) (m9 xs) g9 (λx hx=>?_) (.inr λ_ _=>rfl) (by rw[sL];omega) ?_
  ·have h2:=hy x hx
   walk_at"l3"
   refine⟨jt.ok (.inr ⟨by omega,by omega⟩),by omega,?_⟩
   show _=((a*x%p:Nat):Int)
   rw[qk,vy]
  ·rw[cy,cg]at q
   exact q
theorem ci8(T:Txt K mg t){m:Bool × Nat}(hm:m∈aD):∃C ns zs sp,fD t.aS t.aW m=.obj C ns zs/\rW P w K mg base 1 "scaled" C sp/\("scaled":Str) ∉ ns/\∀(xs:List Nat) (a:Nat) (Q:D->Prop),a<aa m->(∀y∈xs,y<aa m)->xs.length<=1000->Q (.lst true (aq (xs.map (gm m a))))->sp [.obj C ns zs,.int a,.lst false (aq xs)] Q:=by
 have hF:=cF hm
 obtain⟨k,n⟩:=m
 cases k with
 | true=>exact⟨_,_,_,Yk K,rfl,⟨T.gG,_,_,_,T.Ba,aI7 T,T.aK2⟩,by decide,λxs a Q ha hy hl q=>⟨_,n,a,xs,rfl,T.gG,T.pW,wD hm,ha,hy,hl,q⟩⟩
 | false =>
  have kL:n<=64:=hF.hi
  have l2:2<=n:=hF.lo
  exact⟨_,_,_,Yl K,rfl,⟨T.ig,_,_,_,T.Bj,aE4 T,T.aG0⟩,by decide,λxs a Q ha hy hl q=>⟨_,n,a,xs,rfl,T.ig,T.nC,by omega,dB (show a<n from ha) kL,λy h=>dB (show y<n from hy y h) kL,hl,q⟩⟩
abbrev Ym(K:Frag):bB:=λds Q=>∃(C:Addr) (p a:Nat) (xs ys:List Nat),ds=[u3 C p,.lst false (aq xs),.int a,.lst false (aq ys)]/\eK K C/\cJ K C "products"/\p∈gJ/\a<aa (true,p)/\(∀y∈ys,y<aa (true,p))/\xs.length<=1000/\Q (.lst true (aq (da (λx y=>bD (true,p) x (gm (true,p) a y)) xs ys)))
theorem aE5(T:Txt K mg t):aQ P w K mg base bf 1 t.Ks t.Kt ["self","row","a","other"] (bx (Ym K)):=by
 refine bI T.aG1 W8 ?_ ?_
 ·intro ds Q h
  obtain⟨C,p,a,xs,ys,rfl,hC,hn,hp,ha,hy,hl,q⟩:=h<;>rfl
 ·intro aI A outer s H E hr
  refine⟨_,(aB (aV (i:=4) W8.nd rfl (aX rfl) (cO (bH (j5 (K:=K) (bv 0)) (bv 2) (λ_ _=>rfl))))
   (aF (aU (dv [("by_a",4)] ["x","y"] rfl (lV rfl T.mq (af (bv 1) (af (bv 3) au))) (λ_ _ _ _=>(gw (i1:=1) (i2:=2) rfl (show(["by_a","x","y"]:List Str).Nodup by decide +kernel) rfl (ao (lr1 rfl)) rfl (ao (lr1 rfl)) (by decide) (by decide) (aX (lr1 rfl)) (aX (lr1 rfl)))) (λ_ _ _ _=>dy) (λ_ _ _ _=>(aG z6 (bv 1) (bH (bv 0) (bv 2) (λ_ _=>rfl)))) rfl ⟨rfl,trivial⟩ (λ_=>by repeat' (first | exact trivial | refine⟨.inl rfl,?_⟩ | refine⟨.inr (.inl rfl),?_⟩ | refine⟨.inr (.inr ⟨_,rfl⟩),?_⟩)) (λ_=>⟨⟨rfl,.inl rfl,.inl rfl,_,rfl,rfl⟩,trivial⟩) rfl (by decide +kernel))))),λds Q h=>?_⟩
  obtain⟨C,p,a,xs,ys,rfl,hC,hn,hp,ha,hy,hl,q⟩:=h
  refine aA λU hU=>?_
  walk_at"l3"
  refine⟨C,_,_,_,rfl,hC,hn,rfl,_,Dm hp ha,?_⟩
  refine⟨by rw[fj,lQ];rfl,hU _ ?_⟩
  clear hU U
  walk_at"l3"
  refine⟨_,_,rfl,rfl,IC (λx y=>bD (true,p) x (gm (true,p) a y)) (λx hx y yG=>?_) (by omega) q⟩
  walk_at"l3"
  refine⟨_,Dk hp ha (hy y yG),?_⟩
  show p8 (x:Int) ((gm (true,p) a y:Nat):Int)=_
  rw[n5];rfl
abbrev Yn(K:Frag):bB:=λds Q=>∃(C:Addr) (p a:Nat) (xs ys:List Nat),ds=[u0 C p,.lst false (aq xs),.int a,.lst false (aq ys)]/\eK K C/\cJ K C "prime"/\0<p/\a<64/\(∀y∈ys,y<64)/\xs.length<=1000/\Q (.lst true (aq (da (λx y=>bD (false,p) x (gm (false,p) a y)) xs ys)))
theorem aB8(T:Txt K mg t):aQ P w K mg base bf 1 t.Ku t.Kv ["self","row","a","other"] (bx (Yn K)):=by
 refine bI T.aD1 W9 ?_ ?_
 ·intro ds Q h
  obtain⟨C,p,a,xs,ys,rfl,hC,hn,hp,ha,hy,hl,q⟩:=h<;>rfl
 ·intro aI A outer s H E hr
  refine⟨_,(aB (aV (i:=4) W9.nd rfl (aX rfl) (cO (j5 (K:=K) (bv 0))))
   (aF (aU (dv [("prime",4),("a",2)] ["x","y"] rfl (lV rfl T.mq (af (bv 1) (af (bv 3) au))) (λ_ _ _ _=>(gw (i1:=2) (i2:=3) rfl (show(["prime","a","x","y"]:List Str).Nodup by decide +kernel) rfl (ao (lr1 rfl)) rfl (ao (lr1 rfl)) (by decide) (by decide) (aX (lr1 rfl)) (aX (lr1 rfl)))) (λ_ _ _ _=>dy) (λ_ _ _ _=>(aG di (ae (aG gE (bv 2) (ae (aG iC (bv 1) (bv 3))))) (bv 0))) rfl ⟨rfl,⟨rfl,trivial⟩⟩ (λ_=>by repeat' (first | exact trivial | refine⟨.inl rfl,?_⟩ | refine⟨.inr (.inl rfl),?_⟩ | refine⟨.inr (.inr ⟨_,rfl⟩),?_⟩)) (λ_=>⟨⟨rfl,.inl rfl,.inl rfl,_,rfl,rfl⟩,⟨⟨rfl,.inl rfl,.inl rfl,_,rfl,rfl⟩,trivial⟩⟩) rfl (by decide +kernel))))),λds Q h=>?_⟩
  obtain⟨C,p,a,xs,ys,rfl,hC,hn,hp,ha,hy,hl,q⟩:=h
  refine aA λU hU=>?_
  walk_at"l3"
  refine⟨C,_,_,.int p,rfl,hC,hn,rfl,rfl,hU _ ?_⟩
  clear hU U
  walk_at"l3"
  refine⟨_,_,rfl,rfl,IC (λx y=>bD (false,p) x (gm (false,p) a y)) (λx hx y yG=>?_) (by omega) q⟩
  have h2:=hy y yG
  walk_at"l3"
  refine⟨jt.ok (.inr ⟨by omega,by omega⟩),by omega,?_⟩
  have e:((x:Int)-((a*y%p:Nat):Int))%(p:Int)=((x:Int)-(a:Int)*y)%p:=by
   rw[qk,vy,Int.sub_emod,Int.emod_emod,<- Int.sub_emod]
  show _=(((((x:Int)-((a*y%p:Nat):Int))%(p:Int)).toNat:Nat):Int)
  rw[e,tI (jm _ (by omega))]
theorem Yo(T:Txt K mg t){m:Bool × Nat}(hm:m∈aD):∃C ns zs sp,fD t.aS t.aW m=.obj C ns zs/\rW P w K mg base 1 "lessened" C sp/\("lessened":Str) ∉ ns/\∀(xs ys:List Nat) (a:Nat) (Q:D->Prop),a<aa m->(∀y∈ys,y<aa m)->xs.length<=1000->Q (.lst true (aq (da (λx y=>bD m x (gm m a y)) xs ys)))->sp [.obj C ns zs,.lst false (aq xs),.int a,.lst false (aq ys)] Q:=by
 have hF:=cF hm
 obtain⟨k,n⟩:=m
 cases k with
 | true=>exact⟨_,_,_,Ym K,rfl,⟨T.gG,_,_,_,T.A7,aE5 T,T.aG2⟩,by decide,λxs ys a Q ha hy hl q=>⟨_,n,a,xs,ys,rfl,T.gG,T.pW,wD hm,ha,hy,hl,q⟩⟩
 | false =>
  have kL:n<=64:=hF.hi
  have l2:2<=n:=hF.lo
  exact⟨_,_,_,Yn K,rfl,⟨T.ig,_,_,_,T.Bg,aB8 T,T.aD2⟩,by decide,λxs ys a Q ha hy hl q=>⟨_,n,a,xs,ys,rfl,T.ig,T.nC,by omega,dB (show a<n from ha) kL,λy h=>dB (show y<n from hy y h) kL,hl,q⟩⟩
abbrev aX9(cb cp:Addr):bB:=λds Q=>∃(m:Bool × Nat) (T:List (List Nat)) (l:List Nat) (j:Nat),ds=[fD cb cp m,.lst false (aE false T),.lst false (aq l),.int j]/\m∈aD/\T.length<=1000/\AllLt (aa m) l/\(∀r∈T,j<r.length/\r.length<=1000/\AllLt (aa m) r)/\Q (.lst true (aE true (T.map λr=>da (λx y=>bD m x (gm m (r.getD j 0) y)) r l)))
theorem Yp(T:Txt K mg t):aQ P w K mg base bf 2 t.Kw t.Kx ["field","rows","lead_row","place"] (bx (aX9 t.aS t.aW)):=by
 refine bI T.L9 aX4 ?_ ?_
 ·intro ds Q h
  obtain⟨m,G,l,j,rfl,hm,hG,hl,hr,q⟩:=h<;>rfl
 ·intro aI A outer s H E hr
  refine⟨_,(aF (aU (dv [("lead_row",2),("field",0),("place",3)] ["row"] rfl (fU (bv 1)) (λ_ _ _ _=>(cE (i:=3) (show(["lead_row","field","place","row"]:List Str).Nodup by decide +kernel) rfl (ao (lr1 rfl)) (by decide) (aX (lr1 rfl)))) (λ_ _ _ _=>dy) (λ_ _ _ _=>(r6 (P:=P) (w:=w) (K:=K) (mg:=mg) (base:=base) (n:=1) (bv 1) (hr.mono (by decide)) (af (bv 3) (af (bH (bv 3) (bv 2) (λ_ _=>rfl)) (af (bv 0) au))))) rfl ⟨rfl,⟨rfl,⟨rfl,trivial⟩⟩⟩ (λ_=>by repeat' (first | exact trivial | refine⟨.inl rfl,?_⟩ | refine⟨.inr (.inl rfl),?_⟩ | refine⟨.inr (.inr ⟨_,rfl⟩),?_⟩)) (λ_=>⟨⟨rfl,.inl rfl,.inl rfl,_,rfl,rfl⟩,⟨⟨rfl,.inl rfl,.inl rfl,_,rfl,rfl⟩,⟨⟨rfl,.inl rfl,.inl rfl,_,rfl,rfl⟩,trivial⟩⟩⟩) rfl (by decide +kernel)))),λds Q h=>?_⟩
  obtain⟨m,G,l,j,rfl,hm,hG,hl,hr,q⟩:=h
  walk_at"l3"
  refine dY G (λr=>D.lst false (aq r)) (λr=>D.lst true (aq (da (λx y=>bD m x (gm m (r.getD j 0) y)) r l))) (by rw[dk];rfl) (λa b h=>nq a b h) (λr bg=>?_) (.inr λr _=>gK _) (by rw[sL];omega) ?_
  ·obtain⟨h1,h2,h3⟩:=hr r bg
   obtain⟨C,ns,zs,sp,e1,e2,e3,e4⟩:=Yo (P:=P) (w:=w) (base:=base) T hm
   walk_at"l3"
   refine⟨C,ns,zs,sp,e1,e2,e3,.int (r.getD j 0:Nat),by rw[i9 (by omega) (by omega),fP],e4 _ _ _ _ (h3.getD (by have:=(cF hm).lo;omega) j) hl h2 ⟨rfl,rfl⟩⟩
  ·rw[aE,cg]at q
   exact q
abbrev Yq(t:gC)(P:Program)(w:World)(K:Frag)(mg:Str->Option Value)(base:Heap):rJ:=λds Q Ex=>∃(m:Bool × Nat) (a b:Nat),ds=[fD t.aS t.aW m,.int a,.int b]/\m∈aD/\a<aa m/\b<aa m/\(b=0->Ex t.iL)/\(b≠0->∀r:Nat,r<aa m->gm m r b=a->Q (.int (r:Nat)))
theorem Yr(T:Txt K mg t):aQ P w K mg base (oh P w) 2 t.DU t.Ky ["self","a","b"] (Aa (Yq t P w K mg base)):=by
 refine UT T.aT4 aQ7 ?_ ?_
 ·intro ds Q Ex h
  obtain⟨m,a,b,rfl,hm,ha,hb,qx,q⟩:=h<;>rfl
 ·intro aI A outer s H E hr
  refine⟨_,(aB (bW (bP (fW (du hr)) (bv 2) (ae aw) (bM _)) (aF (UY T.Yc rfl (by rfl) (af (ae Uh) au))) cw)
   (aB (bW (bP (fW (du hr)) (bv 1) (ae aw) (bM _)) (aF (aU aw)) cw)
   (aF (aU (r6 (P:=P) (w:=w) (K:=K) (mg:=mg) (base:=base) (n:=1) (bv 0) (hr.mono (by decide)) (af (ae (aG gE (bH (j5 (K:=K) (bv 0)) (bv 1) (λ_ _=>rfl)) (bH (j5 (K:=K) (bv 0)) (bv 2) (λ_ _=>rfl)))) au)))))),λds Q Ex h=>?_⟩
  obtain⟨m,a,b,rfl,hm,ha,hb,qx,q⟩:=h
  refine aA λU hU=>?_
  walk_at"l3"
  split
  ·rename_i h0
   exact⟨by decide,qx (by omega)⟩
  ·rename_i h0
   have b0:b≠0:=by omega
   refine hU _ ?_
   clear hU U
   refine aA λU hU=>?_
   walk_at"l3"
   split
   ·rename_i h1
    have a0:a=0:=by omega
    subst a0
    exact q b0 0 ha (eU m b (bX m hm))
   ·rename_i h1
    have a0:a≠0:=by omega
    refine hU _ ?_
    clear hU U
    have hF:=cF hm
    obtain⟨r,e,u9,hr2⟩:=VS hm (show 1<=a by omega) ha (show 1<=b by omega) hb
    have qr:=q b0 r u9 hr2
    obtain⟨k,n⟩:=m
    cases k with
    | true =>
     walk_at"l3"
     have ll:(eP (fl (true,n))).length=aa (true,n):=(Ak _ _).trans hF.len
     have n0:=jm (lg (true,n) a-lg (true,n) b) (show(aa (true,n):Int)-1≠0 by have:=hF.lo;omega)
     have n1:=jn (lg (true,n) a-lg (true,n) b) (show(0:Int)<(aa (true,n):Int)-1 by have:=hF.lo;omega)
     refine⟨_,_,_,Ms K,rfl,⟨T.gG,_,_,_,T.yA,Mt T,T.L5⟩,by decide,_,_,_,_,rfl,T.gG,T.sM,rfl,_,m8 (by omega) (by rw[ll];omega),_,_,_,_,rfl,T.gG,T.sM,rfl,_,m8 (by omega) (by rw[ll];omega),?_⟩
     refine⟨_,_,_,_,aa (true,n),fl (true,n),r,rfl,T.gG,T.ve,T.yz,rfl,rfl,hF.lo,?_,qr⟩
     have hk:((lg (true,n) a-lg (true,n) b)%((aa (true,n):Int)-1)).toNat<(fl (true,n)).length:=by have:=hF.len;omega
     show(fl (true,n))[((lg (true,n) a-lg (true,n) b)%((aa (true,n):Int)-1)).toNat]?=some (r:Int)
     rw[<-e]
     unfold pw
     rw[aK,aJ hk];rfl
    | false =>
     walk_at"l3"
     have ll:(eP (fl (false,n))).length=aa (false,n):=(Ak _ _).trans hF.len
     have n0:=jm (lg (false,n) a-lg (false,n) b) (show(aa (false,n):Int)-1≠0 by have:=hF.lo;omega)
     have n1:=jn (lg (false,n) a-lg (false,n) b) (show(0:Int)<(aa (false,n):Int)-1 by have:=hF.lo;omega)
     refine⟨_,_,_,Ms K,rfl,⟨T.ig,_,_,_,T.yD,Mt T,T.L5⟩,by decide,_,_,_,_,rfl,T.ig,T.vf,rfl,_,m8 (by omega) (by rw[ll];omega),_,_,_,_,rfl,T.ig,T.vf,rfl,_,m8 (by omega) (by rw[ll];omega),?_⟩
     refine⟨_,_,_,_,aa (false,n),fl (false,n),r,rfl,T.ig,T.yC,T.yB,rfl,rfl,hF.lo,?_,qr⟩
     have hk:((lg (false,n) a-lg (false,n) b)%((aa (false,n):Int)-1)).toNat<(fl (false,n)).length:=by have:=hF.len;omega
     show(fl (false,n))[((lg (false,n) a-lg (false,n) b)%((aa (false,n):Int)-1)).toNat]?=some (r:Int)
     rw[<-e]
     unfold pw
     rw[aK,aJ hk];rfl
theorem Ys(T:Txt K mg t)(m:Bool × Nat):Dn P w K mg base 2 "over" (if m.1 then t.aS else t.aW) (Yq t P w K mg base):=by
 obtain⟨k,n⟩:=m
 cases k with
 | true=>exact⟨T.gG,_,_,_,T.A9,Yr T,T.Xw⟩
 | false=>exact⟨T.ig,_,_,_,T.Bi,Yr T,T.Xw⟩
abbrev aY0(t:gC)(P:Program)(w:World)(K:Frag)(mg:Str->Option Value)(base:Heap):bB:=λds Q=>∃(m:Bool × Nat) (G:List (List Nat)),ds=[fD t.aS t.aW m,.lst false (aE false G)]/\m∈aD/\G.length<=900/\RT (aa m) (ag G) G/\ag G<=900/\Q (.lst true (aE true (cH m G)))
theorem Yt(T:Txt K mg t):aQ P w K mg base bf 3 t.Kz t.KA ["field","table"] (bx (aY0 t P w K mg base)):=by
 refine bI T.Ma sF ?_ ?_
 ·intro ds Q h
  obtain⟨m,G,rfl,hm,hG,hR,hw,q⟩:=h<;>rfl
 ·intro aI A outer s H E hr
  refine⟨_,(aB (aV (i:=2) sF.nd rfl (ao rfl) (eN dJ))
   (aB (aV (i:=3) sF.nd rfl (ao rfl) (cO (bv 1)))
   (aB (gv eY rfl (kG rfl T.iM (af (ae (aT ((Bt T).mono (by decide)) hr rfl T.AR T.yy.kp T.AS aP (af (bv 1) au))) au)) (cE (i:=4) sF.nd rfl (ao rfl))
    (ot 3 (aB (aV (i:=5) sF.nd rfl (ao rfl) (aT ((aR9 T).mono (by decide)) hr rfl T.d83 T.Xt.kp T.d84 aP (af (bv 3) (af (bv 4) au))))
    (aF (bW (bP HG (bv 5) (ae fE) (bM _)) (aB (aV (i:=6) sF.nd rfl (ao rfl) (r6 (P:=P) (w:=w) (K:=K) (mg:=mg) (base:=base) (n:=1) (bv 0) (hr.mono (by decide)) (af (ae (VT (P:=P) (w:=w) (K:=K) (mg:=mg) (base:=base) (n:=2) (bv 0) (hr.mono (by decide)) (af (ae aw) (af (bH (bH (bv 3) (bv 5) (λ_ _=>rfl)) (bv 4) (λ_ _=>rfl)) au)))) (af (bH (bv 3) (bv 5) (λ_ _=>rfl)) au))))
     (aB (aV (i:=3) sF.nd rfl (ao rfl) (aT ((Yp T).mono (by decide)) hr rfl T.Xu T.L9.kp T.Xv aP (af (bv 0) (af (ae (aG cR (ae (uV (bv 3) ui (uj (bv 5)))) (ae (uV (bv 3) (uj (ae (aG cR (bv 5) (ae aw)))) ui)))) (af (bv 6) (af (bv 4) au))))))
     (aF (aV (i:=2) sF.nd rfl (ao rfl) (VZ (aT ((Yp T).mono (by decide)) hr rfl T.Xu T.L9.kp T.Xv aP (af (bv 0) (af (bv 2) (af (bv 6) (af (bv 4) au))))) (eN (e7 (em 6) dJ))))))) cw)))))
   (aF (aU (em 2)))))),λds Q h=>?_⟩
  obtain⟨m,G,rfl,hm,hG,hR,hw,q⟩:=h
  have dr:=(cF hm).lo
  refine aA λU hU=>?_
  walk_at"l3"
  refine⟨by decide,hU _ ?_⟩
  clear hU U
  refine aA λU hU=>?_
  walk_at"l3"
  refine hU _ ?_
  clear hU U
  refine aA λU hU=>?_
  walk_at"l3"
  refine⟨G,rfl,by omega,λr bg=>?_,?_⟩
  ·rw[(hR r bg).1];omega
  refine⟨_,rfl,⟨by omega,by omega⟩,?_⟩
  refine HV (λk δ=>∃(o:Bool) (o1 o2 o3:Option D),δ=[some (fD t.aS t.aW m),some (D.lst false (aE false G)),some (D.lst true (aE true (je m G k).1)),some (D.lst o (aE o (je m G k).2)),o1,o2,o3]) ⟨false,none,none,none,rfl⟩ ?_ ?_
  ·rintro k δ hk ⟨o,o1,o2,o3,rfl⟩
   have I:=wG hm hR k
   rw[IH]
   generalize je m G k=s at I ⊢
   simp only[gN,oq,gn,gj,nU,nS,tK,exists_eq_left',df,dk]
   clear hU
   have il:=I.l
   refine aA λU hU=>?_
   walk_at"l3"
   refine⟨s.2,k,rfl,by omega,λr bg=>by rw[(I.b r bg).1];omega,?_⟩
   cases e:j8 s.2 k with
   | none =>
    rw[show iJ m s k=s by unfold iJ;rw[e]]at hU
    refine hU _ ?_
    walk_at"l3"
    exact⟨false,_,_,_,⟨rfl,rfl⟩,rfl,rfl,rfl⟩
   | some i =>
    obtain⟨hi,h1,h2⟩:=Dw e
    have er:iJ m s k=(gM m s.1 (eE m s.2 i k) k++[eE m s.2 i k],gM m (s.2.take i++s.2.drop (i+1)) (eE m s.2 i k) k):=by unfold iJ;rw[e]
    rw[er]at hU
    refine hU _ ?_
    clear hU
    walk_at"l3"
    obtain⟨C,ns,xs,sp,e1,e2,e3,e4⟩:=ci8 (P:=P) (w:=w) (base:=base) T hm
    refine aA λU hU=>?_
    walk_at"l3"
    obtain⟨lw,lr⟩:=I.b _ (cC hi)
    have bk:=lr.getD (show 0<aa m by omega) k
    refine⟨C,ns,xs,sp,e1,e2,e3,_,_,_,_,wF _ _ m,Ys T m,VU m _ (by decide),.lst false (aq s.2[i]),sr false hi,?_⟩
    dsimp only
    refine⟨.int (s.2[i].getD k 0:Nat),by rw[i9 (by omega) (by omega),fP],m,1,s.2[i].getD k 0,by rw[wF];rfl,hm,dr,bk,λz=>absurd z h1,λ_ f hf hfo=>⟨rfl,.lst false (aq s.2[i]),sr false hi,?_⟩⟩
    have ef:nB m (s.2[i].getD k 0)=f:=Dv hm hf hfo
    rw[iH]
    refine e4 _ _ _ hf lr (by omega) ⟨by rw[gK,gz],hU _ ?_⟩
    have el:s.2[i].map (gm m f)=eE m s.2 i k:=by unfold eE;rw[h2,ef]
    rw[el]
    have ll:(eE m s.2 i k).length=ag G:=by rw[<-el,bt];exact lw
    have la:AllLt (aa m) (eE m s.2 i k):=λx hx=>by
     rw[<-el]at hx
     obtain⟨y,_,rfl⟩:=bF.mp hx
     exact cj hm _ _
    generalize eE m s.2 i k=ld at ll la ⊢
    clear hU
    refine aA λU hU=>?_
    walk_at"l3"
    have MA:∀r∈s.2.take i++s.2.drop (i+1),r.length=ag G/\AllLt (aa m) r:=λr bg=>by
     rcases bZ.mp bg with h | h
     ·exact I.b r (qi h)
     ·exact I.b r (qh h)
    have vi:∀X:List (List Nat),(D.lst true (aE true X)).fr=true:=λX=>by rw[eT,pz];rfl
    rw[U3,show((i:Int)+1)=((i+1:Nat):Int) by omega,CT,sq,dk]
    refine⟨by rw[ij,jl];omega,m,_,ld,k,rfl,hm,by rw[dU,ij,jl];omega,la,λr bg=>⟨by rw[(MA r bg).1];exact hk,by rw[(MA r bg).1];omega,(MA r bg).2⟩,vi _,hU _ ?_⟩
    clear hU
    walk_at"l3"
    refine⟨m,s.1,ld,k,rfl,hm,by omega,la,λr bg=>⟨by rw[(I.a r bg).1];exact hk,by rw[(I.a r bg).1];omega,(I.a r bg).2⟩,vi _,by decide,_,_,rfl,rfl,?_,true,_,_,_,sq true _ [ld],⟨rfl,rfl⟩,rfl,rfl,rfl⟩
    rw[jc,bt]
    show s.1.length+1<=_
    omega
  ·rintro δ ⟨o,o1,o2,o3,rfl⟩
   refine hU _ ?_
   walk_at"l3"
   exact q
abbrev aY4(t:gC)(P:Program)(w:World)(K:Frag)(mg:Str->Option Value)(base:Heap):bB:=λds Q=>∃(m:Bool × Nat) (G:List (List Nat)),ds=[fD t.aS t.aW m,.lst false (aE false G)]/\m∈aD/\G.length<=900/\RT (aa m) (ag G) G/\ag G<=900/\(∀r∈cH m G,∃x∈r,x≠0)/\Q (.lst true (aE true (jH m (cH m G) (ag G))))
theorem aY5(T:Txt K mg t):aQ P w K mg base bf 4 t.KC t.KD ["field","table"] (bx (aY4 t P w K mg base)):=by
 refine bI T.Xz aY1 ?_ ?_
 ·intro ds Q h
  obtain⟨m,G,rfl,hm,hG,hR,hw,hn,q⟩:=h<;>rfl
 ·intro aI A outer s H E hr
  refine⟨_,(aF (aU (aT ((aE3 T).mono (by decide)) hr rfl T.d81 T.Xs.kp T.d82 aP (af (bv 0) (af (ae (aT ((Yt T).mono (by decide)) hr rfl T.Xx T.Ma.kp T.Xy aP (af (bv 0) (af (bv 1) au)))) (af (ae (aT ((Bt T).mono (by decide)) hr rfl T.AR T.yy.kp T.AS aP (af (bv 1) au))) au)))))),λds Q h=>?_⟩
  obtain⟨m,G,rfl,hm,hG,hR,hw,hn,q⟩:=h
  walk_at"l3"
  refine⟨m,G,rfl,hm,hG,hR,hw,?_⟩
  have I:=wG hm hR (ag G)
  refine⟨G,rfl,by omega,λr bg=>by rw[(hR r bg).1];omega,m,cH m G,ag G,by rw[df,dk,jE],hm,?_,by omega,I.a,hn,?_,q⟩
  ·show(je m G (ag G)).1.length<=1000
   have:=I.l
   omega
  ·rw[show ∀X:List (List Nat),(D.lst true (aE true X)).fr=true from λX=>by rw[eT,pz];rfl,gz]
abbrev aU3:bB:=λds Q=>∃(m:Bool × Nat) (a b:Nat),ds=[dz m,.int a,.int b]/\0<m.2/\Q (.int (gp m a b:Nat))
theorem Yu(T:Txt K mg t):aQ P w K mg base bf 1 t.KG t.KH ["_law_told_here","_law_a","_law_b"] (bx (aU3 )):=by
 refine bI T.Mb aS5 ?_ ?_
 ·intro ds Q h
  obtain⟨m,a,b,rfl,h0,q⟩:=h<;>rfl
 ·intro aI A outer s H E hr
  refine⟨_,(aB (bW (gu (bH (bv 0) (ae aw) (λ_ _=>rfl))) (aF (aU (aG z6 (bv 1) (bv 2)))) cw)
   (aF (aU (aG di (ae (aG cR (bv 1) (bv 2))) (bH (bv 0) (ae aw) (λ_ _=>rfl)))))),λds Q h=>?_⟩
  obtain⟨m,a,b,rfl,h0,q⟩:=h
  unfold dz at *
  obtain⟨k,n⟩:=m
  refine aA λU hU=>?_
  walk_at"l3"
  cases k with
  | true =>
   refine⟨_,rfl,true,rfl,?_⟩
   rw[if_pos rfl,n5]
   exact q
  | false =>
   refine⟨_,rfl,false,rfl,?_⟩
   rw[if_neg (by decide)]
   refine hU _ ?_
   walk_at"l3"
   refine⟨_,rfl,?_⟩
   refine⟨by omega,?_⟩
   have e:((gp (false,n) a b:Nat):Int)=((a:Int)+b)%n:=by
    show(((a+b)%n:Nat):Int)=_
    rw[qk,FY]
   rw[<-e];exact q
abbrev aS0:bB:=λds Q=>∃(m:Bool × Nat) (a b:Nat),ds=[dz m,.int a,.int b]/\m∈aD/\a<aa m/\b<aa m/\Q (.int (gm m a b:Nat))
theorem MB(T:Txt K mg t):aQ P w K mg base bf 1 t.KI t.KJ ["_law_told_here","_law_a","_law_b"] (bx (aS0 )):=by
 refine bI T.DW xJ ?_ ?_
 ·intro ds Q h
  obtain⟨m,a,b,rfl,hm,ha,hb,q⟩:=h<;>rfl
 ·intro aI A outer s H E hr
  refine⟨_,(aB (bW (mT (gu (bH (bv 0) (ae aw) (λ_ _=>rfl)))) (aF (aU (aG di (ae (aG iC (bv 1) (bv 2))) (bH (bv 0) (ae aw) (λ_ _=>rfl))))) cw)
   (aB (aV (i:=3) xJ.nd rfl (ao rfl) aw)
   (aB (zX eY (bP HF (bv 2) (ae aw) (bM _))
    (aB (bW (bP (fW (du hr)) (ae (aG Uw (bv 2) (ae aw))) (ae aw) (bM _)) (aF (aV (i:=3) xJ.nd rfl (ao rfl) (aG z6 (bv 3) (bv 1)))) cw)
    (aB (aV (i:=1) xJ.nd rfl (ao rfl) (aG v7 (bv 1) (ae aw)))
    (aB (bW (bP (fW (du hr)) (ae (oO (bv 1))) (ae (oO (bH (bv 0) (ae aw) (λ_ _=>rfl)))) (bM _)) (aF (aV (i:=1) xJ.nd rfl (ao rfl) (aG z6 (bv 1) (bH (bv 0) (ae aw) (λ_ _=>rfl))))) cw)
    (aF (aV (i:=2) xJ.nd rfl (ao rfl) (aG Uv (bv 2) (ae aw))))))))
   (aF (aU (em 3)))))),λds Q h=>?_⟩
  obtain⟨m,a,b,rfl,hm,ha,hb,q⟩:=h
  unfold dz at *
  obtain⟨k,n⟩:=m
  refine aA λU hU=>?_
  walk_at"l3"
  have hF:=cF hm
  cases k with
  | false =>
   refine⟨_,rfl,false,rfl,?_⟩
   have kL:n<=64:=hF.hi
   have l2:2<=n:=hF.lo
   have CP:a<n:=ha
   have Ah:b<n:=hb
   rw[if_pos (by decide)]
   refine⟨jt.ok (.inr ⟨by omega,by omega⟩),_,rfl,by omega,?_⟩
   have e:((gm (false,n) a b:Nat):Int)=(a:Int)*b%n:=by
    show((a*b%n:Nat):Int)=_
    rw[qk,vy]
   rw[<-e];exact q
  | true =>
   refine⟨_,rfl,true,rfl,?_⟩
   rw[if_neg (by decide)]
   have hp:=wD hm
   have bp:=VG n hp
   have Ee:=VH n hp
   have p0:n≠0:=λz=>by rw[z,nZ]at Ee;omega
   have HD:bl a<bl n:=by
    have:=eZ.mpr (show a<2 ^ (bl n-1) from ha)
    omega
   have hy0:bl b<bl n:=by
    have:=eZ.mpr (show b<2 ^ (bl n-1) from hb)
    omega
   refine hU _ ?_
   clear hU U
   refine aA λU hU=>?_
   walk_at"l3"
   refine hU _ ?_
   clear hU U
   refine aA λU hU=>?_
   walk_at"l3"
   refine⟨λm δ=>∃(x y z:Nat),δ=[some (.tup [.bl true,.int n]),some (.int (x:Nat)),some (.int (y:Nat)),some (.int (z:Nat))]/\z ^^^ md (cl x y) n=gm (true,n) a b/\bl x<bl n/\bl y<bl n/\m=bl y,
    ⟨bl b,a,b,0,rfl,by rw[qe];rfl,HD,hy0,rfl⟩,?_⟩
   rintro m δ ⟨x,y,z,rfl,inv,hx,hy,rfl⟩
   walk_at"l3"
   split
   ·rename_i Bu
    have Yf:=iu (show y≠0 by omega)
    have yG:bl (y/2)=bl y-1:=cG1 y
    have e1:((x:Int)*2 ^ (1:Int).toNat)=((2*x:Nat):Int):=by
     show(x:Int)*(2:Int) ^ 1=_
     omega
    have e2:((y:Int)/2 ^ (1:Int).toNat)=((y/2:Nat):Int):=by
     show(y:Int)/(2:Int) ^ 1=_
     omega
    have a1:p7 (y:Int) 1=((y%2:Nat):Int):=by
     rw[show(1:Int)=((1:Nat):Int) from rfl,TL,Nat.and_one_is_mod]
    have tm:=cF2 (y:=y) p0 hx
    have tb:=cz3 p0 hx
    clear hU
    refine aA λU hU=>?_
    walk_at"l3"
    have fin:∀z':Nat,z'=z ^^^ (if y%2=1 then x else 0)->U [some (.tup [.bl true,.int n]),some (.int x),some (.int y),some (.int z')]:=by
     intro z' hz
     have ek3:z' ^^^ md (cl (if bl (2*x)=bl n then 2*x ^^^ n else 2*x) (y/2)) n=gm (true,n) a b:=by
      rw[hz,tu,<- tm];exact inv
     refine hU _ ?_
     clear hU
     refine aA λU hU=>?_
     walk_at"l3"
     refine⟨⟨by decide,by simp only[jo];omega⟩,hU _ ?_⟩
     clear hU
     rw[e1]
     refine aA λU hU=>?_
     walk_at"l3"
     have last:∀x':Nat,x'=(if bl (2*x)=bl n then 2*x ^^^ n else 2*x)->U [some (.tup [.bl true,.int n]),some (.int (x':Nat)),some (.int y),some (.int z')]:=by
      intro x' eo
      refine hU _ ?_
      walk_at"l3"
      exact⟨by decide,bl (y/2),by omega,x',y/2,z',⟨rfl,e2,rfl⟩,by rw[eo];exact ek3,by rw[eo];exact tb,by omega,rfl⟩
     refine⟨_,rfl,?_⟩
     show(if(((bl (((2*x:Nat):Int)).natAbs:Nat):Int)=((bl ((n:Int)).natAbs:Nat):Int))then _ else _)
     rw[jo,jo]
     split
     ·rename_i hc
      refine⟨_,rfl,?_⟩
      have g:=last (2*x ^^^ n) (by rw[if_pos (by omega)])
      rw[<-n5]at g
      exact g
     ·rename_i hc
      exact last (2*x) (by rw[if_neg (by omega)])
    rw[a1]
    split
    ·rename_i Ec
     have odd:y%2=1:=by omega
     have g:=fin (z ^^^ x) (by rw[if_pos odd])
     rw[<-n5]at g
     exact g
    ·rename_i Ec
     exact fin z (by rw[if_neg (by omega),mv])
   ·rename_i Bu
    have hy:y=0:=by omega
    subst hy
    rw[cB0,Ao (by rw[nZ];exact iu p0),mv]at inv
    subst inv
    refine hU _ ?_
    walk_at"l3"
    exact q
abbrev aW8:bB:=λds Q=>∃(m:Bool × Nat) (xs ys:List Nat),ds=[dz m,.lst false (aq xs),.lst false (aq ys)]/\m∈aD/\xs.length=ys.length/\xs.length<=64/\(∀x∈xs,x<aa m)/\(∀y∈ys,y<aa m)/\Q (.int (gd m xs ys:Nat))
theorem MC(T:Txt K mg t):aQ P w K mg base bf 2 t.KL t.KN ["_law_told_here","_law_xs","_law_ys"] (bx (aW8 )):=by
 refine bI T.DX at2 ?_ ?_
 ·intro ds Q h
  obtain⟨m,xs,ys,rfl,hm,hl,kM,hx,hy,q⟩:=h<;>rfl
 ·intro aI A outer s H E hr
  refine⟨_,(aB (aV (i:=3) at2.nd rfl (ao rfl) aw)
   (aB (gv eY rfl (lV rfl T.mq (af (bv 1) (af (bv 2) au))) (gw (i1:=4) (i2:=5) rfl at2.nd rfl (ao rfl) rfl (ao rfl))
    (aF (aV (i:=3) at2.nd rfl (ao rfl) (aT ((Yu T).mono (by decide)) hr rfl T.XA T.Mb.kp T.XB aP (af (bv 0) (af (bv 3) (af (ae (aT ((MB T).mono (by decide)) hr rfl T.Mc T.DW.kp T.Md aP (af (bv 0) (af (bv 4) (af (bv 5) au))))) au)))))))
   (aF (aU (em 3))))),λds Q h=>?_⟩
  obtain⟨m,xs,ys,rfl,hm,hl,kM,hx,hy,q⟩:=h
  refine aA λU hU=>?_
  walk_at"l3"
  refine hU _ ?_
  clear hU U
  refine aA λU hU=>?_
  walk_at"l3"
  refine⟨_,_,rfl,rfl,?_⟩
  refine fF.mk (λi δ=>∃o1 o2,δ=[some (dz m),some (.lst false (aq xs)),some (.lst false (aq ys)),some (.int (((da (gm m) xs ys).take i).foldl (gp m) 0:Nat)),o1,o2]) ⟨none,none,rfl⟩ ?_ ?_
  ·rintro i d δ hd ⟨o1,o2,rfl⟩
   obtain⟨hi,hj,rfl⟩:∃(hi:i<xs.length) (hj:i<ys.length),d=.tup [.int (xs[i]:Nat),.int (ys[i]:Nat)]:=by
    unfold dj at hd
    rw[cy,cy,tH]at hd
    by_cases hi:i<xs.length
    ·have hj:i<ys.length:=by omega
     rw[mB,aJ hi,aJ hj]at hd
     exact⟨hi,hj,(cU hd).symm⟩
    ·rw[gW (by simp;omega)]at hd;cases hd
   have e8:=hx xs[i] (cC _)
   have Bu:=hy ys[i] (cC _)
   walk_at"l3"
   have hF:=cF hm
   have t1:(dz m).sh=dz m:=rfl
   have t2:(dz m).pl=true:=rfl
   have m0:0<m.2:=bX m hm
   refine⟨m,xs[i],ys[i],rfl,hm,e8,Bu,m,_,gm m xs[i] ys[i],rfl,m0,by simp[D.pl],_,_,?_,rfl,rfl⟩
   rw[List.take_succ,y8,mB,aJ hi,aJ hj];rfl
  ·rintro δ ⟨o1,o2,rfl⟩
   refine hU _ ?_
   walk_at"l3"
   have e:(dj (aq xs) (aq ys)).length=xs.length:=by unfold dj;rw[iq,eA,eA];omega
   rw[e,tE (by rw[iq];omega)]
   exact q
abbrev aP5:bB:=λds Q=>∃(m:Bool × Nat) (xs:List Nat) (T:List (List Nat)) (w:Nat),ds=[dz m,.lst false (aq xs),.lst false (aE false T),.int w]/\m∈aD/\AllLt (aa m) xs/\xs.length<=64/\T.length=xs.length/\w<=1000/\RT (aa m) w T/\Q (.lst true (aq (pI m xs T w)))
theorem Yv(T:Txt K mg t):aQ P w K mg base bf 3 t.KO t.KP ["_law_told_here","_law_xs","_law_table_here","_law_wide"] (bx (aP5 )):=by
 refine bI T.Mh aO6 ?_ ?_
 ·intro ds Q h
  obtain⟨m,xs,G,wi,rfl,hm,hx,ug,hG,hw,hR,q⟩:=h<;>rfl
 ·intro aI A outer s H E hr
  refine⟨_,(aF (aU (dv [("_law_told_here",0),("_law_xs",1),("_law_table_here",2)] ["_law_k"] rfl (kG rfl T.iM (af (bv 3) au)) (λ_ _ _ _=>(cE (i:=3) (show(["_law_told_here","_law_xs","_law_table_here","_law_k"]:List Str).Nodup by decide +kernel) rfl (aX rfl) (by decide) (ao rfl))) (λ_ _ _ _=>dy) (by exact λ_ _ _ _=>(aT ((MC T).mono (by decide)) hr rfl T.Me T.DX.kp T.Mg aP (af (bv 0) (af (bv 1) (af (ae (dv [("_law_k",3)] ["_law_row"] rfl (fU (bv 2)) (λ_ _ _ _=>(cE (i:=1) (show(["_law_k","_law_row"]:List Str).Nodup by decide +kernel) rfl (ao (lr1 rfl)) (by decide) (aX (lr1 rfl)))) (λ_ _ _ _=>dy) (λ_ _ _ _=>(cO (bH (bv 1) (bv 0) (λ_ _=>rfl)))) rfl ⟨rfl,trivial⟩ (λ_=>by repeat' (first | exact trivial | refine⟨.inl rfl,?_⟩ | refine⟨.inr (.inl rfl),?_⟩ | refine⟨.inr (.inr ⟨_,rfl⟩),?_⟩)) (λ_=>⟨⟨rfl,.inl rfl,.inl rfl,_,rfl,rfl⟩,trivial⟩) rfl (by decide +kernel))) au))))) rfl ⟨rfl,⟨rfl,⟨rfl,trivial⟩⟩⟩ (λ_=>by repeat' (first | exact trivial | refine⟨.inl rfl,?_⟩ | refine⟨.inr (.inl rfl),?_⟩ | refine⟨.inr (.inr ⟨_,rfl⟩),?_⟩)) (λ_=>⟨⟨rfl,.inl rfl,.inl rfl,_,rfl,rfl⟩,⟨⟨rfl,.inl rfl,.inl rfl,_,rfl,rfl⟩,⟨⟨rfl,.inl rfl,.inl rfl,_,rfl,rfl⟩,trivial⟩⟩⟩) rfl (by decide +kernel)))),λds Q h=>?_⟩
  obtain⟨m,xs,G,wi,rfl,hm,hx,ug,hG,hw,hR,q⟩:=h
  walk_at"l3"
  refine⟨⟨by omega,by omega⟩,dY (aZ wi) (λ(i:Nat)=>D.int (i:Int)) (λk=>D.int ((gd m xs (G.map λr=>r.getD k 0):Nat):Int)) (si _ rfl) g9 (λk hk=>?_) (.inr λ_ _=>rfl) (by rw[dD,sL];omega) ?_⟩
  ·have hk:=cT.mp hk
   walk_at"l3"
   refine dY G (λr=>D.lst false (aq r)) (λr=>D.int ((r.getD k 0:Nat):Int)) (by rw[dk];rfl) (λa b h=>nq a b h) (λr bg=>?_) (.inr λr _=>rfl) (by rw[sL];omega) ?_
   ·walk_at"l3"
    have hl:=(hR r bg).1
    exact⟨.int (r.getD k 0:Nat),by rw[i9 (by omega) (by omega),fP],rfl,rfl⟩
   ·refine⟨m,xs,G.map λr=>r.getD k 0,?_,hm,by rw[bt,hG],ug,hx,λy hy=>?_,?_⟩
    ·rw[cy (G.map _),cg,df,cg];rfl
    ·obtain⟨r,bg,rfl⟩:=bF.mp hy
     exact(hR r bg).2.getD (by have:=(cF hm).lo;omega) k
    ·exact⟨by rw[rD,gz],rfl⟩
  ·unfold pI at q
   rw[cy,cg]at q
   exact q
abbrev aU4:bB:=λds Q=>∃T:List (List Nat),ds=[.lst false (aE false T)]/\T.length<=1000/\Q (.lst true (aE true T))
theorem Ef(T:Txt K mg t):aQ P w K mg base bf 1 t.KQ t.KR ["_law_table_here"] (bx (aU4 )):=by
 refine bI T.AU aS6 ?_ ?_
 ·intro ds Q h
  obtain⟨G,rfl,hG,q⟩:=h<;>rfl
 ·intro aI A outer s H E hr
  refine⟨_,(aF (aU (dv [] ["_law_row"] rfl (fU (bv 0)) (λ_ _ _ _=>(cE (i:=0) (show(["_law_row"]:List Str).Nodup by decide +kernel) rfl (ao (lr1 rfl)) (by decide) (aX (lr1 rfl)))) (λ_ _ _ _=>dy) (λ_ _ _ _=>(CK (CL) (by rfl) T.sO qB (af (bv 0) au))) rfl trivial (λ_=>by repeat' (first | exact trivial | refine⟨.inl rfl,?_⟩ | refine⟨.inr (.inl rfl),?_⟩ | refine⟨.inr (.inr ⟨_,rfl⟩),?_⟩)) (λ_=>trivial) rfl (by decide +kernel)))),λds Q h=>?_⟩
  obtain⟨G,rfl,hG,q⟩:=h
  walk_at"l3"
  refine dY G (λr=>D.lst false (aq r)) (λr=>D.lst true (aq r)) (by rw[dk];rfl) (λa b h=>nq a b h) (λr bg=>?_) (.inr λr _=>gK r) (by rw[sL];omega) q
  walk_at"l3"
abbrev aS1:bB:=λds Q=>∃i:Int,ds=[.int i]/\Q (.bl true)
theorem aS2(T:Txt K mg t):aQ P w K mg base bf 1 t.KS t.KU ["_law_x"] (bx (aS1 )):=by
 refine bI T.XE aQ8 ?_ ?_
 ·intro ds Q h
  obtain⟨i,rfl,q⟩:=h<;>rfl
 ·intro aI A outer s H E hr
  refine⟨_,(aF (aU (zU (ae (wg (by rfl) T.yE (by rfl) T.ee6 cK7 (bv 0))) (zk (cV1 (ae (wg (by rfl) T.yE (by rfl) T.ee5 cz9 (bv 0)))))))),λds Q h=>?_⟩
  obtain⟨i,rfl,q⟩:=h
  walk_at"l3"
  exact q
abbrev aM7:bB:=λds Q=>∃(l:List Nat) (w n:Nat),ds=[.lst false (aq l),.int w,.int n]/\l.length=w/\w<=1000/\AllLt n l/\Q (.bl true)
theorem MD(T:Txt K mg t):aQ P w K mg base bf 2 t.KW t.KY ["_law_row","_law_wide","_law_many_here"] (bx (aM7 )):=by
 refine bI T.D0 aL7 ?_ ?_
 ·intro ds Q h
  obtain⟨l,w,n,rfl,hl,hw,ha,q⟩:=h<;>rfl
 ·intro aI A outer s H E hr
  refine⟨_,(aB (bW (PW.pt (ud (mT (gu (ae (wg (by rfl) T.yE (by rfl) T.sO qB (bv 0))))) (tQ (bP (jY (du hr)) (ae (dR (fX) (by rfl) T.fZ fR (af (bv 0) au))) (bv 1) (bM _))))) (aF (aU kF)) cw)
   (aF (aU (dR (CM rfl) (by rfl) T.D9 Cq (af (ae (dv [("_law_many_here",2)] ["_law_x"] rfl (fU (bv 0)) (λ_ _ _ _=>(cE (i:=1) (show(["_law_many_here","_law_x"]:List Str).Nodup by decide +kernel) rfl (ao (lr1 rfl)) (by decide) (aX (lr1 rfl)))) (λ_ _ _ _=>dy) (λ_ _ _ _=>(zU (ae (aT ((aS2 T).mono (by decide)) hr rfl T.aT5 T.XE.kp T.aT6 aP (af (bv 1) au))) (zk (HK z7 v9 (ae aw) (bv 1) (bv 0))))) rfl ⟨rfl,trivial⟩ (λ_=>by repeat' (first | exact trivial | refine⟨.inl rfl,?_⟩ | refine⟨.inr (.inl rfl),?_⟩ | refine⟨.inr (.inr ⟨_,rfl⟩),?_⟩)) (λ_=>⟨⟨rfl,.inl rfl,.inl rfl,_,rfl,rfl⟩,trivial⟩) rfl (by decide +kernel))) au))))),λds Q h=>?_⟩
  obtain⟨l,w,n,rfl,hl,hw,ha,q⟩:=h
  refine aA λU hU=>?_
  walk_at"l3"
  rw[if_neg (by rw[hl];simp)]
  refine hU _ ?_
  clear hU U
  walk_at"l3"
  refine dY l (λ(i:Nat)=>D.int (i:Int)) (λ_=>D.bl true) (m9 l) g9 (λi hi=>?_) (.inr λ_ _=>rfl) (by rw[sL];omega) ?_
  ·walk_at"l3"
   have:=ha i hi
   refine⟨i,rfl,true,rfl,?_⟩
   rw[if_pos rfl,if_pos (by omega)]
   omega
  ·refine⟨l.map λ_=>true,by unfold we;rw[cg];rfl,?_⟩
   have e:(l.map λ_=>true).all id=true:=by simp
   rw[e];exact q
abbrev aI9:bB:=λds Q=>∃(T:List (List Nat)) (r w n:Nat),ds=[.lst false (aE false T),.int r,.int w,.int n]/\T.length=r/\r<=1000/\w<=1000/\RT n w T/\Q (.bl true)
theorem aJ0(T:Txt K mg t):aQ P w K mg base bf 3 t.KZ t.K0 ["_law_table_here","_law_rows","_law_wide","_law_many_here"] (bx (aI9 )):=by
 refine bI T.XF aG9 ?_ ?_
 ·intro ds Q h
  obtain⟨G,r,w,n,rfl,hG,hr,hw,hR,q⟩:=h<;>rfl
 ·intro aI A outer s H E hr
  refine⟨_,(aB (bW (PW.pt (ud (mT (gu (ae (wg (by rfl) T.yE (by rfl) T.sO qB (bv 0))))) (tQ (bP (jY (du hr)) (ae (dR (fX) (by rfl) T.fZ fR (af (bv 0) au))) (bv 1) (bM _))))) (aF (aU kF)) cw)
   (aF (aU (dR (CM rfl) (by rfl) T.D9 Cq (af (ae (dv [("_law_wide",2),("_law_many_here",3)] ["_law_row"] rfl (fU (bv 0)) (λ_ _ _ _=>(cE (i:=2) (show(["_law_wide","_law_many_here","_law_row"]:List Str).Nodup by decide +kernel) rfl (ao (lr1 rfl)) (by decide) (aX (lr1 rfl)))) (λ_ _ _ _=>dy) (λ_ _ _ _=>(aT ((MD T).mono (by decide)) hr rfl T.Mi T.D0.kp T.Mj aP (af (bv 2) (af (bv 0) (af (bv 1) au))))) rfl ⟨rfl,⟨rfl,trivial⟩⟩ (λ_=>by repeat' (first | exact trivial | refine⟨.inl rfl,?_⟩ | refine⟨.inr (.inl rfl),?_⟩ | refine⟨.inr (.inr ⟨_,rfl⟩),?_⟩)) (λ_=>⟨⟨rfl,.inl rfl,.inl rfl,_,rfl,rfl⟩,⟨⟨rfl,.inl rfl,.inl rfl,_,rfl,rfl⟩,trivial⟩⟩) rfl (by decide +kernel))) au))))),λds Q h=>?_⟩
  obtain⟨G,r,w,n,rfl,hG,hr,hw,hR,q⟩:=h
  refine aA λU hU=>?_
  walk_at"l3"
  rw[if_neg (by rw[hG];simp)]
  refine hU _ ?_
  clear hU U
  walk_at"l3"
  refine dY G (λr=>D.lst false (aq r)) (λ_=>D.bl true) (by rw[dk];rfl) (λa b h=>nq a b h) (λl qq=>?_) (.inr λ_ _=>rfl) (by rw[sL];omega) ?_
  ·walk_at"l3"
   exact⟨l,w,n,rfl,(hR l qq).1,hw,(hR l qq).2,rfl⟩
  ·refine⟨G.map λ_=>true,by unfold we;rw[cg];rfl,?_⟩
   have e:(G.map λ_=>true).all id=true:=by simp
   rw[e];exact q
def eQ(ns:List Int)(k:Int):Int:=if k<ns.length then ns.getD k.toNat 0 else(k*k*48271+ns.length*7919)%65537
abbrev aU5:bB:=λds Q=>∃(ns:List Int) (k:Int),ds=[.fz (aL ns),.int k]/\0<=k/\k<=1000000/\Q (.int (eQ ns k))
theorem kg(T:Txt K mg t):aQ P w K mg base bf 1 t.K1 t.K2 ["_law_script","_law_k"] (bx (aU5 )):=by
 refine bI T.jK aS7 ?_ ?_
 ·intro ds Q h
  obtain⟨ns,k,rfl,hk,hk2,q⟩:=h<;>rfl
 ·intro aI A outer s H E hr
  refine⟨_,(aB (bW (bP v9 (bv 1) (ae (dR (fX) (by rfl) T.fZ fR (af (bv 0) au))) (bM _)) (aF (aU (cO (bH (bv 0) (bv 1) (λ_ _=>rfl))))) cw)
   (aF (aU (aG di (ae (aG cR (ae (aG iC (ae (aG iC (bv 1) (bv 1))) (ae aw))) (ae (aG iC (ae (dR (fX) (by rfl) T.fZ fR (af (bv 0) au))) (ae aw))))) (ae aw))))),λds Q h=>?_⟩
  obtain⟨ns,k,rfl,hk,hk2,q⟩:=h
  unfold eQ at q
  refine aA λU hU=>?_
  walk_at"l3"
  split
  ·rename_i h
   rw[if_pos h]at q
   exact⟨_,m8 hk h,rfl,q⟩
  ·rename_i h
   rw[if_neg h]at q
   refine hU _ ?_
   walk_at"l3"
   exact⟨jt.ok (.inl ⟨by omega,by omega⟩),jt.ok (.inr ⟨by decide,by decide⟩),jt.ok (.inr ⟨by decide,by decide⟩),by decide,q⟩
abbrev aU6:bB:=λds Q=>∃m:Bool × Nat,ds=[dz m]/\bl m.2<=1000/\1<=bl m.2/\Q (.int (aa m:Nat))
theorem sR(T:Txt K mg t):aQ P w K mg base bf 1 t.K3 t.K4 ["_law_told_here"] (bx (aU6 )):=by
 refine bI T.pV aS8 ?_ ?_
 ·intro ds Q h
  obtain⟨m,rfl,h1,h2,q⟩:=h<;>rfl
 ·intro aI A outer s H E hr
  refine⟨_,(aB (bW (gu (bH (bv 0) (ae aw) (λ_ _=>rfl))) (aF (aU (aG v7 (ae aw) (ae (aG gE (ae (oO (bH (bv 0) (ae aw) (λ_ _=>rfl)))) (ae aw)))))) cw)
   (aF (aU (cO (bH (bv 0) (ae aw) (λ_ _=>rfl)))))),λds Q h=>?_⟩
  obtain⟨m,rfl,h1,h2,q⟩:=h
  unfold dz at *
  refine aA λU hU=>?_
  walk_at"l3"
  obtain⟨b,n⟩:=m
  cases b with
  | true =>
   refine⟨_,rfl,true,rfl,?_⟩
   rw[if_pos rfl]
   refine⟨_,rfl,?_⟩
   have o1:bl (1:Int).natAbs=1:=by decide
   have e:(1:Int)*2 ^ (((bl ((n:Int)).natAbs:Nat):Int)-1).toNat=((aa (true,n):Nat):Int):=by
    have jR:1<=bl n:=h2
    rw[jo,show(((bl n:Nat):Int)-1)=((bl n-1:Nat):Int) by omega,show(1:Int)=((1:Nat):Int) from rfl,vT,Gj];rfl
   refine⟨?_,by rw[e];exact q⟩
   rw[jo]
   have kC:bl n<=1000:=h1
   have jR:1<=bl n:=h2
   exact⟨by omega,by omega⟩
  | false =>
   refine⟨_,rfl,false,rfl,?_⟩
   rw[if_neg (by decide)]
   refine hU _ ?_
   walk_at"l3"
   exact⟨_,rfl,rfl,q⟩
abbrev aU7(t:gC)(P:Program)(w:World)(K:Frag)(mg:Str->Option Value)(base:Heap):bB:=λds Q=>∃(m:Bool × Nat) (ns:List Int) (T:List (List Nat)),ds=[dz m,.fz (aL ns),fD t.aS t.aW m,.lst false (aE false T)]/\m∈aD/\0<T.length/\T.length<=64/\0<ag T/\ag T<=64/\RT (aa m) (ag T) T/\∀s:List Nat,s.length=ag T->AllLt (aa m) s->(∀r∈T,gd m r s=0)->Q (.lst true (aq s))
theorem aU8(T:Txt K mg t):aQ P w K mg base bf 5 t.K5 t.K6 ["_law_told_here","_law_script","_law_field_here","_law_table_here"] (bx (aU7 t P w K mg base)):=by
 refine bI T.XG AL ?_ ?_
 ·intro ds Q h
  obtain⟨m,ns,T,rfl,hm,vj,kN,jL,hw,hT,q⟩:=h<;>rfl
 ·intro aI A outer s H E hr
  refine⟨_,(aB (aV (i:=4) AL.nd rfl (ao rfl) (dR (fX) (by rfl) T.fZ fR (af (bH (bv 3) (ae aw) (λ_ _=>rfl)) au)))
   (aB (aV (i:=5) AL.nd rfl (ao rfl) (aT ((aY5 T).mono (by decide)) hr rfl T.d94 T.Xz.kp T.d95 aP (af (bv 2) (af (ae (aT ((Ef T).mono (by decide)) hr rfl T.DY T.AU.kp T.DZ aP (af (bv 3) au))) au))))
   (aB (bW (PW.pt (ud (mT (gu (ae (wg (by rfl) T.yE (by rfl) T.sO qB (bv 5))))) (tQ (mT (gu (ae (aT ((aJ0 T).mono (by decide)) hr rfl T.aK3 T.XF.kp T.aK4 aP (af (bv 5) (af (ae (dR (fX) (by rfl) T.fZ fR (af (bv 5) au))) (af (bv 4) (af (ae (aT ((sR T).mono (by decide)) hr rfl T.sI T.pV.kp T.sJ aP (af (bv 0) au))) au))))))))))) (aF (aU fE)) cw)
   (aB (wH (i:=6) AL.nd rfl (ao rfl) [("_law_script",1),("_law_told_here",0)] ["_law_k"] rfl (kG rfl T.iM (af (ae (dR (fX) (by rfl) T.fZ fR (af (bv 5) au))) au)) (λ_ _ _ _=>(cE (i:=2) (show(["_law_script","_law_told_here","_law_k"]:List Str).Nodup by decide +kernel) rfl (ao (lr1 rfl)) (by decide) (aX (lr1 rfl)))) (λ_ _ _ _=>dy) (λ_ _ _ _=>(aG di (ae (aT ((kg T).mono (by decide)) hr rfl T.kb T.jK.kp T.ke aP (af (bv 0) (af (ae (aG cR (ae aw) (bv 2))) au)))) (ae (aT ((sR T).mono (by decide)) hr rfl T.sI T.pV.kp T.sJ aP (af (bv 1) au))))) rfl ⟨rfl,⟨rfl,trivial⟩⟩ (λ_=>by repeat' (first | exact trivial | refine⟨.inl rfl,?_⟩ | refine⟨.inr (.inl rfl),?_⟩ | refine⟨.inr (.inr ⟨_,rfl⟩),?_⟩)) (λ_=>⟨⟨rfl,.inl rfl,.inl rfl,_,rfl,rfl⟩,⟨⟨rfl,.inl rfl,.inl rfl,_,rfl,rfl⟩,trivial⟩⟩) rfl (by decide +kernel))
   (aB (aV (i:=7) AL.nd rfl (aX rfl) (aT ((Yv T).mono (by decide)) hr rfl T.XC T.Mh.kp T.XD aP (af (bv 0) (af (bv 6) (af (bv 5) (af (bv 4) au))))))
   (aB (bW (gu (ae (dR (Wr rfl) (by rfl) T.Yb TQ (af (ae (dv [("_law_told_here",0),("_law_sent_here",7)] ["_law_row"] rfl (fU (bv 3)) (λ_ _ _ _=>(cE (i:=2) (show(["_law_told_here","_law_sent_here","_law_row"]:List Str).Nodup by decide +kernel) rfl (ao (lr1 rfl)) (by decide) (aX (lr1 rfl)))) (λ_ _ _ _=>dy) (λ_ _ _ _=>(aT ((MC T).mono (by decide)) hr rfl T.Me T.DX.kp T.Mg aP (af (bv 0) (af (bv 2) (af (bv 1) au))))) rfl ⟨rfl,⟨rfl,trivial⟩⟩ (λ_=>by repeat' (first | exact trivial | refine⟨.inl rfl,?_⟩ | refine⟨.inr (.inl rfl),?_⟩ | refine⟨.inr (.inr ⟨_,rfl⟩),?_⟩)) (λ_=>⟨⟨rfl,.inl rfl,.inl rfl,_,rfl,rfl⟩,⟨⟨rfl,.inl rfl,.inl rfl,_,rfl,rfl⟩,trivial⟩⟩) rfl (by decide +kernel))) au)))) (aF (aU fE)) cw)
   (aF (aU (em 7))))))))),λds Q h=>?_⟩
  obtain⟨m,ns,T,rfl,hm,vj,kN,jL,hw,hT,q⟩:=h
  have dr:=(cF hm).lo
  have ME:=(cF hm).hi
  have Eg:=Ap m hm
  have w0:(T[0]).length=ag T:=(hT _ (cC vj)).1
  refine aA λU hU=>?_
  walk_at"l3"
  refine⟨_,sr false vj,?_⟩
  dsimp only
  rw[eA,w0]
  refine hU _ ?_
  clear hU U
  refine aA λU hU=>?_
  walk_at"l3"
  refine⟨T,rfl,by omega,?_⟩
  obtain⟨k1,k2⟩:=cU1 hm hT
  have kw:∀xs:List Nat,xs.length=(jH m (cH m T) (ag T)).length->_:=λxs hx=>cD3 hm hT hx
  refine⟨m,T,by rw[df,dk],hm,by omega,hT,by omega,cM3 hm hT,by rw[eT,pz,kh,gz],hU _ ?_⟩
  clear hU U
  generalize jH m (cH m T) (ag T)=G at k1 k2 kw ⊢
  refine aA λU hU=>?_
  walk_at"l3"
  refine⟨m,rfl,by omega,by omega,G,G.length,ag T,aa m,by rw[jE],rfl,by omega,by omega,k1,rfl,true,rfl,?_⟩
  rw[if_neg (by decide)]
  refine hU _ ?_
  clear hU U
  have MF:∀z:Int,z%(aa m:Int)=(((z%(aa m:Int)).toNat:Nat):Int):=λz=>by
   have n0:=jm z (show(aa m:Int)≠0 by omega)
   omega
  have MG:∀z:Int,(z%(aa m:Int)).toNat<aa m:=λz=>by
   have n1:=jn z (show(0:Int)<(aa m:Int) by omega)
   omega
  refine aA λU hU=>?_
  walk_at"l3"
  refine⟨⟨by omega,by omega⟩,dY (aZ G.length) (λ(i:Nat)=>D.int (i:Int)) (λkk=>D.int (((eQ ns ((3:Int)+(kk:Int))%(aa m:Int)).toNat:Nat):Int)) (si _ rfl) g9 (λkk hk=>?_) (.inr λ_ _=>rfl) (by rw[dD,sL];omega) ?_⟩
  ·have:=cT.mp hk
   walk_at"l3"
   refine⟨ns,_,rfl,by omega,by omega,m,rfl,by omega,by omega,?_⟩
   exact⟨by omega,MF _⟩
  obtain⟨xs,exs,iE,MH⟩:∃xs:List Nat,((aZ G.length).map λ(kk:Nat)=>D.int (((eQ ns ((3:Int)+(kk:Int))%(aa m:Int)).toNat:Nat):Int))=aq xs/\AllLt (aa m) xs/\xs.length=G.length:=by
   refine⟨(aZ G.length).map λ(kk:Nat)=>(eQ ns ((3:Int)+(kk:Int))%(aa m:Int)).toNat,by rw[cy,cg];rfl,λa ha=>?_,by simp⟩
   obtain⟨k,_,rfl⟩:=bF.mp ha
   exact MG _
  rw[exs]
  dsimp only[gn,gj]
  refine hU _ ?_
  clear hU U
  have kz:=kw xs MH
  have kl:=Wm hm (T:=G) (ag T) MH
  have kn:=IZ m xs G (ag T)
  refine aA λU hU=>?_
  walk_at"l3"
  refine⟨m,xs,G,ag T,rfl,hm,iE,by omega,MH.symm,by omega,k1,gK _,hU _ ?_⟩
  clear hU U
  generalize pI m xs G (ag T)=c at kz kl kn ⊢
  refine aA λU hU=>?_
  walk_at"l3"
  refine dY T (λr=>D.lst false (aq r)) (λr=>D.int ((gd m r c:Nat):Int)) (by rw[dk];rfl) (λa b h=>nq a b h) (λr bg=>?_) (.inr λr _=>rfl) (by rw[sL];omega) ?_
  ·have vP:=(hT r bg).1
   walk_at"l3"
   exact⟨m,r,c,rfl,hm,by omega,by omega,(hT r bg).2,kl,rfl⟩
  refine⟨T.map λr=>((gd m r c:Nat):Int),by unfold aL;rw[cg];rfl,?_⟩
  rw[show(T.map λr=>((gd m r c:Nat):Int)).any (λx=>x != 0)=false by
   rw[RH]
   intro x hx
   obtain⟨r,bg,rfl⟩:=bF.mp hx
   rw[kz r bg];decide,if_neg (by decide)]
  refine hU _ ?_
  walk_at"l3"
  exact q c kn kl kz
abbrev aP6:bB:=λds Q=>∃(ns:List Int) (m:Bool × Nat) (c:List Nat),ds=[dz m,.fz (aL ns),.lst false (aq c)]/\m∈aD/\c.length<=64/\AllLt (aa m) c/\∀y:List (Option Nat),y.length=c.length->(∀a,some a∈y->a<aa m)->Q (.lst true (dm y))
theorem aP7(T:Txt K mg t):aQ P w K mg base bf 2 t.K7 t.K8 ["_law_told_here","_law_script","_law_sent_here"] (bx (aP6 )):=by
 refine bI T.XH AM ?_ ?_
 ·intro ds Q h
  obtain⟨ns,m,c,rfl,hm,hc,wu,q⟩:=h<;>rfl
 ·intro aI A outer s H E hr
  refine⟨_,(aB (aV (i:=3) AM.nd rfl (ao rfl) (aT ((sR T).mono (by decide)) hr rfl T.sI T.pV.kp T.sJ aP (af (bv 0) au)))
   (aB (aV (i:=4) AM.nd rfl (ao rfl) (eN dJ))
   (aB (gv eY rfl (rP rfl T.sN (af (bv 2) au)) (gw (i1:=5) (i2:=6) rfl AM.nd rfl (ao rfl) rfl (ao rfl))
    (aB (aV (i:=7) AM.nd rfl (ao rfl) (aT ((kg T).mono (by decide)) hr rfl T.kb T.jK.kp T.ke aP (af (bv 1) (af (ae (aG cR (ae aw) (bv 5))) au))))
    (aF (bW (bP (fW (du hr)) (ae (aG di (bv 7) (ae aw))) (ae aw) (bM _)) (aF (lL (i:=4) rfl (by first | exact ao rfl | exact aX (ao rfl)) fE)) (aF (bW (bP (fW (du hr)) (ae (aG di (ae (aG jD (ae (aT ((kg T).mono (by decide)) hr rfl T.kb T.jK.kp T.ke aP (af (bv 1) (af (ae aw) au)))) (ae aw))) (ae aw))) (ae aw) (bM _)) (aF (lL (i:=4) rfl (by first | exact ao rfl | exact aX (ao rfl)) (aG di (ae (aG jD (bv 7) (ae aw))) (bv 3)))) (aF (bW (bP (fW (du hr)) (ae (aG di (bv 7) (ae aw))) (ae aw) (bM _)) (aF (lL (i:=4) rfl (by first | exact ao rfl | exact aX (ao rfl)) (aT ((Yu T).mono (by decide)) hr rfl T.XA T.Mb.kp T.XB aP (af (bv 0) (af (bv 6) (af (ae (aG cR (ae aw) (ae (aG di (ae (aG jD (bv 7) (ae aw))) (ae (aG gE (bv 3) (ae aw))))))) au)))))) (aF (lL (i:=4) rfl (by first | exact ao rfl | exact aX (ao rfl)) (em 6)))))))))))
   (aF (aU (em 4)))))),λds Q h=>?_⟩
  obtain⟨ns,m,c,rfl,hm,hc,wu,q⟩:=h
  have dr:=(cF hm).lo
  have ME:=(cF hm).hi
  have Eg:=Ap m hm
  have m0:=bX m hm
  refine aA λU hU=>?_
  walk_at"l3"
  refine⟨m,rfl,by omega,by omega,hU _ ?_⟩
  clear hU U
  refine aA λU hU=>?_
  walk_at"l3"
  refine⟨by decide,hU _ ?_⟩
  clear hU U
  refine aA λU hU=>?_
  walk_at"l3"
  refine fF.mk (λj δ=>∃(y:List (Option Nat)) (o1 o2 o3:Option D),(y.length=j/\∀a,some a∈y->a<aa m)/\δ=[some (dz m),some (D.fz (aL ns)),some (D.lst false (aq c)),some (D.int (aa m)),some (D.lst true (dm y)),o1,o2,o3]) ⟨[],_,_,_,⟨rfl,λa ha=>by cases ha⟩,rfl⟩ ?_ ?_
  ·rintro j d δ hd ⟨y,o1,o2,o3,⟨y1,y2⟩,rfl⟩
   obtain⟨h1,rfl⟩:=ch9 hd
   clear hd hU
   have e1:=wu _ (cC h1)
   have yl:=WK y
   have ap:∀v:Option Nat,(∀a,v=some a->a<aa m)->dm y++[fq v]=dm (y++[v])/\(y++[v]).length=j+1/\∀a,some a∈y++[v]->a<aa m:=λv hv=>by
    refine⟨by unfold dm;rw[gi];rfl,by rw[dU,y1];rfl,λa ha=>?_⟩
    rcases bZ.mp ha with h | h
    ·exact y2 a h
    ·exact hv a (dX.mp h).symm
   simp only[iD,gn,gj]
   refine aA λU hU=>?_
   walk_at"l3"
   refine⟨ns,_,rfl,by omega,by omega,hU _ ?_⟩
   clear hU
   generalize eQ ns _=ch
   walk_at"l3"
   refine⟨by decide,?_⟩
   split
   ·obtain⟨a1,a2,a3⟩:=ap none λa ha=>by cases ha
    exact⟨⟨_,rfl⟩,by omega,_,_,_,_,⟨a2,a3⟩,a1,rfl,rfl,rfl⟩
   ·refine⟨ns,2,rfl,by decide,by decide,jC (by decide) (by decide),by decide,?_⟩
    split
    ·have n0:=jm (ch/8) (show(aa m:Int)≠0 by omega)
     have n1:=jn (ch/8) (show(0:Int)<(aa m:Int) by omega)
     obtain⟨a1,a2,a3⟩:=ap (some (ch/8%(aa m:Int)).toNat) λa ha=>by cases ha;omega
     rw[show fq (some (ch/8%(aa m:Int)).toNat)=D.int (ch/8%(aa m:Int)) by show D.int _=_;rw[tI n0]]at a1
     exact⟨⟨_,rfl⟩,jC (by decide) (by decide),by omega,by omega,_,_,_,_,⟨a2,a3⟩,a1,rfl,rfl,rfl⟩
    ·refine⟨by decide,?_⟩
     split
     ·obtain⟨r,er,hr⟩:∃r:Nat,ch/8%((aa m:Int)-1)=r/\r+1<aa m:=by
       have n0:=jm (ch/8) (show(aa m:Int)-1≠0 by omega)
       have n1:=jn (ch/8) (show(0:Int)<(aa m:Int)-1 by omega)
       exact⟨_,(tI n0).symm,by omega⟩
      rw[er,show(1:Int)+(r:Int)=((1+r:Nat):Int) by omega]
      obtain⟨a1,a2,a3⟩:=ap (some (gp m c[j] (1+r))) λa ha=>by cases ha;exact Aq hm e1 (by omega)
      exact⟨⟨_,rfl⟩,jC (by decide) (by decide),by omega,m,_,_,rfl,m0,by omega,_,_,_,_,⟨a2,a3⟩,a1,rfl,rfl,rfl⟩
     ·obtain⟨a1,a2,a3⟩:=ap (some c[j]) λa ha=>by cases ha;exact e1
      exact⟨⟨_,rfl⟩,by omega,_,_,_,_,⟨a2,a3⟩,a1,rfl,rfl,rfl⟩
  ·rintro δ ⟨y,o1,o2,o3,⟨y1,y2⟩,rfl⟩
   refine hU _ ?_
   walk_at"l3"
   refine q y ?_ y2
   rw[y1,oU,eA]
abbrev aP8:bB:=λds Q=>∃(y:List (Option Nat)),ds=[.lst false (dm y)]/\y.length<=1000/\Q (.lst true (aq (bC y)))
theorem aP9(T:Txt K mg t):aQ P w K mg base bf 1 t.K9 t.La ["signs"] (bx (aP8 )):=by
 refine bI T.XI aO7 ?_ ?_
 ·intro ds Q h
  obtain⟨y,rfl,hy,q⟩:=h<;>rfl
 ·intro aI A outer s H E hr
  refine⟨_,(aF (aU (dv [] ["place","sign"] rfl (rP rfl T.sN (af (bv 0) au)) (λ_ _ _ _=>(gw (i1:=0) (i2:=1) rfl (show(["place","sign"]:List Str).Nodup by decide +kernel) rfl (ao (lr1 rfl)) rfl (ao (lr1 rfl)) (by decide) (by decide) (aX (lr1 rfl)) (aX (lr1 rfl)))) (λ_ _ _ _=>(uf (bP rh (bv 1) (ae fE) (bM _)))) (λ_ _ _ _=>(cO (bv 0))) rfl trivial (λ_=>by repeat' (first | exact trivial | refine⟨.inl rfl,?_⟩ | refine⟨.inr (.inl rfl),?_⟩ | refine⟨.inr (.inr ⟨_,rfl⟩),?_⟩)) (λ_=>trivial) rfl (by decide +kernel)))),λds Q h=>?_⟩
  obtain⟨y,rfl,hy,q⟩:=h
  walk_at"l3"
  refine u7 (aZ y.length) (λ(i:Nat)=>D.tup [.int (i:Int),fq (y.getD i none)]) (λ(i:Nat)=>D.int (i:Int)) (λj=>decide (y[j]?=some none)) (ci3 y) (λa b h=>by injection h with h;simp at h;omega) (λi hi=>?_) (.inr λ_ _ _=>rfl) (by rw[dD,sL];omega) ?_
  ·walk_at"l3"
   rw[DK (cT.mp hi)]
   refine⟨?_,λ_=>trivial⟩
   cases y.getD i none with
   | none=>rfl
   | some a=>exact(decide_eq_false λz=>by cases z).symm
  ·rw[cy]at q
   exact q
abbrev aG4:bB:=λds Q=>∃(y:List (Option Nat)),ds=[.lst false (dm y)]/\y.length<=1000/\Q (.lst true (aq (cS y)))
theorem aG5(T:Txt K mg t):aQ P w K mg base bf 1 t.Lb t.Lc ["signs"] (bx (aG4 )):=by
 refine bI T.XJ aF7 ?_ ?_
 ·intro ds Q h
  obtain⟨y,rfl,hy,q⟩:=h<;>rfl
 ·intro aI A outer s H E hr
  refine⟨_,(aF (aU (dv [] ["sign"] rfl (fU (bv 0)) (λ_ _ _ _=>(cE (i:=0) (show(["sign"]:List Str).Nodup by decide +kernel) rfl (ao (lr1 rfl)) (by decide) (aX (lr1 rfl)))) (λ_ _ _ _=>dy) (λ_ _ _ _=>(CA (bP rh (bv 0) (ae fE) (bM _)) aw (cO (bv 0)))) rfl trivial (λ_=>by repeat' (first | exact trivial | refine⟨.inl rfl,?_⟩ | refine⟨.inr (.inl rfl),?_⟩ | refine⟨.inr (.inr ⟨_,rfl⟩),?_⟩)) (λ_=>trivial) rfl (by decide +kernel)))),λds Q h=>?_⟩
  obtain⟨y,rfl,hy,q⟩:=h
  walk_at"l3"
  refine dY y fq (λs=>D.int ((s.getD 0:Nat):Int)) (pO y) Jp (λs hs=>?_) (.inr λ_ _=>rfl) (by rw[sL];omega) ?_
  ·walk_at"l3"
   cases s with
   | none=>exact rfl
   | some a=>exact⟨rfl,rfl⟩
  ·unfold cS at q
   rw[cy,cg]at q
   exact q
abbrev Yw(K:Frag):bB:=λds Q=>∃(C:Addr) (p:Nat) (xs ys:List Nat),ds=[u3 C p,.lst false (aq xs),.lst false (aq ys)]/\eK K C/\cJ K C "products"/\p∈gJ/\xs.length=ys.length/\xs.length<=64/\(∀x∈xs,x<aa (true,p))/\(∀y∈ys,y<aa (true,p))/\Q (.int ((da (gm (true,p)) xs ys).foldl (· ^^^ ·) 0:Nat))
theorem aO3(T:Txt K mg t):aQ P w K mg base bf 1 t.Ld t.Le ["self","xs","ys"] (bx (Yw K)):=by
 refine bI T.aO8 AN ?_ ?_
 ·intro ds Q h
  obtain⟨C,p,xs,ys,rfl,hC,hn,hp,hl,kM,hx,hy,q⟩:=h<;>rfl
 ·intro aI A outer s H E hr
  refine⟨_,(aB (aV (i:=3) AN.nd rfl (ao rfl) (cO (j5 (K:=K) (bv 0))))
   (aB (aV (i:=4) AN.nd rfl (ao rfl) aw)
   (aB (gv eY rfl (lV rfl T.mq (af (bv 1) (af (bv 2) au))) (gw (i1:=5) (i2:=6) rfl AN.nd rfl (ao rfl) rfl (ao rfl))
    (aF (zW (i:=4) AN.nd rfl (ao rfl) (bH (bH (bv 3) (bv 5) (λ_ _=>rfl)) (bv 6) (λ_ _=>rfl)) CI)))
   (aF (aU (em 4)))))),λds Q h=>?_⟩
  obtain⟨C,p,xs,ys,rfl,hC,hn,hp,hl,kM,hx,hy,q⟩:=h
  refine aA λU hU=>?_
  walk_at"l3"
  refine⟨C,_,_,_,rfl,hC,hn,rfl,by rw[fj,b04];rfl,hU _ ?_⟩
  clear hU U
  refine aA λU hU=>?_
  walk_at"l3"
  refine hU _ ?_
  clear hU U
  refine aA λU hU=>?_
  walk_at"l3"
  refine⟨_,_,rfl,rfl,?_⟩
  refine fF.mk (λi δ=>∃o1 o2,δ=[some (u3 C p),some (.lst false (aq xs)),some (.lst false (aq ys)),some (.lst false (ph (fl (true,p)) (eP (fl (true,p))))),some (.int (((da (gm (true,p)) xs ys).take i).foldl (· ^^^ ·) 0:Nat)),o1,o2]) ⟨none,none,rfl⟩ ?_ ?_
  ·rintro i d δ hd ⟨o1,o2,rfl⟩
   obtain⟨hi,hj,rfl⟩:∃(hi:i<xs.length) (hj:i<ys.length),d=.tup [.int (xs[i]:Nat),.int (ys[i]:Nat)]:=by
    unfold dj at hd
    rw[cy,cy,tH]at hd
    by_cases hi:i<xs.length
    ·have hj:i<ys.length:=by omega
     rw[mB,aJ hi,aJ hj]at hd
     exact⟨hi,hj,(cU hd).symm⟩
    ·rw[gW (by simp;omega)]at hd;cases hd
   have e8:=hx xs[i] (cC _)
   have Bu:=hy ys[i] (cC _)
   walk_at"l3"
   refine⟨_,Dm hp e8,_,Dk hp e8 Bu,_,_,?_,rfl,rfl⟩
   rw[n5,List.take_succ,y8,mB,aJ hi,aJ hj];rfl
  ·rintro δ ⟨o1,o2,rfl⟩
   refine hU _ ?_
   walk_at"l3"
   have e:(dj (aq xs) (aq ys)).length=xs.length:=by unfold dj;rw[iq,eA,eA];omega
   rw[e,tE (by rw[iq];omega)]
   exact q
abbrev Yx(K:Frag):bB:=λds Q=>∃(C:Addr) (p:Nat) (xs ys:List Int),ds=[u0 C p,.lst false (aL xs),.lst false (aL ys)]/\eK K C/\cJ K C "prime"/\0<p/\xs.length=ys.length/\xs.length<=64/\(∀x∈xs,0<=x/\x<64)/\(∀y∈ys,0<=y/\y<64)/\Q (.int ((da (· * ·) xs ys).sum%p))
theorem aK6(T:Txt K mg t):aQ P w K mg base bf 1 t.Lf t.Lg ["self","xs","ys"] (bx (Yx K)):=by
 refine bI T.aM0 aJ7 ?_ ?_
 ·intro ds Q h
  obtain⟨C,p,xs,ys,rfl,hC,hn,hp,hl,kM,hx,hy,q⟩:=h<;>rfl
 ·intro aI A outer s H E hr
  refine⟨_,(aF (aU (aG di (ae (dR (cU0 rfl) (by rfl) T.ee8 cI4 (af (ae (dv [] ["x","y"] rfl (lV rfl T.mq (af (bv 1) (af (bv 2) au))) (λ_ _ _ _=>(gw (i1:=0) (i2:=1) rfl (show(["x","y"]:List Str).Nodup by decide +kernel) rfl (ao (lr1 rfl)) rfl (ao (lr1 rfl)) (by decide) (by decide) (aX (lr1 rfl)) (aX (lr1 rfl)))) (λ_ _ _ _=>dy) (λ_ _ _ _=>(aG iC (bv 0) (bv 1))) rfl trivial (λ_=>by repeat' (first | exact trivial | refine⟨.inl rfl,?_⟩ | refine⟨.inr (.inl rfl),?_⟩ | refine⟨.inr (.inr ⟨_,rfl⟩),?_⟩)) (λ_=>trivial) rfl (by decide +kernel))) au))) (j5 (K:=K) (bv 0))))),λds Q h=>?_⟩
  obtain⟨C,p,xs,ys,rfl,hC,hn,hp,hl,kM,hx,hy,q⟩:=h
  walk_at"l3"
  refine⟨_,_,rfl,rfl,?_⟩
  refine Iz (xs.zip ys) (λz=>D.tup [.int z.1,.int z.2]) (λz=>D.int (z.1*z.2)) (VQ xs ys) (λa b h=>by injection h with h;simp at h;exact y7 h.1 h.2) (λz hz=>?_) IA (.inr λ_ _=>rfl) (by rw[ql,sL];omega) ?_
  ·have z1:=hx z.1 (sW hz).1
   have z2:=hy z.2 (sW hz).2
   walk_at"l3"
   exact jt.ok (.inr ⟨by omega,by omega⟩)
  ·refine⟨(xs.zip ys).map λz=>z.1*z.2,?_,?_⟩
   ·unfold aL;rw[cg];rfl
   ·walk_at"l3"
    refine⟨C,_,_,.int p,rfl,hC,hn,rfl,?_⟩
    refine⟨by omega,?_⟩
    rw[List.map_zip_eq_zipWith]
    exact q
theorem cS8(T:Txt K mg t){m:Bool × Nat}(hm:m∈aD):∃C ns zs sp,fD t.aS t.aW m=.obj C ns zs/\rW P w K mg base 1 "dot" C sp/\("dot":Str) ∉ ns/\∀(xs ys:List Nat) (Q:D->Prop),xs.length=ys.length->xs.length<=64->(∀x∈xs,x<aa m)->(∀y∈ys,y<aa m)->Q (.int (gd m xs ys:Nat))->sp [.obj C ns zs,.lst false (aq xs),.lst false (aq ys)] Q:=by
 have hF:=cF hm
 obtain⟨k,n⟩:=m
 cases k with
 | true=>exact⟨_,_,_,Yw K,rfl,⟨T.gG,_,_,_,T.A6,aO3 T,T.aO9⟩,by decide,λxs ys Q hl kM hx hy q=>⟨_,n,xs,ys,rfl,T.gG,T.pW,wD hm,hl,kM,hx,hy,q⟩⟩
 | false =>
  have kL:n<=64:=hF.hi
  have l2:2<=n:=hF.lo
  have cx:∀l:List Nat,(∀x∈l,x<aa (false,n))->∀z∈l.map (λ(n:Nat)=>(n:Int)),0<=z/\z<64:=λl h z hz=>by
   obtain⟨x,hx,rfl⟩:=bF.mp hz
   have:x<n:=h x hx
   omega
  refine⟨_,_,_,Yx K,rfl,⟨T.ig,_,_,_,T.Bf,aK6 T,T.aM1⟩,by decide,λxs ys Q hl kM hx hy q=>⟨_,n,xs.map (λ(n:Nat)=>(n:Int)),ys.map (λ(n:Nat)=>(n:Int)),rfl,T.ig,T.nC,by omega,by rw[bt,bt];exact hl,by rw[bt];exact kM,cx xs hx,cx ys hy,?_⟩⟩
  have e:((gd (false,n) xs ys:Nat):Int)=(da (· * ·) (xs.map λ(n:Nat)=>(n:Int)) (ys.map λ(n:Nat)=>(n:Int))).sum%n:=by
   unfold gd
   rw[VV (by omega) _ _ (by omega),R7,VW,VX,qk]
  rw[<-e];exact q
abbrev aU9(t:gC):bB:=λds Q=>∃(m:Bool × Nat) (G:List (List Nat)) (c:List Nat),ds=[fD t.aS t.aW m,.lst false (aE false G),.lst false (aq c)]/\m∈aD/\RT (aa m) c.length G/\AllLt (aa m) c/\c.length<=64/\G.length<=64/\Q (.lst true (aq (G.map λr=>gd m r c)))
theorem aV0(T:Txt K mg t):aQ P w K mg base bf 2 t.Lh t.Li ["field","table","column"] (bx (aU9 t)):=by
 refine bI T.XM aS9 ?_ ?_
 ·intro ds Q h
  obtain⟨m,G,c,rfl,hm,hR,hc,gx,hG,q⟩:=h<;>rfl
 ·intro aI A outer s H E hr
  refine⟨_,(aF (aU (dv [("column",2),("field",0)] ["row"] rfl (fU (bv 1)) (λ_ _ _ _=>(cE (i:=2) (show(["column","field","row"]:List Str).Nodup by decide +kernel) rfl (ao (lr1 rfl)) (by decide) (aX (lr1 rfl)))) (λ_ _ _ _=>dy) (λ_ _ _ _=>(r6 (P:=P) (w:=w) (K:=K) (mg:=mg) (base:=base) (n:=1) (bv 1) (hr.mono (by decide)) (af (bv 2) (af (bv 0) au)))) rfl ⟨rfl,⟨rfl,trivial⟩⟩ (λ_=>by repeat' (first | exact trivial | refine⟨.inl rfl,?_⟩ | refine⟨.inr (.inl rfl),?_⟩ | refine⟨.inr (.inr ⟨_,rfl⟩),?_⟩)) (λ_=>⟨⟨rfl,.inl rfl,.inl rfl,_,rfl,rfl⟩,⟨⟨rfl,.inl rfl,.inl rfl,_,rfl,rfl⟩,trivial⟩⟩) rfl (by decide +kernel)))),λds Q h=>?_⟩
  obtain⟨m,G,c,rfl,hm,hR,hc,gx,hG,q⟩:=h
  have dr:=(cF hm).lo
  obtain⟨C,ns,xs,sp,e1,e2,e3,e4⟩:=cS8 (P:=P) (w:=w) (base:=base) T hm
  walk_at"l3"
  refine dY G (λr=>D.lst false (aq r)) (λr=>D.int ((gd m r c:Nat):Int)) (by rw[dk];rfl) (λa b h=>nq a b h) (λr bg=>?_) (.inr λr _=>rfl) (by rw[sL];omega) ?_
  ·walk_at"l3"
   exact⟨C,ns,xs,sp,e1,e2,e3,e4 _ _ _ (hR r bg).1 (by rw[(hR r bg).1];exact gx) (hR r bg).2 hc rfl⟩
  ·rw[cy,cg]at q
   exact q
abbrev aV1:bB:=λds Q=>∃c:List Nat,ds=[.lst false (aq c)]/\c.length<=1000/\Q (.bl (nul c))
theorem Eh(T:Txt K mg t):aQ P w K mg base bf 1 t.Lj t.Lk ["column"] (bx (aV1 )):=by
 refine bI T.AV aT0 ?_ ?_
 ·intro ds Q h
  obtain⟨c,rfl,hc,q⟩:=h<;>rfl
 ·intro aI A outer s H E hr
  refine⟨_,(aF (aU (dR (CM rfl) (by rfl) T.D9 Cq (af (ae (dv [] ["x"] rfl (fU (bv 0)) (λ_ _ _ _=>(cE (i:=0) (show(["x"]:List Str).Nodup by decide +kernel) rfl (ao (lr1 rfl)) (by decide) (aX (lr1 rfl)))) (λ_ _ _ _=>dy) (λ_ _ _ _=>(vY (fW (du hr)) (bv 0) (ae aw) (bM _))) rfl trivial (λ_=>by repeat' (first | exact trivial | refine⟨.inl rfl,?_⟩ | refine⟨.inr (.inl rfl),?_⟩ | refine⟨.inr (.inr ⟨_,rfl⟩),?_⟩)) (λ_=>trivial) rfl (by decide +kernel))) au)))),λds Q h=>?_⟩
  obtain⟨c,rfl,hc,q⟩:=h
  walk_at"l3"
  refine dY c (λ(i:Nat)=>D.int (i:Int)) (λ(x:Nat)=>D.bl (x==0)) (m9 _) g9 (λx hx=>?_) (.inr λ_ _=>rfl) (by rw[sL];omega) ?_
  ·walk_at"l3"
   congr 1
   exact propext (by omega)
  dsimp only
  refine⟨c.map (·==0),by unfold we;rw[cg];rfl,?_⟩
  rw[mx]
  exact q
abbrev Yy(K:Frag):bB:=λds Q=>∃(C:Addr) (p a b:Nat),ds=[u3 C p,.int a,.int b]/\eK K C/\cJ K C "products"/\p∈gJ/\a<aa (true,p)/\b<aa (true,p)/\Q (.int (gm (true,p) a b:Nat))
theorem aK7(T:Txt K mg t):aQ P w K mg base bf 1 t.Ll t.Lm ["self","a","b"] (bx (Yy K)):=by
 refine bI T.aM2 aJ8 ?_ ?_
 ·intro ds Q h
  obtain⟨C,p,a,b,rfl,hC,hn,hp,ha,hb,q⟩:=h<;>rfl
 ·intro aI A outer s H E hr
  refine⟨_,(aF (aU (cO (bH (bH (j5 (K:=K) (bv 0)) (bv 1) (λ_ _=>rfl)) (bv 2) (λ_ _=>rfl))))),λds Q h=>?_⟩
  obtain⟨C,p,a,b,rfl,hC,hn,hp,ha,hb,q⟩:=h
  walk_at"l3"
  refine⟨C,_,_,_,rfl,hC,hn,rfl,?_⟩
  exact⟨_,Dm hp ha,_,Dk hp ha hb,rfl,q⟩
abbrev Yz(K:Frag):bB:=λds Q=>∃(C:Addr) (p:Nat) (a b:Int),ds=[u0 C p,.int a,.int b]/\eK K C/\cJ K C "prime"/\0<p/\IntMulOk a b/\Q (.int (a*b%p))
theorem aG6(T:Txt K mg t):aQ P w K mg base bf 1 t.Ln t.Lo ["self","a","b"] (bx (Yz K)):=by
 refine bI T.aH8 aF8 ?_ ?_
 ·intro ds Q h
  obtain⟨C,p,a,b,rfl,hC,hn,hp,hm,q⟩:=h<;>rfl
 ·intro aI A outer s H E hr
  refine⟨_,(aF (aU (aG di (ae (aG iC (bv 1) (bv 2))) (j5 (K:=K) (bv 0))))),λds Q h=>?_⟩
  obtain⟨C,p,a,b,rfl,hC,hn,hp,hm,q⟩:=h
  walk_at"l3"
  exact⟨hm,C,_,_,.int p,rfl,hC,hn,rfl,by omega,q⟩
theorem cz1(T:Txt K mg t){m:Bool × Nat}(hm:m∈aD):∃C ns xs sp,fD t.aS t.aW m=.obj C ns xs/\rW P w K mg base 1 "times" C sp/\("times":Str) ∉ ns/\∀(a b:Nat) (Q:D->Prop),a<aa m->b<aa m->Q (.int (gm m a b:Nat))->sp [.obj C ns xs,.int a,.int b] Q:=by
 have hF:=cF hm
 obtain⟨k,n⟩:=m
 cases k with
 | true=>exact⟨_,_,_,Yy K,rfl,⟨T.gG,_,_,_,T.Bb,aK7 T,T.aM3⟩,by decide,λa b Q ha hb q=>⟨_,n,a,b,rfl,T.gG,T.pW,wD hm,ha,hb,q⟩⟩
 | false =>
  have kL:n<=64:=hF.hi
  refine⟨_,_,_,Yz K,rfl,⟨T.ig,_,_,_,T.Bk,aG6 T,T.aH9⟩,by decide,λa b Q ha hb q=>?_⟩
  have CP:a<n:=ha
  have Ah:b<n:=hb
  refine⟨_,n,a,b,rfl,T.ig,T.nC,by omega,jt.ok (.inr ⟨by omega,by omega⟩),?_⟩
  have e:((gm (false,n) a b:Nat):Int)=(a:Int)*b%n:=by
   show((a*b%n:Nat):Int)=_
   rw[qk,vy]
  rw[<-e];exact q
abbrev cE5(t:gC)(P:Program)(w:World)(K:Frag)(mg:Str->Option Value)(base:Heap):bB:=λds Q=>∃(m:Bool × Nat) (c:List Nat) (os:List (List Nat)),ds=[fD t.aS t.aW m,.lst false (aq c),.lst false (aE false os)]/\m∈aD/\nul c=false/\c.length<=64/\AllLt (aa m) c/\RT (aa m) c.length os/\os.length<=1000/\Q (.lst true (aE true (cA m c os)))
theorem MI(T:Txt K mg t):aQ P w K mg base bf 3 t.Lp t.Lq ["field","column","others"] (bx (cE5 t P w K mg base)):=by
 refine bI T.D3 yb ?_ ?_
 ·intro ds Q h
  obtain⟨m,c,os,rfl,hm,hn,hc,MJ,me,hol,q⟩:=h<;>rfl
 ·intro aI A outer s H E hr
  refine⟨_,(aB (aV (i:=3) yb.nd rfl (ao rfl) (cO (bH (ae (dv [] ["k","x"] rfl (rP rfl T.sN (af (bv 1) au)) (λ_ _ _ _=>(gw (i1:=0) (i2:=1) rfl (show(["k","x"]:List Str).Nodup by decide +kernel) rfl (ao (lr1 rfl)) rfl (ao (lr1 rfl)) (by decide) (by decide) (aX (lr1 rfl)) (aX (lr1 rfl)))) (λ_ _ _ _=>(uf (bP (jY (du hr)) (bv 1) (ae aw) (bM _)))) (λ_ _ _ _=>(cO (bv 0))) rfl trivial (λ_=>by repeat' (first | exact trivial | refine⟨.inl rfl,?_⟩ | refine⟨.inr (.inl rfl),?_⟩ | refine⟨.inr (.inr ⟨_,rfl⟩),?_⟩)) (λ_=>trivial) rfl (by decide +kernel))) (ae aw) (λ_ _=>rfl))))
   (aB (aV (i:=4) yb.nd rfl (ao rfl) (VT (P:=P) (w:=w) (K:=K) (mg:=mg) (base:=base) (n:=2) (bv 0) (hr.mono (by decide)) (af (ae aw) (af (bH (bv 1) (bv 3) (λ_ _=>rfl)) au))))
   (aB (aV (i:=5) yb.nd rfl (ao rfl) (eN dJ))
   (aB (gv eY rfl (CD (cO (bv 2))) (cE (i:=6) yb.nd rfl (ao rfl))
    (aB (aV (i:=7) yb.nd rfl (ao rfl) (r6 (P:=P) (w:=w) (K:=K) (mg:=mg) (base:=base) (n:=1) (bv 0) (hr.mono (by decide)) (af (bv 6) (af (ae (r6 (P:=P) (w:=w) (K:=K) (mg:=mg) (base:=base) (n:=1) (bv 0) (hr.mono (by decide)) (af (bH (bv 6) (bv 3) (λ_ _=>rfl)) (af (bv 4) au)))) (af (bv 1) au)))))
    (aF (lL (i:=5) rfl (by first | exact ao rfl | exact aX (ao rfl)) (aG cR (ae (uV (bv 7) ui (uj (bv 3)))) (ae (uV (bv 7) (uj (ae (aG cR (bv 3) (ae aw)))) ui)))))))
   (aF (aU (em 5))))))),λds Q h=>?_⟩
  obtain⟨m,c,os,rfl,hm,hn,hc,MJ,me,hol,q⟩:=h
  have dr:=(cF hm).lo
  obtain⟨pl,pn⟩:=Jf hn
  have cp:=MJ.getD (show 0<aa m by omega) (aR c)
  have cx:∃x∈c,x≠0:=⟨_,dM pl 0,pn⟩
  refine aA λU hU=>?_
  walk_at"l3"
  refine u7 (aZ c.length) (λ(i:Nat)=>D.tup [.int (i:Int),.int ((c.getD i 0:Nat):Int)]) (λ(i:Nat)=>D.int (i:Int)) (λi=>c.getD i 0 != 0) (V4 c) (λa b h=>by injection h with h;simp at h;omega) (λi hi=>?_) (.inr λ_ _ _=>rfl) (by rw[dD,sL];omega) ?_
  ·walk_at"l3"
   refine⟨?_,λ_=>trivial⟩
   by_cases h0:c.getD i 0=0
   ·rw[h0];rfl
   ·rw[decide_eq_false (by omega),bne_iff_ne.mpr h0];rfl
  dsimp only
  refine⟨.int (aR c:Nat),L3.Ic (k:=0) (by rw[bQ,V5 cx];rfl),rfl,hU _ ?_⟩
  clear hU U
  refine aA λU hU=>?_
  walk_at"l3"
  refine⟨_,_,_,_,wF _ _ m,Ys T m,VU m _ (by decide),.int (c.getD (aR c) 0:Nat),by rw[i9 (by omega) (by omega),fP],m,1,c.getD (aR c) 0,by rw[wF];rfl,hm,dr,cp,λz=>absurd z pn,λ_ iv YA Jg=>?_⟩
  have ei:nB m (c.getD (aR c) 0)=iv:=Dv hm YA Jg
  refine⟨rfl,hU _ ?_⟩
  clear hU U
  refine aA λU hU=>?_
  walk_at"l3"
  refine⟨by decide,hU _ ?_⟩
  clear hU U
  refine aA λU hU=>?_
  walk_at"l3"
  refine fF.mk (λi δ=>∃o6 o7,δ=[some (fD t.aS t.aW m),some (D.lst false (aq c)),some (D.lst false (aE false os)),some (D.int (aR c)),some (D.int iv),some (D.lst true (aE true (cA m c (os.take i)))),o6,o7]) ⟨_,_,rfl⟩ ?_ ?_
  ·rintro i d δ hd ⟨o6,o7,rfl⟩
   obtain⟨hi,rfl⟩:=cm4 hd
   clear hd hU
   obtain⟨ol,oa⟩:=me _ (cC hi)
   have op:=oa.getD (show 0<aa m by omega) (aR c)
   obtain⟨C,ns,xs,sp,e1,e2,e3,e4⟩:=Yo (P:=P) (w:=w) (base:=base) T hm
   refine aA λU hU=>?_
   walk_at"l3"
   obtain⟨C1,n1,x1,sp1,g1,g2,g3,g4⟩:=cz1 (P:=P) (w:=w) (base:=base) T hm
   refine⟨C,ns,xs,sp,e1,e2,e3,C1,n1,x1,sp1,g1,g2,g3,.int (os[i].getD (aR c) 0:Nat),by rw[i9 (by omega) (by omega),fP],g4 _ iv _ op YA ⟨rfl,e4 os[i] c (gm m (os[i].getD (aR c) 0) iv) _ (cj hm _ _) MJ (by omega) ⟨rfl,hU _ ?_⟩⟩⟩
   clear hU
   have ep:cA m c (os.take (i+1))=cA m c (os.take i)++[(da (λx y=>bD m x (gm m (gm m (os[i].getD (aR c) 0) iv) y)) os[i] c).take (aR c)++(da (λx y=>bD m x (gm m (gm m (os[i].getD (aR c) 0) iv) y)) os[i] c).drop (aR c+1)]:=by
    unfold cA
    rw[mw,aJ hi,RV,gi,dF,jN,ei]
   rw[ep]
   have ll:(da (λx y=>bD m x (gm m (gm m (os[i].getD (aR c) 0) iv) y)) os[i] c).length<=64:=by rw[iq];omega
   generalize da (λx y=>bD m x (gm m (gm m (os[i].getD (aR c) 0) iv) y)) os[i] c=lf at ll ⊢
   have pl2:(cA m c (os.take i)).length<=1000:=by rw[sA,ij];omega
   walk_at"l3"
   rw[U3,show((aR c:Int)+1)=((aR c+1:Nat):Int) by omega,CT]
   exact⟨⟨_,rfl⟩,by rw[ij,jl];omega,by omega,_,_,sq true _ [lf.take (aR c)++lf.drop (aR c+1)],rfl,rfl⟩
  ·rintro δ ⟨o6,o7,rfl⟩
   refine hU _ ?_
   walk_at"l3"
   rw[tD]
   exact q
theorem YB(m:Bool × Nat)(p:Nat):∀(l:List Nat) (cs:List (List Nat)),ji m cs (l++[p])=if nul ((ji m cs l).getD p [])=true then ji m cs l else cA m ((ji m cs l).getD p []) (ji m cs l)
 | [],_=>rfl
 | q::l,cs=>YB m p l (if nul (cs.getD q [])=true then cs else cA m (cs.getD q []) cs)
theorem MK(o:Bool){T:List (List Nat)}{i:Nat}(h:i<T.length):eM (aE o T) (i:Int)=some (.lst o (aq (T.getD i []))):=by
 rw[sr o h,aK,aJ h];rfl
abbrev aV2(t:gC)(P:Program)(w:World)(K:Frag)(mg:Str->Option Value)(base:Heap):bB:=λds Q=>∃(m:Bool × Nat) (cs:List (List Nat)) (aM:List Nat) (h:Nat),ds=[fD t.aS t.aW m,.lst false (aE false cs),.lst false (aq aM)]/\m∈aD/\h<=64/\RT (aa m) h cs/\(∀p∈aM,p<cs.length)/\cs.length<=1000/\aM.length<=1000/\∀o,Q (.lst o (aE o (ji m cs aM)))
theorem aV3(T:Txt K mg t):aQ P w K mg base bf 4 t.Lr t.Lu ["field","columns","lost"] (bx (aV2 t P w K mg base)):=by
 refine bI T.XN JE ?_ ?_
 ·intro ds Q h
  obtain⟨m,cs,aM,h,rfl,hm,hh,fc,hl,hc,Bv,q⟩:=h<;>rfl
 ·intro aI A outer s H E hr
  refine⟨_,(aB (gv eY rfl (CD (cO (bv 2))) (cE (i:=3) JE.nd rfl (ao rfl))
    (aF (bW (mT (gu (ae (aT ((Eh T).mono (by decide)) hr rfl T.D1 T.AV.kp T.D2 aP (af (bH (bv 1) (bv 3) (λ_ _=>rfl)) au))))) (aF (aV (i:=1) JE.nd rfl (ao rfl) (aT ((MI T).mono (by decide)) hr rfl T.Ml T.D3.kp T.Mm aP (af (bv 0) (af (bH (bv 1) (bv 3) (λ_ _=>rfl)) (af (bv 1) au)))))) cw)))
   (aF (aU (em 1)))),λds Q h=>?_⟩
  obtain⟨m,cs,aM,h,rfl,hm,hh,fc,hl,hc,Bv,q⟩:=h
  refine aA λU hU=>?_
  walk_at"l3"
  refine fF.mk (λj δ=>∃(o:Bool) (o1:Option D),δ=[some (fD t.aS t.aW m),some (D.lst o (aE o (ji m cs (aM.take j)))),some (D.lst false (aq aM)),o1]) ⟨false,_,rfl⟩ ?_ ?_
  ·rintro j d δ hd ⟨o,o1,rfl⟩
   obtain⟨h1,rfl⟩:=co0 hd
   clear hd hU
   have hp:=hl _ (cC h1)
   obtain⟨i1,⟨h',i2,i3⟩,_⟩:=WQ hm (ps:=aM.take j) fc λp hp=>hl p (qi hp)
   have sn:=YB m aM[j] (aM.take j) cs
   rw[List.take_append_getElem h1]at sn
   rw[<-i1]at hp hc
   generalize ji m cs (aM.take j)=C at *
   obtain⟨c1,c2⟩:=i3.at hp
   walk_at"l3"
   refine⟨_,MK o hp,C.getD aM[j] [],by rw[iH],by omega,by rw[show(D.bl _).fr=true from rfl,gz],_,rfl,?_⟩
   cases nc:nul (C.getD aM[j] [])with
   | true =>
    rw[if_pos nc]at sn
    rw[if_neg (by decide)]
    exact⟨o,_,⟨rfl,by rw[sn]⟩,rfl⟩
   | false =>
    rw[if_neg (by rw[nc];decide)]at sn
    rw[if_pos (by decide)]
    refine⟨_,MK o hp,m,C.getD aM[j] [],C,by rw[iH],hm,nc,by omega,c2,by rw[c1];exact i3,hc,?_,true,_,by rw[sn],rfl⟩
    rw[eT,pz,kh,gz]
  ·rintro δ ⟨o,o1,rfl⟩
   refine hU _ ?_
   walk_at"l3"
   rw[tD]
   exact q o
abbrev Bw(t:gC)(P:Program)(w:World)(K:Frag)(mg:Str->Option Value)(base:Heap)(n:Nat):bB:=λds Q=>∃(m:Bool × Nat) (cs:List (List Nat)) (d:List Nat) (k h:Nat),ds=[fD t.aS t.aW m,.lst false (aE false cs),.lst false (aq d),.int k]/\m∈aD/\k<n/\k<=64/\h<=64/\RT (aa m) h cs/\cs.length<=900/\d.length=h/\AllLt (aa m) d/\Q (ka (fK m k cs d))
theorem YC{t:gC}{P:Program}{w:World}{K:Frag}{mg:Str->Option Value}{base:Heap}{ds:List D}(Q:D->Prop)(h:Bw t P w K mg base 0 ds Q):False:=by
 obtain⟨_,_,_,_,_,_,_,h,_⟩:=h
 exact absurd h (Gg _)
theorem br6(T:Txt K mg t)(n:Nat)(ih:aQ P w K mg base bf (4+n) t.yw t.yx ["field","columns","due","most"] (bx (Bw t P w K mg base n))):aQ P w K mg base bf (4+(n+1)) t.yw t.yx ["field","columns","due","most"] (bx (Bw t P w K mg base (n+1))):=by
 refine bI (k:=4+n) T.Mn AO ?_ ?_
 ·intro ds Q h
  obtain⟨m,cs,d,k,h,rfl,hm,hk,en9,hh,fc,hc,hd,ad,q⟩:=h<;>rfl
 ·intro aI A outer s H E hr
  refine⟨_,(aB (bW (gu (ae (aT ((Eh T).mono (by omega)) hr rfl T.D1 T.AV.kp T.D2 aP (af (bv 2) au)))) (aF (aU (eN dJ))) cw)
   (aB (bW (bP (fW (du hr)) (bv 3) (ae aw) (bM _)) (aF (aU fE)) cw)
   (aB (gv eY rfl (rP rfl T.sN (af (bv 1) au)) (gw (i1:=4) (i2:=5) rfl AO.nd rfl (aX rfl) rfl (ao rfl))
    (aF (bW (mT (gu (ae (aT ((Eh T).mono (by omega)) hr rfl T.D1 T.AV.kp T.D2 aP (af (bv 5) au))))) (aB (aV (i:=6) AO.nd rfl (ao rfl) (CA (bP HF (bv 3) (ae aw) (bM _)) (uV (bv 1) (uj (ae (aG cR (bv 4) (ae aw)))) ui) (eN dJ)))
     (aB (aV (i:=7) AO.nd rfl (ao rfl) (aT ((MI T).mono (by omega)) hr rfl T.Ml T.D3.kp T.Mm aP (af (bv 0) (af (bv 5) (af (ae (aG cR (bv 6) (wN (af (bv 2) au)))) au)))))
     (ot 7 (aB (aV (i:=8) AO.nd rfl (ao rfl) (aT ih hr rfl T.XO T.Mn.kp T.XQ aP (af (bv 0) (af (ae (uV (bv 7) ui (uj (ae (HL (ae aw)))))) (af (bH (bv 7) (ae (HL (ae aw))) (λ_ _=>rfl)) (af (ae (aG gE (bv 3) (ae aw))) au))))))
     (aF (bW (bP HG (bv 8) (ae fE) (bM _)) (aF (aU (aG cR (wN (af (bv 4) au)) (ae (dv [("number",4)] ["k"] rfl (fU (bv 8)) (λ_ _ _ _=>(cE (i:=1) (show(["number","k"]:List Str).Nodup by decide +kernel) rfl (ao (lr1 rfl)) (by decide) (aX (lr1 rfl)))) (λ_ _ _ _=>dy) (λ_ _ _ _=>(aG cR (ae (aG cR (bv 0) (ae aw))) (bv 1))) rfl ⟨rfl,trivial⟩ (λ_=>by repeat' (first | exact trivial | refine⟨.inl rfl,?_⟩ | refine⟨.inr (.inl rfl),?_⟩ | refine⟨.inr (.inr ⟨_,rfl⟩),?_⟩)) (λ_=>⟨⟨rfl,.inl rfl,.inl rfl,_,rfl,rfl⟩,trivial⟩) rfl (by decide +kernel)))))) cw)))))) cw)))
   (aF (aU fE))))),λds Q h=>?_⟩
  obtain⟨m,cs,d,k,h,rfl,hm,hk,en9,hh,fc,hc,hd,ad,q⟩:=h
  refine aA λU hU=>?_
  walk_at"l3"
  refine⟨d,rfl,by omega,_,rfl,?_⟩
  cases nd:nul d with
  | true =>
   rw[if_pos rfl]
   have e:fK m k cs d=some []:=by cases k<;>exact if_pos nd
   rw[e]at q
   exact⟨by decide,q⟩
  | false =>
  rw[if_neg (by decide)]
  have mQ:¬ nul d=true:=by rw[nd];decide
  refine hU _ ?_
  clear hU U
  refine aA λU hU=>?_
  walk_at"l3"
  cases k with
  | zero =>
   rw[if_pos (by rfl)]
   have e:fK m 0 cs d=none:=if_neg mQ
   rw[e]at q
   exact q
  | succ k =>
  rw[if_neg (by omega)]
  refine hU _ ?_
  clear hU U
  have en:fK m (k+1) cs d=(aZ cs.length).findSome? λi=>if nul (cs.getD i [])=true then none else(fK m k (cA m (cs.getD i []) (cs.drop (i+1))) (p1 m (cs.getD i []) d)).map λS=>i::S.map (i+1 + ·):=if_neg mQ
  rw[en]at q
  clear en
  refine aA λU hU=>?_
  walk_at"l3"
  refine fF.mk (λj δ=>∃o1 o2 o3 o4 o5:Option D,(∀i,i<j->(if nul (cs.getD i [])=true then none else(fK m k (cA m (cs.getD i []) (cs.drop (i+1))) (p1 m (cs.getD i []) d)).map λS=>i::S.map (i+1 + ·))=none)/\δ=[some (fD t.aS t.aW m),some (D.lst false (aE false cs)),some (D.lst false (aq d)),some (D.int ((k+1:Nat):Int)),o1,o2,o3,o4,o5]) ⟨_,_,_,_,_,λi hi=>absurd hi (Gg i),rfl⟩ ?_ ?_
  ·rintro j x δ hx ⟨o1,o2,o3,o4,o5,hn,rfl⟩
   obtain⟨h1,rfl⟩:=IG hx
   have eg:cs[j]=cs.getD j []:=by rw[aK,aJ h1];rfl
   rw[eg]
   clear hx hU eg
   obtain⟨c1,c2⟩:=fc.at h1
   walk_at"l3"
   refine⟨cs.getD j [],rfl,by omega,_,rfl,?_⟩
   have more:∀y,(if nul (cs.getD j [])=true then none else(fK m k (cA m (cs.getD j []) (cs.drop (j+1))) (p1 m (cs.getD j []) d)).map λS=>j::S.map (j+1 + ·))=y->y=none->∀i,i<j+1->(if nul (cs.getD i [])=true then none else(fK m k (cA m (cs.getD i []) (cs.drop (i+1))) (p1 m (cs.getD i []) d)).map λS=>i::S.map (i+1 + ·))=none:=λy hy yG i hi=>by
    by_cases c:i<j
    ·exact hn i c
    ·obtain rfl:i=j:=by omega
     exact hy.trans yG
   cases nc:nul (cs.getD j [])with
   | true =>
    rw[if_neg (by decide)]
    exact⟨_,_,_,_,_,more _ (if_pos nc) rfl,rfl,rfl,rfl,rfl,rfl⟩
   | false =>
    rw[if_neg (by rw[nc];decide)]at more
    rw[if_pos (by decide)]
    refine aA λU hU=>?_
    walk_at"l3"
    have fin:∀B:List (List Nat),fK m k (cA m (cs.getD j []) B) (p1 m (cs.getD j []) d)=fK m k (cA m (cs.getD j []) (cs.drop (j+1))) (p1 m (cs.getD j []) d)->RT (aa m) h B->B.length<=900->U [some (fD t.aS t.aW m),some (D.lst false (aE false cs)),some (D.lst false (aq d)),some (D.int ((k+1:Nat):Int)),some (D.int j),some (D.lst false (aq (cs.getD j []))),some (D.lst true (aE false B)),o4,o5]:=by
     intro B eB hB lB
     refine hU _ ?_
     clear hU U
     refine aA λU hU=>?_
     walk_at"l3"
     refine⟨by decide,by omega,m,cs.getD j [],B++[d],?_,hm,nc,by omega,c2,by rw[c1];exact hB.app λx hx=>by rw[dX.mp hx];exact⟨hd,ad⟩,by rw[dU];exact eH (Nat.add_le_add_right lB 1) (by decide),by rw[eT,pz];rfl,hU _ ?_⟩
     ·rw[show [D.lst false (aq d)]=aE false [d] from rfl,sq,dk]
     clear hU U
     refine⟨_,rfl,?_⟩
     obtain⟨x1,x2⟩:=wV hm c1 hd ad nc
     have hF:=wQ hm c1 hB nc
     have lF:=sA m (cs.getD j []) B
     rw[show cA m (cs.getD j []) (B++[d])=cA m (cs.getD j []) B++[p1 m (cs.getD j []) d] by rw[Jr,gi];rfl,df,dk]
     have got:∀S,fK m k (cA m (cs.getD j []) B) (p1 m (cs.getD j []) d)=some S->Q (ka (some (j::S.map (j+1 + ·)))):=λS e=>by
      rw[W2 (b:=j::S.map (j+1 + ·)) hn (by rw[if_neg (by rw[nc];decide),<- eB,e];rfl) h1]at q
      exact q
     have ay:=λe:fK m k (cA m (cs.getD j []) B) (p1 m (cs.getD j []) d)=none=>more none (by rw[<-eB,e];rfl) rfl
     clear q more hn eB
     generalize cA m (cs.getD j []) B=F at got ay hF lF ⊢
     generalize p1 m (cs.getD j []) d=x at got ay x1 x2 ⊢
     refine aA λU hU=>?_
     walk_at"l3"
     refine⟨_,ce7 false F x,m,F,x,k,h-1,by rw[cp2,iH,show((k+1:Nat):Int)-1=(k:Int) by omega],hm,by omega,by omega,by omega,hF,by omega,x1,x2,AJ _,hU _ ?_⟩
     clear hU U
     walk_at"l3"
     cases ex:fK m k F x with
     | none =>
      rw[if_neg (by exact gh)]
      exact⟨_,_,_,_,_,ay ex,rfl,rfl,rfl,rfl,rfl⟩
     | some S =>
      have got:=got S ex
      have lS:=(Ju hm hF x1 x2 ex).1
      rw[if_pos (by exact rfl)]
      refine⟨by decide,aq S,rfl,dY S (λ(i:Nat)=>D.int (i:Int)) (λx=>D.int ((j+1+x:Nat):Int)) (m9 S) g9 (λx hx=>?_) (.inr λ_ _=>rfl) (by rw[sL];omega) ?_⟩
      ·walk_at"l3"
       omega
      ·dsimp only
       rw[show(S.map λx=>D.int ((j+1+x:Nat):Int))=aq (S.map (j+1 + ·)) by rw[cy,cg];rfl]
       refine⟨⟨by rw[eA,bt];show 1+_<=_;omega,rfl,kJ _⟩,?_⟩
       rw[show [D.int (j:Int)]=aq [j] from rfl,oW]
       exact got
    clear hU
    split
    ·rw[show((j:Int)+1)=((j+1:Nat):Int) by omega,CT]
     exact fin _ rfl (fc.drop _) (by rw[jl];omega)
    ·refine⟨by decide,fin [] ?_ (λx hx=>by cases hx) (by decide)⟩
     rw[show k=0 by omega]
     rfl
  ·rintro δ ⟨o1,o2,o3,o4,o5,hn,rfl⟩
   refine hU _ ?_
   walk_at"l3"
   rw[oU,jc]at hn
   rw[W0 hn]at q
   exact q
theorem YD(T:Txt K mg t):∀n:Nat,aQ P w K mg base bf (4+n) t.yw t.yx ["field","columns","due","most"] (bx (Bw t P w K mg base n))
 | 0=>⟨λ_ _ _ _ ⟨_,_,_,_,_,h,_⟩=>(YC _ h).elim,λ_ _ _ _ _ _ _ _ _ _ _ _ _ ⟨_,_,_,_,_,h,_⟩=>(YC _ h).elim⟩
 | n+1=>br6 T n (YD T n)
theorem aK8(T:Txt K mg t):aQ P w K mg base bf 12 t.yw t.yx ["field","columns","due","most"] (bx (Bw t P w K mg base 8)):=YD T 8
abbrev aY6:bB:=λds Q=>∃T:List (List Nat),ds=[.lst false (aE false T)]/\T.length<=1000/\(∀r∈T,r.length=ag T)/\ag T<=1000/\Q (.lst true (aE true (cK T)))
theorem YE(T:Txt K mg t):aQ P w K mg base bf 2 t.Lw t.Lx ["table"] (bx (aY6 )):=by
 refine bI T.Mo aY2 ?_ ?_
 ·intro ds Q h
  obtain⟨G,rfl,hG,hr,hw,q⟩:=h<;>rfl
 ·intro aI A outer s H E hr
  refine⟨_,(aF (aU (dv [("table",0)] ["j"] rfl (kG rfl T.iM (af (ae (aT ((Bt T).mono (by decide)) hr rfl T.AR T.yy.kp T.AS aP (af (bv 0) au))) au)) (λ_ _ _ _=>(cE (i:=1) (show(["table","j"]:List Str).Nodup by decide +kernel) rfl (aX rfl) (by decide) (ao rfl))) (λ_ _ _ _=>dy) (by exact λ_ _ _ _=>(dv [("j",1)] ["row"] rfl (fU (bv 0)) (λ_ _ _ _=>(cE (i:=1) (show(["j","row"]:List Str).Nodup by decide +kernel) rfl (ao (lr1 rfl)) (by decide) (aX (lr1 rfl)))) (λ_ _ _ _=>dy) (λ_ _ _ _=>(cO (bH (bv 1) (bv 0) (λ_ _=>rfl)))) rfl ⟨rfl,trivial⟩ (λ_=>by repeat' (first | exact trivial | refine⟨.inl rfl,?_⟩ | refine⟨.inr (.inl rfl),?_⟩ | refine⟨.inr (.inr ⟨_,rfl⟩),?_⟩)) (λ_=>⟨⟨rfl,.inl rfl,.inl rfl,_,rfl,rfl⟩,trivial⟩) rfl (by decide +kernel))) rfl ⟨rfl,trivial⟩ (λ_=>by repeat' (first | exact trivial | refine⟨.inl rfl,?_⟩ | refine⟨.inr (.inl rfl),?_⟩ | refine⟨.inr (.inr ⟨_,rfl⟩),?_⟩)) (λ_=>⟨⟨rfl,.inl rfl,.inl rfl,_,rfl,rfl⟩,trivial⟩) rfl (by decide +kernel)))),λds Q h=>?_⟩
  obtain⟨G,rfl,hG,hr,hw,q⟩:=h
  walk_at"l3"
  refine⟨G,rfl,hG,λr bg=>by rw[hr r bg];exact hw,?_⟩
  dsimp only
  refine⟨_,rfl,⟨by omega,by omega⟩,?_⟩
  refine dY (aZ (ag G)) (λ(i:Nat)=>D.int (i:Int)) (λj=>D.lst true (aq (G.map λr=>r.getD j 0))) (si _ rfl) g9 (λj hj=>?_) (.inr λj _=>gK _) (by rw[dD,sL];omega) ?_
  ·have hj:=cT.mp hj
   walk_at"l3"
   refine dY G (λr=>D.lst false (aq r)) (λr=>D.int ((r.getD j 0:Nat):Int)) (by rw[dk];rfl) (λa b h=>nq a b h) (λr bg=>?_) (.inr λr _=>rfl) (by rw[sL];omega) ?_
   ·walk_at"l3"
    have hl:=hr r bg
    exact⟨.int (r.getD j 0:Nat),by rw[i9 (by omega) (by omega),fP],rfl,rfl⟩
   ·rw[cy,cg];rfl
  ·unfold cK aE at q
   rw[cg]at q
   exact q
abbrev aO4(t:gC)(P:Program)(w:World)(K:Frag)(mg:Str->Option Value)(base:Heap):bB:=λds Q=>∃(m:Bool × Nat) (T:List (List Nat)) (aM sums:List Nat) (k:Nat),ds=[fD t.aS t.aW m,.lst false (aE false T),.lst false (aq aM),.lst false (aq sums),.int k]/\m∈aD/\0<ag T/\ag T<=64/\RT (aa m) (ag T) T/\T.length<=64/\(∀p∈aM,p<ag T)/\aM.length<=64/\sums.length=T.length/\AllLt (aa m) sums/\k<=7/\Q (ka (vd m T aM sums k))
theorem aO5(T:Txt K mg t):aQ P w K mg base bf 13 t.Ly t.Lz ["field","table","lost","sums","most"] (bx (aO4 t P w K mg base)):=by
 refine bI T.XT DR ?_ ?_
 ·intro ds Q h
  obtain⟨m,T,aM,sums,k,rfl,hm,hw,Ei,hT,kN,hl,Bv,ls,as,hk,q⟩:=h<;>rfl
 ·intro aI A outer s H E hr
  refine⟨_,(aB (aV (i:=5) DR.nd rfl (aX rfl) (aT ((aV3 T).mono (by decide)) hr rfl T.eb8 T.XN.kp T.eb9 aP (af (bv 0) (af (cH9 (VZ (aT ((YE T).mono (by decide)) hr rfl T.XR T.Mo.kp T.XS aP (af (bv 1) au)) (eN (e7 (em 3) dJ)))) (af (bv 2) au)))))
   (ot 5 (aB (aV (i:=6) DR.nd rfl (aX rfl) (dv [("lost",2)] ["place"] rfl (kG rfl T.iM (af (ae (aG gE (ae (dR (fX) (by rfl) T.fZ fR (af (bv 5) au))) (ae aw))) au)) (λ_ _ _ _=>(cE (i:=1) (show(["lost","place"]:List Str).Nodup by decide +kernel) rfl (ao (lr1 rfl)) (by decide) (aX (lr1 rfl)))) (λ_ _ _ _=>(uf (bP V1 (bv 1) (bv 0) (by with_unfolding_all rfl)))) (λ_ _ _ _=>(cO (bv 1))) rfl ⟨rfl,trivial⟩ (λ_=>by repeat' (first | exact trivial | refine⟨.inl rfl,?_⟩ | refine⟨.inr (.inl rfl),?_⟩ | refine⟨.inr (.inr ⟨_,rfl⟩),?_⟩)) (λ_=>⟨⟨rfl,.inl rfl,.inl rfl,_,rfl,rfl⟩,trivial⟩) rfl (by decide +kernel)))
   (ot 6 (aB (aV (i:=7) DR.nd rfl (ao rfl) (aT ((aK8 T).mono (by decide)) hr rfl T.XO T.Mn.kp T.XQ aP (af (bv 0) (af (ae (dv [("columns",5)] ["place"] rfl (fU (bv 6)) (λ_ _ _ _=>(cE (i:=1) (show(["columns","place"]:List Str).Nodup by decide +kernel) rfl (ao (lr1 rfl)) (by decide) (aX (lr1 rfl)))) (λ_ _ _ _=>dy) (λ_ _ _ _=>(cO (bH (bv 0) (bv 1) (λ_ _=>rfl)))) rfl ⟨rfl,trivial⟩ (λ_=>by repeat' (first | exact trivial | refine⟨.inl rfl,?_⟩ | refine⟨.inr (.inl rfl),?_⟩ | refine⟨.inr (.inr ⟨_,rfl⟩),?_⟩)) (λ_=>⟨⟨rfl,.inl rfl,.inl rfl,_,rfl,rfl⟩,trivial⟩) rfl (by decide +kernel))) (af (bH (bv 5) (ae (HL (ae aw))) (λ_ _=>rfl)) (af (bv 4) au))))))
   (aF (aU (CA (bP rh (bv 7) (ae fE) (bM _)) fE (dv [("others",6)] ["number"] rfl (fU (bv 7)) (λ_ _ _ _=>(cE (i:=1) (show(["others","number"]:List Str).Nodup by decide +kernel) rfl (ao (lr1 rfl)) (by decide) (aX (lr1 rfl)))) (λ_ _ _ _=>dy) (λ_ _ _ _=>(cO (bH (bv 0) (bv 1) (λ_ _=>rfl)))) rfl ⟨rfl,trivial⟩ (λ_=>by repeat' (first | exact trivial | refine⟨.inl rfl,?_⟩ | refine⟨.inr (.inl rfl),?_⟩ | refine⟨.inr (.inr ⟨_,rfl⟩),?_⟩)) (λ_=>⟨⟨rfl,.inl rfl,.inl rfl,_,rfl,rfl⟩,trivial⟩) rfl (by decide +kernel)))))))))),λds Q h=>?_⟩
  obtain⟨m,T,aM,sums,k,rfl,hm,hw,Ei,hT,kN,hl,Bv,ls,as,hk,q⟩:=h
  have dr:=(cF hm).lo
  obtain⟨t1,t2,t3⟩:=wM (N:=aa m) (by omega) hw hT
  refine aA λU hU=>?_
  walk_at"l3"
  refine⟨T,rfl,by omega,λr hr=>(hT r hr).1,by omega,?_⟩
  have ML:(aE true (cK T)++[D.lst false (aq sums)]).map D.sh=aE false (cK T++[sums]):=by
   rw[gi,dk,show [D.lst false (aq sums)].map D.sh=aE false [sums] by rw[List.map_singleton,iH];rfl,sq]
  have lc:(cK T++[sums]).length=ag T+1:=by rw[dU,t1];rfl
  obtain⟨i1,h',i2,i3,i4,i5,i6,_⟩:=Jx hm hw hT hl ls as
  refine⟨by decide,_,_,rfl,rfl,by rw[jc,t1];show ag T+1<=_;omega,m,cK T++[sums],aM,T.length,by rw[ML,dk],hm,kN,t3.app λx hx=>by rw[dX.mp hx];exact⟨ls,as⟩,λp hp=>by rw[lc];have:=hl p hp;omega,by omega,by omega,λo=>⟨by rw[ML,nu];rfl,hU _ ?_⟩⟩
  clear hU U ML
  refine⟨_,rfl,?_⟩
  rw[df,dk]
  have eC:wC m T aM sums=ji m (cK T++[sums]) aM:=rfl
  rw[<-eC]
  unfold vd at q
  generalize wC m T aM sums=C at i1 i3 i4 i5 i6 q ⊢
  clear eC
  refine aA λU hU=>?_
  walk_at"l3"
  refine⟨⟨by omega,by omega⟩,u7 (aZ (ag T)) (λ(i:Nat)=>D.int (i:Int)) (λ(i:Nat)=>D.int (i:Int)) (λp=>decide (p ∉ aM)) (si _ (by omega)) g9 (λj hj=>?_) (.inr λ_ _ _=>rfl) (by rw[dD,sL];omega) ?_⟩
  ·walk_at"l3"
   refine⟨_,rfl,?_,λ_=>trivial⟩
   rw[II,List.contains_eq_mem,decide_not]
  rw[show((aZ (ag T)).filter λp=>decide (p ∉ aM))=cN (ag T) aM from rfl,<- cy]
  dsimp only[gn,gj]
  have ol:(cN (ag T) aM).length<=ag T:=eH (BZ ..) (by rw[dD];exact bN _)
  refine hU _ ?_
  clear hU U
  refine⟨_,rfl,?_⟩
  rw[iH]
  refine aA λU hU=>?_
  dsimp only[mX,mW,mV,kE,mU,nU,nS,gn,gj]
  unfold mY oy
  dsimp only[kE,nU,nS,iX]
  refine⟨_,rfl,dY (cN (ag T) aM) (λ(i:Nat)=>D.int (i:Int)) (λp=>D.lst false (aq (C.getD p []))) (m9 _) g9 (λp hp=>?_) (.inl ?_) (by rw[sL];omega) ?_⟩
  ·have:=(wW.mp hp).1
   walk_at"l3"
   exact⟨_,MK false (by omega),by rw[fj,kJ];rfl,rfl⟩
  ·show((D.lst false (aq _)).pl&&((D.lst false (aE false C)).pl&&true))=true
   rw[fj,fj,kJ,nu];rfl
  rw[show((cN (ag T) aM).map λp=>D.lst false (aq (C.getD p [])))=aE false ((cN (ag T) aM).map λp=>C.getD p []) by unfold aE;rw[cg];rfl]
  have la:=WZ false i1
  generalize C.getD (ag T) []=x at i5 i6 q la ⊢
  generalize eO:(cN (ag T) aM).map (λp=>C.getD p [])=O at i4 q ⊢
  have lO:O.length=(cN (ag T) aM).length:=by rw[<-eO,bt]
  walk_at"l3"
  refine⟨_,la,m,O,x,k,h',by rw[iH],hm,by omega,by omega,by omega,i4,by omega,i5,i6,AJ _,hU _ ?_⟩
  clear hU U
  cases en:fK m k O x with
  | none =>
   rw[en]at q
   walk_at"l3"
   rw[if_pos (by exact rfl)]
   exact q
  | some S =>
   rw[en]at q
   obtain⟨s1,s2,s3,_⟩:=Ju hm i4 i5 i6 en
   rw[show ka (some S)=D.lst true (aq S) from rfl]
   walk_at"l3"
   refine dY S (λ(i:Nat)=>D.int (i:Int)) (λi=>D.int (((cN (ag T) aM).getD i 0:Nat):Int)) (m9 S) g9 (λi hi=>?_) (.inr λ_ _=>rfl) (by rw[sL];omega) ?_
   ·have:=s3 i hi
    walk_at"l3"
    exact⟨_,i9 (by omega) (by omega),rfl,by rw[fP]⟩
   ·rw[show(S.map λi=>D.int (((cN (ag T) aM).getD i 0:Nat):Int))=aq (S.map λi=>(cN (ag T) aM).getD i 0) by rw[cy,cg];rfl]
    exact q
theorem YF(m:Bool × Nat)(p x:Nat):∀{ps xs l:List Nat},xs.length=ps.length->eV m l (ps++[p]) (xs++[x])=(eV m l ps xs).set p (bD m (cf (eV m l ps xs) p) x)
 | [],[],l,_=>by simp only[nJ,eV]
 | _::ps,_::xs,l,h=>by
  simp only[nR,eV]
  exact YF m p x (by simpa using h)
theorem YG{m:Bool × Nat}(hm:m∈aD):∀{ps xs l:List Nat},AllLt (aa m) l->AllLt (aa m) xs->AllLt (aa m) (eV m l ps xs)/\(eV m l ps xs).length=l.length
 | [],_,l,h,_=>by unfold eV;exact⟨h,rfl⟩
 | _::_,[],l,h,_=>by unfold eV;exact⟨h,rfl⟩
 | p::ps,x::xs,l,hl,hx=>by
  rw[eV]
  have:=YG hm (ps:=ps) (xs:=xs) (l:=l.set p (bD m (cf l p) x)) (λa ha=>by
   rcases yX ha with h1 | rfl
   ·exact hl a h1
   ·exact(fH hm (cG hm hl p) (hx x gb)).2.1) λa ha=>hx a (dZ _ ha)
  rw[nI]at this
  exact this
abbrev aV4(cb cp:Addr):bB:=λds Q=>∃(m:Bool × Nat) (l ps xs:List Nat),ds=[fD cb cp m,.lst false (aq l),.lst false (aq ps),.lst false (aq xs)]/\m∈aD/\AllLt (aa m) l/\AllLt (aa m) xs/\xs.length=ps.length/\(∀p∈ps,p<l.length)/\l.length<=1000/\ps.length<=1000/\Q (.lst true (aq (eV m l ps xs)))
theorem aV5(T:Txt K mg t):aQ P w K mg base bf 2 t.LA t.LB ["field","word","places","signs"] (bx (aV4 t.aS t.aW)):=by
 refine bI T.XU JF ?_ ?_
 ·intro ds Q h
  obtain⟨m,l,ps,xs,rfl,hm,hl,hx,ug,hp,Br,Mu,q⟩:=h<;>rfl
 ·intro aI A outer s H E hr
  refine⟨_,(aB (aV (i:=4) JF.nd rfl (ao rfl) (CK (CL) (by rfl) T.sO qB (af (bv 1) au)))
   (aB (gv eY rfl (lV rfl T.mq (af (bv 2) (af (bv 3) au))) (gw (i1:=5) (i2:=6) rfl JF.nd rfl (ao rfl) rfl (ao rfl))
    (aF (wk (i:=4) rfl (by first | exact ao rfl | exact aX (ao rfl)) (r6 (P:=P) (w:=w) (K:=K) (mg:=mg) (base:=base) (n:=1) (bv 0) (hr.mono (by decide)) (af (bH (bv 4) (bv 5) (λ_ _=>rfl)) (af (bv 6) au))) (bv 5))))
   (aF (aU (em 4))))),λds Q h=>?_⟩
  obtain⟨m,l,ps,xs,rfl,hm,hl,hx,ug,hp,Br,Mu,q⟩:=h
  refine aA λU hU=>?_
  walk_at"l3"
  refine hU _ ?_
  clear hU U
  refine aA λU hU=>?_
  walk_at"l3"
  refine⟨_,_,rfl,rfl,?_⟩
  refine fF.mk (λj δ=>∃o3 o4,δ=[some (fD t.aS t.aW m),some (D.lst false (aq l)),some (D.lst false (aq ps)),some (D.lst false (aq xs)),some (D.lst true (aq (eV m l (ps.take j) (xs.take j)))),o3,o4]) ⟨_,_,rfl⟩ ?_ ?_
  ·rintro j d δ hd ⟨o3,o4,rfl⟩
   obtain⟨h1,h2,rfl⟩:=cD1 hd
   clear hd
   walk_at"l3"
   obtain⟨C,ns,zs,sp,e1,e2,e3,e4⟩:=Yj (P:=P) (w:=w) (base:=base) T (bX m hm)
   obtain⟨b1,b2⟩:=YG hm (ps:=ps.take j) (xs:=xs.take j) hl λa ha=>hx a (qi ha)
   have YH:=hp _ (cC h1)
   rw[<-b2]at YH
   refine⟨C,ns,zs,sp,e1,e2,e3,.int ((eV m l (ps.take j) (xs.take j)).getD ps[j] 0:Nat),by rw[i9 (by omega) (by omega),fP],?_⟩
   refine e4 _ _ _ ⟨rfl,_,_,rfl,As (by omega) (by rw[eA,fP];exact YH),_,_,?_,rfl,rfl⟩
   rw[(fH hm (b1.getD (by have:=(cF hm).lo;omega) _) (hx _ (cC h2))).1,fP,Ds,mw,mw,aJ h1,aJ h2]
   exact congrArg aq (YF m _ _ (by rw[ij,ij];omega)).symm
  ·rintro δ ⟨o3,o4,rfl⟩
   rw[cg3,tE (by omega),tE (by omega)]
   refine hU _ ?_
   walk_at"l3"
   exact q
abbrev aW9:bB:=λds Q=>∃(G:List (List Nat)) (u:List Nat),ds=[.lst false (aE false G),.lst false (aq u)]/\G.length<=1000/\(∀r∈G,r.length<=1000)/\Q (.lst true (aE true (cZ G u)))
theorem aX0(T:Txt K mg t):aQ P w K mg base bf 1 t.LC t.LD ["table","due"] (bx (aW9 )):=by
 refine bI T.XW aW0 ?_ ?_
 ·intro ds Q h
  obtain⟨G,u,rfl,hG,hr,q⟩:=h<;>rfl
 ·intro aI A outer s H E hr
  refine⟨_,(aF (aU (dv [] ["row","x"] rfl (lV rfl T.mq (af (bv 0) (af (bv 1) au))) (λ_ _ _ _=>(gw (i1:=0) (i2:=1) rfl (show(["row","x"]:List Str).Nodup by decide +kernel) rfl (ao (lr1 rfl)) rfl (ao (lr1 rfl)) (by decide) (by decide) (aX (lr1 rfl)) (aX (lr1 rfl)))) (λ_ _ _ _=>dy) (λ_ _ _ _=>(aG cR (bv 0) (wN (af (bv 1) au)))) rfl trivial (λ_=>by repeat' (first | exact trivial | refine⟨.inl rfl,?_⟩ | refine⟨.inr (.inl rfl),?_⟩ | refine⟨.inr (.inr ⟨_,rfl⟩),?_⟩)) (λ_=>trivial) rfl (by decide +kernel)))),λds Q h=>?_⟩
  obtain⟨G,u,rfl,hG,hr,q⟩:=h
  walk_at"l3"
  refine⟨_,_,rfl,rfl,?_⟩
  refine Iz (G.zip u) (λz=>D.tup [.lst false (aq z.1),.int ((z.2:Nat):Int)]) (λz=>D.lst true (aq (z.1++[z.2]))) (co9 G u) (λa b h=>?_) (λz hz=>?_) IA (.inr λz _=>gK _) (by rw[ql,sL];omega) ?_
  ·injection h with h
   simp only[tL,D.lst.injEq,D.int.injEq,and_true,true_and]at h
   exact y7 (V0 h.1) (by omega)
  ·have hl:=hr _ (sW hz).1
   walk_at"l3"
   exact⟨by decide,by omega,oW z.1 [z.2]⟩
  ·unfold cZ aE at q
   rw[tG]at q
   rw[my,tG]
   exact q
def MM:Option (List Nat)->D
 | some l=>.lst true (aq l)
 | none=>.ay
abbrev aY7(t:gC)(P:Program)(w:World)(K:Frag)(mg:Str->Option Value)(base:Heap):bB:=λds Q=>∃(m:Bool × Nat) (G:List (List Nat)) (u:List Nat),ds=[fD t.aS t.aW m,.lst false (aE false G),.lst false (aq u)]/\m∈aD/\0<G.length/\G.length<=900/\u.length=G.length/\RT (aa m) (ag G) G/\AllLt (aa m) u/\ag G<=800/\(∀r∈cH m (cZ G u),∃x∈r,x≠0)/\Q (MM (wL m G u))
theorem aY8(T:Txt K mg t):aQ P w K mg base bf 4 t.LF t.LG ["field","table","due"] (bx (aY7 t P w K mg base)):=by
 refine bI T.XX yj ?_ ?_
 ·intro ds Q h
  obtain⟨m,G,u,rfl,hm,YI,hG,hu,hR,YJ,hw,hn,q⟩:=h<;>rfl
 ·intro aI A outer s H E hr
  refine⟨_,(aB (aV (i:=3) yj.nd rfl (ao rfl) (aT ((Bt T).mono (by decide)) hr rfl T.AR T.yy.kp T.AS aP (af (bv 1) au)))
   (aB (aV (i:=4) yj.nd rfl (ao rfl) (aT ((Yt T).mono (by decide)) hr rfl T.Xx T.Ma.kp T.Xy aP (af (bv 0) (af (ae (aT ((aX0 T).mono (by decide)) hr rfl T.ec4 T.XW.kp T.ec5 aP (af (bv 1) (af (bv 2) au)))) au))))
   (aB (aV (i:=5) yj.nd rfl (ao rfl) (aT ((Mz T).mono (by decide)) hr rfl T.L7 T.DV.kp T.L8 aP (af (bv 4) au)))
   (ot 5 (ot 4 (aB (bW (bP cS2 (bv 3) (bv 5) (by with_unfolding_all rfl)) (aF (aU fE)) cw)
   (aB (aV (i:=6) yj.nd rfl (ao rfl) (aG iC (ae (eN (e7 aw dJ))) (bv 3)))
   (aB (gv eY rfl (lV rfl T.mq (af (bv 5) (af (bv 4) au))) (gw (i1:=7) (i2:=8) rfl yj.nd rfl (ao rfl) rfl (ao rfl))
    (aF (wk (i:=6) rfl (by first | exact ao rfl | exact aX (ao rfl)) (cO (bH (bv 8) (bv 3) (λ_ _=>rfl))) (bv 7))))
   (aF (aU (em 6))))))))))),λds Q h=>?_⟩
  obtain⟨m,G,u,rfl,hm,YI,hG,hu,hR,YJ,hw,hn,q⟩:=h
  have dr:=(cF hm).lo
  refine aA λU hU=>?_
  walk_at"l3"
  refine⟨G,rfl,by omega,λr bg=>by rw[(hR r bg).1];omega,hU _ ?_⟩
  clear hU U
  refine aA λU hU=>?_
  walk_at"l3"
  refine⟨G,u,rfl,by omega,λr bg=>by rw[(hR r bg).1];omega,?_⟩
  obtain⟨w1,w2,w3⟩:=I0 YI hu hR YJ
  have w4:=w3
  rw[<-w1]at w4
  have I:=wG hm w4 (ag (cZ G u))
  have il:(cH m (cZ G u)).length<=900:=by
   show(je m (cZ G u) (ag (cZ G u))).1.length<=900
   have:=I.l
   omega
  have ia:RT (aa m) (ag G+1) (cH m (cZ G u)):=by rw[<-w1];exact I.a
  have vi:∀X:List (List Nat),(D.lst true (aE true X)).fr=true:=λX=>by rw[eT,pz];rfl
  refine⟨m,cZ G u,by rw[df,dk],hm,by omega,w4,by omega,by rw[vi,gz],hU _ ?_⟩
  clear hU U
  unfold wL at q
  generalize cH m (cZ G u)=R at il ia hn q ⊢
  refine aA λU hU=>?_
  walk_at"l3"
  refine⟨R,rfl,by omega,λr bg=>⟨by rw[(ia r bg).1];omega,hn r bg⟩,gK _,hU _ ?_⟩
  clear hU U
  refine⟨_,rfl,_,rfl,?_⟩
  rw[iH]
  simp only[gn,gj,df,dk]
  refine aA λU hU=>?_
  walk_at"l3"
  refine⟨_,rfl,?_⟩
  have mc:=II (ag G) (R.map aR)
  split
  ·rename_i h
   rw[decide_eq_true h]at mc
   rw[if_pos mc.symm]at q
   exact q
  rename_i h
  rw[decide_eq_false h]at mc
  rw[if_neg (by rw[<-mc];decide)]at q
  refine hU _ ?_
  clear hU U
  refine aA λU hU=>?_
  walk_at"l3"
  have er:aL (bG (ag G) 0)=aq (bG (ag G) 0):=by
   rw[cy,Gk];unfold aL;rw[Gk];rfl
  rw[fP,er]
  refine⟨by decide,⟨by omega,by omega,by omega⟩,hU _ ?_⟩
  clear hU U
  refine aA λU hU=>?_
  walk_at"l3"
  refine⟨_,_,rfl,rfl,?_⟩
  refine fF.mk (λk δ=>∃o3 o4,δ=[some (fD t.aS t.aW m),some (D.lst false (aE false G)),some (D.lst false (aq u)),some (D.int (ag G)),some (D.lst false (aE false R)),some (D.lst false (aq (R.map aR))),some (D.lst true (aq ((((R.map aR).zip R).take k).foldl (λx z=>x.set z.1 (z.2.getD (ag G) 0)) (bG (ag G) 0)))),o3,o4]) ⟨_,_,rfl⟩ ?_ ?_
  ·rintro k d δ hd ⟨o3,o4,rfl⟩
   obtain⟨hk,rfl⟩:=V7 hd
   clear hd
   obtain⟨lw,la⟩:=ia _ (cC hk)
   have xl:=IJ (λz:Nat × List Nat=>z.1) (λz=>z.2.getD (ag G) 0) (((R.map aR).zip R).take k) (bG (ag G) 0)
   rw[p9]at xl
   have hld:aR R[k]<ag G:=by
    obtain⟨x,hx,h0⟩:=hn _ (cC hk)
    have h1:aR R[k]<R[k].length:=Ga ⟨x,hx,by simpa using h0⟩
    have h2:aR R[k]≠ag G:=λz=>by
     have:(R.map aR).contains (ag G)=true:=BV.mpr (bF.mpr ⟨R[k],cC hk,z⟩)
     rw[<-mc]at this;cases this
    omega
   walk_at"l3"
   refine⟨.int (R[k].getD (ag G) 0:Nat),by rw[i9 (by omega) (by omega),fP],?_⟩
   refine⟨rfl,_,aR R[k],rfl,?_,_,_,?_,rfl,rfl⟩
   ·rw[As (by omega) (by rw[eA,xl];omega)];rfl
   ·rw[Ds,mw,y8]
    have ez:((R.map aR).zip R)[k]?=some (aR R[k],R[k]):=by
     rw[my,mB,bQ,aJ hk];rfl
    rw[ez];rfl
  ·rintro δ ⟨o3,o4,rfl⟩
   refine hU _ ?_
   walk_at"l3"
   rw[show((R.map aR).zip R).take (dj (aq (R.map aR)) (aE false R)).length=(R.map aR).zip R from tE (by unfold dj;rw[ql,iq,eA,jc];exact bN _)]
   exact q
abbrev aY9:bB:=λds Q=>∃(G:List (List Nat)) (F:List Nat) (N w:Nat),ds=[.lst false (aE false G),.lst false (aq F)]/\RT N w G/\(∀j∈F,j<w)/\G.length<=1000/\F.length<=1000/\Q (.lst true (aE true (jh G F)))
theorem aZ0(T:Txt K mg t):aQ P w K mg base bf 1 t.LH t.LJ ["table","places"] (bx (aY9 )):=by
 refine bI T.XY aY3 ?_ ?_
 ·intro ds Q h
  obtain⟨G,F,N,wi,rfl,hR,hF,hG,hFl,q⟩:=h<;>rfl
 ·intro aI A outer s H E hr
  refine⟨_,(aF (aU (dv [("places",1)] ["row"] rfl (fU (bv 0)) (λ_ _ _ _=>(cE (i:=1) (show(["places","row"]:List Str).Nodup by decide +kernel) rfl (aX rfl) (by decide) (ao rfl))) (λ_ _ _ _=>dy) (by exact λ_ _ _ _=>(dv [("row",1)] ["j"] rfl (fU (bv 0)) (λ_ _ _ _=>(cE (i:=1) (show(["row","j"]:List Str).Nodup by decide +kernel) rfl (ao (lr1 rfl)) (by decide) (aX (lr1 rfl)))) (λ_ _ _ _=>dy) (λ_ _ _ _=>(cO (bH (bv 0) (bv 1) (λ_ _=>rfl)))) rfl ⟨rfl,trivial⟩ (λ_=>by repeat' (first | exact trivial | refine⟨.inl rfl,?_⟩ | refine⟨.inr (.inl rfl),?_⟩ | refine⟨.inr (.inr ⟨_,rfl⟩),?_⟩)) (λ_=>⟨⟨rfl,.inl rfl,.inl rfl,_,rfl,rfl⟩,trivial⟩) rfl (by decide +kernel))) rfl ⟨rfl,trivial⟩ (λ_=>by repeat' (first | exact trivial | refine⟨.inl rfl,?_⟩ | refine⟨.inr (.inl rfl),?_⟩ | refine⟨.inr (.inr ⟨_,rfl⟩),?_⟩)) (λ_=>⟨⟨rfl,.inl rfl,.inl rfl,_,rfl,rfl⟩,trivial⟩) rfl (by decide +kernel)))),λds Q h=>?_⟩
  obtain⟨G,F,N,wi,rfl,hR,hF,hG,hFl,q⟩:=h
  walk_at"l3"
  refine dY G (λr=>D.lst false (aq r)) (λr=>D.lst true (aq (F.map λj=>r.getD j 0))) (by rw[dk];rfl) (λa b h=>nq a b h) (λr bg=>?_) (.inr λr _=>gK _) (by rw[sL];omega) ?_
  ·have hl:=(hR r bg).1
   walk_at"l3"
   refine dY F (λ(i:Nat)=>D.int (i:Int)) (λ(j:Nat)=>D.int ((r.getD j 0:Nat):Int)) (m9 _) g9 (λj hj=>?_) (.inr λ_ _=>rfl) (by rw[sL];omega) ?_
   ·have:=hF j hj
    walk_at"l3"
    exact⟨.int (r.getD j 0:Nat),by rw[i9 (by omega) (by omega),fP],rfl,rfl⟩
   ·rw[cy,cg];rfl
  ·unfold jh aE at q
   rw[cg]at q
   exact q
abbrev aX1(t:gC)(P:Program)(w:World)(K:Frag)(mg:Str->Option Value)(base:Heap):bB:=λds Q=>∃(m:Bool × Nat) (T:List (List Nat)) (room:Nat) (y:List (Option Nat)),ds=[fD t.aS t.aW m,.lst false (aE false T),.int room,.lst false (dm y)]/\m∈aD/\0<ag T/\ag T<=64/\RT (aa m) (ag T) T/\T.length<=64/\(∀a,some a∈y->a<aa m)/\y.length=ag T/\room<=15/\Q (ka (pP m T room y))
theorem MN(T:Txt K mg t):aQ P w K mg base bf 14 t.LK t.LL ["field","table","room","word"] (bx (aX1 t P w K mg base)):=by
 refine bI T.D4 yn ?_ ?_
 ·intro ds Q h
  obtain⟨m,T,room,y,rfl,hm,hw,Ei,hT,kN,hy,ly,Ej,q⟩:=h<;>rfl
 ·intro aI A outer s H E hr
  refine⟨_,(aB (aV (i:=4) yn.nd rfl (ao rfl) (aT ((aP9 T).mono (by decide)) hr rfl T.ea4 T.XI.kp T.ea5 aP (af (bv 3) au)))
   (aB (bW (bP Ux (ae (dR (fX) (by rfl) T.fZ fR (af (bv 4) au))) (bv 2) (bM _)) (aF (aU fE)) cw)
   (aB (aV (i:=5) yn.nd rfl (ao rfl) (aT ((aG5 T).mono (by decide)) hr rfl T.ea6 T.XJ.kp T.ea7 aP (af (bv 3) au)))
   (aB (aV (i:=6) yn.nd rfl (ao rfl) (aT ((aV0 T).mono (by decide)) hr rfl T.eb2 T.XM.kp T.eb3 aP (af (bv 0) (af (bv 1) (af (bv 5) au)))))
   (aB (aV (i:=7) yn.nd rfl (ao rfl) (aT ((aO5 T).mono (by decide)) hr rfl T.ec0 T.XT.kp T.ec1 aP (af (bv 0) (af (bv 1) (af (bv 4) (af (bv 6) (af (ae (aG jD (ae (aG gE (ae (aG gE (bv 2) (ae aw))) (ae (dR (fX) (by rfl) T.fZ fR (af (bv 4) au))))) (ae aw))) au)))))))
   (aB (bW (bP rh (bv 7) (ae fE) (bM _)) (aF (aU fE)) cw)
   (aB (aV (i:=8) yn.nd rfl (ao rfl) (aG cR (bv 4) (bv 7)))
   (aB (bW (bP (fW (du hr)) (bv 8) (ae (eN dJ)) (bM _)) (aF (aU (em 5))) cw)
   (aF (aU (aT ((aV5 T).mono (by decide)) hr rfl T.ec2 T.XU.kp T.ec3 aP (af (bv 0) (af (bv 5) (af (bv 8) (af (ae (aT ((aY8 T).mono (by decide)) hr rfl T.ec6 T.XX.kp T.ec7 aP (af (bv 0) (af (ae (aT ((aZ0 T).mono (by decide)) hr rfl T.ec8 T.XY.kp T.ec9 aP (af (bv 1) (af (bv 8) au)))) (af (bv 6) au))))) au))))))))))))))),λds Q h=>?_⟩
  obtain⟨m,T,room,y,rfl,hm,hw,Ei,hT,kN,hy,ly,Ej,q⟩:=h
  have dr:=(cF hm).lo
  have kl:=DJ hm hy
  have kn:=Jo y
  obtain⟨l1,l2⟩:=Jn y
  have ll:(bC y).length<=y.length:=eH (BZ ..) (by rw[dD];exact bN _)
  have YK:∀l:List Nat,((dm y).all D.pl||(D.lst true (aq l)).fr)=true:=λl=>by rw[gK,gz]
  have T0:0<T.length:=by
   unfold ag at hw
   cases T with
   | nil=>cases hw
   | cons _ _=>exact Sj _
  unfold pP at q
  refine aA λU hU=>?_
  walk_at"l3"
  refine⟨y,by rw[pO],by omega,YK _,hU _ ?_⟩
  clear hU U
  refine aA λU hU=>?_
  walk_at"l3"
  by_cases h1:room<=(L3.bC y).length
  ·rw[if_pos (by omega)]
   rw[if_pos h1]at q
   exact q
  rw[if_neg (by omega)]
  rw[if_neg h1]at q
  refine hU _ ?_
  clear hU U
  refine aA λU hU=>?_
  walk_at"l3"
  refine⟨y,by rw[pO],by omega,YK _,hU _ ?_⟩
  clear hU U
  refine aA λU hU=>?_
  walk_at"l3"
  have Ek:=DN hm T (cS y)
  refine⟨m,T,cS y,rfl,hm,by rw[kn,ly];exact hT,kl,by omega,by omega,gK _,hU _ ?_⟩
  clear hU U
  rw[show(T.map λr=>gd m r (cS y))=gP m T (cS y) from rfl]
  refine aA λU hU=>?_
  walk_at"l3"
  refine⟨jC (by decide) (by decide),m,T,L3.bC y,gP m T (cS y),(room-1-(L3.bC y).length)/2,by rw[show(((room-1-(L3.bC y).length)/2:Nat):Int)=((room:Int)-1-((L3.bC y).length:Int))/2 by omega],hm,hw,Ei,hT,kN,λp hp=>by rw[<-ly];exact l2 p hp,by omega,Ek.1,Ek.2,by omega,AJ _,hU _ ?_⟩
  clear hU U
  refine aA λU hU=>?_
  walk_at"l3"
  cases eW:vd m T (L3.bC y) (gP m T (cS y)) ((room-1-(L3.bC y).length)/2)with
  | none =>
   rw[eW]at q
   rw[if_pos (by exact rfl)]
   exact q
  | some W =>
  rw[eW]at q
  obtain⟨w1,w2,w3,w4,w5⟩:=Jy hm hw hT hy ly eW
  rw[if_neg (by exact gh),show ka (some W)=D.lst true (aq W) from rfl]
  refine hU _ ?_
  clear hU U
  refine aA λU hU=>?_
  walk_at"l3"
  refine⟨by omega,hU _ ?_⟩
  clear hU U
  have pl:(L3.bC y++W).length<=100:=by rw[dU];omega
  dsimp only at q
  generalize L3.bC y++W=ps at *
  refine aA λU hU=>?_
  walk_at"l3"
  have ed:bK (D.lst true (aq ps)) (D.lst true [])=decide (ps=[]):=u5 true true ps []
  rw[ed]
  refine⟨by decide,rfl,?_⟩
  by_cases p0:ps=[]
  ·rw[if_pos p0]at q
   rw[if_pos (decide_eq_true p0)]
   exact q
  rw[if_neg p0]at q
  rw[if_neg (by rw[decide_eq_false p0];decide)]
  refine hU _ ?_
  clear hU U ed
  obtain⟨X,x1,x2,x3,_⟩:=w5 p0
  rw[x1]at q
  have wp:=WW (T:=T) (F:=ps) T0
  obtain⟨g1,g2⟩:=WE (F:=ps) (show 0<aa m by omega) hT
  have rr:∀r∈cH m (cZ (jh T ps) (gP m T (cS y))),∃x∈r,x≠0:=by
   obtain⟨w1,w2,w3⟩:=I0 (G:=jh T ps) (u:=gP m T (cS y)) (by omega) (by omega) (by rw[wp];exact g1) Ek.2
   rw[<-w1]at w3
   obtain⟨⟨Hd,I⟩,iR,_,_⟩:=wJ hm w3
   intro r bg
   obtain⟨i,hi,rfl⟩:=gy bg
   have:=(I.wK hm iR hi).2
   rwa [aK,aJ hi]at this
  walk_at"l3"
  refine⟨T,ps,aa m,ag T,rfl,hT,w3,by omega,by omega,by rw[eT,pz];rfl,m,jh T ps,gP m T (cS y),by rw[df,dk],hm,by omega,by omega,by omega,by rw[wp];exact g1,Ek.2,by omega,rr,?_,?_⟩
  ·rw[x1,show MM (some X)=D.lst true (aq X) from rfl,gK,gz]
  ·rw[x1,show MM (some X)=D.lst true (aq X) from rfl,iH]
   exact⟨m,cS y,ps,X,rfl,hm,kl,x3,x2,λp hp=>by rw[kn,ly];exact w3 p hp,by omega,by omega,gK _,q⟩
theorem ck4{y:List (Option Nat)}{w:List Nat}:(dj (dm y) (aq w)).map D.sh=(my y w).map λp=>D.tup [fq p.1,D.int (p.2:Int)]:=by
 rw[CQ,pO,m9]
 unfold dj dm
 rw[my,tH,tG]
theorem cj3(a b:Option Nat × Nat)(h:D.tup [fq a.1,D.int (a.2:Int)]=D.tup [fq b.1,D.int (b.2:Int)]):a=b:=by
 injection h with h
 injection h with h1 h2
 injection h2 with h2 _
 injection h2 with h2
 exact y7 (Jp _ _ h1) (by omega)
abbrev aV6:bB:=λds Q=>∃(y:List (Option Nat)) (w:List Nat) (room:Nat),ds=[.lst false (dm y),.lst false (aq w),.int room]/\w.length=y.length/\y.length<=1000/\Q (.bl (decide ((bC y).length+2*(iK y w).length<room)))
theorem YL(T:Txt K mg t):aQ P w K mg base bf 1 t.LM t.LN ["_law_word","_law_sent_here","_law_room"] (bx (aV6 )):=by
 refine bI T.Mr JG ?_ ?_
 ·intro ds Q h
  obtain⟨y,w,room,rfl,hw,hy,q⟩:=h<;>rfl
 ·intro aI A outer s H E hr
  refine⟨_,(aB (aV (i:=3) JG.nd rfl (ao rfl) (dR (fX) (by rfl) T.fZ fR (af (ae (dv [] ["_law_x"] rfl (fU (bv 0)) (λ_ _ _ _=>(cE (i:=0) (show(["_law_x"]:List Str).Nodup by decide +kernel) rfl (ao (lr1 rfl)) (by decide) (aX (lr1 rfl)))) (λ_ _ _ _=>(uf (bP rh (bv 0) (ae fE) (bM _)))) (λ_ _ _ _=>(cO (bv 0))) rfl trivial (λ_=>by repeat' (first | exact trivial | refine⟨.inl rfl,?_⟩ | refine⟨.inr (.inl rfl),?_⟩ | refine⟨.inr (.inr ⟨_,rfl⟩),?_⟩)) (λ_=>trivial) rfl (by decide +kernel))) au)))
   (aB (aV (i:=4) JG.nd rfl (ao rfl) (dR (fX) (by rfl) T.fZ fR (af (ae (dv [] ["_law_x","_law_y"] rfl (lV rfl T.mq (af (bv 0) (af (bv 1) au))) (λ_ _ _ _=>(gw (i1:=0) (i2:=1) rfl (show(["_law_x","_law_y"]:List Str).Nodup by decide +kernel) rfl (ao (lr1 rfl)) rfl (ao (lr1 rfl)) (by decide) (by decide) (aX (lr1 rfl)) (aX (lr1 rfl)))) (λ_ _ _ _=>(uf (PW.pt (Hz (bP HG (bv 0) (ae fE) (bM _)) (Sw (bP (jY (du hr)) (bv 0) (bv 1) (bM _))))))) (λ_ _ _ _=>(cO (bv 0))) rfl trivial (λ_=>by repeat' (first | exact trivial | refine⟨.inl rfl,?_⟩ | refine⟨.inr (.inl rfl),?_⟩ | refine⟨.inr (.inr ⟨_,rfl⟩),?_⟩)) (λ_=>trivial) rfl (by decide +kernel))) au)))
   (aF (aU (vY v9 (ae (aG cR (ae (aG iC (ae aw) (bv 4))) (bv 3))) (bv 2) (bM _)))))),λds Q h=>?_⟩
  obtain⟨y,w,room,rfl,hw,hy,q⟩:=h
  refine aA λU hU=>?_
  walk_at"l3"
  refine u7 y fq fq Gi (pO y) Jp (λa ha=>?_) (.inr λa _ _=>by cases a<;>rfl) (by rw[sL];omega) ?_
  ·walk_at"l3"
   cases a with
   | none=>exact⟨rfl,λ_=>rfl⟩
   | some a=>exact⟨rfl,λ_=>rfl⟩
  rw[show(BS fq (y.filter Gi))=dm (y.filter Gi) from rfl]
  dsimp only[gn,gj]
  rw[WK,cp3]
  refine hU _ ?_
  clear hU U
  refine aA λU hU=>?_
  walk_at"l3"
  refine⟨_,_,rfl,rfl,u7 (my y w) (λp=>D.tup [fq p.1,D.int (p.2:Int)]) (λp=>fq p.1) Jz ck4 cj3 (λp hp=>?_) (.inr λp _ _=>by cases p.1<;>rfl) (by rw[sL,ql];omega) ?_⟩
  ·obtain⟨a,b⟩:=p
   walk_at"l3"
   cases a with
   | none =>
    rw[if_neg (by exact gh)]
    exact⟨rfl,λz=>by cases z⟩
   | some a =>
    rw[if_pos (by exact rfl),show bK (fq (some a)) (D.int (b:Int))=decide ((a:Int)=(b:Int)) from lR _ _]
    refine⟨rfl,?_,λ_=>rfl⟩
    show _=decide (a≠b)
    rw[decide_not]
    congr 1
    exact decide_eq_decide.mpr ⟨λh=>by omega,λh=>by omega⟩
  dsimp only[gn,gj]
  rw[bt,bZ4 hw]
  refine hU _ ?_
  clear hU U
  walk_at"l3"
  have wl:(iK y w).length<=y.length:=eH (BZ ..) (by rw[dD];exact bN _)
  refine⟨jt.ok (.inl ⟨by omega,by omega⟩),?_⟩
  rw[show decide (2*((iK y w).length:Int)+((L3.bC y).length:Int)<(room:Int))=decide ((L3.bC y).length+2*(iK y w).length<room) from decide_eq_decide.mpr ⟨λh=>by omega,λh=>by omega⟩]
  exact q
def nF(m:Bool × Nat)(c:Int)(b k:Nat):Nat:=gm m b ((c/64+(k:Int))%(aa m:Int)).toNat
def pY(m:Bool × Nat)(ns:List Int)(k:Nat):Nat:=(1+eQ ns (15+(k:Int))%((aa m:Int)-1)).toNat
def ft(m:Bool × Nat)(c:Int)(b:Nat)(ns:List Int)(W i:Nat):List Nat:=(aZ W).map λj=>gm m (pY m ns j) (px m (nF m c b j) i)
theorem yH{M:Int}(h:0<M)(a:Int):0<=a%M/\a%M<M:=⟨jm a (by omega),jn a h⟩
theorem cE6{m:Bool × Nat}(hm:m∈aD){c:Int}{b:Nat}(b1:1<=b)(b2:b<aa m){i j:Nat}(hi:i<aa m)(hj:j<aa m)(h:nF m c b i=nF m c b j):i=j:=by
 have dr:=lo1 hm
 obtain⟨v,v1,v2⟩:=IE hm dr b2 (by omega)
 have g1:=yH (show(0:Int)<aa m by omega) (c/64+(i:Int))
 have g2:=yH (show(0:Int)<aa m by omega) (c/64+(j:Int))
 have e:=congrArg (gm m v) h
 unfold nF at e
 rw[<-hJ (bX m hm),<- hJ (bX m hm),v2,lW (by omega),lW (by omega)]at e
 have e2:(c/64+(i:Int))%(aa m:Int)=(c/64+(j:Int))%(aa m:Int):=by omega
 have e3:=Int.emod_eq_emod_iff_emod_sub_eq_zero.mp e2
 have e4:=Int.eq_zero_of_dvd_of_natAbs_lt_natAbs (Int.dvd_of_emod_eq_zero e3) (by omega)
 omega
theorem El{m:Bool × Nat}(hm:m∈aD)(ns:List Int)(k:Nat):1<=pY m ns k/\pY m ns k<aa m/\(pY m ns k:Int)=1+eQ ns (15+(k:Int))%((aa m:Int)-1):=by
 have dr:=lo1 hm
 have g:=yH (show(0:Int)<(aa m:Int)-1 by omega) (eQ ns (15+(k:Int)))
 unfold pY
 omega
theorem YM(m:Bool × Nat)(c:Int)(b:Nat)(ns:List Int)(W i:Nat):(ft m c b ns W i).length=W:=by unfold ft;rw[bt,dD]
theorem YN{m:Bool × Nat}(hm:m∈aD)(c:Int)(b:Nat)(ns:List Int)(W i:Nat):AllLt (aa m) (ft m c b ns W i):=λx hx=>by
 obtain⟨j,_,rfl⟩:=bF.mp hx
 exact cj hm _ _
theorem cn9{m:Bool × Nat}(hm:m∈aD)(c:Int)(b:Nat)(ns:List Int)(W i:Nat):da (gm m) (ft m c b ns W i) ((aZ W).map (nF m c b))=ft m c b ns W (i+1):=by
 unfold ft
 rw[tH,List.zipWith_self]
 refine nQ λj _=>?_
 rw[hJ (bX m hm)];rfl
theorem YO{m:Bool × Nat}(hm:m∈aD){c:Int}{b:Nat}(b1:1<=b)(b2:b<aa m)(ns:List Int){R W:Nat}(hW:W<=aa m){T:List (List Nat)}(hl:T.length=R)(hT:∀r∈T,∃i,r=ft m c b ns W i)(hat:∀i,i<R->∃k,k<R/\T.getD k []=ft m c b ns W i):wU m R W (nF m c b) (pY m ns) T where
 rt:=λr hr=>by
  obtain⟨i,rfl⟩:=hT r hr
  exact⟨YM ..,YN hm _ _ _ _ _⟩
 l:=hl
 xl:=λj=>cj hm _ _
 xd:=λi j hi hj h=>cE6 hm b1 b2 (by omega) (by omega) h
 yl:=λj=>(El hm ns j).2.1
 y0:=λj _=>by have:=(El hm ns j).1;omega
 at_:=λi hi=>by
  obtain⟨k,hk,e⟩:=hat i hi
  refine⟨k,hk,λj hj=>?_⟩
  unfold fY
  rw[e]
  exact Wk _ hj
abbrev aQ0:bB:=λds Q=>∃(m:Bool × Nat) (ns:List Int) (R W:Nat) (c:Int),ds=[dz m,.fz (aL ns),.int R,.int W,.int c]/\m∈aD/\R<=6/\W<=6/\W<=aa m/\∀(T:List (List Nat)) (x y:Nat->Nat),wU m R W x y T->Q (.lst true (aE false T))
theorem aQ1(T:Txt K mg t):aQ P w K mg base bf 2 t.LO t.LP ["_law_told_here","_law_script","_law_rows","_law_wide","_law_cell_here"] (bx (aQ0 )):=by
 refine bI T.X5 sG ?_ ?_
 ·intro ds Q h
  obtain⟨m,ns,R,W,c,rfl,hm,hR,hW,MP,q⟩:=h<;>rfl
 ·intro aI A outer s H E hr
  refine⟨_,(aB (aV (i:=5) sG.nd rfl (aX rfl) (aT ((sR T).mono (by decide)) hr rfl T.sI T.pV.kp T.sJ aP (af (bv 0) au)))
   (aB (aV (i:=6) sG.nd rfl (aX rfl) (aG cR (ae aw) (ae (aG di (bv 4) (ae (aG gE (bv 5) (ae aw)))))))
   (aB (wH (i:=7) sG.nd rfl (ao rfl) [("_law_told_here",0),("_law_by",6),("_law_many_here",5),("_law_cell_here",4)] ["_law_k"] rfl (kG rfl T.iM (af (bv 3) au)) (λ_ _ _ _=>(cE (i:=4) (show(["_law_told_here","_law_by","_law_many_here","_law_cell_here","_law_k"]:List Str).Nodup by decide +kernel) rfl (ao (lr1 rfl)) (by decide) (aX (lr1 rfl)))) (λ_ _ _ _=>dy) (λ_ _ _ _=>(aT ((MB T).mono (by decide)) hr rfl T.Mc T.DW.kp T.Md aP (af (bv 0) (af (bv 1) (af (ae (aG di (ae (aG cR (ae (aG jD (bv 3) (ae aw))) (bv 4))) (bv 2))) au))))) rfl ⟨rfl,⟨rfl,⟨rfl,⟨rfl,trivial⟩⟩⟩⟩ (λ_=>by repeat' (first | exact trivial | refine⟨.inl rfl,?_⟩ | refine⟨.inr (.inl rfl),?_⟩ | refine⟨.inr (.inr ⟨_,rfl⟩),?_⟩)) (λ_=>⟨⟨rfl,.inl rfl,.inl rfl,_,rfl,rfl⟩,⟨⟨rfl,.inl rfl,.inl rfl,_,rfl,rfl⟩,⟨⟨rfl,.inl rfl,.inl rfl,_,rfl,rfl⟩,⟨⟨rfl,.inl rfl,.inl rfl,_,rfl,rfl⟩,trivial⟩⟩⟩⟩) rfl (by decide +kernel))
   (aB (wH (i:=8) sG.nd rfl (ao rfl) [("_law_script",1),("_law_many_here",5)] ["_law_k"] rfl (kG rfl T.iM (af (bv 3) au)) (λ_ _ _ _=>(cE (i:=2) (show(["_law_script","_law_many_here","_law_k"]:List Str).Nodup by decide +kernel) rfl (ao (lr1 rfl)) (by decide) (aX (lr1 rfl)))) (λ_ _ _ _=>dy) (λ_ _ _ _=>(aG cR (ae aw) (ae (aG di (ae (aT ((kg T).mono (by decide)) hr rfl T.kb T.jK.kp T.ke aP (af (bv 0) (af (ae (aG cR (ae aw) (bv 2))) au)))) (ae (aG gE (bv 1) (ae aw))))))) rfl ⟨rfl,⟨rfl,trivial⟩⟩ (λ_=>by repeat' (first | exact trivial | refine⟨.inl rfl,?_⟩ | refine⟨.inr (.inl rfl),?_⟩ | refine⟨.inr (.inr ⟨_,rfl⟩),?_⟩)) (λ_=>⟨⟨rfl,.inl rfl,.inl rfl,_,rfl,rfl⟩,⟨⟨rfl,.inl rfl,.inl rfl,_,rfl,rfl⟩,trivial⟩⟩) rfl (by decide +kernel))
   (aB (aV (i:=9) sG.nd rfl (ao rfl) (eN dJ))
   (aB (gv eY rfl (kG rfl T.iM (af (bv 2) au)) (cE (i:=10) sG.nd rfl (ao rfl))
    (ot 8 (aB (lL (i:=9) rfl (by first | exact ao rfl | exact aX (ao rfl)) (cO (bv 8)))
    (aF (wH (i:=8) sG.nd rfl (ao rfl) [("_law_told_here",0)] ["_law_x","_law_y"] rfl (lV rfl T.mq (af (bv 8) (af (bv 7) au))) (λ_ _ _ _=>(gw (i1:=1) (i2:=2) rfl (show(["_law_told_here","_law_x","_law_y"]:List Str).Nodup by decide +kernel) rfl (ao (lr1 rfl)) rfl (ao (lr1 rfl)) (by decide) (by decide) (aX (lr1 rfl)) (aX (lr1 rfl)))) (λ_ _ _ _=>dy) (λ_ _ _ _=>(aT ((MB T).mono (by decide)) hr rfl T.Mc T.DW.kp T.Md aP (af (bv 0) (af (bv 1) (af (bv 2) au))))) rfl ⟨rfl,trivial⟩ (λ_=>by repeat' (first | exact trivial | refine⟨.inl rfl,?_⟩ | refine⟨.inr (.inl rfl),?_⟩ | refine⟨.inr (.inr ⟨_,rfl⟩),?_⟩)) (λ_=>⟨⟨rfl,.inl rfl,.inl rfl,_,rfl,rfl⟩,trivial⟩) rfl (by decide +kernel))))))
   (aB (bW (bP (fW (du hr)) (ae (aG di (ae (aG jD (bv 4) (ae aw))) (ae aw))) (ae aw) (bM _)) (aF (bZ8 (i:=9) rfl (by first | exact ao rfl | exact aX (ao rfl)))) cw)
   (aF (aU (em 9)))))))))),λds Q h=>?_⟩
  obtain⟨m,ns,R,W,c,rfl,hm,hR,hW,MP,q⟩:=h
  have dr:=(cF hm).lo
  have Eg:=Ap m hm
  have hM:=(cF hm).hi
  refine aA λU hU=>?_
  walk_at"l3"
  refine⟨m,rfl,by omega,by omega,hU _ ?_⟩
  clear hU U
  obtain⟨b,hb⟩:∃b:Nat,1+c%((aa m:Int)-1)=(b:Int):=⟨(1+c%((aa m:Int)-1)).toNat,by have:=yH (show(0:Int)<(aa m:Int)-1 by omega) c;omega⟩
  obtain⟨b1,b2⟩:1<=b/\b<aa m:=by have:=yH (show(0:Int)<(aa m:Int)-1 by omega) c;omega
  refine aA λU hU=>?_
  walk_at"l3"
  rw[hb]
  refine⟨by omega,hU _ ?_⟩
  clear hU U
  refine aA λU hU=>?_
  walk_at"l3"
  refine⟨⟨by omega,by omega⟩,dY (aZ W) (λ(i:Nat)=>D.int (i:Int)) (λk=>D.int ((nF m c b k:Nat):Int)) (si _ rfl) g9 (λk hk=>?_) (.inr λ_ _=>rfl) (by rw[dD,sL];omega) ?_⟩
  ·have g1:=yH (show(0:Int)<aa m by omega) (c/64+(k:Int))
   walk_at"l3"
   refine⟨jC (by decide) (by decide),by omega,m,b,((c/64+(k:Int))%(aa m:Int)).toNat,by rw[tI g1.1],hm,b2,by omega,rfl⟩
  rw[show((aZ W).map λk=>D.int ((nF m c b k:Nat):Int))=aq ((aZ W).map (nF m c b)) by rw[cy,cg];rfl]
  refine hU _ ?_
  clear hU U
  refine aA λU hU=>?_
  walk_at"l3"
  refine⟨⟨by omega,by omega⟩,dY (aZ W) (λ(i:Nat)=>D.int (i:Int)) (λk=>D.int ((pY m ns k:Nat):Int)) (si _ rfl) g9 (λk hk=>?_) (.inr λ_ _=>rfl) (by rw[dD,sL];omega) ?_⟩
  ·have:=cT.mp hk
   walk_at"l3"
   exact⟨ns,_,rfl,by omega,by omega,by omega,(El hm ns k).2.2.symm⟩
  rw[show((aZ W).map λk=>D.int ((pY m ns k:Nat):Int))=aq (ft m c b ns W 0) by
   rw[cy]
   unfold ft
   rw[cg]
   refine nQ λj _=>?_
   show _=D.int ((gm m (pY m ns j) 1:Nat):Int)
   rw[pj (El hm ns j).2.1]]
  refine hU _ ?_
  clear hU U
  refine aA λU hU=>?_
  walk_at"l3"
  refine⟨by decide,hU _ ?_⟩
  clear hU U
  refine aA λU hU=>?_
  walk_at"l3"
  refine⟨⟨by omega,by omega⟩,?_⟩
  refine fF.mk (λi δ=>∃MQ,δ=[some (dz m),some (D.fz (aL ns)),some (D.int R),some (D.int W),some (D.int c),some (D.int (aa m)),some (D.int b),some (D.lst true (aq ((aZ W).map (nF m c b)))),some (D.lst true (aq (ft m c b ns W i))),some (D.lst true (aE false ((aZ i).map (ft m c b ns W)))),MQ]) ⟨_,rfl⟩ ?_ ?_
  ·rintro i d δ hd ⟨MQ,rfl⟩
   obtain⟨hi,rfl⟩:=ci5 hd
   clear hd hU
   have pl:=YM m c b ns W i
   simp only[gN,gn,gj]
   refine⟨_,rfl,?_⟩
   rw[iH]
   simp only[gn,gj]
   refine aA λU hU=>?_
   walk_at"l3"
   rw[show aE false ((aZ i).map (ft m c b ns W))++[D.lst false (aq (ft m c b ns W i))]=aE false ((aZ (i+1)).map (ft m c b ns W)) by
    rw[Gb,gi];exact sq false _ [ft m c b ns W i]]
   refine⟨⟨_,rfl⟩,by rw[bt,dD];omega,hU _ ?_⟩
   clear hU
   walk_at"l3"
   refine⟨_,_,rfl,rfl,IC (gm m) (λx hx y hy=>?_) (by omega) ?_⟩
   ·walk_at"l3"
    obtain⟨j,_,rfl⟩:=bF.mp hy
    exact⟨m,x,_,rfl,hm,YN hm _ _ _ _ _ x hx,cj hm _ _,rfl⟩
   rw[cn9 hm]
   exact⟨_,rfl⟩
  ·rintro δ ⟨MQ,rfl⟩
   refine hU _ ?_
   clear hU U
   rw[bt,dD,fP]
   refine aA λU hU=>?_
   walk_at"l3"
   refine⟨jC (by decide) (by decide),?_⟩
   have tm:∀r∈(aZ R).map (ft m c b ns W),∃i,r=ft m c b ns W i:=λr bg=>by
    obtain⟨i,_,rfl⟩:=bF.mp bg
    exact⟨i,rfl⟩
   have tl:((aZ R).map (ft m c b ns W)).length=R:=by rw[bt,dD]
   have ta:∀i,i<R->((aZ R).map (ft m c b ns W))[i]?=some (ft m c b ns W i):=λi hi=>by
    rw[bQ,ki hi];rfl
   by_cases hc:c/4096%2=1
   ·rw[if_pos hc]
    refine⟨by decide,hU _ ?_⟩
    walk_at"l3"
    rw[show(aE false ((aZ R).map (ft m c b ns W))).reverse=aE false ((aZ R).map (ft m c b ns W)).reverse by unfold aE;rw[List.map_reverse]]
    refine q _ _ _ (YO hm b1 b2 ns MP (by rw[db7,tl]) (λr bg=>tm r (List.mem_reverse.mp bg)) λi hi=>⟨R-1-i,by omega,?_⟩)
    rw[aK,List.getElem?_reverse (by omega),tl,show R-1-(R-1-i)=i by omega,ta i hi];rfl
   ·rw[if_neg hc]
    refine⟨by decide,hU _ ?_⟩
    walk_at"l3"
    refine q _ _ _ (YO hm b1 b2 ns MP tl tm λi hi=>⟨i,hi,?_⟩)
    rw[aK,ta i hi];rfl
theorem cU6{tc:fS}{t u:cX}{En:ub}{δ:Dl}(h:∀W:Bool->Dl->Prop,(∀ak,t En ak->W true ak)->(∀ak,u En ak->W false ak)->tc δ W):ou tc t u En δ:=h (λb ak=>if b=true then t En ak else u En ak) (λ_ z=>by rw[if_pos rfl];exact z) (λ_ z=>by rw[if_neg (by decide)];exact z)
abbrev aS3:bB:=λds Q=>∃(m:Bool × Nat) (ns:List Int) (b r w y:Nat),ds=[dz m,.fz (aL ns),.int b,.int r,.int w,.int y]/\m∈aD/\b<=1000/\r<=64/\1<=w/\w<=64/\∀T:List (List Nat),T.length=r->RT (aa m) w T->Q (.lst true (aE true T))
theorem aS4(T:Txt K mg t):aQ P w K mg base bf 4 t.LQ t.LR ["_law_told_here","_law_script","_law_begin","_law_rows","_law_wide","_law_way"] (bx (aS3 )):=by
 refine bI T.X6 yr ?_ ?_
 ·intro ds Q h
  obtain⟨m,ns,b,r,wi,y,rfl,hm,hb,bg,hw1,hw,q⟩:=h<;>rfl
 ·intro aI A outer s H E hr
  refine⟨_,(aB (aV (i:=6) yr.nd rfl (ao rfl) (eN dJ))
   (aB (gv eY rfl (kG rfl T.iM (af (bv 3) au)) (cE (i:=7) yr.nd rfl (aX rfl))
    (aB (wH (i:=8) yr.nd rfl (ao rfl) [("_law_script",1),("_law_told_here",0),("_law_begin",2),("_law_i",7),("_law_wide",4)] ["_law_k"] rfl (kG rfl T.iM (af (bv 4) au)) (λ_ _ _ _=>(cE (i:=5) (show(["_law_script","_law_told_here","_law_begin","_law_i","_law_wide","_law_k"]:List Str).Nodup by decide +kernel) rfl (ao (lr1 rfl)) (by decide) (aX (lr1 rfl)))) (λ_ _ _ _=>dy) (λ_ _ _ _=>(aG di (ae (aT ((kg T).mono (by decide)) hr rfl T.kb T.jK.kp T.ke aP (af (bv 0) (af (ae (aG cR (ae (aG cR (bv 2) (ae (aG iC (bv 3) (bv 4))))) (bv 5))) au)))) (ae (aT ((sR T).mono (by decide)) hr rfl T.sI T.pV.kp T.sJ aP (af (bv 1) au))))) rfl ⟨rfl,⟨rfl,⟨rfl,⟨rfl,⟨rfl,trivial⟩⟩⟩⟩⟩ (λ_=>by repeat' (first | exact trivial | refine⟨.inl rfl,?_⟩ | refine⟨.inr (.inl rfl),?_⟩ | refine⟨.inr (.inr ⟨_,rfl⟩),?_⟩)) (λ_=>⟨⟨rfl,.inl rfl,.inl rfl,_,rfl,rfl⟩,⟨⟨rfl,.inl rfl,.inl rfl,_,rfl,rfl⟩,⟨⟨rfl,.inl rfl,.inl rfl,_,rfl,rfl⟩,⟨⟨rfl,.inl rfl,.inl rfl,_,rfl,rfl⟩,⟨⟨rfl,.inl rfl,.inl rfl,_,rfl,rfl⟩,trivial⟩⟩⟩⟩⟩) rfl (by decide +kernel))
    (aB (bW (bP (fW (du hr)) (ae (aG di (bv 5) (ae aw))) (ae aw) (bM _)) (aF (wH (i:=8) yr.nd rfl (ao rfl) [] ["_law_x"] rfl (fU (bv 8)) (λ_ _ _ _=>(cE (i:=0) (show(["_law_x"]:List Str).Nodup by decide +kernel) rfl (ao (lr1 rfl)) (by decide) (aX (lr1 rfl)))) (λ_ _ _ _=>dy) (λ_ _ _ _=>(aG di (bv 0) (ae aw))) rfl trivial (λ_=>by repeat' (first | exact trivial | refine⟨.inl rfl,?_⟩ | refine⟨.inr (.inl rfl),?_⟩ | refine⟨.inr (.inr ⟨_,rfl⟩),?_⟩)) (λ_=>trivial) rfl (by decide +kernel))) cw)
    (aB (bW (PW.pt (Hz (bP (fW (du hr)) (ae (aG di (ae (aG jD (bv 5) (ae aw))) (ae aw))) (ae aw) (bM _)) (Hz (bP HF (bv 7) (ae aw) (bM _)) (Sw (bP (fW (du hr)) (ae (aG di (ae (aG jD (ae (aT ((kg T).mono (by decide)) hr rfl T.kb T.jK.kp T.ke aP (af (bv 1) (af (ae (aG cR (bv 2) (ae (aG iC (bv 7) (bv 4))))) au)))) (ae aw))) (ae aw))) (ae aw) (bM _)))))) (aF (aV (i:=8) yr.nd rfl (ao rfl) (aT ((Yv T).mono (by decide)) hr rfl T.XC T.Mh.kp T.XD aP (af (bv 0) (af (wN (af (bH (bv 8) (ae aw) (λ_ _=>rfl)) (af (bH (bv 8) (ae (aG gE (bv 4) (ae aw))) (λ_ _=>rfl)) au))) (af (wN (af (bH (bv 6) (ae aw) (λ_ _=>rfl)) (af (bH (bv 6) (ae (aG gE (bv 7) (ae aw))) (λ_ _=>rfl)) au))) (af (bv 4) au))))))) cw)
    (aF (lL (i:=6) rfl (by first | exact ao rfl | exact aX (ao rfl)) (em 8)))))))
   (aF (aU (em 6))))),λds Q h=>?_⟩
  obtain⟨m,ns,b,r,wi,y,rfl,hm,hb,bg,hw1,hw,q⟩:=h
  have dr:=(cF hm).lo
  have Eg:=Ap m hm
  have MF:∀z:Int,z%(aa m:Int)=(((z%(aa m:Int)).toNat:Nat):Int):=λz=>by
   have n0:=jm z (show(aa m:Int)≠0 by omega)
   omega
  have MG:∀z:Int,(z%(aa m:Int)).toNat<aa m:=λz=>by
   have n1:=jn z (show(0:Int)<(aa m:Int) by omega)
   omega
  refine aA λU hU=>?_
  walk_at"l3"
  refine⟨by decide,hU _ ?_⟩
  clear hU U
  refine aA λU hU=>?_
  walk_at"l3"
  refine⟨⟨by omega,by omega⟩,HV (λi δ=>∃(G:List (List Nat)) (o1 o2:Option D),δ=[some (dz m),some (.fz (aL ns)),some (.int b),some (.int r),some (.int wi),some (.int y),some (.lst true (aE true G)),o1,o2]/\G.length=i/\RT (aa m) wi G) ⟨[],_,_,rfl,rfl,λ_ h=>nomatch h⟩ ?_ ?_⟩
  ·rintro i δ hi ⟨G,o1,o2,rfl,hG,hR⟩
   simp only[gN,gn,gj]
   clear hU
   have iw:i*wi<=64*64:=Nat.mul_le_mul (by omega) hw
   have eiw:(i:Int)*(wi:Int)=((i*wi:Nat):Int):=by rw[vy]
   refine aA λU hU=>?_
   walk_at"l3"
   refine⟨⟨by omega,by omega⟩,dY (aZ wi) (λ(i:Nat)=>D.int (i:Int)) (λk=>D.int (((eQ ns ((b:Int)+(i:Int)*(wi:Int)+(k:Int))%(aa m:Int)).toNat:Nat):Int)) (si _ rfl) g9 (λk hk=>?_) (.inr λ_ _=>rfl) (by rw[dD,sL];omega) ?_⟩
   ·have hk:=cT.mp hk
    walk_at"l3"
    refine⟨jt.ok (.inl ⟨by omega,by omega⟩),ns,_,rfl,by omega,by omega,m,rfl,by omega,by omega,?_⟩
    dsimp only
    exact⟨by omega,MF _⟩
   obtain⟨row,er,pZ,sS⟩:∃wd:List Nat,((aZ wi).map λ(k:Nat)=>D.int (((eQ ns ((b:Int)+(i:Int)*(wi:Int)+(k:Int))%(aa m:Int)).toNat:Nat):Int))=aq wd/\AllLt (aa m) wd/\wd.length=wi:=by
    refine⟨(aZ wi).map λ(k:Nat)=>(eQ ns ((b:Int)+(i:Int)*(wi:Int)+(k:Int))%(aa m:Int)).toNat,by rw[cy,cg];rfl,λa ha=>?_,by simp⟩
    obtain⟨k,_,rfl⟩:=bF.mp ha
    exact MG _
   rw[er]
   refine hU _ ?_
   clear hU
   refine aA λU hU=>?_
   walk_at"l3"
   have fin:∀row:List Nat,AllLt (aa m) row->row.length=wi->U [some (dz m),some (D.fz (aL ns)),some (D.int b),some (D.int r),some (D.int wi),some (D.int y),some (D.lst true (aE true G)),some (D.int i),some (D.lst true (aq row))]:=by
    clear er pZ sS row
    intro row pZ sS
    refine hU _ ?_
    clear hU
    refine aA λU hU=>?_
    have fin2:∀row:List Nat,AllLt (aa m) row->row.length=wi->U [some (dz m),some (D.fz (aL ns)),some (D.int b),some (D.int r),some (D.int wi),some (D.int y),some (D.lst true (aE true G)),some (D.int i),some (D.lst true (aq row))]:=by
     clear pZ sS row
     intro row pZ sS
     refine hU _ ?_
     walk_at"l3"
     refine⟨⟨_,rfl⟩,by omega,G++[row],_,_,⟨sq true G [row],rfl,rfl⟩,by rw[dU,hG];rfl,hR.app λx hx=>?_⟩
     rw[dX]at hx
     rw[hx];exact⟨sS,pZ⟩
    refine cU6 λW wt wf=>?_
    have MR:∀z:Bool,z=false->W z [some (dz m),some (D.fz (aL ns)),some (D.int (b:Nat)),some (D.int r),some (D.int wi),some (D.int y),some (D.lst true (aE true G)),some (D.int i),some (D.lst true (aq row))]:=λz hz=>by
     subst hz
     refine wf _ ?_
     walk_at"l3"
     exact fin2 row pZ sS
    dsimp only[ qL,mX,qM,ou,dT,lh,kE,mS,dC,oj,mW,mV,mU,oo,qK,m5,rp,oM,rq,rz,qE,qF,qG,qH,qI,qJ,om,rm,oI,oJ,ii,oB,qU,oF,qV,qW,qX,qY,qZ,q0,iI,gI,q5,q8,q9,rf,oG,oH,lC,rk,rl,gN,rA,rn,qN,qP,oy,qQ,qR,qS,rB,rC,mY,kH,fV,iY,iB,qf,qa,tJ,vA,oq,jV,iX,oK,lU,rH,rK,rL,uR,kI,rQ,oV,rN,iD,uU,uS,uT,dF,jN,nR,nJ,gU,vB,bG,nS,nU,gj,gn,tK,exists_eq_left',exists_eq_left,D.bl.injEq,D.int.injEq,D.lst.injEq,D.fz.injEq,D.str.injEq,D.tup.injEq,tL,and_true,true_and,dW,qj,kj,kh,um,uo,uq,ur,uu,uv,fj,jT,jE,uB,uC,uD,uE,uF,df,jU,rD,uw,uz,uA,eT,oi,vC,vD,sV,gz,vE,vF,sZ,uJ,uK,uL,uM,uN,uO,uP,lN,lQ,oQ,jF,oR,uH,rG,uG,oS,uI,rE,lR,rF,if_true,vG,if_false,reduceIte,uQ,decide_eq_true_eq,eA,kJ,nh,uX,oW,uW,qO,rS,pk,rO,oZ,pd,rX,sj,su,pJ,dk,nu,jc,u6,pq,sE]
    walk_at"l3"
    refine⟨jC (by decide) (by decide),by decide,?_⟩
    split
    ·split
     ·rename_i h0
      refine⟨jt.ok (.inl ⟨by omega,by omega⟩),ns,_,rfl,by omega,by omega,?_⟩
      dsimp only
      refine⟨jC (by decide) (by decide),by decide,?_⟩
      cases hc:decide (eQ ns ((b:Int)+(i:Int)*(wi:Int))/64%2=1)with
      | false=>exact MR _ rfl
      | true =>
       refine wt _ ?_
       dsimp only[ qL,mX,qM,ou,dT,lh,kE,mS,dC,oj,mW,mV,mU,oo,qK,m5,rp,oM,rq,rz,qE,qF,qG,qH,qI,qJ,om,rm,oI,oJ,ii,oB,qU,oF,qV,qW,qX,qY,qZ,q0,iI,gI,q5,q8,q9,rf,oG,oH,lC,rk,rl,gN,rA,rn,qN,qP,oy,qQ,qR,qS,rB,rC,mY,kH,fV,iY,iB,qf,qa,tJ,vA,oq,jV,iX,oK,lU,rH,rK,rL,uR,kI,rQ,oV,rN,iD,uU,uS,uT,dF,jN,nR,nJ,gU,vB,bG,nS,nU,gj,gn,tK,exists_eq_left',exists_eq_left,D.bl.injEq,D.int.injEq,D.lst.injEq,D.fz.injEq,D.str.injEq,D.tup.injEq,tL,and_true,true_and,dW,qj,kj,kh,um,uo,uq,ur,uu,uv,fj,jT,jE,uB,uC,uD,uE,uF,df,jU,rD,uw,uz,uA,eT,oi,vC,vD,sV,gz,vE,vF,sZ,uJ,uK,uL,uM,uN,uO,uP,lN,lQ,oQ,jF,oR,uH,rG,uG,oS,uI,rE,lR,rF,if_true,vG,if_false,reduceIte,uQ,decide_eq_true_eq,eA,kJ,nh,uX,oW,uW,qO,rS,pk,rO,oZ,pd,rX,sj,su,pJ,dk,nu,jc,u6,pq,sE]
       walk_at"l3"
       have g0:0<G.length:=by omega
       have g1:i-1<G.length:=by omega
       have l0:0<aa m:=by omega
       refine⟨.int (row.getD 0 0:Nat),by rw[i9 (by omega) (by show 0<row.length;omega)];rfl,.int (row.getD (wi-1) 0:Nat),by rw[i9 (by omega) (by omega),show((wi:Int)-1).toNat=wi-1 by omega],by decide,.lst true (aq G[0]),sr true g0,.lst true (aq G[i-1]),by rw[show((i:Int)-1)=((i-1:Nat):Int) by omega];exact sr true g1,by decide,?_⟩
       refine⟨m,[row.getD 0 0,row.getD (wi-1) 0],[G[0],G[i-1]],wi,by rw[iH,iH];rfl,hm,λx hx=>?_,by show 2<=64;omega,rfl,by omega,λx hx=>?_,gK _,fin2 _ (Wm hm _ rfl) (IZ _ _ _ _)⟩
       ·simp only[cB,ik,or_false]at hx
        rcases hx with rfl | rfl
        ·exact pZ.getD l0 _
        ·exact pZ.getD l0 _
       ·simp only[cB,ik,or_false]at hx
        rcases hx with rfl | rfl
        ·exact hR _ (cC g0)
        ·exact hR _ (cC g1)
     ·exact MR _ rfl
    ·exact MR _ rfl
   refine⟨by decide,?_⟩
   split
   ·refine dY row (λ(i:Nat)=>D.int (i:Int)) (λ(i:Nat)=>D.int ((i%2:Nat):Int)) (m9 row) g9 (λx hx=>?_) (.inr λ_ _=>rfl) (by rw[sL];omega) ?_
    ·walk_at"l3"
     exact⟨by decide,by omega⟩
    ·have:=fin (row.map (· % 2)) (λa ha=>by
      obtain⟨x,_,rfl⟩:=bF.mp ha
      omega) (by rw[bt];exact sS)
     rw[cy,cg]at this
     exact this
   ·exact fin row pZ sS
  ·rintro δ ⟨G,o1,o2,rfl,hG,hR⟩
   refine hU _ ?_
   walk_at"l3"
   exact q G hG hR
def fL(o:Bool)(l:List Cs):List D:=l.map λs=>.tup [.lst o (aq s.1),.lst o (aE o s.2)]
theorem YQ(o:Bool)(l:List Cs):(fL o l).map D.sh=fL false l:=by
 unfold fL
 rw[cg]
 refine nQ λs _=>?_
 show(D.tup [.lst o (aq s.1),.lst o (aE o s.2)]).sh=_
 rw[jU,dF,dF,jN,iH,df,dk]
theorem cz7(l:List Cs):(fL false l).all D.pl=true:=by
 rw[dw]
 intro d hd
 obtain⟨s,_,rfl⟩:=bF.mp hd
 show(D.tup [.lst false (aq s.1),.lst false (aE false s.2)]).pl=true
 rw[jT,dW,dW,fj,fj,kJ,nu];rfl
theorem ck1(o:Bool)(a b:List Cs):fL o a++fL o b=fL o (a++b):=by unfold fL;rw[gi]
theorem cH1{o:Bool}{l:List Cs}{i:Nat}{d:D}(hd:(fL o l)[i]?=some d):∃hi:i<l.length,d=.tup [.lst o (aq l[i].1),.lst o (aE o l[i].2)]:=by
 unfold fL at hd
 rw[bQ]at hd
 by_cases hi:i<l.length
 ·rw[aJ hi]at hd
  exact⟨hi,(cU hd).symm⟩
 ·rw[gW (by omega)]at hd;cases hd
theorem cn1(o:Bool)(l:List Cs):cY 6 (.lst o (fL o l))=true:=by
 show(fL o l).all (cY 5)=true
 rw[dw]
 intro d hd
 obtain⟨s,_,rfl⟩:=bF.mp hd
 show([D.lst o (aq s.1),.lst o (aE o s.2)]).all (cY 4)=true
 rw[dW,dW,Ar 3 o s.1,IF 2 o o s.2];rfl
theorem bZ7{m:Bool × Nat}{c:List Nat}{os:List (List Nat)}{N:Nat}(h:∀o∈os,o.length<=N):∀x∈cA m c os,x.length<=N:=λx hx=>by
 obtain⟨o,ho,rfl⟩:=bF.mp hx
 have:=h o ho
 rw[dU,ij,jl,iq]
 omega
theorem MS{W:Nat}:∀{l:List Cs},(∀s∈l,s.2.length<=W)->(dS l).length<=l.length*W
 | [],_=>jM _
 | s::l,h=>by
  have ih:=MS (λs hs=>h s (dZ _ hs))
  have h1:=h s (gb ..)
  show(fI s++dS l).length<=_
  rw[dU,show(fI s).length=s.2.length by unfold fI;rw[bt,dD],gU,Nat.succ_mul]
  omega
def MT:Option (List Nat)->D
 | some l=>.lst true (aq l)
 | none=>.ay
abbrev aQ2(t:gC)(P:Program)(w:World)(K:Frag)(mg:Str->Option Value)(base:Heap):bB:=λds Q=>∃(m:Bool × Nat) (G:List (List Nat)),ds=[fD t.aS t.aW m,.lst false (aE false G)]/\m∈aD/\G.length<=64/\RT (aa m) (ag G) G/\0<ag G/\ag G<=6/\Q (MT (pM m G))
theorem aQ3(T:Txt K mg t):aQ P w K mg base bf 4 t.LS t.LU ["field","table"] (bx (aQ2 t P w K mg base)):=by
 refine bI T.X7 sH ?_ ?_
 ·intro ds Q h
  obtain⟨m,G,rfl,hm,hG,hR,jL,hw,q⟩:=h<;>rfl
 ·intro aI A outer s H E hr
  refine⟨_,(aB (aV (i:=2) sH.nd rfl (ao rfl) (aT ((Bt T).mono (by decide)) hr rfl T.AR T.yy.kp T.AS aP (af (bv 1) au)))
   (aB (aV (i:=3) sH.nd rfl (ao rfl) (eN (e7 (zV (e7 (eN dJ) (e7 (aT ((YE T).mono (by decide)) hr rfl T.XR T.Mo.kp T.XS aP (af (bv 1) au)) dJ))) dJ)))
   (aB (zX eY (bP (jY (du hr)) (bv 3) (ae (eN dJ)) (bM _))
    (aB (aV (i:=4) sH.nd rfl (ao rfl) (eN dJ))
    (ot 3 (aB (gv eY rfl (CD (cO (bv 3))) (gw (i1:=5) (i2:=6) rfl sH.nd rfl (ao rfl) rfl (ao rfl))
     (aF (gv eY rfl (rP rfl T.sN (af (bv 6) au)) (gw (i1:=7) (i2:=8) rfl sH.nd rfl (ao rfl) rfl (ao rfl))
      (aB (aV (i:=9) sH.nd rfl (ao rfl) (aG cR (bv 5) (ae (eN (e7 (aG cR (ae (aG gE (bv 2) (ae (dR (fX) (by rfl) T.fZ fR (af (bv 6) au))))) (bv 7)) dJ)))))
      (aB (bW (gu (ae (aT ((Eh T).mono (by decide)) hr rfl T.D1 T.AV.kp T.D2 aP (af (bv 8) au)))) (aF (aU (em 9))) cw)
      (aF (lL (i:=4) rfl (by first | exact ao rfl | exact aX (ao rfl)) (zV (e7 (em 9) (e7 (aT ((MI T).mono (by decide)) hr rfl T.Ml T.D3.kp T.Mm aP (af (bv 0) (af (bv 8) (af (ae (uV (bv 6) (uj (ae (aG cR (bv 7) (ae aw)))) ui)) au)))) dJ))))))))))
    (aF (aV (i:=3) sH.nd rfl (ao rfl) (em 4)))))))
   (aF (aU fE))))),λds Q h=>?_⟩
  obtain⟨m,G,rfl,hm,hG,hR,jL,hw,q⟩:=h
  have dr:=(cF hm).lo
  refine aA λU hU=>?_
  walk_at"l3"
  refine⟨G,rfl,by omega,λr bg=>by rw[(hR r bg).1];omega,hU _ ?_⟩
  clear hU U
  refine aA λU hU=>?_
  walk_at"l3"
  refine⟨by decide,G,rfl,by omega,λr bg=>(hR r bg).1,by omega,by decide,by decide,hU _ ?_⟩
  clear hU U
  have Ls:=Lv.start hm jL hR
  refine aA λU hU=>?_
  walk_at"l3"
  refine⟨λn δ=>∃(l:List Cs) (k:Nat) (o4 o5 o6 o7 o8 o9:Option D),δ=[some (fD t.aS t.aW m),some (D.lst false (aE false G)),some (D.int (ag G)),some (D.lst true (fL true l)),o4,o5,o6,o7,o8,o9]/\Lv m (fY G) (ag G) k l/\k+n=ag G+1/\vb m (ag G) n l=pM m G/\l.length<=6 ^ k/\∀s∈l,∀r∈s.2,r.length<=64,⟨ag G+1,[([],cK G)],0,_,_,_,_,_,_,rfl,Ls,by omega,rfl,bN _,λs hs r bg=>?_⟩,?_⟩
  ·rw[dX.mp hs]at bg
   have:=((wM (by omega) jL hR).2.2 r bg).1
   omega
  rintro n δ ⟨l,k,o4,o5,o6,o7,o8,o9,rfl,L,hk,MU,Bv,kM⟩
  walk_at"l3"
  refine⟨by decide,⟨cn1 true l,rfl⟩,?_⟩
  by_cases l0:l=[]
  ·subst l0
   rw[show bK (D.lst true (fL true [])) (D.lst true [])=true from rfl,if_neg (by decide)]
   refine hU _ ?_
   walk_at"l3"
   have e0:pM m G=none:=by
    rw[<-MU]
    cases n with
    | zero=>rfl
    | succ n=>rfl
   rw[e0]at q
   exact q
  have d0:bK (D.lst true (fL true l)) (D.lst true [])=false:=by
   cases l with
   | nil=>exact absurd rfl l0
   | cons s l=>rfl
  rw[d0,if_pos (by decide)]
  have Bz:∀s∈l,fJ (ag G) s.1/\s.2.length<=6:=λs hs=>by
   have g:=(L.gs s hs).1
   have gl:=g.le
   exact⟨⟨g.inc,λx hx=>by have:=g.off x hx;omega⟩,by omega⟩
  obtain⟨n,rfl⟩:∃n',n=n'+1:=by
   cases n with
   | succ n=>exact⟨n,rfl⟩
   | zero =>
    exfalso
    cases l with
    | nil=>exact l0 rfl
    | cons s l =>
     have h1:=(Bz s (gb ..)).1.len
     have h2:=(L.gs s (gb ..)).2
     omega
  clear hU
  have k6:6 ^ k*6<=279936:=by
   have:6 ^ (k+1)<=6 ^ 7:=yU (by decide) (by omega)
   rw[nL]at this
   exact this
  have er8:∀a,(dS (l.take a)).length<=279936:=λa=>by
   have h1:=MS (W:=6) (l:=l.take a) λs hs=>(Bz s (qi hs)).2
   have h2:(l.take a).length<=6 ^ k:=by rw[ij];omega
   have:=df3 6 h2
   omega
  refine aA λU hU=>?_
  walk_at"l3"
  refine⟨by decide,hU _ ?_⟩
  clear hU
  refine⟨_,rfl,?_⟩
  rw[df,YQ]
  simp only[gn,gj]
  refine aA λU hU=>?_
  walk_at"l3"
  refine⟨cz7 l,?_⟩
  rw[YQ]
  refine fF.mk (λa δ=>(∀z∈dS (l.take a),pK z=false)/\∃o5 o6 o7 o8 o9,δ=[some (fD t.aS t.aW m),some (D.lst false (aE false G)),some (D.int (ag G)),some (D.lst false (fL false l)),some (D.lst true (fL true ((dS (l.take a)).map (jg m (ag G))))),o5,o6,o7,o8,o9]) ⟨λz hz=>absurd hz ik,_,_,_,_,_,rfl⟩ ?_ ?_
  ·rintro a d δ hd ⟨sD,o5,o6,o7,o8,o9,rfl⟩
   obtain⟨ha,rfl⟩:=cH1 hd
   clear hd hU
   have hs:=cC ha
   obtain⟨gs,gk⟩:=L.gs _ hs
   obtain⟨hh,MV⟩:=gs.rt
   have g6:=(Bz _ hs).2
   have et:dS (l.take (a+1))=dS (l.take a)++fI l[a]:=by
    unfold dS
    rw[mw,aJ ha,RV,df4,List.flatMap_cons,List.flatMap_nil,mr]
   rw[et]
   have YR:=er8 (a+1)
   rw[et,dU]at YR
   generalize hS:l[a]=s0 at hs gs gk MV g6 et YR ⊢
   have l1:(fI s0).length=s0.2.length:=by unfold fI;rw[bt,dD]
   walk_at"l3"
   refine fF.mk (λi δ=>(∀z∈(fI s0).take i,pK z=false)/\∃o7 o8 o9,δ=[some (fD t.aS t.aW m),some (D.lst false (aE false G)),some (D.int (ag G)),some (D.lst false (fL false l)),some (D.lst true (fL true ((dS (l.take a)++(fI s0).take i).map (jg m (ag G))))),some (D.lst false (aq s0.1)),some (D.lst false (aE false s0.2)),o7,o8,o9]) ⟨λz hz=>absurd hz ik,_,_,_,by rw[List.take_zero,mr]⟩ ?_ ?_
   ·rintro i d δ hd ⟨BA,o7,o8,o9,rfl⟩
    obtain⟨hi,rfl⟩:=IG hd
    clear hd
    obtain⟨cl,ca⟩:=MV _ (cC hi)
    have gc:s0.2.getD i []=s0.2[i]:=by rw[aK,aJ hi];rfl
    have gle:=gs.le
    have ei:(fI s0).take (i+1)=(fI s0).take i++[(s0,i)]:=by
     rw[mw]
     congr 1
     unfold fI
     rw[bQ,ki hi];rfl
    have hh6:hh<=64:=by have:=kM _ hs _ (cC hi);omega
    have il1:=(Bz _ hs).1.len
    simp only[iD,gn,gj]
    refine aA λU hU=>?_
    walk_at"l3"
    have eb:aq s0.1++[D.int ((ag G:Int)-(s0.2.length:Int)+(i:Int))]=aq (j9 (ag G) (s0,i)):=by
     unfold j9
     rw[cy,cy,gi]
     show _=_++[D.int ((ag G-s0.2.length+i:Nat):Int)]
     rw[show(ag G:Int)-(s0.2.length:Int)+(i:Int)=((ag G-s0.2.length+i:Nat):Int) by omega]
    rw[eb]
    refine⟨by decide,by omega,hU _ ?_⟩
    clear hU
    refine aA λU hU=>?_
    walk_at"l3"
    refine⟨s0.2[i],rfl,by omega,nul s0.2[i],rfl,?_⟩
    cases hz:nul s0.2[i]with
    | true =>
     rw[if_pos rfl]
     have ef:pM m G=some (j9 (ag G) (s0,i)):=by
      rw[<-MU,vb,if_neg l0]
      have:(dS l).find? pK=some (s0,i):=by
       refine de6.mpr ⟨by show nul (s0.2.getD i [])=true;rw[gc];exact hz,dS (l.take a)++(fI s0).take i,(fI s0).drop (i+1)++dS (l.drop (a+1)),?_,λz MW=>?_⟩
       ·have e1:dS l=dS (l.take (a+1))++dS (l.drop (a+1)):=by
         conv=>lhs;rw[<-Sh (a+1) l]
         unfold dS
         rw[df4]
        have e2:fI s0=(fI s0).take i++(s0,i)::(fI s0).drop (i+1):=by
         conv=>lhs;rw[<-Sh (i+1) (fI s0),ei,eX]
         rfl
        rw[e1,et]
        conv=>lhs;rw[e2]
        simp only[eX,nR]
       ·have:=(bZ.mp MW).elim (sD z) (BA z)
        rw[this];rfl
      rw[this];rfl
     rw[ef]at q
     exact q
    | false =>
     rw[if_neg (by decide)]
     refine hU _ ?_
     clear hU
     walk_at"l3"
     rw[show((i:Int)+1)=((i+1:Nat):Int) by omega,CT,ei]
     refine⟨⟨_,rfl⟩,m,s0.2[i],s0.2.drop (i+1),rfl,hm,hz,by omega,ca,λr bg=>by rw[cl];exact MV r (qh bg),by rw[jl];omega,by rw[eT,pz];rfl,by decide,?_,λz MW=>?_,_,_,_,?_,rfl,rfl,rfl⟩
     ·unfold fL
      rw[bt,bt,dU,ij]
      omega
     ·rcases bZ.mp MW with y | y
      ·exact BA z y
      ·rw[dX.mp y]
       show nul (s0.2.getD i [])=false
       rw[gc];exact hz
     ·rw[<-eX,gi (l₁:=dS (l.take a)++(fI s0).take i),<- ck1]
      congr 1
      show _=[D.tup [.lst true (aq (jg m (ag G) (s0,i)).1),.lst true (aE true (jg m (ag G) (s0,i)).2)]]
      show _=[D.tup [.lst true (aq (j9 (ag G) (s0,i))),.lst true (aE true (cA m (s0.2.getD i []) (s0.2.drop (i+1))))]]
      rw[gc]
   ·rintro δ ⟨BA,o7,o8,o9,rfl⟩
    rw[show(fm (aE false s0.2)).length=(fI s0).length by rw[oU,jc,l1],tD]at BA ⊢
    exact⟨λz hz=>(bZ.mp hz).elim (sD z) (BA z),_,_,_,_,_,rfl⟩
  ·rintro δ ⟨sD,o5,o6,o7,o8,o9,rfl⟩
   refine hU _ ?_
   clear hU
   rw[show(fL false l).length=l.length by unfold fL;rw[bt],tD]at sD ⊢
   walk_at"l3"
   have hf:(dS l).find? pK=none:=Sa.mpr λz hz=>by rw[sD z hz];decide
   refine⟨n,by omega,_,k+1,_,_,_,_,_,_,⟨rfl,rfl,rfl,rfl,rfl,rfl,rfl⟩,L.next hm (Jl hm hR) sD,by omega,?_,?_,λs hs r bg=>?_⟩
   ·rw[<-MU,vb,if_neg l0,hf]
   ·rw[bt,nL]
    have:=MS (W:=6) λs hs=>(Bz s hs).2
    exact eH this (df3 6 Bv)
   ·obtain⟨z,hz,rfl⟩:=bF.mp hs
    exact bZ7 (λo ho=>kM _ (wR.mp hz).1 o (qh ho)) r bg
abbrev aV7(t:gC)(P:Program)(w:World)(K:Frag)(mg:Str->Option Value)(base:Heap):bB:=λds Q=>∃(m:Bool × Nat) (T:List (List Nat)) (b:Bool),ds=[fD t.aS t.aW m,.lst false (aE false T),.bl b]/\m∈aD/\0<T.length/\T.length<=4/\0<ag T/\ag T<=6/\RT (aa m) (ag T) T/\(b=true->∃x y,wU m T.length (ag T) x y T)/\∀d:Nat,1<=d->d<=13->(∀S,fJ (ag T) S->S.length<d->kK m (fY T) S)->Q (.int d)
theorem aV8(T:Txt K mg t):aQ P w K mg base bf 5 t.LV t.LW ["_law_field_here","_law_table_here","_law_powers_here"] (bx (aV7 t P w K mg base)):=by
 refine bI T.X8 Xa ?_ ?_
 ·intro ds Q h
  obtain⟨m,T,b,rfl,hm,vj,kN,jL,hw,hT,hb,q⟩:=h<;>rfl
 ·intro aI A outer s H E hr
  refine⟨_,(aB (bW (gu (bv 2)) (aB (bW (bP v9 (ae (dR (fX) (by rfl) T.fZ fR (af (bv 1) au))) (ae (dR (fX) (by rfl) T.fZ fR (af (bH (bv 1) (ae aw) (λ_ _=>rfl)) au))) (bM _)) (aF (aU (aG cR (ae (dR (fX) (by rfl) T.fZ fR (af (bv 1) au))) (ae aw)))) cw)
    (aF (aU aw))) cw)
   (aB (aV (i:=3) Xa.nd rfl (ao rfl) (aT ((aQ3 T).mono (by decide)) hr rfl T.ed4 T.X7.kp T.ed5 aP (af (bv 0) (af (ae (aT ((Ef T).mono (by decide)) hr rfl T.DY T.AU.kp T.DZ aP (af (bv 1) au))) au))))
   (aB (bW (bP rh (bv 3) (ae fE) (bM _)) (aF (aU aw)) cw)
   (aF (aU (dR (fX) (by rfl) T.fZ fR (af (bv 3) au))))))),λds Q h=>?_⟩
  obtain⟨m,T,b,rfl,hm,vj,kN,jL,hw,hT,hb,q⟩:=h
  have w0:(T[0]).length=ag T:=(hT _ (cC vj)).1
  refine aA λU hU=>?_
  walk_at"l3"
  cases b with
  | true =>
   rw[if_pos rfl]
   obtain⟨x,y,h⟩:=hb rfl
   refine aA λU hU=>?_
   walk_at"l3"
   refine⟨_,sr false vj,?_⟩
   dsimp only
   rw[eA,w0]
   by_cases c:T.length<ag T
   ·rw[if_pos (by omega)]
    exact q (T.length+1) (by omega) (by omega) λS hS hl=>h.ind hm hS (by omega)
   ·rw[if_neg (by omega)]
    refine hU _ ?_
    walk_at"l3"
    exact q 13 (by decide) (by decide) λS hS hl=>h.ind hm hS (by have:=hS.len;omega)
  | false =>
  rw[if_neg (by decide)]
  refine hU _ ?_
  clear hU U
  refine aA λU hU=>?_
  walk_at"l3"
  refine⟨T,rfl,by omega,?_⟩
  have ff:∀o,(MT o).fr=true:=λo=>by cases o with | none=>rfl | some l=>exact gK l
  refine⟨m,T,by rw[df,dk],hm,by omega,hT,jL,hw,by rw[ff,gz],hU _ ?_⟩
  clear hU U
  refine aA λU hU=>?_
  walk_at"l3"
  cases eF:pM m T with
  | none =>
   rw[if_pos (by exact rfl)]
   exact q 13 (by decide) (by decide) λS hS _=>cB7 hm jL hT eF S hS
  | some F =>
   obtain⟨f1,f2,_,f4⟩:=cz6 hm jL hT eF
   have:=f1.len
   rw[if_neg (by exact gh),show MT (some F)=D.lst true (aq F) from rfl]
   refine hU _ ?_
   walk_at"l3"
   exact q F.length (by omega) (by omega) λS hS hl=>f4 S hS (.inl hl)
abbrev aX2(t:gC)(P:Program)(w:World)(K:Frag)(mg:Str->Option Value)(base:Heap):bB:=λds Q=>∃(m:Bool × Nat) (T:List (List Nat)) (room:Nat) (c:List Nat),ds=[fD t.aS t.aW m,.lst false (aE false T),.int room,.lst false (aq c)]/\m∈aD/\0<ag T/\ag T<=64/\RT (aa m) (ag T) T/\T.length<=64/\1<=room/\room<=15/\c.length=ag T/\AllLt (aa m) c/\(∀r∈T,gd m r c=0)/\(∀S,fJ (ag T) S->S.length<room->kK m (fY T) S)/\Q (.bl true)
theorem aX3(T:Txt K mg t):aQ P w K mg base bf 15 t.LX t.LY ["_law_field_here","_law_table_here","_law_room","_law_sent_here"] (bx (aX2 t P w K mg base)):=by
 refine bI T.X9 JH ?_ ?_
 ·intro ds Q h
  obtain⟨m,T,room,c,rfl,hm,jL,hw,hT,kN,u9,Ej,lc,hc,cz,hD,q⟩:=h<;>rfl
 ·intro aI A outer s H E hr
  refine⟨_,(aB (aV (i:=4) JH.nd rfl (ao rfl) (CK (CL) (by rfl) T.sO qB (af (bv 3) au)))
   (aB (aV (i:=5) JH.nd rfl (ao rfl) (aT ((MN T).mono (by decide)) hr rfl T.Mp T.D4.kp T.Mq aP (af (bv 0) (af (bv 1) (af (bv 2) (af (bv 4) au))))))
   (aB (bW (PW.pt (ud (mT (gu (ae (wg (by rfl) T.yE (by rfl) T.sO qB (bv 5))))) (tQ (bP (jY (du hr)) (bv 5) (bv 3) (bM _))))) (aF (aU kF)) cw)
   (aB (wk (i:=5) rfl (by first | exact ao rfl | exact aX (ao rfl)) (aG cR (bH (bv 5) (ae aw) (λ_ _=>rfl)) (ae aw)) (ae aw))
   (aF (aU (vY (fW (du hr)) (bv 4) (bv 3) (bM _)))))))),λds Q h=>?_⟩
  obtain⟨m,T,room,c,rfl,hm,jL,hw,hT,kN,u9,Ej,lc,hc,cz,hD,q⟩:=h
  have ME:=(cF hm).hi
  have ec:dm (c.map some)=aq c:=by unfold dm;rw[cg,cy];rfl
  have hy:∀a,some a∈c.map some->a<aa m:=λa ha=>by
   obtain⟨b,hb,e⟩:=bF.mp ha
   cases e
   exact hc _ hb
  have ly:(c.map some).length=ag T:=by rw[bt,lc]
  refine aA λU hU=>?_
  walk_at"l3"
  refine hU _ ?_
  clear hU U
  refine aA λU hU=>?_
  walk_at"l3"
  have nk:=(WY hm jL hT hy ly hD).mpr (cO4 hm hc cz (by omega))
  refine⟨m,T,room,c.map some,by rw[ec],hm,jL,hw,hT,kN,hy,ly,Ej,by rw[nk];exact gK c,hU _ ?_⟩
  clear hU U
  rw[nk,show ka (some c)=D.lst true (aq c) from rfl]
  refine aA λU hU=>?_
  walk_at"l3"
  rw[if_neg (by decide)]
  refine hU _ ?_
  clear hU U
  refine aA λU hU=>?_
  walk_at"l3"
  refine⟨.int ((c.getD 0 0:Nat):Int),i9 (by omega) (by show 0<c.length;omega),?_⟩
  dsimp only
  refine⟨_,0,rfl,As (by omega) (by rw[eA];show 0<c.length;omega),hU _ ?_⟩
  walk_at"l3"
  rw[decide_eq_true trivial]
  exact q
theorem cD6(n:Nat)(o:Bool)(y:List (Option Nat)):cY (n+1) (.lst o (dm y))=true:=by
 show(dm y).all (cY n)=true
 refine dw.mpr λd hd=>?_
 obtain⟨a,_,rfl⟩:=bF.mp hd
 cases a with
 | none=>exact rE n
 | some a=>exact oS n _
theorem YS:∀y:List (Option Nat),bK.fG (dm y) (dm y)=true
 | []=>rfl
 | a::y=>by
  show(bK (fq a) (fq a)&&bK.fG (dm y) (dm y))=true
  rw[YS y,kj]
  cases a with
  | none=>rfl
  | some a=>exact beq_self_eq_true _
theorem cA3(o o':Bool)(y:List (Option Nat)):bK (.lst o (dm y)) (.lst o' (dm y))=true:=YS y
theorem YT(o:Option (List Nat)):cY 6 (ka o)=true:=by
 cases o with
 | none=>rfl
 | some l=>exact Ar 5 true l
theorem cA4(o:Option (List Nat)):bK (ka o) (ka o)=true:=by
 cases o with
 | none=>rfl
 | some l=>exact(u5 true true l l).trans (decide_eq_true rfl)
theorem YU(o:Bool)(T:List (List Nat))(y:List (Option Nat)):cY 6 (D.lst true [D.lst true (aE o T),D.lst true (dm y)])=true:=by
 show(cY 5 _&&(cY 5 _&&true))=true
 rw[IF 3,cD6 4];rfl
theorem ch1(o o':Bool)(T:List (List Nat))(y:List (Option Nat)):bK (D.lst true [D.lst true (aE o T),D.lst true (dm y)]) (D.lst true [D.lst true (aE o' T),D.lst true (dm y)])=true:=by
 show(bK _ _&&(bK _ _&&true))=true
 rw[V3,cA3,decide_eq_true rfl];rfl
theorem cL8(T:Txt K mg t)(hB:Bm mg base):aQ P w K mg base bf 16 t.LZ t.L0 ["_law_script"] (Ac [t.mf,t.mh] (bx (UO ))):=by
 refine Vu T.ee0 jJ ?_ ?_
 ·intro ds Q h
  obtain⟨ns,rfl,hl,q⟩:=h<;>rfl
 ·intro aI A outer s H E hT hr
  refine⟨_,(aB (aV (i:=1) jJ.nd rfl (aX rfl) (aT ((aU0 T).mono (by decide)) hr rfl T.aW1 T.Xd.kp T.aW2 aP (af (ae (aT ((kg T).mono (by decide)) hr rfl T.kb T.jK.kp T.ke aP (af (bv 0) (af (ae aw) au)))) au)))
   (aB (aV (i:=2) jJ.nd rfl (ao rfl) (cA5 hT ((aR7 T hB).mono (by decide)) hr rfl T.aT2 T.Xq.kp T.aT3 aP (af (bv 1) au)))
   (aB (aV (i:=3) jJ.nd rfl (ao rfl) (aG cR (ae aw) (ae (aG di (ae (aT ((kg T).mono (by decide)) hr rfl T.kb T.jK.kp T.ke aP (af (bv 0) (af (ae aw) au)))) (ae aw)))))
   (aB (aV (i:=4) jJ.nd rfl (ao rfl) (aG cR (ae aw) (ae (aG di (ae (aG jD (ae (aT ((kg T).mono (by decide)) hr rfl T.kb T.jK.kp T.ke aP (af (bv 0) (af (ae aw) au)))) (ae aw))) (ae aw)))))
   (aB (aV (i:=5) jJ.nd rfl (ao rfl) (vY (fW (du hr)) (ae (aG di (ae (aG jD (ae (aT ((kg T).mono (by decide)) hr rfl T.kb T.jK.kp T.ke aP (af (bv 0) (af (ae aw) au)))) (ae aw))) (ae aw))) (ae aw) (bM _)))
   (aB (bW (gu (bv 5)) (aB (aV (i:=4) jJ.nd rfl (ao rfl) (dR (cW7 rfl) (by rfl) T.ee7 cL0 (af (bv 4) (af (ae (aT ((sR T).mono (by decide)) hr rfl T.sI T.pV.kp T.sJ aP (af (bv 1) au))) au))))
    (aF (aV (i:=6) jJ.nd rfl (ao rfl) (aT ((aQ1 T).mono (by decide)) hr rfl T.aR1 T.X5.kp T.aR2 aP (af (bv 1) (af (bv 0) (af (bv 3) (af (bv 4) (af (ae (aT ((kg T).mono (by decide)) hr rfl T.kb T.jK.kp T.ke aP (af (bv 0) (af (ae aw) au)))) au))))))))) (aF (aV (i:=6) jJ.nd rfl (ao rfl) (aT ((aS4 T).mono (by decide)) hr rfl T.aT7 T.X6.kp T.aT8 aP (af (bv 1) (af (bv 0) (af (ae aw) (af (bv 3) (af (bv 4) (af (ae (aG di (ae (aT ((kg T).mono (by decide)) hr rfl T.kb T.jK.kp T.ke aP (af (bv 0) (af (ae aw) au)))) (ae aw))) au))))))))))
   (aB (aV (i:=7) jJ.nd rfl (ao rfl) (aG cR (ae aw) (ae (aG di (ae (aG jD (ae (aT ((kg T).mono (by decide)) hr rfl T.kb T.jK.kp T.ke aP (af (bv 0) (af (ae aw) au)))) (ae aw))) (ae (aT ((aV8 T).mono (by decide)) hr rfl T.aW5 T.X8.kp T.aW6 aP (af (bv 2) (af (bv 6) (af (bv 5) au)))))))))
   (aB (aV (i:=8) jJ.nd rfl (ao rfl) (aT ((aU8 T).mono (by decide)) hr rfl T.aW3 T.XG.kp T.aW4 aP (af (bv 1) (af (bv 0) (af (bv 2) (af (bv 6) au))))))
   (aB (bW (PW.pt (ud (bP rh (bv 8) (ae fE) (bM _)) (tQ (mT (gu (ae (aT ((aX3 T).mono (by decide)) hr rfl T.aX5 T.X9.kp T.aX6 aP (af (bv 2) (af (ae (aT ((Ef T).mono (by decide)) hr rfl T.DY T.AU.kp T.DZ aP (af (bv 6) au))) (af (bv 7) (af (bv 8) au))))))))))) (aF (aU kF)) cw)
   (aB (aV (i:=9) jJ.nd rfl (ao rfl) (aT ((aP7 T).mono (by decide)) hr rfl T.aQ9 T.XH.kp T.aR0 aP (af (bv 1) (af (bv 0) (af (bv 8) au)))))
   (aB (aV (i:=10) jJ.nd rfl (ao rfl) (eN (e7 (aT ((Ef T).mono (by decide)) hr rfl T.DY T.AU.kp T.DZ aP (af (bv 6) au)) (e7 (CK (CL) (by rfl) T.sO qB (af (bv 9) au)) dJ))))
   (aB (aV (i:=11) jJ.nd rfl (aX rfl) (aT ((MN T).mono (by decide)) hr rfl T.Mp T.D4.kp T.Mq aP (af (bv 2) (af (bH (bv 10) (ae aw) (λ_ _=>rfl)) (af (bv 7) (af (bH (bv 10) (ae aw) (λ_ _=>rfl)) au))))))
   (aB (bW (PW.pt (ud (bP (jY (du hr)) (bv 10) (wN (af (bv 6) (af (bv 9) au))) (bM _)) (tQ (bP (jY (du hr)) (ae (aT ((MN T).mono (by decide)) hr rfl T.Mp T.D4.kp T.Mq aP (af (bv 2) (af (bH (bv 10) (ae aw) (λ_ _=>rfl)) (af (bv 7) (af (bH (bv 10) (ae aw) (λ_ _=>rfl)) au)))))) (bv 11) (bM _))))) (aF (aU kF)) cw)
   (aB (bW (gu (ae (aT ((YL T).mono (by decide)) hr rfl T.XZ T.Mr.kp T.X0 aP (af (bv 9) (af (bv 8) (af (bv 7) au)))))) (aF (aU (zU (ae (aT ((MD T).mono (by decide)) hr rfl T.Mi T.D0.kp T.Mj aP (af (bv 11) (af (bv 4) (af (ae (aT ((sR T).mono (by decide)) hr rfl T.sI T.pV.kp T.sJ aP (af (bv 1) au))) au))))) (zk (vY (fW (du hr)) (bv 11) (bv 8) (bM _)))))) cw)
   (aB (bW (bP rh (bv 11) (ae fE) (bM _)) (aF (aU kF)) cw)
   (aB (bW (PW.pt (ud (mT (gu (ae (aT ((MD T).mono (by decide)) hr rfl T.Mi T.D0.kp T.Mj aP (af (bv 11) (af (bv 4) (af (ae (aT ((sR T).mono (by decide)) hr rfl T.sI T.pV.kp T.sJ aP (af (bv 1) au))) au))))))) (tQ (gu (ae (dR (Wr rfl) (by rfl) T.Yb TQ (af (ae (dv [("_law_told_here",1),("_law_found",11)] ["_law_row"] rfl (fU (bv 6)) (λ_ _ _ _=>(cE (i:=2) (show(["_law_told_here","_law_found","_law_row"]:List Str).Nodup by decide +kernel) rfl (ao (lr1 rfl)) (by decide) (aX (lr1 rfl)))) (λ_ _ _ _=>dy) (λ_ _ _ _=>(aT ((MC T).mono (by decide)) hr rfl T.Me T.DX.kp T.Mg aP (af (bv 0) (af (bv 2) (af (bv 1) au))))) rfl ⟨rfl,⟨rfl,trivial⟩⟩ (λ_=>by repeat' (first | exact trivial | refine⟨.inl rfl,?_⟩ | refine⟨.inr (.inl rfl),?_⟩ | refine⟨.inr (.inr ⟨_,rfl⟩),?_⟩)) (λ_=>⟨⟨rfl,.inl rfl,.inl rfl,_,rfl,rfl⟩,⟨⟨rfl,.inl rfl,.inl rfl,_,rfl,rfl⟩,trivial⟩⟩) rfl (by decide +kernel))) au))))))) (aF (aU kF)) cw)
   (aF (aU (aT ((YL T).mono (by decide)) hr rfl T.XZ T.Mr.kp T.X0 aP (af (bv 9) (af (bv 11) (af (bv 7) au)))))))))))))))))))))),λds Q h=>?_⟩
  obtain⟨ns,rfl,hl,q⟩:=h
  refine aA λU hU=>?_
  walk_at"l3"
  refine⟨ns,0,rfl,by decide,by decide,_,rfl,rfl,hU _ ?_⟩
  clear hU U
  generalize hmm:r9 (eQ ns 0)=m
  have hm:m∈aD:=by rw[<-hmm];exact ch6 _
  have hF:=cF hm
  have dr:=hF.lo
  have ME:=hF.hi
  have Eg:=Ap m hm
  refine aA λU hU=>?_
  walk_at"l3"
  refine⟨m,rfl,hm,hU _ ?_⟩
  clear hU U
  refine aA λU hU=>?_
  walk_at"l3"
  refine⟨ns,1,rfl,by decide,by decide,by decide,?_⟩
  obtain⟨r,er,u9,hr4⟩:∃k:Nat,1+eQ ns 1%4=k/\1<=k/\k<=4:=⟨(1+eQ ns 1%4).toNat,by omega,by omega,by omega⟩
  rw[er]
  refine hU _ ?_
  clear hU U
  refine aA λU hU=>?_
  walk_at"l3"
  refine⟨ns,1,rfl,by decide,by decide,jC (by decide) (by decide),by decide,?_⟩
  obtain⟨wi,ew,YV,YW⟩:∃k:Nat,2+eQ ns 1/4%4=k/\2<=k/\k<=5:=⟨(2+eQ ns 1/4%4).toNat,by omega,by omega,by omega⟩
  rw[ew]
  refine hU _ ?_
  clear hU U
  refine aA λU hU=>?_
  walk_at"l3"
  refine⟨ns,2,rfl,by decide,by decide,jC (by decide) (by decide),by decide,?_⟩
  generalize eQ ns 2/4%2=pw
  refine hU _ ?_
  clear hU U
  refine aA λU hU=>?_
  walk_at"l3"
  have st:∀(T:List (List Nat)) (wi:Nat) (o:Bool),2<=wi->wi<=5->T.length=r->RT (aa m) wi T->(pw=0->∃x y,wU m r wi x y T)->U [some (D.fz (aL ns)),some (dz m),some (fD t.aS t.aW m),some (D.int r),some (D.int wi),some (D.bl (decide (pw=0))),some (D.lst true (aE o T)),none,none,none,none,none]:=by
   intro T wi o YV YW lT hT hP
   refine hU _ ?_
   clear hU U
   have T0:T≠[]:=λz=>by rw[z]at lT;exact absurd lT (by show ¬ (0=r);omega)
   have eW:=cA7 hT T0
   rw[<-eW]at hT hP
   rw[<-lT]at hP
   have vi:∀X:List (List Nat),(D.lst true (aE true X)).fr=true:=λX=>by rw[eT,pz];rfl
   refine aA λU hU=>?_
   walk_at"l3"
   refine⟨ns,2,rfl,by decide,by decide,?_⟩
   dsimp only
   refine⟨jC (by decide) (by decide),m,T,decide (pw=0),rfl,hm,by omega,by omega,by omega,by omega,hT,λz=>hP (of_decide_eq_true z),λd d1 d13 hD=>⟨rfl,?_⟩⟩
   dsimp only
   obtain⟨room,em,m1,md⟩:∃k:Nat,1+eQ ns 2/32%(d:Int)=k/\1<=k/\k<=d:=by
    have n0:=jm (eQ ns 2/32) (show(d:Int)≠0 by omega)
    have n1:=jn (eQ ns 2/32) (show(0:Int)<(d:Int) by omega)
    exact⟨(1+eQ ns 2/32%(d:Int)).toNat,by omega,by omega,by omega⟩
   rw[em]
   refine⟨by omega,hU _ ?_⟩
   clear hU U
   have hD:∀S,fJ (ag T) S->S.length<room->kK m (fY T) S:=λS hS hl=>hD S hS (by omega)
   refine aA λU hU=>?_
   walk_at"l3"
   refine⟨m,ns,T,rfl,hm,by omega,by omega,by omega,by omega,hT,λc lc hc cz=>⟨gK _,hU _ ?_⟩⟩
   clear hU U
   refine aA λU hU=>?_
   walk_at"l3"
   refine⟨T,rfl,by omega,vi _,m,T,room,c,by rw[df,dk],hm,by omega,by omega,hT,by omega,m1,by omega,lc,hc,cz,hD,?_⟩
   refine⟨rfl,true,rfl,?_⟩
   rw[if_neg (by decide)]
   refine hU _ ?_
   clear hU U
   refine aA λU hU=>?_
   walk_at"l3"
   refine⟨ns,m,c,rfl,hm,by omega,hc,λy ly hy=>?_⟩
   have yfr:∀z:List (Option Nat),(D.lst true (dm z)).fr=true:=λz=>by
    rw[eT,kh]
    refine dw.mpr λd hd=>?_
    obtain⟨a,_,rfl⟩:=bF.mp hd
    cases a<;>rfl
   refine⟨yfr _,hU _ ?_⟩
   clear hU U
   refine aA λU hU=>?_
   walk_at"l3"
   refine⟨T,rfl,by omega,vi _,cy6 y,by decide,hU _ ?_⟩
   clear hU U
   have ni:=λw=>WY (w:=w) hm (by omega) hT hy (ly.trans lc) hD
   refine aA λU hU=>?_
   walk_at"l3"
   refine⟨_,rfl,_,rfl,m,T,room,y,by rw[df,df,dk,pO],hm,by omega,by omega,hT,by omega,hy,ly.trans lc,by omega,by rw[AJ,gz],hU _ ?_⟩
   clear hU U
   refine aA λU hU=>?_
   walk_at"l3"
   rw[ch1,if_neg (by decide)]
   refine⟨by decide,⟨YU ..,YU ..⟩,_,rfl,_,rfl,m,T,room,y,by rw[df,df,dk,pO],hm,by omega,by omega,hT,by omega,hy,ly.trans lc,by omega,by rw[AJ,gz],⟨YT _,YT _⟩,?_⟩
   rw[cA4,if_neg (by decide)]
   refine hU _ ?_
   clear hU U
   generalize pP m T room y=ro at ni ⊢
   refine aA λU hU=>?_
   walk_at"l3"
   refine⟨y,c,room,by rw[pO],by omega,by omega,rfl,_,rfl,?_⟩
   by_cases nr:(L3.bC y).length+2*(iK y c).length<room
   ·have e:=(ni c).mpr ⟨by omega,hc,cz,nr⟩
    subst e
    rw[if_pos (decide_eq_true nr),show ka (some c)=D.lst true (aq c) from rfl,u5,decide_eq_true rfl]
    refine⟨m,rfl,by omega,by omega,c,wi,aa m,by rw[iH,jE],by omega,by omega,hc,by rw[show(D.bl _).fr=true from rfl,gz],true,rfl,?_⟩
    rw[if_pos rfl]
    exact⟨Ar 5 true _,q⟩
   rw[if_neg (by rw[decide_eq_false nr];decide)]
   refine hU _ ?_
   clear hU U
   refine aA λU hU=>?_
   walk_at"l3"
   cases ro with
   | none =>
    rw[if_pos (by exact rfl)]
    exact q
   | some v =>
   have nv:=(ni v).mp rfl
   have lv:=nv.ln
   rw[if_neg (by exact gh),show ka (some v)=D.lst true (aq v) from rfl]
   refine hU _ ?_
   clear hU U
   refine aA λU hU=>?_
   walk_at"l3"
   refine⟨m,rfl,by omega,by omega,v,wi,aa m,by rw[jE],by omega,by omega,nv.lt,rfl,true,rfl,?_⟩
   rw[if_neg (by decide)]
   refine dY T (λr=>D.lst false (aq r)) (λr=>D.int ((gd m r v:Nat):Int)) (by rw[dk];rfl) (λa b h=>nq a b h) (λr bg=>?_) (.inr λr _=>rfl) (by rw[sL];omega) ?_
   ·have vP:=(hT r bg).1
    walk_at"l3"
    exact⟨m,r,v,rfl,hm,by omega,by omega,(hT r bg).2,nv.lt,rfl⟩
   refine⟨T.map λr=>((gd m r v:Nat):Int),by unfold aL;rw[cg];rfl,?_⟩
   rw[show(T.map λr=>((gd m r v:Nat):Int)).any (λx=>x != 0)=false by
    rw[RH]
    intro x hx
    obtain⟨r,bg,rfl⟩:=bF.mp hx
    rw[nv.z r bg];decide,if_neg (by decide)]
   refine hU _ ?_
   walk_at"l3"
   refine⟨y,v,room,by rw[pO],lv,by omega,rfl,?_⟩
   rw[decide_eq_true nv.AI]
   exact q
  clear hU
  by_cases p0:pw=0
  ·rw[if_pos p0]
   refine aA λU hU=>?_
   walk_at"l3"
   refine⟨m,rfl,by omega,by omega,?_⟩
   obtain⟨w2,ew2,w21,w22,w23⟩:∃k:Nat,(if(aa m:Int)<(wi:Int)then(aa m:Int)else(wi:Int))=k/\2<=k/\k<=5/\k<=aa m:=by
    by_cases c:(aa m:Int)<(wi:Int)
    ·rw[if_pos c];exact⟨aa m,rfl,by omega,by omega,by omega⟩
    ·rw[if_neg c];exact⟨wi,rfl,by omega,by omega,by omega⟩
   dsimp only
   rw[ew2]
   refine hU _ ?_
   clear hU
   walk_at"l3"
   refine⟨ns,14,rfl,by decide,by decide,m,ns,r,w2,_,rfl,hm,by omega,by omega,w23,λT x y hP=>?_⟩
   exact⟨rfl,st T w2 false w21 w22 hP.l hP.rt λ_=>⟨x,y,hP⟩⟩
  ·rw[if_neg p0]
   refine⟨ns,2,rfl,by decide,by decide,?_⟩
   dsimp only
   refine⟨by decide,m,ns,15,r,wi,(eQ ns 2%4).toNat,by rw[show(((eQ ns 2%4).toNat:Nat):Int)=eQ ns 2%4 by omega];rfl,hm,by decide,by omega,by omega,by omega,λT lT hT=>st T wi true YV YW lT hT λz=>absurd z p0⟩
end
set_option maxHeartbeats 0 in
theorem all_mk{l:PySem.W.OpenLaw}{w:World}{K:Frag}{h:Heap}{mg:Str->Option Value}{fa:Addr}{ts:List Addr}(X:K.In h)(G:h.Ns mainGlobals mg)(hfa:mg "law"=some (.ref fa))
  {od0 an0:Option Addr} {sl0:Array (Option Value)} {oc0 kV0 dc0 pm0 YX ct0:Value} {f0:Addr}
  {od1 an1:Option Addr} {sl1:Array (Option Value)} {oc1 kV1 dc1 pm1 YY ct1:Value} {f1:Addr}
  {Jk an2:Option Addr} {sl2:Array (Option Value)} {oc2 kV2 dc2 pm2 YZ ct2:Value} {f2:Addr}
  {od3 an3:Option Addr} {sl3:Array (Option Value)} {oc3 kV3 dc3 pm3 Y0 ct3:Value} {f3:Addr}
  {od4 an4:Option Addr} {sl4:Array (Option Value)} {oc4 kV4 dc4 pm4 Y1 ct4:Value} {f4:Addr}
  {od5 an5:Option Addr} {sl5:Array (Option Value)} {oc5 kV5 dc5 pm5 Y2 ct5:Value} {f5:Addr}
  {od6 an6:Option Addr} {sl6:Array (Option Value)} {oc6 kV6 dc6 pm6 Y3 ct6:Value} {f6:Addr}
  {od7 an7:Option Addr} {sl7:Array (Option Value)} {oc7 kV7 dc7 pm7 ct7:Value} {f7:Addr}
  {BB mf:Addr} {aJ2:Option Addr} {aJ3:Array (Option Value)} {Y4:Array Value} {aJ4:Value}
  {od8 an8:Option Addr} {sl8:Array (Option Value)} {oc8 kV8 dc8 pm8 Y5 ct8:Value} {f8:Addr}
  {od9 an9:Option Addr} {sl9:Array (Option Value)} {oc9 kV9 dc9 pm9 Y6 ct9:Value} {f9:Addr}
  {eB8 eB9:Option Addr} {eC0:Array (Option Value)} {eC1 eC2 eC3 eC4 Y7 eC5:Value} {Em:Addr}
  {eC6 eC7:Option Addr} {eC8:Array (Option Value)} {eC9 eD0 eD1 eD2 Y8 eD3:Value} {Eo:Addr}
  {eD4 eD5:Option Addr} {eD6:Array (Option Value)} {eD7 eD8 eD9 eE0 Y9 eE1:Value} {mZ:Addr}
  {eE2 eE3:Option Addr} {eE4:Array (Option Value)} {eE5 eE6 eE7 eE8 eE9:Value} {yI:Addr}
  {BC mh:Addr} {aM8:Option Addr} {aM9:Array (Option Value)} {Za:Array Value} {aN0:Value}
  {eF3 eF4:Option Addr} {eF5:Array (Option Value)} {eF6 eF7 eF8 eF9 Zb eG0:Value} {Ep:Addr}
  {eG1 eG2:Option Addr} {eG3:Array (Option Value)} {eG4 eG5 eG6 eG7 Zc eG8:Value} {Er:Addr}
  {eG9 eH0:Option Addr} {eH1:Array (Option Value)} {eH2 eH3 eH4 eH5 Zd eH6:Value} {Es:Addr}
  {eH7 eH8:Option Addr} {eH9:Array (Option Value)} {eI0 eI1 eI2 eI3 Ze eI4:Value} {yJ:Addr}
  {eI5 eI6:Option Addr} {eI7:Array (Option Value)} {eI8 eI9 eJ0 eJ1 Zf eJ2:Value} {yK:Addr}
  {eJ3 eJ4:Option Addr} {eJ5:Array (Option Value)} {eJ6 eJ7 eJ8 eJ9 Zg eK0:Value} {Et:Addr}
  {eK1 eK2:Option Addr} {eK3:Array (Option Value)} {eK4 eK5 eK6 eK7 Zh eK8:Value} {Eu:Addr}
  {eK9 eL0:Option Addr} {eL1:Array (Option Value)} {eL2 eL3 eL4 eL5 Zi eL6:Value} {Ew:Addr}
  {eL7 eL8:Option Addr} {eL9:Array (Option Value)} {eM0 eM1 eM2 eM3 Zj eM4:Value} {yL:Addr}
  {eM5 eM6:Option Addr} {eM7:Array (Option Value)} {eM8 eM9 eN0 eN1 Zk eN2:Value} {yM:Addr}
  {eN3 eN4:Option Addr} {eN5:Array (Option Value)} {eN6 eN7 eN8 eN9 Zl eO0:Value} {qT:Addr}
  {eO1 eO2:Option Addr} {eO3:Array (Option Value)} {eO4 eO5 eO6 eO7 Zm eO8:Value} {yN:Addr}
  {eO9 eP0:Option Addr} {eP1:Array (Option Value)} {eP2 eP3 eP4 eP5 Zn eP6:Value} {Ey:Addr}
  {eP7 eP8:Option Addr} {eP9:Array (Option Value)} {eQ0 eQ1 eQ2 eQ3 Zo eQ4:Value} {sT:Addr}
  {eQ5 eQ6:Option Addr} {eQ7:Array (Option Value)} {eQ8 eQ9 eR0 eR1 Zp eR2:Value} {Ez:Addr}
  {eR3 eR4:Option Addr} {eR5:Array (Option Value)} {eR6 eR7 eR8 eR9 Zq eS0:Value} {EA:Addr}
  {eS1 eS2:Option Addr} {eS3:Array (Option Value)} {eS4 eS5 eS6 eS7 Zr eS8:Value} {EB:Addr}
  {eS9 eT0:Option Addr} {eT1:Array (Option Value)} {eT2 eT3 eT4 eT5 Zs eT6:Value} {EC:Addr}
  {eT7 eT8:Option Addr} {eT9:Array (Option Value)} {eU0 eU1 eU2 eU3 Zt eU4:Value} {ED:Addr}
  {eU5 eU6:Option Addr} {eU7:Array (Option Value)} {eU8 eU9 eV0 eV1 Zu eV2:Value} {EE:Addr}
  {eV3 eV4:Option Addr} {eV5:Array (Option Value)} {eV6 eV7 eV8 eV9 Zv eW0:Value} {EF:Addr}
  {eW1 eW2:Option Addr} {eW3:Array (Option Value)} {eW4 eW5 eW6 eW7 Zw eW8:Value} {EG:Addr}
  {eW9 eX0:Option Addr} {eX1:Array (Option Value)} {eX2 eX3 eX4 eX5 Zx eX6:Value} {EH:Addr}
  {eX7 eX8:Option Addr} {eX9:Array (Option Value)} {eY0 eY1 eY2 eY3 Zy eY4:Value} {EI:Addr}
  {eY5 eY6:Option Addr} {eY7:Array (Option Value)} {eY8 eY9 eZ0 eZ1 Zz eZ2:Value} {EJ:Addr}
  {eZ3 eZ4:Option Addr} {eZ5:Array (Option Value)} {eZ6 eZ7 eZ8 eZ9 ZA e00:Value} {EK:Addr}
  {e01 e02:Option Addr} {e03:Array (Option Value)} {e04 e05 e06 e07 ZC e08:Value} {EL:Addr}
  {e09 e10:Option Addr} {e11:Array (Option Value)} {e12 e13 e14 e15 ZD e16:Value} {EM:Addr}
  {e17 e18:Option Addr} {e19:Array (Option Value)} {e20 e21 e22 e23 ZE e24:Value} {EN:Addr}
  {e25 e26:Option Addr} {e27:Array (Option Value)} {e28 e29 e30 e31 ZF e32:Value} {EO:Addr}
  {e33 e34:Option Addr} {e35:Array (Option Value)} {e36 e37 e38 e39 ZG e40:Value} {yO:Addr}
  {e41 e42:Option Addr} {e43:Array (Option Value)} {e44 e45 e46 e47 ZH e48:Value} {yP:Addr}
  {e49 e50:Option Addr} {e51:Array (Option Value)} {e52 e53 e54 e55 ZI e56:Value} {ER:Addr}
  {e57 e58:Option Addr} {e59:Array (Option Value)} {e60 e61 e62 e63 ZJ e64:Value} {ES:Addr}
  {e65 e66:Option Addr} {e67:Array (Option Value)} {e68 e69 e70 e71 ZK e72:Value} {yQ:Addr}
  {e73 e74:Option Addr} {e75:Array (Option Value)} {e76 e77 e78 e79 ZL e80:Value} {yR:Addr}
  {e81 e82:Option Addr} {e83:Array (Option Value)} {e84 e85 e86 e87 ZM e88:Value} {ET:Addr}
  {e89 e90:Option Addr} {e91:Array (Option Value)} {e92 e93 e94 e95 ZN e96:Value} {EU:Addr}
  {e97 e98:Option Addr} {e99:Array (Option Value)} {fa0 fa1 fa2 fa3 ZO fa4:Value} {EV:Addr}
  {fa5 fa6:Option Addr} {fa7:Array (Option Value)} {fa8 fa9 fb0 fb1 ZP fb2:Value} {EW:Addr}
  {fb3 fb4:Option Addr} {fb5:Array (Option Value)} {fb6 fb7 fb8 fb9 ZQ fc0:Value} {EX:Addr}
  {fc1 fc2:Option Addr} {fc3:Array (Option Value)} {fc4 fc5 fc6 fc7 ZR fc8:Value} {EY:Addr}
  {fc9 fd0:Option Addr} {fd1:Array (Option Value)} {fd2 fd3 fd4 fd5 ZS fd6:Value} {EZ:Addr}
  {fd7 fd8:Option Addr} {fd9:Array (Option Value)} {fe0 fe1 fe2 fe3 ZT fe4:Value} {E1:Addr}
  {fe5 fe6:Option Addr} {fe7:Array (Option Value)} {fe8 fe9 ff0 ff1 ZU ff2:Value} {E2:Addr}
  {ff3 ff4:Option Addr} {ff5:Array (Option Value)} {ff6 ff7 ff8 ff9 ZV fg0:Value} {E3:Addr}
  {fg1 fg2:Option Addr} {fg3:Array (Option Value)} {fg4 fg5 fg6 fg7 ZW fg8:Value} {E4:Addr}
  {fg9 fh0:Option Addr} {fh1:Array (Option Value)} {fh2 fh3 fh4 fh5 ZX fh6:Value} {E5:Addr}
  {fh7 fh8:Option Addr} {fh9:Array (Option Value)} {fi0 fi1 fi2 fi3 ZY fi4:Value} {E6:Addr}
  {fi5 fi6:Option Addr} {fi7:Array (Option Value)} {fi8 fi9 fj0 fj1 ZZ fj2:Value} {E7:Addr}
  {fj3 fj4:Option Addr} {fj5:Array (Option Value)} {fj6 fj7 fj8 fj9 Z0 fk0:Value} {E8:Addr}
  {fk1 fk2:Option Addr} {fk3:Array (Option Value)} {fk4 fk5 fk6 fk7 Z1 fk8:Value} {E9:Addr}
  {fk9 Z2:Option Addr} {fl0:Array (Option Value)} {fl1 Z3 Z4 Z5 MX Z6:Value} {MY:Addr}
  {aS iL mm aW:Addr}
  (Bl:nsIn K mainGlobals "BitField"=some (some (.ref aS)))
  (Bo:nsIn K mainGlobals "ByNought"=some (some (.ref iL)))
  (yF:nsIn K mainGlobals "Field"=some (some (.ref mm)))
  (Bp:nsIn K mainGlobals "PrimeField"=some (some (.ref aW)))
  (a0:nsIn K mainGlobals "_law_told"=some (some (.ref f0)))
  (l0:K.lookup f0=some ⟨oc0,od0,.func (fnOf "_law_told" "_law_told" (bw wY) (bq wY) (az wY) .none kV0 dc0 pm0 an0 YX ct0),sl0⟩)
  (c0:codeIn K YX "_law_told"=true)
  (k0:keepIn K (.ref f0)=true)
  (a1:nsIn K mainGlobals "powers_of"=some (some (.ref f1)))
  (l1:K.lookup f1=some ⟨oc1,od1,.func (fnOf "powers_of" "powers_of" (bw wZ) (bq wZ) (az wZ) .none kV1 dc1 pm1 an1 YY ct1),sl1⟩)
  (c1:codeIn K YY "powers_of"=true)
  (k1:keepIn K (.ref f1)=true)
  (a2:nsIn K mainGlobals "step_powers"=some (some (.ref f2)))
  (l2:K.lookup f2=some ⟨oc2,Jk,.func (fnOf "step_powers" "step_powers" (bw w6) (bq w6) (az w6) .none kV2 dc2 pm2 an2 YZ ct2),sl2⟩)
  (c2:codeIn K YZ "step_powers"=true)
  (k2:keepIn K (.ref f2)=true)
  (a3:nsIn K mainGlobals "logs_of"=some (some (.ref f3)))
  (l3:K.lookup f3=some ⟨oc3,od3,.func (fnOf "logs_of" "logs_of" (bw w9) (bq w9) (az w9) .none kV3 dc3 pm3 an3 Y0 ct3),sl3⟩)
  (c3:codeIn K Y0 "logs_of"=true)
  (k3:keepIn K (.ref f3)=true)
  (a4:findIn K (.ref mm) "step_power"=some (some (.ref f4)))
  (l4:K.lookup f4=some ⟨oc4,od4,.func (fnOf "step_power" "Field.step_power" (bw xa) (bq xa) (az xa) .none kV4 dc4 pm4 an4 Y1 ct4),sl4⟩)
  (c4:codeIn K Y1 "Field.step_power"=true)
  (k4:keepIn K (.ref f4)=true)
  (a5:findIn K (.ref mm) "__init__"=some (some (.ref f5)))
  (l5:K.lookup f5=some ⟨oc5,od5,.func (fnOf "__init__" "Field.__init__" (bw xb) (bq xb) (az xb) .none kV5 dc5 pm5 an5 Y2 ct5),sl5⟩)
  (c5:codeIn K Y2 "Field.__init__"=true)
  (k5:keepIn K (.ref f5)=true)
  (a6:nsIn K mainGlobals "makes_prime_field"=some (some (.ref f6)))
  (l6:K.lookup f6=some ⟨oc6,od6,.func (fnOf "makes_prime_field" "makes_prime_field" (bw xf) (bq xf) (az xf) .none kV6 dc6 pm6 an6 Y3 ct6),sl6⟩)
  (c6:codeIn K Y3 "makes_prime_field"=true)
  (k6:keepIn K (.ref f6)=true)
  (a7:findIn K (.ref aW) "__init__"=some (some (.ref f7)))
  (l7:K.lookup f7=some ⟨oc7,od7,.func (fnOf "__init__" "PrimeField.__init__" (bw pQ) (bq pQ) (az pQ) .none kV7 dc7 pm7 an7 (.ref BB) ct7),sl7⟩)
  (c7:codeIn K (.ref BB) "PrimeField.__init__"=true)
  (k7:keepIn K (.ref f7)=true)
  (Z7:K.lookup BB=some ⟨aJ4,aJ2,.fields Y4,aJ3⟩)
  (Z8:Y4[11]?=some (.ref mf))
  (MZ:codeHdIn K BB mf=true)
  (a8:nsIn K mainGlobals "product_rows"=some (some (.ref f8)))
  (l8:K.lookup f8=some ⟨oc8,od8,.func (fnOf "product_rows" "product_rows" (bw xg) (bq xg) (az xg) .none kV8 dc8 pm8 an8 Y5 ct8),sl8⟩)
  (c8:codeIn K Y5 "product_rows"=true)
  (k8:keepIn K (.ref f8)=true)
  (a9:nsIn K mainGlobals "bits_divided"=some (some (.ref f9)))
  (l9:K.lookup f9=some ⟨oc9,od9,.func (fnOf "bits_divided" "bits_divided" (bw xh) (bq xh) (az xh) .none kV9 dc9 pm9 an9 Y6 ct9),sl9⟩)
  (c9:codeIn K Y6 "bits_divided"=true)
  (k9:keepIn K (.ref f9)=true)
  (M0:nsIn K mainGlobals "stands_alone"=some (some (.ref Em)))
  (M1:K.lookup Em=some ⟨eC1,eB8,.func (fnOf "stands_alone" "stands_alone" (bw xj) (bq xj) (az xj) .none eC2 eC3 eC4 eB9 Y7 eC5),eC0⟩)
  (M3:codeIn K Y7 "stands_alone"=true)
  (M4:keepIn K (.ref Em)=true)
  (M5:nsIn K mainGlobals "makes_bit_field"=some (some (.ref Eo)))
  (M6:K.lookup Eo=some ⟨eC9,eC6,.func (fnOf "makes_bit_field" "makes_bit_field" (bw xk) (bq xk) (az xk) .none eD0 eD1 eD2 eC7 Y8 eD3),eC8⟩)
  (M7:codeIn K Y8 "makes_bit_field"=true)
  (M8:keepIn K (.ref Eo)=true)
  (M9:nsIn K mainGlobals "bits_times"=some (some (.ref mZ)))
  (Na:K.lookup mZ=some ⟨eD7,eD4,.func (fnOf "bits_times" "bits_times" (bw xm) (bq xm) (az xm) .none eD8 eD9 eE0 eD5 Y9 eE1),eD6⟩)
  (Nb:codeIn K Y9 "bits_times"=true)
  (Nc:keepIn K (.ref mZ)=true)
  (Z9:findIn K (.ref aS) "__init__"=some (some (.ref yI)))
  (Nd:K.lookup yI=some ⟨eE5,eE2,.func (fnOf "__init__" "BitField.__init__" (bw pS) (bq pS) (az pS) .none eE6 eE7 eE8 eE3 (.ref BC) eE9),eE4⟩)
  (Nf:codeIn K (.ref BC) "BitField.__init__"=true)
  (Ng:keepIn K (.ref yI)=true)
  (γ:K.lookup BC=some ⟨aN0,aM8,.fields Za,aM9⟩)
  (ε:Za[11]?=some (.ref mh))
  (Nh:codeHdIn K BC mh=true)
  (Ni:nsIn K mainGlobals "_law_field"=some (some (.ref Ep)))
  (Nj:K.lookup Ep=some ⟨eF6,eF3,.func (fnOf "_law_field" "_law_field" (bw xn) (bq xn) (az xn) .none eF7 eF8 eF9 eF4 Zb eG0),eF5⟩)
  (Nl:codeIn K Zb "_law_field"=true)
  (Nm:keepIn K (.ref Ep)=true)
  (Nn:nsIn K mainGlobals "leads"=some (some (.ref Er)))
  (Np:K.lookup Er=some ⟨eG4,eG1,.func (fnOf "leads" "leads" (bw xo) (bq xo) (az xo) .none eG5 eG6 eG7 eG2 Zc eG8),eG3⟩)
  (Nq:codeIn K Zc "leads"=true)
  (Nr:keepIn K (.ref Er)=true)
  (Nt:nsIn K mainGlobals "free_places"=some (some (.ref Es)))
  (Nu:K.lookup Es=some ⟨eH2,eG9,.func (fnOf "free_places" "free_places" (bw xp) (bq xp) (az xp) .none eH3 eH4 eH5 eH0 Zd eH6),eH1⟩)
  (Nv:codeIn K Zd "free_places"=true)
  (Nw:keepIn K (.ref Es)=true)
  (ζ:findIn K (.ref aS) "minus"=some (some (.ref yJ)))
  (Nx:K.lookup yJ=some ⟨eI0,eH7,.func (fnOf "minus" "BitField.minus" (bw xq) (bq xq) (az xq) .none eI1 eI2 eI3 eH8 Ze eI4),eH9⟩)
  (Ny:codeIn K Ze "BitField.minus"=true)
  (Fb:keepIn K (.ref yJ)=true)
  (η:findIn K (.ref aW) "minus"=some (some (.ref yK)))
  (Nz:K.lookup yK=some ⟨eI8,eI5,.func (fnOf "minus" "PrimeField.minus" (bw xt) (bq xt) (az xt) .none eI9 eJ0 eJ1 eI6 Zf eJ2),eI7⟩)
  (NA:codeIn K Zf "PrimeField.minus"=true)
  (Fc:keepIn K (.ref yK)=true)
  (NB:nsIn K mainGlobals "kernel_of_reduced"=some (some (.ref Et)))
  (NC:K.lookup Et=some ⟨eJ6,eJ3,.func (fnOf "kernel_of_reduced" "kernel_of_reduced" (bw xu) (bq xu) (az xu) .none eJ7 eJ8 eJ9 eJ4 Zg eK0),eJ5⟩)
  (ND:codeIn K Zg "kernel_of_reduced"=true)
  (NF:keepIn K (.ref Et)=true)
  (NG:nsIn K mainGlobals "width_of"=some (some (.ref Eu)))
  (NH:K.lookup Eu=some ⟨eK4,eK1,.func (fnOf "width_of" "width_of" (bw xw) (bq xw) (az xw) .none eK5 eK6 eK7 eK2 Zh eK8),eK3⟩)
  (NI:codeIn K Zh "width_of"=true)
  (NJ:keepIn K (.ref Eu)=true)
  (NK:nsIn K mainGlobals "first_with"=some (some (.ref Ew)))
  (NL:K.lookup Ew=some ⟨eL2,eK9,.func (fnOf "first_with" "first_with" (bw xx) (bq xx) (az xx) .none eL3 eL4 eL5 eL0 Zi eL6),eL1⟩)
  (NM:codeIn K Zi "first_with"=true)
  (NN:keepIn K (.ref Ew)=true)
  (θ:findIn K (.ref aS) "scaled"=some (some (.ref yL)))
  (NO:K.lookup yL=some ⟨eM0,eL7,.func (fnOf "scaled" "BitField.scaled" (bw xy) (bq xy) (az xy) .none eM1 eM2 eM3 eL8 Zj eM4),eL9⟩)
  (NP:codeIn K Zj "BitField.scaled"=true)
  (Fd:keepIn K (.ref yL)=true)
  (ι:findIn K (.ref aW) "scaled"=some (some (.ref yM)))
  (NQ:K.lookup yM=some ⟨eM8,eM5,.func (fnOf "scaled" "PrimeField.scaled" (bw xA) (bq xA) (az xA) .none eM9 eN0 eN1 eM6 Zk eN2),eM7⟩)
  (NR:codeIn K Zk "PrimeField.scaled"=true)
  (Fe:keepIn K (.ref yM)=true)
  (μ:findIn K (.ref aS) "lessened"=some (some (.ref qT)))
  (NS:K.lookup qT=some ⟨eN6,eN3,.func (fnOf "lessened" "BitField.lessened" (bw xB) (bq xB) (az xB) .none eN7 eN8 eN9 eN4 Zl eO0),eN5⟩)
  (NT:codeIn K Zl "BitField.lessened"=true)
  (Ff:keepIn K (.ref qT)=true)
  (ν:findIn K (.ref aW) "lessened"=some (some (.ref yN)))
  (NU:K.lookup yN=some ⟨eO4,eO1,.func (fnOf "lessened" "PrimeField.lessened" (bw xC) (bq xC) (az xC) .none eO5 eO6 eO7 eO2 Zm eO8),eO3⟩)
  (NV:codeIn K Zm "PrimeField.lessened"=true)
  (Fg:keepIn K (.ref yN)=true)
  (NW:nsIn K mainGlobals "cleared"=some (some (.ref Ey)))
  (NX:K.lookup Ey=some ⟨eP2,eO9,.func (fnOf "cleared" "cleared" (bw xD) (bq xD) (az xD) .none eP3 eP4 eP5 eP0 Zn eP6),eP1⟩)
  (NY:codeIn K Zn "cleared"=true)
  (NZ:keepIn K (.ref Ey)=true)
  (ξ:findIn K (.ref mm) "over"=some (some (.ref sT)))
  (N0:K.lookup sT=some ⟨eQ0,eP7,.func (fnOf "over" "Field.over" (bw xE) (bq xE) (az xE) .none eQ1 eQ2 eQ3 eP8 Zo eQ4),eP9⟩)
  (N1:codeIn K Zo "Field.over"=true)
  (BD:keepIn K (.ref sT)=true)
  (N2:nsIn K mainGlobals "reduced"=some (some (.ref Ez)))
  (N3:K.lookup Ez=some ⟨eQ8,eQ5,.func (fnOf "reduced" "reduced" (bw xF) (bq xF) (az xF) .none eQ9 eR0 eR1 eQ6 Zp eR2),eQ7⟩)
  (N4:codeIn K Zp "reduced"=true)
  (N5:keepIn K (.ref Ez)=true)
  (N6:nsIn K mainGlobals "kernel"=some (some (.ref EA)))
  (N7:K.lookup EA=some ⟨eR6,eR3,.func (fnOf "kernel" "kernel" (bw xG) (bq xG) (az xG) .none eR7 eR8 eR9 eR4 Zq eS0),eR5⟩)
  (N8:codeIn K Zq "kernel"=true)
  (N9:keepIn K (.ref EA)=true)
  (Oa:nsIn K mainGlobals "_law_plus"=some (some (.ref EB)))
  (Ob:K.lookup EB=some ⟨eS4,eS1,.func (fnOf "_law_plus" "_law_plus" (bw xH) (bq xH) (az xH) .none eS5 eS6 eS7 eS2 Zr eS8),eS3⟩)
  (Oc:codeIn K Zr "_law_plus"=true)
  (Od:keepIn K (.ref EB)=true)
  (Oe:nsIn K mainGlobals "_law_times"=some (some (.ref EC)))
  (Of:K.lookup EC=some ⟨eT2,eS9,.func (fnOf "_law_times" "_law_times" (bw xI) (bq xI) (az xI) .none eT3 eT4 eT5 eT0 Zs eT6),eT1⟩)
  (Og:codeIn K Zs "_law_times"=true)
  (Oh:keepIn K (.ref EC)=true)
  (Oi:nsIn K mainGlobals "_law_dot"=some (some (.ref ED)))
  (Oj:K.lookup ED=some ⟨eU0,eT7,.func (fnOf "_law_dot" "_law_dot" (bw xK) (bq xK) (az xK) .none eU1 eU2 eU3 eT8 Zt eU4),eT9⟩)
  (Ol:codeIn K Zt "_law_dot"=true)
  (Om:keepIn K (.ref ED)=true)
  (Oo:nsIn K mainGlobals "_law_by_row"=some (some (.ref EE)))
  (Oq:K.lookup EE=some ⟨eU8,eU5,.func (fnOf "_law_by_row" "_law_by_row" (bw xM) (bq xM) (az xM) .none eU9 eV0 eV1 eU6 Zu eV2),eU7⟩)
  (Ot:codeIn K Zu "_law_by_row"=true)
  (Ou:keepIn K (.ref EE)=true)
  (Ov:nsIn K mainGlobals "_law_copy"=some (some (.ref EF)))
  (Ow:K.lookup EF=some ⟨eV6,eV3,.func (fnOf "_law_copy" "_law_copy" (bw xN) (bq xN) (az xN) .none eV7 eV8 eV9 eV4 Zv eW0),eV5⟩)
  (Ox:codeIn K Zv "_law_copy"=true)
  (Oy:keepIn K (.ref EF)=true)
  (Oz:nsIn K mainGlobals "_law_whole"=some (some (.ref EG)))
  (OA:K.lookup EG=some ⟨eW4,eW1,.func (fnOf "_law_whole" "_law_whole" (bw xO) (bq xO) (az xO) .none eW5 eW6 eW7 eW2 Zw eW8),eW3⟩)
  (OB:codeIn K Zw "_law_whole"=true)
  (OC:keepIn K (.ref EG)=true)
  (OD:nsIn K mainGlobals "_law_row_kind"=some (some (.ref EH)))
  (OE:K.lookup EH=some ⟨eX2,eW9,.func (fnOf "_law_row_kind" "_law_row_kind" (bw xP) (bq xP) (az xP) .none eX3 eX4 eX5 eX0 Zx eX6),eX1⟩)
  (OF:codeIn K Zx "_law_row_kind"=true)
  (OG:keepIn K (.ref EH)=true)
  (OH:nsIn K mainGlobals "_law_table_kind"=some (some (.ref EI)))
  (OI:K.lookup EI=some ⟨eY0,eX7,.func (fnOf "_law_table_kind" "_law_table_kind" (bw xQ) (bq xQ) (az xQ) .none eY1 eY2 eY3 eX8 Zy eY4),eX9⟩)
  (OJ:codeIn K Zy "_law_table_kind"=true)
  (OK:keepIn K (.ref EI)=true)
  (OL:nsIn K mainGlobals "_law_cell"=some (some (.ref EJ)))
  (OM:K.lookup EJ=some ⟨eY8,eY5,.func (fnOf "_law_cell" "_law_cell" (bw xR) (bq xR) (az xR) .none eY9 eZ0 eZ1 eY6 Zz eZ2),eY7⟩)
  (ON:codeIn K Zz "_law_cell"=true)
  (OO:keepIn K (.ref EJ)=true)
  (OP:nsIn K mainGlobals "_law_many"=some (some (.ref EK)))
  (OQ:K.lookup EK=some ⟨eZ6,eZ3,.func (fnOf "_law_many" "_law_many" (bw xS) (bq xS) (az xS) .none eZ7 eZ8 eZ9 eZ4 ZA e00),eZ5⟩)
  (OR:codeIn K ZA "_law_many"=true)
  (OS:keepIn K (.ref EK)=true)
  (OT:nsIn K mainGlobals "_law_sent"=some (some (.ref EL)))
  (OU:K.lookup EL=some ⟨e04,e01,.func (fnOf "_law_sent" "_law_sent" (bw xT) (bq xT) (az xT) .none e05 e06 e07 e02 ZC e08),e03⟩)
  (OV:codeIn K ZC "_law_sent"=true)
  (OW:keepIn K (.ref EL)=true)
  (OX:nsIn K mainGlobals "_law_spoilt"=some (some (.ref EM)))
  (OY:K.lookup EM=some ⟨e12,e09,.func (fnOf "_law_spoilt" "_law_spoilt" (bw xU) (bq xU) (az xU) .none e13 e14 e15 e10 ZD e16),e11⟩)
  (OZ:codeIn K ZD "_law_spoilt"=true)
  (O0:keepIn K (.ref EM)=true)
  (O1:nsIn K mainGlobals "lost_places"=some (some (.ref EN)))
  (O2:K.lookup EN=some ⟨e20,e17,.func (fnOf "lost_places" "lost_places" (bw xV) (bq xV) (az xV) .none e21 e22 e23 e18 ZE e24),e19⟩)
  (O3:codeIn K ZE "lost_places"=true)
  (O4:keepIn K (.ref EN)=true)
  (O5:nsIn K mainGlobals "noughts_for_lost"=some (some (.ref EO)))
  (O6:K.lookup EO=some ⟨e28,e25,.func (fnOf "noughts_for_lost" "noughts_for_lost" (bw xW) (bq xW) (az xW) .none e29 e30 e31 e26 ZF e32),e27⟩)
  (O7:codeIn K ZF "noughts_for_lost"=true)
  (O8:keepIn K (.ref EO)=true)
  (ο:findIn K (.ref aS) "dot"=some (some (.ref yO)))
  (O9:K.lookup yO=some ⟨e36,e33,.func (fnOf "dot" "BitField.dot" (bw xX) (bq xX) (az xX) .none e37 e38 e39 e34 ZG e40),e35⟩)
  (Pa:codeIn K ZG "BitField.dot"=true)
  (Fh:keepIn K (.ref yO)=true)
  (π:findIn K (.ref aW) "dot"=some (some (.ref yP)))
  (Pb:K.lookup yP=some ⟨e44,e41,.func (fnOf "dot" "PrimeField.dot" (bw xY) (bq xY) (az xY) .none e45 e46 e47 e42 ZH e48),e43⟩)
  (Pc:codeIn K ZH "PrimeField.dot"=true)
  (Fj:keepIn K (.ref yP)=true)
  (Pd:nsIn K mainGlobals "by_column"=some (some (.ref ER)))
  (Pe:K.lookup ER=some ⟨e52,e49,.func (fnOf "by_column" "by_column" (bw xZ) (bq xZ) (az xZ) .none e53 e54 e55 e50 ZI e56),e51⟩)
  (Pf:codeIn K ZI "by_column"=true)
  (Pg:keepIn K (.ref ER)=true)
  (Ph:nsIn K mainGlobals "is_nought"=some (some (.ref ES)))
  (Pj:K.lookup ES=some ⟨e60,e57,.func (fnOf "is_nought" "is_nought" (bw x6) (bq x6) (az x6) .none e61 e62 e63 e58 ZJ e64),e59⟩)
  (Pk:codeIn K ZJ "is_nought"=true)
  (Pl:keepIn K (.ref ES)=true)
  (ρ:findIn K (.ref aS) "times"=some (some (.ref yQ)))
  (Pm:K.lookup yQ=some ⟨e68,e65,.func (fnOf "times" "BitField.times" (bw x8) (bq x8) (az x8) .none e69 e70 e71 e66 ZK e72),e67⟩)
  (Pn:codeIn K ZK "BitField.times"=true)
  (Fl:keepIn K (.ref yQ)=true)
  (τ:findIn K (.ref aW) "times"=some (some (.ref yR)))
  (Po:K.lookup yR=some ⟨e76,e73,.func (fnOf "times" "PrimeField.times" (bw x9) (bq x9) (az x9) .none e77 e78 e79 e74 ZL e80),e75⟩)
  (Pp:codeIn K ZL "PrimeField.times"=true)
  (Fm:keepIn K (.ref yR)=true)
  (Pq:nsIn K mainGlobals "past"=some (some (.ref ET)))
  (Pr:K.lookup ET=some ⟨e84,e81,.func (fnOf "past" "past" (bw ya) (bq ya) (az ya) .none e85 e86 e87 e82 ZM e88),e83⟩)
  (Pt:codeIn K ZM "past"=true)
  (Pu:keepIn K (.ref ET)=true)
  (Pw:nsIn K mainGlobals "past_lost"=some (some (.ref EU)))
  (Px:K.lookup EU=some ⟨e92,e89,.func (fnOf "past_lost" "past_lost" (bw yc) (bq yc) (az yc) .none e93 e94 e95 e90 ZN e96),e91⟩)
  (Py:codeIn K ZN "past_lost"=true)
  (Pz:keepIn K (.ref EU)=true)
  (PB:nsIn K mainGlobals "numbers_within"=some (some (.ref EV)))
  (PC:K.lookup EV=some ⟨fa0,e97,.func (fnOf "numbers_within" "numbers_within" (bw yd) (bq yd) (az yd) .none fa1 fa2 fa3 e98 ZO fa4),e99⟩)
  (PD:codeIn K ZO "numbers_within"=true)
  (PF:keepIn K (.ref EV)=true)
  (PH:nsIn K mainGlobals "turned"=some (some (.ref EW)))
  (PJ:K.lookup EW=some ⟨fa8,fa5,.func (fnOf "turned" "turned" (bw ye) (bq ye) (az ye) .none fa9 fb0 fb1 fa6 ZP fb2),fa7⟩)
  (PK:codeIn K ZP "turned"=true)
  (PL:keepIn K (.ref EW)=true)
  (PM:nsIn K mainGlobals "wrong_places"=some (some (.ref EX)))
  (PN:K.lookup EX=some ⟨fb6,fb3,.func (fnOf "wrong_places" "wrong_places" (bw yf) (bq yf) (az yf) .none fb7 fb8 fb9 fb4 ZQ fc0),fb5⟩)
  (PQ:codeIn K ZQ "wrong_places"=true)
  (PR:keepIn K (.ref EX)=true)
  (PU:nsIn K mainGlobals "taken_off"=some (some (.ref EY)))
  (PV:K.lookup EY=some ⟨fc4,fc1,.func (fnOf "taken_off" "taken_off" (bw yg) (bq yg) (az yg) .none fc5 fc6 fc7 fc2 ZR fc8),fc3⟩)
  (PX:codeIn K ZR "taken_off"=true)
  (PY:keepIn K (.ref EY)=true)
  (PZ:nsIn K mainGlobals "with_due"=some (some (.ref EZ)))
  (P0:K.lookup EZ=some ⟨fd2,fc9,.func (fnOf "with_due" "with_due" (bw yh) (bq yh) (az yh) .none fd3 fd4 fd5 fd0 ZS fd6),fd1⟩)
  (P1:codeIn K ZS "with_due"=true)
  (P2:keepIn K (.ref EZ)=true)
  (P4:nsIn K mainGlobals "solved"=some (some (.ref E1)))
  (P5:K.lookup E1=some ⟨fe0,fd7,.func (fnOf "solved" "solved" (bw yi) (bq yi) (az yi) .none fe1 fe2 fe3 fd8 ZT fe4),fd9⟩)
  (P6:codeIn K ZT "solved"=true)
  (P7:keepIn K (.ref E1)=true)
  (P8:nsIn K mainGlobals "picked"=some (some (.ref E2)))
  (P9:K.lookup E2=some ⟨fe8,fe5,.func (fnOf "picked" "picked" (bw yk) (bq yk) (az yk) .none fe9 ff0 ff1 fe6 ZU ff2),fe7⟩)
  (Qa:codeIn K ZU "picked"=true)
  (Qb:keepIn K (.ref E2)=true)
  (Qc:nsIn K mainGlobals "near_row"=some (some (.ref E3)))
  (Qe:K.lookup E3=some ⟨ff6,ff3,.func (fnOf "near_row" "near_row" (bw ym) (bq ym) (az ym) .none ff7 ff8 ff9 ff4 ZV fg0),ff5⟩)
  (Qf:codeIn K ZV "near_row"=true)
  (Qg:keepIn K (.ref E3)=true)
  (Qh:nsIn K mainGlobals "_law_near"=some (some (.ref E4)))
  (Qi:K.lookup E4=some ⟨fg4,fg1,.func (fnOf "_law_near" "_law_near" (bw yo) (bq yo) (az yo) .none fg5 fg6 fg7 fg2 ZW fg8),fg3⟩)
  (Qj:codeIn K ZW "_law_near"=true)
  (Qk:keepIn K (.ref E4)=true)
  (Ql:nsIn K mainGlobals "_law_powers"=some (some (.ref E5)))
  (Qm:K.lookup E5=some ⟨fh2,fg9,.func (fnOf "_law_powers" "_law_powers" (bw yp) (bq yp) (az yp) .none fh3 fh4 fh5 fh0 ZX fh6),fh1⟩)
  (Qn:codeIn K ZX "_law_powers"=true)
  (Qo:keepIn K (.ref E5)=true)
  (Qp:nsIn K mainGlobals "_law_table"=some (some (.ref E6)))
  (Qq:K.lookup E6=some ⟨fi0,fh7,.func (fnOf "_law_table" "_law_table" (bw yq) (bq yq) (az yq) .none fi1 fi2 fi3 fh8 ZY fi4),fh9⟩)
  (Qr:codeIn K ZY "_law_table"=true)
  (Qs:keepIn K (.ref E6)=true)
  (Qt:nsIn K mainGlobals "first_bound"=some (some (.ref E7)))
  (Qu:K.lookup E7=some ⟨fi8,fi5,.func (fnOf "first_bound" "first_bound" (bw yt) (bq yt) (az yt) .none fi9 fj0 fj1 fi6 ZZ fj2),fi7⟩)
  (Qv:codeIn K ZZ "first_bound"=true)
  (Qw:keepIn K (.ref E7)=true)
  (Qx:nsIn K mainGlobals "_law_most"=some (some (.ref E8)))
  (kL:K.lookup E8=some ⟨fj6,fj3,.func (fnOf "_law_most" "_law_most" (bw yu) (bq yu) (az yu) .none fj7 fj8 fj9 fj4 Z0 fk0),fj5⟩)
  (Qy:codeIn K Z0 "_law_most"=true)
  (Qz:keepIn K (.ref E8)=true)
  (QB:nsIn K mainGlobals "_law_own"=some (some (.ref E9)))
  (QC:K.lookup E9=some ⟨fk4,fk1,.func (fnOf "_law_own" "_law_own" (bw yv) (bq yv) (az yv) .none fk5 fk6 fk7 fk2 Z1 fk8),fk3⟩)
  (QD:codeIn K Z1 "_law_own"=true)
  (QE:keepIn K (.ref E9)=true)
  (Fo:nsIn K mainGlobals "law"=some (some (.ref MY)))
  (QF:K.lookup MY=some ⟨fl1,fk9,.func (fnOf "law" "law" (bw pU) (bq pU) (az pU) .none Z3 Z4 Z5 Z2 MX Z6),fl0⟩)
  (QG:codeIn K MX "law"=true)
  (QH:keepIn K (.ref MY)=true)
  (Fp:PySem.W.plainGet K aS Str.empty=true)
  (Fq:PySem.W.hasDictIn K aS=true)
  (Fs:PySem.W.plainOver K aS=true)
  (Ft:findIn K (.ref aS) "__setattr__"=some (some (.builtin "object.__setattr__")))
  (AW:PySem.W.makesIn K aS=true)
  (QI:findIn K (.ref aS) "__init__"=some (some (.ref yI)))
  (QJ:isFn K (.ref yI)=true)
  (QK:keepIn K (.ref aS)=true)
  (QL:findIn K (.ref aS) "__class__"=some (some (.builtin "object.__class__")))
  (QM:specialIn K (.builtin "object.__class__") "__get__"=some (some (.builtin "getset_descriptor.__get__")))
  (QN:takesIn K (.builtin "object.__class__")=some true)
  (QO:mroIn K aS (.type "object")=some true)
  (AX:findIn K (.ref aS) "bits"=some none)
  (sM:findIn K (.ref aS) "logs"=some none)
  (yz:findIn K (.ref aS) "many"=some none)
  (ve:findIn K (.ref aS) "powers"=some none)
  (D6:findIn K (.ref aS) "prime"=some none)
  (pW:findIn K (.ref aS) "products"=some none)
  (AY:findIn K (.ref aS) "step"=some none)
  (AZ:findIn K (.ref aS) "wide"=some none)
  (A6:findIn K (.ref aS) "dot"=some (some (.ref yO)))
  (QP:isFn K (.ref yO)=true)
  (A7:findIn K (.ref aS) "lessened"=some (some (.ref qT)))
  (QQ:isFn K (.ref qT)=true)
  (A8:findIn K (.ref aS) "minus"=some (some (.ref yJ)))
  (QR:isFn K (.ref yJ)=true)
  (A9:findIn K (.ref aS) "over"=some (some (.ref sT)))
  (QS:isFn K (.ref sT)=true)
  (Ba:findIn K (.ref aS) "scaled"=some (some (.ref yL)))
  (QT:isFn K (.ref yL)=true)
  (yA:findIn K (.ref aS) "step_power"=some (some (.ref f4)))
  (QU:isFn K (.ref f4)=true)
  (Bb:findIn K (.ref aS) "times"=some (some (.ref yQ)))
  (QV:isFn K (.ref yQ)=true)
  (Fu:PySem.W.plainGet K aW Str.empty=true)
  (Fv:PySem.W.hasDictIn K aW=true)
  (Fw:PySem.W.plainOver K aW=true)
  (Fx:findIn K (.ref aW) "__setattr__"=some (some (.builtin "object.__setattr__")))
  (Bc:PySem.W.makesIn K aW=true)
  (QW:findIn K (.ref aW) "__init__"=some (some (.ref f7)))
  (QX:isFn K (.ref f7)=true)
  (QY:keepIn K (.ref aW)=true)
  (QZ:findIn K (.ref aW) "__class__"=some (some (.builtin "object.__class__")))
  (Q0:specialIn K (.builtin "object.__class__") "__get__"=some (some (.builtin "getset_descriptor.__get__")))
  (Q1:takesIn K (.builtin "object.__class__")=some true)
  (Q2:mroIn K aW (.type "object")=some true)
  (D7:findIn K (.ref aW) "bits"=some none)
  (vf:findIn K (.ref aW) "logs"=some none)
  (yB:findIn K (.ref aW) "many"=some none)
  (yC:findIn K (.ref aW) "powers"=some none)
  (nC:findIn K (.ref aW) "prime"=some none)
  (D8:findIn K (.ref aW) "products"=some none)
  (Bd:findIn K (.ref aW) "step"=some none)
  (Be:findIn K (.ref aW) "wide"=some none)
  (Bf:findIn K (.ref aW) "dot"=some (some (.ref yP)))
  (Q3:isFn K (.ref yP)=true)
  (Bg:findIn K (.ref aW) "lessened"=some (some (.ref yN)))
  (Q4:isFn K (.ref yN)=true)
  (Bh:findIn K (.ref aW) "minus"=some (some (.ref yK)))
  (Q5:isFn K (.ref yK)=true)
  (Bi:findIn K (.ref aW) "over"=some (some (.ref sT)))
  (Q6:isFn K (.ref sT)=true)
  (Bj:findIn K (.ref aW) "scaled"=some (some (.ref yM)))
  (Q7:isFn K (.ref yM)=true)
  (yD:findIn K (.ref aW) "step_power"=some (some (.ref f4)))
  (Q8:isFn K (.ref f4)=true)
  (Bk:findIn K (.ref aW) "times"=some (some (.ref yR)))
  (Q9:isFn K (.ref yR)=true)
  (Ra:specialIn K (.ref mm) "__getattribute__"=some (some (.builtin "type.__getattribute__")))
  (Rb:PySem.W.readsIn K mm (.type "type")=true)
  (Rc:PySem.W.findCls K (.ref mm) (.type "type") "__init__"=some (.val (.ref f5)))
  (Rh:nsIn K mainGlobals "all"=some none)
  (Ri:nsIn K mainGlobals "any"=some none)
  (Rj:nsIn K mainGlobals "bool"=some none)
  (Rk:nsIn K mainGlobals "enumerate"=some none)
  (Rl:nsIn K mainGlobals "int"=some none)
  (Rm:nsIn K mainGlobals "isinstance"=some none)
  (Rn:nsIn K mainGlobals "len"=some none)
  (Ro:nsIn K mainGlobals "list"=some none)
  (Rp:nsIn K mainGlobals "min"=some none)
  (Rq:nsIn K mainGlobals "range"=some none)
  (Rt:nsIn K mainGlobals "sum"=some none)
  (Ru:nsIn K mainGlobals "zip"=some none)
  (Rv:(PySem.W.clsIn K iL).isSome=true)
  (υ:PySem.W.typeIn K (.ref iL)=some (.type "type"))
  (Rw:PySem.W.excIn K iL [.type "ValueError",.type "Exception",.type "BaseException",.type "object"] "ValueError.__new__"=true)
  (Rx:findIn K (.ref iL) "__getattribute__"=some (some (.builtin "BaseException.__getattribute__")))
  (Ry:findIn K (.ref iL) "__getattr__"=some none)
  (Rz:findIn K (.ref iL) "__class__"=some (some (.builtin "object.__class__")))
  (RA:specialIn K (.builtin "object.__class__") "__get__"=some (some (.builtin "getset_descriptor.__get__")))
  (RB:takesIn K (.builtin "object.__class__")=some true)
  (RD:mroIn K iL (.type "object")=some true)
  (RE:mroIn K iL (.type "BaseException")=some true)
  (nl:K.all (λp=>HQ p.2)=true)
  (sub:∀P∈[mf,mh],P∈ts) :
  ∃fd:FuncData,(∀(s:Shared) (v:Value),BindsTo s fd ⟨[v],[]⟩ [("_law_script",v)])/\∀base:Heap,K.In base->base.Ns mainGlobals mg->Bm mg base->aQ l.prog w K mg base bf 16 fa fd ["_law_script"] (CY ts K):=by
 have e:=hfa.symm.trans (mg_of X G Fo)
 cases e
 have F0:=bE (st:=wY) l0 c0 k0
 have b0:=F0.binds (ps:=["_law_cell_here"]) λ_ _ _ _ _ _=>hV (λ_=>rfl)
 have F1:=bE (st:=wZ) l1 c1 k1
 have b1:=F1.binds (ps:=["a","product"]) λ_ _ _ _ _ _=>ib (λ_ _=>rfl)
 have F2:=bE (st:=w6) l2 c2 k2
 have b2:=F2.binds (ps:=["many","product"]) λ_ _ _ _ _ _=>ib (λ_ _=>rfl)
 have F3:=bE (st:=w9) l3 c3 k3
 have b3:=F3.binds (ps:=["powers"]) λ_ _ _ _ _ _=>hV (λ_=>rfl)
 have F4:=bE (st:=xa) l4 c4 k4
 have b4:=F4.binds (ps:=["self","n"]) λ_ _ _ _ _ _=>ib (λ_ _=>rfl)
 have F5:=bE (st:=xb) l5 c5 k5
 have b5:=F5.binds (ps:=["self","many","product"]) λ_ _ _ _ _ _=>fo (λ_ _ _=>rfl)
 have F6:=bE (st:=xf) l6 c6 k6
 have b6:=F6.binds (ps:=["prime"]) λ_ _ _ _ _ _=>hV (λ_=>rfl)
 have F7:=bE (st:=pQ) l7 c7 k7
 have b7:=F7.binds (ps:=["self","prime"]) λ_ _ _ _ _ _=>ib (λ_ _=>rfl)
 have F8:=bE (st:=xg) l8 c8 k8
 have b8:=F8.binds (ps:=["powers","logs"]) λ_ _ _ _ _ _=>ib (λ_ _=>rfl)
 have F9:=bE (st:=xh) l9 c9 k9
 have b9:=F9.binds (ps:=["a","b"]) λ_ _ _ _ _ _=>ib (λ_ _=>rfl)
 have χ:=bE (st:=xj) M1 M3 M4
 have b10:=χ.binds (ps:=["a"]) λ_ _ _ _ _ _=>hV (λ_=>rfl)
 have ω:=bE (st:=xk) M6 M7 M8
 have b11:=ω.binds (ps:=["bits"]) λ_ _ _ _ _ _=>hV (λ_=>rfl)
 have Γ:=bE (st:=xm) Na Nb Nc
 have b12:=Γ.binds (ps:=["a","b"]) λ_ _ _ _ _ _=>ib (λ_ _=>rfl)
 have Δ:=bE (st:=pS) Nd Nf Ng
 have b13:=Δ.binds (ps:=["self","bits"]) λ_ _ _ _ _ _=>ib (λ_ _=>rfl)
 have Θ:=bE (st:=xn) Nj Nl Nm
 have b14:=Θ.binds (ps:=["_law_told_here"]) λ_ _ _ _ _ _=>hV (λ_=>rfl)
 have Λ:=bE (st:=xo) Np Nq Nr
 have b15:=Λ.binds (ps:=["rows"]) λ_ _ _ _ _ _=>hV (λ_=>rfl)
 have Ξ:=bE (st:=xp) Nu Nv Nw
 have b16:=Ξ.binds (ps:=["rows","width"]) λ_ _ _ _ _ _=>ib (λ_ _=>rfl)
 have Φ:=bE (st:=xq) Nx Ny Fb
 have b17:=Φ.binds (ps:=["self","a","b"]) λ_ _ _ _ _ _=>fo (λ_ _ _=>rfl)
 have Ψ:=bE (st:=xt) Nz NA Fc
 have b18:=Ψ.binds (ps:=["self","a","b"]) λ_ _ _ _ _ _=>fo (λ_ _ _=>rfl)
 have Ω:=bE (st:=xu) NC ND NF
 have b19:=Ω.binds (ps:=["field","rows","width"]) λ_ _ _ _ _ _=>fo (λ_ _ _=>rfl)
 have F20:=bE (st:=xw) NH NI NJ
 have b20:=F20.binds (ps:=["table"]) λ_ _ _ _ _ _=>hV (λ_=>rfl)
 have F21:=bE (st:=xx) NL NM NN
 have b21:=F21.binds (ps:=["rows","place"]) λ_ _ _ _ _ _=>ib (λ_ _=>rfl)
 have F22:=bE (st:=xy) NO NP Fd
 have b22:=F22.binds (ps:=["self","a","row"]) λ_ _ _ _ _ _=>fo (λ_ _ _=>rfl)
 have F23:=bE (st:=xA) NQ NR Fe
 have b23:=F23.binds (ps:=["self","a","row"]) λ_ _ _ _ _ _=>fo (λ_ _ _=>rfl)
 have F24:=bE (st:=xB) NS NT Ff
 have b24:=F24.binds (ps:=["self","row","a","other"]) λ_ _ _ _ _ _=>lZ (λ_ _ _ _=>rfl)
 have F25:=bE (st:=xC) NU NV Fg
 have b25:=F25.binds (ps:=["self","row","a","other"]) λ_ _ _ _ _ _=>lZ (λ_ _ _ _=>rfl)
 have F26:=bE (st:=xD) NX NY NZ
 have b26:=F26.binds (ps:=["field","rows","lead_row","place"]) λ_ _ _ _ _ _=>lZ (λ_ _ _ _=>rfl)
 have F27:=bE (st:=xE) N0 N1 BD
 have b27:=F27.binds (ps:=["self","a","b"]) λ_ _ _ _ _ _=>fo (λ_ _ _=>rfl)
 have F28:=bE (st:=xF) N3 N4 N5
 have b28:=F28.binds (ps:=["field","table"]) λ_ _ _ _ _ _=>ib (λ_ _=>rfl)
 have F29:=bE (st:=xG) N7 N8 N9
 have b29:=F29.binds (ps:=["field","table"]) λ_ _ _ _ _ _=>ib (λ_ _=>rfl)
 have F30:=bE (st:=xH) Ob Oc Od
 have b30:=F30.binds (ps:=["_law_told_here","_law_a","_law_b"]) λ_ _ _ _ _ _=>fo (λ_ _ _=>rfl)
 have F31:=bE (st:=xI) Of Og Oh
 have b31:=F31.binds (ps:=["_law_told_here","_law_a","_law_b"]) λ_ _ _ _ _ _=>fo (λ_ _ _=>rfl)
 have F32:=bE (st:=xK) Oj Ol Om
 have b32:=F32.binds (ps:=["_law_told_here","_law_xs","_law_ys"]) λ_ _ _ _ _ _=>fo (λ_ _ _=>rfl)
 have F33:=bE (st:=xM) Oq Ot Ou
 have b33:=F33.binds (ps:=["_law_told_here","_law_xs","_law_table_here","_law_wide"]) λ_ _ _ _ _ _=>lZ (λ_ _ _ _=>rfl)
 have F34:=bE (st:=xN) Ow Ox Oy
 have b34:=F34.binds (ps:=["_law_table_here"]) λ_ _ _ _ _ _=>hV (λ_=>rfl)
 have F35:=bE (st:=xO) OA OB OC
 have b35:=F35.binds (ps:=["_law_x"]) λ_ _ _ _ _ _=>hV (λ_=>rfl)
 have F36:=bE (st:=xP) OE OF OG
 have b36:=F36.binds (ps:=["_law_row","_law_wide","_law_many_here"]) λ_ _ _ _ _ _=>fo (λ_ _ _=>rfl)
 have F37:=bE (st:=xQ) OI OJ OK
 have b37:=F37.binds (ps:=["_law_table_here","_law_rows","_law_wide","_law_many_here"]) λ_ _ _ _ _ _=>lZ (λ_ _ _ _=>rfl)
 have F38:=bE (st:=xR) OM ON OO
 have b38:=F38.binds (ps:=["_law_script","_law_k"]) λ_ _ _ _ _ _=>ib (λ_ _=>rfl)
 have F39:=bE (st:=xS) OQ OR OS
 have b39:=F39.binds (ps:=["_law_told_here"]) λ_ _ _ _ _ _=>hV (λ_=>rfl)
 have F40:=bE (st:=xT) OU OV OW
 have b40:=F40.binds (ps:=["_law_told_here","_law_script","_law_field_here","_law_table_here"]) λ_ _ _ _ _ _=>lZ (λ_ _ _ _=>rfl)
 have F41:=bE (st:=xU) OY OZ O0
 have b41:=F41.binds (ps:=["_law_told_here","_law_script","_law_sent_here"]) λ_ _ _ _ _ _=>fo (λ_ _ _=>rfl)
 have F42:=bE (st:=xV) O2 O3 O4
 have b42:=F42.binds (ps:=["signs"]) λ_ _ _ _ _ _=>hV (λ_=>rfl)
 have F43:=bE (st:=xW) O6 O7 O8
 have b43:=F43.binds (ps:=["signs"]) λ_ _ _ _ _ _=>hV (λ_=>rfl)
 have F44:=bE (st:=xX) O9 Pa Fh
 have b44:=F44.binds (ps:=["self","xs","ys"]) λ_ _ _ _ _ _=>fo (λ_ _ _=>rfl)
 have F45:=bE (st:=xY) Pb Pc Fj
 have b45:=F45.binds (ps:=["self","xs","ys"]) λ_ _ _ _ _ _=>fo (λ_ _ _=>rfl)
 have F46:=bE (st:=xZ) Pe Pf Pg
 have b46:=F46.binds (ps:=["field","table","column"]) λ_ _ _ _ _ _=>fo (λ_ _ _=>rfl)
 have F47:=bE (st:=x6) Pj Pk Pl
 have b47:=F47.binds (ps:=["column"]) λ_ _ _ _ _ _=>hV (λ_=>rfl)
 have F48:=bE (st:=x8) Pm Pn Fl
 have b48:=F48.binds (ps:=["self","a","b"]) λ_ _ _ _ _ _=>fo (λ_ _ _=>rfl)
 have F49:=bE (st:=x9) Po Pp Fm
 have b49:=F49.binds (ps:=["self","a","b"]) λ_ _ _ _ _ _=>fo (λ_ _ _=>rfl)
 have F50:=bE (st:=ya) Pr Pt Pu
 have b50:=F50.binds (ps:=["field","column","others"]) λ_ _ _ _ _ _=>fo (λ_ _ _=>rfl)
 have F51:=bE (st:=yc) Px Py Pz
 have b51:=F51.binds (ps:=["field","columns","lost"]) λ_ _ _ _ _ _=>fo (λ_ _ _=>rfl)
 have F52:=bE (st:=yd) PC PD PF
 have b52:=F52.binds (ps:=["field","columns","due","most"]) λ_ _ _ _ _ _=>lZ (λ_ _ _ _=>rfl)
 have F53:=bE (st:=ye) PJ PK PL
 have b53:=F53.binds (ps:=["table"]) λ_ _ _ _ _ _=>hV (λ_=>rfl)
 have F54:=bE (st:=yf) PN PQ PR
 have b54:=F54.binds (ps:=["field","table","lost","sums","most"]) λ_ _ _ _ _ _=>Je (λ_ _ _ _ _=>rfl)
 have F55:=bE (st:=yg) PV PX PY
 have b55:=F55.binds (ps:=["field","word","places","signs"]) λ_ _ _ _ _ _=>lZ (λ_ _ _ _=>rfl)
 have F56:=bE (st:=yh) P0 P1 P2
 have b56:=F56.binds (ps:=["table","due"]) λ_ _ _ _ _ _=>ib (λ_ _=>rfl)
 have F57:=bE (st:=yi) P5 P6 P7
 have b57:=F57.binds (ps:=["field","table","due"]) λ_ _ _ _ _ _=>fo (λ_ _ _=>rfl)
 have F58:=bE (st:=yk) P9 Qa Qb
 have b58:=F58.binds (ps:=["table","places"]) λ_ _ _ _ _ _=>ib (λ_ _=>rfl)
 have F59:=bE (st:=ym) Qe Qf Qg
 have b59:=F59.binds (ps:=["field","table","room","word"]) λ_ _ _ _ _ _=>lZ (λ_ _ _ _=>rfl)
 have F60:=bE (st:=yo) Qi Qj Qk
 have b60:=F60.binds (ps:=["_law_word","_law_sent_here","_law_room"]) λ_ _ _ _ _ _=>fo (λ_ _ _=>rfl)
 have F61:=bE (st:=yp) Qm Qn Qo
 have b61:=F61.binds (ps:=["_law_told_here","_law_script","_law_rows","_law_wide","_law_cell_here"]) λ_ _ _ _ _ _=>Je (λ_ _ _ _ _=>rfl)
 have F62:=bE (st:=yq) Qq Qr Qs
 have b62:=F62.binds (ps:=["_law_told_here","_law_script","_law_begin","_law_rows","_law_wide","_law_way"]) λ_ _ _ _ _ _=>cQ2 (λ_ _ _ _ _ _=>rfl)
 have F63:=bE (st:=yt) Qu Qv Qw
 have b63:=F63.binds (ps:=["field","table"]) λ_ _ _ _ _ _=>ib (λ_ _=>rfl)
 have F64:=bE (st:=yu) kL Qy Qz
 have b64:=F64.binds (ps:=["_law_field_here","_law_table_here","_law_powers_here"]) λ_ _ _ _ _ _=>fo (λ_ _ _=>rfl)
 have F65:=bE (st:=yv) QC QD QE
 have b65:=F65.binds (ps:=["_law_field_here","_law_table_here","_law_room","_law_sent_here"]) λ_ _ _ _ _ _=>lZ (λ_ _ _ _=>rfl)
 have F66:=bE (st:=pU) QF QG QH
 have b66:=F66.binds (ps:=["_law_script"]) λ_ _ _ _ _ _=>hV (λ_=>rfl)
 have T:Txt K mg ⟨f0,_,f1,_,f2,_,f3,_,f4,_,f5,_,f6,_,f7,_,f8,_,f9,_,Em,_,Eo,_,mZ,_,yI,_,Ep,_,Er,_,Es,_,yJ,_,yK,_,Et,_,Eu,_,Ew,_,yL,_,yM,_,qT,_,yN,_,Ey,_,sT,_,Ez,_,EA,_,EB,_,EC,_,ED,_,EE,_,EF,_,EG,_,EH,_,EI,_,EJ,_,EK,_,EL,_,EM,_,EN,_,EO,_,yO,_,yP,_,ER,_,ES,_,yQ,_,yR,_,ET,_,EU,_,EV,_,EW,_,EX,_,EY,_,EZ,_,E1,_,E2,_,E3,_,E4,_,E5,_,E6,_,E7,_,E8,_,E9,_,fa,_,BB,mf,BC,mh,aS,iL,mm,aW⟩:=⟨F0,mg_of X G a0,b0,F1,mg_of X G a1,b1,F2,mg_of X G a2,b2,F3,mg_of X G a3,b3,F4,b4,F5,b5,F6,mg_of X G a6,b6,F7,b7,F8,mg_of X G a8,b8,F9,mg_of X G a9,b9,χ,mg_of X G M0,b10,ω,mg_of X G M5,b11,Γ,mg_of X G M9,b12,Δ,b13,Θ,mg_of X G Ni,b14,Λ,mg_of X G Nn,b15,Ξ,mg_of X G Nt,b16,Φ,b17,Ψ,b18,Ω,mg_of X G NB,b19,F20,mg_of X G NG,b20,F21,mg_of X G NK,b21,F22,b22,F23,b23,F24,b24,F25,b25,F26,mg_of X G NW,b26,F27,b27,F28,mg_of X G N2,b28,F29,mg_of X G N6,b29,F30,mg_of X G Oa,b30,F31,mg_of X G Oe,b31,F32,mg_of X G Oi,b32,F33,mg_of X G Oo,b33,F34,mg_of X G Ov,b34,F35,mg_of X G Oz,b35,F36,mg_of X G OD,b36,F37,mg_of X G OH,b37,F38,mg_of X G OL,b38,F39,mg_of X G OP,b39,F40,mg_of X G OT,b40,F41,mg_of X G OX,b41,F42,mg_of X G O1,b42,F43,mg_of X G O5,b43,F44,b44,F45,b45,F46,mg_of X G Pd,b46,F47,mg_of X G Ph,b47,F48,b48,F49,b49,F50,mg_of X G Pq,b50,F51,mg_of X G Pw,b51,F52,mg_of X G PB,b52,F53,mg_of X G PH,b53,F54,mg_of X G PM,b54,F55,mg_of X G PU,b55,F56,mg_of X G PZ,b56,F57,mg_of X G P4,b57,F58,mg_of X G P8,b58,F59,mg_of X G Qc,b59,F60,mg_of X G Qh,b60,F61,mg_of X G Ql,b61,F62,mg_of X G Qp,b62,F63,mg_of X G Qt,b63,F64,mg_of X G Qx,b64,F65,mg_of X G QB,b65,F66,mg_of X G Fo,b66,rfl,MZ,rfl,Nh,⟨Fp,Fq,Fs,Ft⟩,⟨AW,QI,QJ,QK⟩,⟨⟨Fp,Fq,Fs,Ft⟩,QL,QM,QN,QO⟩,AX,sM,yz,ve,D6,pW,AY,AZ,⟨A6,QP,Fh⟩,⟨A7,QQ,Ff⟩,⟨A8,QR,Fb⟩,⟨A9,QS,BD⟩,⟨Ba,QT,Fd⟩,⟨yA,QU,k4⟩,⟨Bb,QV,Fl⟩,⟨Fu,Fv,Fw,Fx⟩,⟨Bc,QW,QX,QY⟩,⟨⟨Fu,Fv,Fw,Fx⟩,QZ,Q0,Q1,Q2⟩,D7,vf,yB,yC,nC,D8,Bd,Be,⟨Bf,Q3,Fj⟩,⟨Bg,Q4,Fg⟩,⟨Bh,Q5,Fc⟩,⟨Bi,Q6,BD⟩,⟨Bj,Q7,Fe⟩,⟨yD,Q8,k4⟩,⟨Bk,Q9,Fm⟩,⟨Ra,Rb,Rc,k5⟩,mg_none_of X G Rh,mg_none_of X G Ri,mg_none_of X G Rj,mg_none_of X G Rk,mg_none_of X G Rl,mg_none_of X G Rm,mg_none_of X G Rn,mg_none_of X G Ro,mg_none_of X G Rp,mg_none_of X G Rq,mg_none_of X G Rt,mg_none_of X G Ru,mg_of X G Bl,mg_of X G Bo,mg_of X G yF,mg_of X G Bp,cP5 (mg_of X G Bo) Rw,⟨Rv,Rx,Ry,Rz,RA,RB,RD,RE⟩⟩
 exact⟨fnOf "law" "law" (bw pU) (bq pU) (az pU) .none Z3 Z4 Z5 Z2 MX Z6,λs v=>.of_eq rfl,λbase _ _ hB=>(cL8 T hB).imp λvs H Q E h=>let z:=ck5 nl h;⟨λP hP=>z.1 P (sub P hP),z.2⟩⟩
theorem aJ5{K:Frag}{h:Heap}{c f k P:Addr}{od an:Option Addr}{sl:Array (Option Value)}{oc kV dc pm ct kt:Value}{ko:Option Addr}{ks:Array (Option Value)}{kf:Array Value}(X:K.In h)(a:nsIn K mainGlobals "PrimeField"=some (some (.ref c)))(b:findIn K (.ref c) "__init__"=some (some (.ref f)))
  (l:K.lookup f=some ⟨oc,od,.func (fnOf "__init__" "PrimeField.__init__" (bw pQ) (bq pQ) (az pQ) .none kV dc pm an (.ref k) ct),sl⟩) (lk:K.lookup k=some ⟨kt,ko,.fields kf,ks⟩) (lp:kf[11]?=some (.ref P)) (n:K.lookup P=none) (e:codeHdIn K k P=true):K.lookup P=none/\∃c,CodeHd h c P:=⟨n,k,PySem.W.codeHd_of_K X e⟩
theorem aN1{K:Frag}{h:Heap}{c f k P:Addr}{od an:Option Addr}{sl:Array (Option Value)}{oc kV dc pm ct kt:Value}{ko:Option Addr}{ks:Array (Option Value)}{kf:Array Value}(X:K.In h)(a:nsIn K mainGlobals "BitField"=some (some (.ref c)))(b:findIn K (.ref c) "__init__"=some (some (.ref f)))
  (l:K.lookup f=some ⟨oc,od,.func (fnOf "__init__" "BitField.__init__" (bw pS) (bq pS) (az pS) .none kV dc pm an (.ref k) ct),sl⟩) (lk:K.lookup k=some ⟨kt,ko,.fields kf,ks⟩) (lp:kf[11]?=some (.ref P)) (n:K.lookup P=none) (e:codeHdIn K k P=true):K.lookup P=none/\∃c,CodeHd h c P:=⟨n,k,PySem.W.codeHd_of_K X e⟩
theorem walk{l:PySem.W.OpenLaw}{q:Program}{loose:List Str}{XP:(Str->Option Value)->Heap->Prop}{YP:World->Heap->Prop}{d:DefRec}{K:Params->Frag}{ts:List Addr}(hn:l.most=some 63)(zG:d.params.defaults=[])
  (hY:∀(w:World) (h:Heap),YP w h->(K w.params).In h/\∀P∈ts,h.get? P=some (PySem.W.tabObj #[]))
  (hC:∀(w:World) (h:Heap),(K w.params).In h->∀P∈ts,(K w.params).lookup P=none/\∃c,CodeHd h c P)
  (F:∀(w:World) (mg:Str->Option Value) (fa:Addr) (h:Heap),(K w.params).In h->h.Ns mainGlobals mg->mg d.name=some (.ref fa) ->
   ∃fd:FuncData,(∀(s:Shared) (u:Value),BindsTo s fd ⟨[u],[]⟩ [("_law_script",u)])/\∀base:Heap,(K w.params).In base->base.Ns mainGlobals mg->Bm mg base->aQ l.prog w (K w.params) mg base bf 16 fa fd ["_law_script"] (CY ts (K w.params))) :
  PySem.W.WalkO q loose XP YP l.row.toRowW d [] (λf vs=>PySem.call f vs) :=
 L2.dL5 (n:=63) (k:=16) (x:="_law_script") (CX:=λ_=>bf) (sp:=λw=>CY ts (K w.params)) hn (by decide) zG ⟨rfl,by decide,by decide⟩ hY hC F (λ_ _ a ns hl hO hS=>⟨a,ns,rfl,hO,hS,hl,λ_=>rfl⟩) λ_ _ _ _ _ z=>z
end HK30
set_option genInjectivity false in
set_option genSizeOf false in
structure PySem.W.Fast:Prop where
 (tw16345187565299748864 tw15448562062285432832 tw10911465671604390944 tw17174062348317023264 tw11121239889123665952 tw2938354587542552640 tw16023752922164156544 tw2326206623955813536 tw17415788962479296704 tw5165751672999188800 tw18391710472752978368 tw10858417988327783936 tw5035762874191202816 tw15639842466985409056 tw2051026145921381984 tw2208038230180060768 tw6464233828770648800 tw10150370116809014016 tw17246921976711291680 tw1624686258773474112 tw17537338562089140032 tw17107558850812282720 tw11977405395312224128 tw10533717292199523200 tw17991661293555112832 tw2260000036722949121 tw15443357659300656193 tw5227397132486693985 tw6163518087285641377 tw3597610423140585633 tw11868487400569899265 tw10823465452919436577 tw9241891657122433313 tw5781095103325181345 tw15671870689160509921 tw8674362433468119521 tw177921795191465473 tw1326292988660218369 tw17958430875719413281 tw338257058058190369:True)
 (tw5608987595618304577 tw2000263379960298177 tw12201488867378147105 tw16919886546110135105 tw13376121401025297377 tw2754696159351089154 tw9540138308721138722 tw17434003696488046658 tw2226220033053738082 tw6271724907149819010 tw11114404787624971586 tw16011307131014943074 tw12093245327412103618 tw1271281753236679106 tw3545127669473208802 tw8822842079068974562 tw5458679898832844290 tw4486856839633391170 tw17309878697793825474 tw6076142284221642434 tw9346800664252712674 tw8946402103549908706 tw3770332838803489602 tw424553724840236866 tw7757860757034491746 tw7161686881414202306 tw1986221365801184194 tw3334094383519042563 tw6324411586642965571 tw5763110701378101411 tw10237159016543218851 tw11975957879450237091 tw18116182656355189955 tw14831408262837266627 tw13822145541349534947 tw17041982120446143811 tw12566491071467782499 tw1610113513352431971 tw2689389001570641315 tw11233990857268600259:True)
 (tw15789958278087156227 tw13125027807303161347 tw12481506557943912995 tw18034957540825689667 tw7749197678574255715 tw1886246320157018787 tw17164247376620251811 tw34004418649949923 tw26726956584014563 tw8901489205674872611 tw188056696238563107 tw7224380628217652003 tw11378570172304166723 tw11370790230202699715 tw14480246682668167300 tw7465154393697407172 tw2330025069379854564 tw1963766420254273764 tw12978200611346279652 tw17046600560623723780 tw641832976934233412 tw8202401679041378660 tw4661999717057675620 tw5290444565835928964 tw350298378246542756 tw16863560875151128004 tw16672586569124217316 tw17551919920806392324 tw8524901484126009860 tw7934898503255024164 tw15113251876097796676 tw16844542579606812292 tw2276951028228430532 tw6396097173906932420 tw13200551301046764260 tw13807208070243836676 tw7170197043931151140 tw16497157531526379300 tw7412588441208908644 tw15942612965158916004:True)
 (tw14564236641022828581 tw2290034553101597829 tw10142160139123357861 tw18255737094120510789 tw15540772547568501125 tw1859868330247583109 tw17646746623845311973 tw2690703872446881285 tw1695823509535353349 tw15263916711437143557 tw1398782490395194917 tw5655607584143495781 tw854375017854271077 tw12404723345169490565 tw11683096141061885637 tw2030168444011547365 tw296977481649020645 tw4478127994804213509 tw12447643457475728165 tw5696037210588646213 tw17649457817108383621 tw17185115494332206981 tw9928257014260291525 tw4329987269571064773 tw5301411505244262373 tw16875300652836960229 tw2276954645381520390 tw637413238841259046 tw825883028143194438 tw2345422087432096070 tw66009543176829350 tw9471307879700916646 tw776950518065051078 tw1906354327892044358 tw5450844367062207078 tw1265418559122695782 tw7796926253993691814 tw3990917437957971622 tw3402168575862935238 tw1347430206166920934:True)
 (tw4060300545421093702 tw1906726854054172486 tw15505450923632127814 tw9972053594490766214 tw1805266649675532230 tw3766557707288317894 tw16216304065209151462 tw943912429093791751 tw12765078050600535111 tw14124235429302577255 tw13726683382126325863 tw1668028330217213095 tw1720751538541540519 tw3534074797821135047 tw1810971532037245127 tw12802380588443263175 tw4160184058882405671 tw15752142431949123943 tw3619068846058516871 tw8572778612834780647 tw3059788683076560391 tw13596579040872927815 tw9070236229346714183 tw16937213667714339527 tw916343448411164391 tw10843610474545237735 tw3378692767688335207 tw6568597735832571751 tw15230682339152871303 tw4502306453042797479 tw7490640416873814951 tw10832655355788462055 tw5119569460769048551 tw401906460227977224 tw12735563166730796104 tw15612068188185186376 tw8821494028735379528 tw2555936074726859976 tw16877867462806284520 tw5229439955171049736:True)
 (tw12622304751678899464 tw11197634365248241992 tw3286091670445610344 tw5271561158191525288 tw3372571134894747080 tw6558328042239339016 tw2369304197439332904 tw5696272823081209416 tw2740412005913999944 tw9085897313130639976 tw15390491872250414728 tw11135964234450523848 tw3050493136227174120 tw62929766341184232 tw12563366695971370728 tw18238027482593553160 tw7736973499721791240 tw13755979871409253352 tw1865500144208756809 tw6649215094832387145 tw2642947492518152297 tw9224517917940076713 tw17718004014430941417 tw7312668038236503273 tw5769036078068267273 tw10218582021697379625 tw3755173555839147337 tw15857975623661797737 tw14745397811886774697 tw4931885121516299721 tw16688820592270992905 tw6216247134165322281 tw11622318657031314025 tw107779650335248041 tw3536929642084807337 tw5222484691261737641 tw3812726853832613577 tw10091521329162732265 tw11957262239419525929 tw1643241169556568873:True)
 (tw5911960740101435305 tw1234291215482372073 tw65886052276364265 tw9326146686159233034 tw7375275052706720778 tw2504206522077801482 tw6369779326623897642 tw6869748240943497290 tw17240263288932232266 tw16660236540078125130 tw1468540493176960074 tw5493319744785667370 tw16458358838885090634 tw14421620013906497866 tw5544834854327096650 tw17041985307322192234 tw16350926708797296042 tw11653937814503245258 tw14128276709545659946 tw9509224413980067402 tw16554162308689132138 tw5327166899647007370 tw16470468816806875818 tw1010428377304909482 tw4366679121978253994 tw14369109669200527018 tw1134129374875209418 tw9235094353643923146 tw14634843082412030858 tw3590507198605126602 tw9696728218656706538 tw1509537975815595019 tw7079526287380886571 tw207577838999357483 tw11004758407973605515 tw14597327979668155531 tw6505297311199580491 tw9842602474289612203 tw10849863629131045387 tw3742209513771719211:True)
 (tw7347858637605828203 tw10747392481866054347 tw10790499966622469899 tw17342553710703267595 tw17475794077057209163 tw8974011257740110731 tw12484075687935610763 tw17261680780534644715 tw8393247646872955948 tw5689364999894508620 tw11776204170979303500 tw7895515762156386636 tw12835856286298676588 tw2093097914579165548 tw4022600986555688428 tw11251153212576982604 tw12078675849514619532 tw3221996422434865804 tw7841104402859048652 tw13751070945867049740 tw15629997084484768556 tw2685262832597463884 tw11567134347162939276 tw12663127725698830252 tw14397179526672974861 tw1176935609181708397 tw13149265375494949997 tw15863789551471243405 tw7615945779444575373 tw7220885160183889037 tw6519310494259652909 tw13067977008745997837 tw15117934321093706349 tw10883026183082216141 tw4088523789097823981 tw3087453244849042189 tw17993649066903301005 tw824798860214812589 tw3710447612401259469 tw6768130607285188589:True)
 (tw1497812769056734189 tw7827290581931053037 tw3825611845344216110 tw7701312079295964238 tw2902265594041394318 tw15950808791758839982 tw3589801468958569678 tw9589697869464565966 tw12925789123360749838 tw152890890334509358 tw10050449365328337198 tw7161705794407134510 tw4478980342071916846 tw14049468806973512014 tw10749208176305601870 tw10270529066271762862 tw16495828377982428654 tw17042735802399518254 tw12525206570326228526 tw3196815353218171470 tw11629003596979310158 tw13546272387575133838 tw17262857145446913678 tw1797120237747507918 tw3062967853500628718 tw2098932412211809038 tw5561076363920120622 tw3553555920702128942 tw12022507699259670382 tw7144464019501058030 tw9155534046669847534 tw16405503577523702799 tw9589184845749506063 tw8021374838500775951 tw14309217481464226895 tw8664250182877892719 tw2944508208588368015 tw7942473266279333007 tw11086837587163036815 tw6459579093623761135:True)
 (tw14247646248519525647 tw11711784167985266991 tw9797761472960292143 tw10381286943775181135 tw17093761647335675279 tw9634841666334343567 tw1231283801639520751 tw109479833493098063 tw17577292622913570447 tw8385065378588710575 tw617087557242533551 tw6378635186244628175 tw4504881685127871183 tw11211916441705402063 tw13754038390993998543 tw3980748018528401135 tw106837804724665103 tw15763848253047533327 tw4812447873426682639 tw12484792675497656111 tw1354044725377502095 tw15344641222769359791 tw8572519071128638383 tw3985359750282481647 tw38485743769986031 tw14100899122986547183 tw7786646100394702831 tw16206151951802954768 tw1887144808783209584 tw6683590632504019056 tw866095252022354064 tw4417583914499174544 tw8371556025216078160 tw13312475204889721168 tw13041419718897754640 tw5952637643528195696 tw10458923021294819952 tw11191935774524500752 tw7035332661131120 tw1155708561534578576:True)
 (tw13784815149251009456 tw8703556883396479920 tw5168437384795686961 tw17927536887264156785 tw7287614381419467921 tw238977911289537681 tw13349253003194474737 tw12905568734808194321 tw3218525349659501841 tw16230885780254812593 tw15131810047598711249 tw16671311187151609297 tw107478160669499985 tw18440585482815473265 tw12220308903903582865 tw1237729643530023601 tw3067151528951862033 tw9806188193817287441 tw11382721527755409233 tw10767154639168459601 tw9272866453721848753 tw12321438133518237649 tw346474810511506385 tw7036717210330821714 tw5719758306200172690 tw2442076404408226994 tw8581796169467246930 tw8415920713532857714 tw13975512124865545618 tw369688762584834450 tw15047567789788052914 tw18330383540162598386 tw8107456643397803506 tw4933502325583601234 tw2921866320683691634 tw11528437938672262802 tw13096876455081818866 tw14683713595051931378 tw14155404474967762706 tw5789186871974540114:True)
 (tw3586971119681122162 tw9320041502428274578 tw5420052027101396914 tw6705189889239598355 tw2939993900452998419 tw3975331061663155571 tw549273955798309267 tw12636139690778523027 tw15074939148209586707 tw7317159391822281395 tw16902165150020820691 tw11870676565994108691 tw5801287469688986387 tw8338035954559919923 tw7990139654562902867 tw9873970473980853139 tw5180686984855705523 tw2623861345601021907 tw2653058187374037012 tw3548297949784026132 tw586238008209004660 tw15512592023653395604 tw9142260370009096372 tw2381947864832581908 tw10796103741711105396 tw3642939976912280980 tw17768964974843399604 tw14817443126731245012 tw15139509469495738932 tw1392548574642436724 tw5271192923637054068 tw14083279937541523092 tw5836533736012961428 tw10085306269609739956 tw2903680763218044628 tw17415960133029796596 tw16247660822808180500 tw5283348493142653780 tw6141334021001880468 tw14199971349146195860:True)
 (tw1066082451151457204 tw15688868510910225332 tw2122587504534716340 tw4385401213066466260 tw5628107174426078261 tw17581449306779415637 tw9206346602585270421 tw1712268212914035061 tw4526898306042033621 tw3104143842136105525 tw10888599924413945429 tw10515747858022229589 tw7462891947856334453 tw5083168188733143701 tw2157923289019667125 tw14408808051527836341 tw1631569767545917173 tw6163222614855455509 tw8002777071738655573 tw322838564920950709 tw4423578435600513013 tw9184420897722115094 tw12779632774112531478 tw4915880942411463734 tw833252282544944214 tw16660136850896846998 tw2505709373025716374 tw792836821273475318 tw2343696386796841238 tw14569430666646963510 tw6275442564454670710 tw14021267640925420918 tw13035287943396090262 tw13921388896180724150 tw12840789953932101078 tw2900021161104185846 tw10520270688516453878 tw16256890451228365334 tw7535327468229915190 tw8784206509662265974:True)
 (tw3351653947298528982 tw6483810992190209846 tw7831015808977196950 tw2122356132729160694 tw9041558845270598646 tw7498524418137270262 tw10886227852884453399 tw2891362755038123127 tw6977896616728575191 tw11245399934663173367 tw2593361381707773207 tw4368066353760045367 tw14003713571833036119 tw3118937056747450711 tw9739791898989455735 tw2467749308452649335 tw17518593439705090455 tw2243900953937864215 tw12440409522631162423 tw4547914864151418423 tw15485488795724890711 tw12017711799816628855 tw8840343712085365399 tw2745965883774357207 tw1363335416978629367 tw71528528558930711 tw11796295325268842295 tw13396814416127979383 tw15597244269573735319 tw1079338354390075287 tw14029967780004570039 tw7627116921616698424 tw12130298779709983800 tw7959160592142164024 tw17986428707709314136 tw7491010789237324024 tw16588163508501736728 tw10221765026796599608 tw8097853181388622168 tw15440947068850221400:True)
 (tw10895943188392164696 tw702349939626975704 tw4721351412143120856 tw4078541633807312344 tw4973300875542878712 tw5560994181354545656 tw16844931463964610072 tw1893897380232047160 tw12689845976685784632 tw10202993001516281528 tw14457894223795749592 tw16118276622758151896 tw2847586225413280472 tw11514680003520891672 tw4060334711878673240 tw14735196309518220120 tw16241854815559396248 tw5636605374352082904 tw5138662606944364569 tw12421837049327243289 tw13380720950837424313 tw11729811739285869753 tw8086386994040283417 tw5251663687075785017 tw12688909661033028985 tw13662496658791618969 tw8826375218646404569 tw15440510115698744825 tw4068301118380870201 tw8228229376025852473 tw7607624432397184601 tw8836984608645160633 tw16180009008723393209 tw15337310874479441625 tw3908546551248048857 tw4221622841880753913 tw9152723231863229177 tw17138557439859403545 tw15916466218684985177 tw2635543626010487673:True)
 (tw17842715951552174969 tw10890351395194496921 tw6075937620083010489 tw14884500120389905337 tw10073938942268080186 tw13084974571788502106 tw6448102045453848666 tw2285892695986491514 tw10724668555452510330 tw281320406503382202 tw15558903960236324090 tw2606002121878511898 tw10969310618074346778 tw6916826351247405370 tw14458221132591993242 tw4881517475334100378 tw13706931764888872346 tw1629294260343371162 tw4137972819720175066 tw1078640249770125818 tw7676281745297336858 tw2182485641411018330 tw770138179542740570 tw8754248209328571002 tw118836383078346362 tw3318602962129860314 tw12756924421016782586 tw83125976938443514 tw7663416675671134970 tw6226272690986458906 tw12831416977254977466 tw9529132443283897306 tw5968294768278361050 tw10449492735181908986 tw8537793782064100379 tw3841596844006827483 tw10875761633678646779 tw7771421326517219899 tw3313518601469284923 tw12194816991856351803:True)
 (tw5525478002546026139 tw2582021732870228667 tw13899629341330095867 tw15480546079943345915 tw17834662752305688347 tw16023525278496042779 tw406395399510696763 tw17960125562860440411 tw5942609053668220795 tw7446249092990650235 tw18178916097124539291 tw7767962664481179579 tw17336792585276454843 tw4367861826685771739 tw14900987421709039611 tw7837243119312935004 tw2815701499627054172 tw15894965022865362044 tw17799337907522346172 tw17002571159783056668 tw8698214133152140604 tw1131637091317146940 tw16905194209832459580 tw5321440222178979228 tw9561627981191639516 tw12154736265572000284 tw12517494106296323644 tw8090565382420987516 tw13478628725295998620 tw16559933191715892956 tw5843006080828002044 tw10236143150437008124 tw1872077749322181436 tw4484592494387710812 tw16898706860814133116 tw5018430574330390428 tw1777923561490805660 tw12394323166111751164 tw14736237130020369437 tw5142352153495736445:True)
 (tw11292177661185638525 tw15911655907859639453 tw7148292876221569181 tw11551755227510698205 tw5887828569689779453 tw15066101020747784477 tw11337441496454686013 tw156621878501224829 tw8695230003756544381 tw15309256947380971933 tw12840067152423812509 tw1436707718068752829 tw1791622332385928701 tw14913449118437806621 tw1470899811015346749 tw17194134482833811037 tw3147818021600533181 tw159162723129865949 tw11627531852352488253 tw3116007689393711965 tw11268180003783694173 tw7530158920335536029 tw4923798234475075549 tw3097753821416728573 tw1136869280092059742 tw3492194560533084286 tw14680968864918294654 tw6602412770355995806 tw11923911142725540094 tw12849453075598574910 tw12200167604369321278 tw7228016231834774878 tw15472334216533170590 tw5847729690758462910 tw11258132984037509598 tw16637031312385249758 tw5411530535482687998 tw15036627200102583806 tw10755558651781021214 tw8402615166050808382:True)
 (tw12111825759874673310 tw13390592210900711102 tw17467202742855511806 tw11444162963878326142 tw500597291311150974 tw2489519257847733182 tw17156502865494423518 tw13949625319243333598 tw10961733314547563551 tw17825075924110566431 tw13005674743135874143 tw4334090376480439423 tw14251762488096115839 tw7447062749118437567 tw940402653184970943 tw592041889663299807 tw13449595679697013983 tw10327062441382388063 tw5909549741875646815 tw319993879237102975 tw1399116904212815455 tw10228850201443852895 tw18300564291228918367 tw14583812819287059071 tw16432808912575764159 tw4238745143916428063 tw14185176525247859519 tw16931073831511928703 tw6111554061475102591 tw2492015873808399295 tw995940661986518391:True)
open PySem PySem.W PyProof.Rows
end
set_option maxRecDepth 100000 in
set_option maxHeartbeats 0 in
theorem PySem.Challenge.cw_mendfield_k30_near_row_holds : PySem.Challenge.rw_mendfield_k30_near_row.Holds := by
 w_on;o_law;k_head;(case hw=>w_witness2)
 k_fill
 refine HK30.walk (l:=PySem.Challenge.rw_mendfield_k30_near_row) rfl rfl (λw h Y=>⟨PySem.W.km_in_of Y,PySem.W.km_tabs_of Y⟩) ?C ?F
 case C =>
  intro w h hX
  repeat' (first | exact List.forall_mem_nil _ | refine List.forall_mem_cons.mpr ⟨?_,?_⟩)
  all_goals first | (refine' HK30.aJ5 hX ?a ?b ?l ?lk ?lp ?n ?e;(case a=>k_is);(case b=>k_is);(case l=>k_is);(case lk=>k_is);(case lp=>first | rfl | with_unfolding_all rfl);(case n=>kernel_rfl);(case e=>kernel_rfl)) | (refine' HK30.aN1 hX ?a ?b ?l ?lk ?lp ?n ?e;(case a=>k_is);(case b=>k_is);(case l=>k_is);(case lk=>k_is);(case lp=>first | rfl | with_unfolding_all rfl);(case n=>kernel_rfl);(case e=>kernel_rfl))
 case F =>
  intro w mg fa h KX G zH
  refine' HK30.all_mk KX G zH ?Bl ?Bo ?yF ?Bp ?a0 ?l0 ?c0 ?k0 ?a1 ?l1 ?c1 ?k1 ?a2 ?l2 ?c2 ?k2 ?a3 ?l3 ?c3 ?k3 ?a4 ?l4 ?c4 ?k4 ?a5 ?l5 ?c5 ?k5 ?a6 ?l6 ?c6 ?k6 ?a7 ?l7 ?c7 ?k7 ?Z7 ?Z8 ?MZ ?a8 ?l8 ?c8 ?k8 ?a9 ?l9 ?c9 ?k9 ?M0 ?M1 ?M3 ?M4 ?M5 ?M6 ?M7 ?M8 ?M9 ?Na ?Nb ?Nc ?Z9 ?Nd ?Nf ?Ng ?γ ?ε ?Nh ?Ni ?Nj ?Nl ?Nm ?Nn ?Np ?Nq ?Nr ?Nt ?Nu ?Nv ?Nw ?ζ ?Nx ?Ny ?Fb ?η ?Nz ?NA ?Fc ?NB ?NC ?ND ?NF ?NG ?NH ?NI ?NJ ?NK ?NL ?NM ?NN ?θ ?NO ?NP ?Fd ?ι ?NQ ?NR ?Fe ?μ ?NS ?NT ?Ff ?ν ?NU ?NV ?Fg ?NW ?NX ?NY ?NZ ?ξ ?N0 ?N1 ?BD ?N2 ?N3 ?N4 ?N5 ?N6 ?N7 ?N8 ?N9 ?Oa ?Ob ?Oc ?Od ?Oe ?Of ?Og ?Oh ?Oi ?Oj ?Ol ?Om ?Oo ?Oq ?Ot ?Ou ?Ov ?Ow ?Ox ?Oy ?Oz ?OA ?OB ?OC ?OD ?OE ?OF ?OG ?OH ?OI ?OJ ?OK ?OL ?OM ?ON ?OO ?OP ?OQ ?OR ?OS ?OT ?OU ?OV ?OW ?OX ?OY ?OZ ?O0 ?O1 ?O2 ?O3 ?O4 ?O5 ?O6 ?O7 ?O8 ?ο ?O9 ?Pa ?Fh ?π ?Pb ?Pc ?Fj ?Pd ?Pe ?Pf ?Pg ?Ph ?Pj ?Pk ?Pl ?ρ ?Pm ?Pn ?Fl ?τ ?Po ?Pp ?Fm ?Pq ?Pr ?Pt ?Pu ?Pw ?Px ?Py ?Pz ?PB ?PC ?PD ?PF ?PH ?PJ ?PK ?PL ?PM ?PN ?PQ ?PR ?PU ?PV ?PX ?PY ?PZ ?P0 ?P1 ?P2 ?P4 ?P5 ?P6 ?P7 ?P8 ?P9 ?Qa ?Qb ?Qc ?Qe ?Qf ?Qg ?Qh ?Qi ?Qj ?Qk ?Ql ?Qm ?Qn ?Qo ?Qp ?Qq ?Qr ?Qs ?Qt ?Qu ?Qv ?Qw ?Qx ?kL ?Qy ?Qz ?QB ?QC ?QD ?QE ?Fo ?QF ?QG ?QH ?Fp ?Fq ?Fs ?Ft ?AW ?QI ?QJ ?QK ?QL ?QM ?QN ?QO ?AX ?sM ?yz ?ve ?D6 ?pW ?AY ?AZ ?A6 ?QP ?A7 ?QQ ?A8 ?QR ?A9 ?QS ?Ba ?QT ?yA ?QU ?Bb ?QV ?Fu ?Fv ?Fw ?Fx ?Bc ?QW ?QX ?QY ?QZ ?Q0 ?Q1 ?Q2 ?D7 ?vf ?yB ?yC ?nC ?D8 ?Bd ?Be ?Bf ?Q3 ?Bg ?Q4 ?Bh ?Q5 ?Bi ?Q6 ?Bj ?Q7 ?yD ?Q8 ?Bk ?Q9 ?Ra ?Rb ?Rc ?Rh ?Ri ?Rj ?Rk ?Rl ?Rm ?Rn ?Ro ?Rp ?Rq ?Rt ?Ru ?Rv ?υ ?Rw ?Rx ?Ry ?Rz ?RA ?RB ?RD ?RE ?nl ?sub
  (case Bl=>k_is)
  (case Bo=>k_is)
  (case yF=>k_is)
  (case Bp=>k_is)
  (case a0=>k_is)
  (case l0=>k_is)
  (case c0=>k_is)
  (case k0=>k_is)
  (case a1=>k_is)
  (case l1=>k_is)
  (case c1=>k_is)
  (case k1=>k_is)
  (case a2=>k_is)
  (case l2=>k_is)
  (case c2=>k_is)
  (case k2=>k_is)
  (case a3=>k_is)
  (case l3=>k_is)
  (case c3=>k_is)
  (case k3=>k_is)
  (case a4=>k_is)
  (case l4=>k_is)
  (case c4=>k_is)
  (case k4=>k_is)
  (case a5=>k_is)
  (case l5=>k_is)
  (case c5=>k_is)
  (case k5=>k_is)
  (case a6=>k_is)
  (case l6=>k_is)
  (case c6=>k_is)
  (case k6=>k_is)
  (case a7=>k_is)
  (case l7=>k_is)
  (case c7=>k_is)
  (case k7=>k_is)
  (case Z7=>k_is)
  (case Z8=>first | rfl | with_unfolding_all rfl)
  (case MZ=>kernel_rfl)
  (case a8=>k_is)
  (case l8=>k_is)
  (case c8=>k_is)
  (case k8=>k_is)
  (case a9=>k_is)
  (case l9=>k_is)
  (case c9=>k_is)
  (case k9=>k_is)
  (case M0=>k_is)
  (case M1=>k_is)
  (case M3=>k_is)
  (case M4=>k_is)
  (case M5=>k_is)
  (case M6=>k_is)
  (case M7=>k_is)
  (case M8=>k_is)
  (case M9=>k_is)
  (case Na=>k_is)
  (case Nb=>k_is)
  (case Nc=>k_is)
  (case Z9=>k_is)
  (case Nd=>k_is)
  (case Nf=>k_is)
  (case Ng=>k_is)
  (case γ=>k_is)
  (case ε=>first | rfl | with_unfolding_all rfl)
  (case Nh=>kernel_rfl)
  (case Ni=>k_is)
  (case Nj=>k_is)
  (case Nl=>k_is)
  (case Nm=>k_is)
  (case Nn=>k_is)
  (case Np=>k_is)
  (case Nq=>k_is)
  (case Nr=>k_is)
  (case Nt=>k_is)
  (case Nu=>k_is)
  (case Nv=>k_is)
  (case Nw=>k_is)
  (case ζ=>k_is)
  (case Nx=>k_is)
  (case Ny=>k_is)
  (case Fb=>k_is)
  (case η=>k_is)
  (case Nz=>k_is)
  (case NA=>k_is)
  (case Fc=>k_is)
  (case NB=>k_is)
  (case NC=>k_is)
  (case ND=>k_is)
  (case NF=>k_is)
  (case NG=>k_is)
  (case NH=>k_is)
  (case NI=>k_is)
  (case NJ=>k_is)
  (case NK=>k_is)
  (case NL=>k_is)
  (case NM=>k_is)
  (case NN=>k_is)
  (case θ=>k_is)
  (case NO=>k_is)
  (case NP=>k_is)
  (case Fd=>k_is)
  (case ι=>k_is)
  (case NQ=>k_is)
  (case NR=>k_is)
  (case Fe=>k_is)
  (case μ=>k_is)
  (case NS=>k_is)
  (case NT=>k_is)
  (case Ff=>k_is)
  (case ν=>k_is)
  (case NU=>k_is)
  (case NV=>k_is)
  (case Fg=>k_is)
  (case NW=>k_is)
  (case NX=>k_is)
  (case NY=>k_is)
  (case NZ=>k_is)
  (case ξ=>k_is)
  (case N0=>k_is)
  (case N1=>k_is)
  (case BD=>k_is)
  (case N2=>k_is)
  (case N3=>k_is)
  (case N4=>k_is)
  (case N5=>k_is)
  (case N6=>k_is)
  (case N7=>k_is)
  (case N8=>k_is)
  (case N9=>k_is)
  (case Oa=>k_is)
  (case Ob=>k_is)
  (case Oc=>k_is)
  (case Od=>k_is)
  (case Oe=>k_is)
  (case Of=>k_is)
  (case Og=>k_is)
  (case Oh=>k_is)
  (case Oi=>k_is)
  (case Oj=>k_is)
  (case Ol=>k_is)
  (case Om=>k_is)
  (case Oo=>k_is)
  (case Oq=>k_is)
  (case Ot=>k_is)
  (case Ou=>k_is)
  (case Ov=>k_is)
  (case Ow=>k_is)
  (case Ox=>k_is)
  (case Oy=>k_is)
  (case Oz=>k_is)
  (case OA=>k_is)
  (case OB=>k_is)
  (case OC=>k_is)
  (case OD=>k_is)
  (case OE=>k_is)
  (case OF=>k_is)
  (case OG=>k_is)
  (case OH=>k_is)
  (case OI=>k_is)
  (case OJ=>k_is)
  (case OK=>k_is)
  (case OL=>k_is)
  (case OM=>k_is)
  (case ON=>k_is)
  (case OO=>k_is)
  (case OP=>k_is)
  (case OQ=>k_is)
  (case OR=>k_is)
  (case OS=>k_is)
  (case OT=>k_is)
  (case OU=>k_is)
  (case OV=>k_is)
  (case OW=>k_is)
  (case OX=>k_is)
  (case OY=>k_is)
  (case OZ=>k_is)
  (case O0=>k_is)
  (case O1=>k_is)
  (case O2=>k_is)
  (case O3=>k_is)
  (case O4=>k_is)
  (case O5=>k_is)
  (case O6=>k_is)
  (case O7=>k_is)
  (case O8=>k_is)
  (case ο=>k_is)
  (case O9=>k_is)
  (case Pa=>k_is)
  (case Fh=>k_is)
  (case π=>k_is)
  (case Pb=>k_is)
  (case Pc=>k_is)
  (case Fj=>k_is)
  (case Pd=>k_is)
  (case Pe=>k_is)
  (case Pf=>k_is)
  (case Pg=>k_is)
  (case Ph=>k_is)
  (case Pj=>k_is)
  (case Pk=>k_is)
  (case Pl=>k_is)
  (case ρ=>k_is)
  (case Pm=>k_is)
  (case Pn=>k_is)
  (case Fl=>k_is)
  (case τ=>k_is)
  (case Po=>k_is)
  (case Pp=>k_is)
  (case Fm=>k_is)
  (case Pq=>k_is)
  (case Pr=>k_is)
  (case Pt=>k_is)
  (case Pu=>k_is)
  (case Pw=>k_is)
  (case Px=>k_is)
  (case Py=>k_is)
  (case Pz=>k_is)
  (case PB=>k_is)
  (case PC=>k_is)
  (case PD=>k_is)
  (case PF=>k_is)
  (case PH=>k_is)
  (case PJ=>k_is)
  (case PK=>k_is)
  (case PL=>k_is)
  (case PM=>k_is)
  (case PN=>k_is)
  (case PQ=>k_is)
  (case PR=>k_is)
  (case PU=>k_is)
  (case PV=>k_is)
  (case PX=>k_is)
  (case PY=>k_is)
  (case PZ=>k_is)
  (case P0=>k_is)
  (case P1=>k_is)
  (case P2=>k_is)
  (case P4=>k_is)
  (case P5=>k_is)
  (case P6=>k_is)
  (case P7=>k_is)
  (case P8=>k_is)
  (case P9=>k_is)
  (case Qa=>k_is)
  (case Qb=>k_is)
  (case Qc=>k_is)
  (case Qe=>k_is)
  (case Qf=>k_is)
  (case Qg=>k_is)
  (case Qh=>k_is)
  (case Qi=>k_is)
  (case Qj=>k_is)
  (case Qk=>k_is)
  (case Ql=>k_is)
  (case Qm=>k_is)
  (case Qn=>k_is)
  (case Qo=>k_is)
  (case Qp=>k_is)
  (case Qq=>k_is)
  (case Qr=>k_is)
  (case Qs=>k_is)
  (case Qt=>k_is)
  (case Qu=>k_is)
  (case Qv=>k_is)
  (case Qw=>k_is)
  (case Qx=>k_is)
  (case kL=>k_is)
  (case Qy=>k_is)
  (case Qz=>k_is)
  (case QB=>k_is)
  (case QC=>k_is)
  (case QD=>k_is)
  (case QE=>k_is)
  (case Fo=>k_is)
  (case QF=>k_is)
  (case QG=>k_is)
  (case QH=>k_is)
  (case Fp=>k_is)
  (case Fq=>k_is)
  (case Fs=>k_is)
  (case Ft=>k_is)
  (case AW=>k_is)
  (case QI=>k_is)
  (case QJ=>k_is)
  (case QK=>k_is)
  (case QL=>k_is)
  (case QM=>k_is)
  (case QN=>k_is)
  (case QO=>k_is)
  (case AX=>k_is)
  (case sM=>k_is)
  (case yz=>k_is)
  (case ve=>k_is)
  (case D6=>k_is)
  (case pW=>k_is)
  (case AY=>k_is)
  (case AZ=>k_is)
  (case A6=>k_is)
  (case QP=>k_is)
  (case A7=>k_is)
  (case QQ=>k_is)
  (case A8=>k_is)
  (case QR=>k_is)
  (case A9=>k_is)
  (case QS=>k_is)
  (case Ba=>k_is)
  (case QT=>k_is)
  (case yA=>k_is)
  (case QU=>k_is)
  (case Bb=>k_is)
  (case QV=>k_is)
  (case Fu=>k_is)
  (case Fv=>k_is)
  (case Fw=>k_is)
  (case Fx=>k_is)
  (case Bc=>k_is)
  (case QW=>k_is)
  (case QX=>k_is)
  (case QY=>k_is)
  (case QZ=>k_is)
  (case Q0=>k_is)
  (case Q1=>k_is)
  (case Q2=>k_is)
  (case D7=>k_is)
  (case vf=>k_is)
  (case yB=>k_is)
  (case yC=>k_is)
  (case nC=>k_is)
  (case D8=>k_is)
  (case Bd=>k_is)
  (case Be=>k_is)
  (case Bf=>k_is)
  (case Q3=>k_is)
  (case Bg=>k_is)
  (case Q4=>k_is)
  (case Bh=>k_is)
  (case Q5=>k_is)
  (case Bi=>k_is)
  (case Q6=>k_is)
  (case Bj=>k_is)
  (case Q7=>k_is)
  (case yD=>k_is)
  (case Q8=>k_is)
  (case Bk=>k_is)
  (case Q9=>k_is)
  (case Ra=>k_is)
  (case Rb=>k_is)
  (case Rc=>k_is)
  (case Rh=>k_is)
  (case Ri=>k_is)
  (case Rj=>k_is)
  (case Rk=>k_is)
  (case Rl=>k_is)
  (case Rm=>k_is)
  (case Rn=>k_is)
  (case Ro=>k_is)
  (case Rp=>k_is)
  (case Rq=>k_is)
  (case Rt=>k_is)
  (case Ru=>k_is)
  (case Rv=>first | k_is | rfl | decide)
  (case υ=>k_is)
  (case Rw=>k_exc)
  (case Rx=>k_is)
  (case Ry=>k_is)
  (case Rz=>k_is)
  (case RA=>k_is)
  (case RB=>k_is)
  (case RD=>k_is)
  (case RE=>k_is)
  (case nl=>first | k_is | rfl | decide)
  (case sub=>decide)
